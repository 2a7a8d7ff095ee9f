import PyProof.Rows.All
import Wide.All
import OpenK.AllK
import Wide.FinOn
import Lean
import PyProof.EqAt
import PyProof.EqKinds
import PyProof.TupleCall
import PyProof.NeKinds
import PyProof.Rows.SetFrom
import KE.KRevIter
import PyProof.ZipIter
import PyProof.TupleOfGen
import PyProof.Rows.ZipGen
import PyProof.EnumMake
import PyProof.EnumFor
import PyProof.ListRange
import PyProof.LayNew
import KE.KDictOf
import KE.KIntText
import KE.IntTextLaws
import PyProof.StrCalls2
import PyProof.Rows.StrNews2
import PyProof.StrLawsTight
import PyProof.ExcArgsOwn
import PyProof.ExcAttrAll.ValueError
import PyProof.IsInstanceT
import PyProof.RulesAs
import PyProof.Rows.Tup
import OpenK.KOwn
import PyProof.ExcInit
import OpenK.KCls
import OpenK.KMake
import PyProof.InstStoreFacts
import PyProof.FactsAll.object
import PyProof.IsiStr
import KE.KIsAll
import PyProof.ListMulRight
import PyProof.AttrMissHeap
import PyProof.RaisesMany
import PyProof.RulesTry
import PyProof.NsDelKeeps
import PyProof.Rows.FStr
import OpenK.KWalk
import PyProof.AutoListH
import PyProof.CallFns
import PyProof.Rows.SortStr
import KE.KDictSum
import PyProof.Draws
import PyProof.Rows.CallKwBuiltin
import PyProof.SumWalkG
import KE.KDictLaws
import PyProof.DictTruth
import PyProof.Rows.SortShellK
import PyProof.Rows.SortWalk
import KE.KDictList
import PyProof.SliceList
import PySem.Challenge.RW_graphpack_k32_refused_in_pieces
set_option maxHeartbeats 0
set_option compiler.extract_closed false
theorem cQ{P:Prop}(h:∀G:Prop,(P->G)->G):P:=h P id
theorem Ka0(h:True:=by rfl):True:=h
def Aa:=Ka0._auto_1
theorem Ka1(h:True:=by decide):True:=h
def Ab:=Ka1._auto_1
theorem Ka2(h:True:=by first|exact Or.inl rfl|exact Or.inr (Or.inl rfl)|exact Or.inr (Or.inr rfl)):True:=h
def Ac:=Ka2._auto_1
theorem Ka3(h:True:=by intro _;rfl):True:=h
def Ad:=Ka3._auto_1
theorem Ka4(h:True:=by first|exact .inl rfl|exact .inr rfl|assumption):True:=h
def Ae:=Ka4._auto_1
theorem Ka5(h:True:=by first|exact Or.inl rfl|exact Or.inr rfl):True:=h
def Af:=Ka5._auto_1
theorem Ka6(h:True:=by first|exact or0 _|with_unfolding_all rfl):True:=h
def Ag:=Ka6._auto_1
theorem Ka7(h:True:=by exact λ_ _=>rfl):True:=h
def Ah:=Ka7._auto_1
theorem Ka8(h:True:=by first|exact nobehind _ (by decide) (by decide)|rfl):True:=h
def Ai:=Ka8._auto_1
theorem Ka9(h:True:=by with_unfolding_all rfl):True:=h
def Aj:=Ka9._auto_1
theorem Ka10(h:True:=by first|rfl|with_unfolding_all rfl):True:=h
def Ak:=Ka10._auto_1
theorem Ka11(h:True:=by exact Or.inl rfl):True:=h
def Al:=Ka11._auto_1
theorem Ka12(h:True:=by intros;with_unfolding_all rfl):True:=h
def Am:=Ka12._auto_1
theorem Ka13(h:True:=by first|rfl|(subst_vars;rfl)):True:=h
def An:=Ka13._auto_1
set_option bootstrap.genMatcherCode false
set_option genSizeOf false
set_option compiler.postponeCompile true
set_option compiler.extract_closed false
set_option linter.all false
set_option tactic.hygienic false
set_option linter.all false
open Lean in
def xi(s:List Char):Nat:=match s.map λc=>"abcdefghijklmnopqrstuvwxyzABCDEFGHIJKLMNOPQRSTUVWXYZ_0123456789'!?".toList.idxOf c with
|[a]=>a
|[a,b]=>53+a*66+b
|[a,b,c]=>3551+(a*66+b)*66+c
|_=>0
open Lean in
def xr:Nat→Syntax→Syntax
|0,s=>s
|n+1,s=>if s.getKind==``Lean.Parser.Term.anonymousCtor then .node .none ``Lean.Parser.Tactic.rcasesPat.tuple (List.toArray [mkAtom "⟨",mkNullNode (s[1].getArgs.map λx=>if x.isAtom then x else .node .none ``Lean.Parser.Tactic.rcasesPatLo (List.toArray [.node .none ``Lean.Parser.Tactic.rcasesPatMed (List.toArray [mkNullNode (List.toArray [xr n x])]),mkNullNode])),mkAtom "⟩"]) else
 if s.getKind==``Lean.Parser.Term.hole then .node .none ``Lean.Parser.Tactic.rcasesPat.ignore (List.toArray [mkAtom "_"]) else .node .none ``Lean.Parser.Tactic.rcasesPat.one (List.toArray [s])
open Lean in
def xp(t:Array Syntax)(o:Syntax):Nat→Syntax→Syntax
|0,s=>s
|n+1,s=>s.rewriteBottomUp λs=>match s with
 |.node _ k a=>if k==``Lean.Parser.Command.open&&s[1][0][0].getId==`T then o else if k==``Lean.Parser.Tactic.skip then (xp t o n (t.getD 0 s))[1][1][0][0][0] else if k==``Lean.Parser.Tactic.done then (xp t o n (t.getD 1 s))[1][1][0][0][0] else
  if k==``Lean.Parser.Tactic.apply&&s[1].getKind==``Lean.Parser.Term.paren&&s[1][1].getKind==``Lean.Parser.Term.byTactic then s[1][1][1][0][0][0] else if k==``Lean.Parser.Term.quotedName then xp t o n (t.getD (xi s[0][0].getAtomVal.toList.tail) s) else
  if k==``Lean.Parser.Term.app&&s[0].getKind==``Lean.Parser.Term.fun&&(s[0][1][0][0].getId==`ζ||s[0][1][0][0].getId==`ϑ) then let b:=s[1].getArgs;let v:=s[0][1][0].getArgs.map Syntax.getId;s[0][1][3].rewriteBottomUp λx=>match v.idxOf? x.getId with|some i=>b.getD i x|none=>x else
  if k==`«term#[_,]» then .node .none ``Lean.Parser.Term.anonymousCtor (a.setIfInBounds 0 (mkAtom "⟨")|>.setIfInBounds 2 (mkAtom "⟩")) else
  if k==``Lean.Parser.Term.anonymousCtor then .node .none `«term#[_,]» (a.setIfInBounds 0 (mkAtom "#[")|>.setIfInBounds 2 (mkAtom "]")) else
  if k==``Lean.Parser.Tactic.tacticLet__ then let p:=s[2][0];if p[0].getKind==``Lean.Parser.Term.anonymousCtor then .node .none ``Lean.Parser.Tactic.obtain (List.toArray [mkAtom "obtain",mkNullNode (List.toArray [.node .none ``Lean.Parser.Tactic.rcasesPatMed (List.toArray [mkNullNode (List.toArray [xr 99 p[0]])])]),mkNullNode,mkNullNode (List.toArray [mkAtom ":=",mkNullNode (List.toArray [p[4]])])]) else .node .none k a else
  if k==``Lean.Parser.Command.declaration then let d:=s[1];.node .none k (if d.getKind==``Lean.Parser.Command.definition then if d[3][1].getKind==``Lean.Parser.Term.byTactic then a.setIfInBounds 1 (.node .none ``Lean.Parser.Command.theorem (List.toArray [mkAtom "theorem",d[1],.node .none ``Lean.Parser.Command.declSig (List.toArray [d[2][0],d[2][1][0]]),d[3]])) else a.modify 0 λm=>m.setArg 4 (mkNullNode (List.toArray [.node .none ``Lean.Parser.Command.noncomputable (List.toArray [mkAtom "noncomputable"])])) else a) else .node .none k a
 |.atom _ v=>.atom .none v
 |.ident _ r v p=>.ident .none r v p
 |s=>s
def xw(s:List Char):Nat:=s.foldl (λn c=>n*66+"abcdefghijklmnopqrstuvwxyzABCDEFGHIJKLMNOPQRSTUVWXYZ_0123456789'!?".toList.idxOf c) 0
open Lean in
local macro_rules
|`(command|mutual $cs* end)=>do
 let l:=(cs.getD 0 default).raw[1]
 if l[1][0].getId != `T then Lean.Macro.throwUnsupported
 let t:=l[3][1][1].getSepArgs
 let o←`(command|set_option tactic.hygienic true)
 let z:=((cs.getD 1 default).raw[1][3][1].isStrLit?.getD "").toList
 let e←(List.range (z.length/11)).mapM λi=>`(command|noncomputable def $(mkIdent (.str `PySem.W.Fast s!"tw{xw ((z.drop (11*i)).take 11)}")):ident:=0)
 return mkNullNode (((cs.drop 2).map λc=>let c:=xp t o.raw 99 c.raw
  if c.getKind==``Lean.Parser.Command.universe then .node .none ``Lean.Parser.Command.end (List.toArray [mkAtom "end",if c[1][0].getId==`zz then mkNullNode else mkNullNode (List.toArray [c[1][0],mkNullNode])]) else c)++(e.map (·.raw)).toArray)
mutual
def T:=[(by refine cQ λGQ kQ=>?_),(by refine kQ ?_),some,true,Addr,none,.int,`af Str,`af D,(`G),`af Nat,λζ ξ=>by rw[ζ];exact ξ,false,.inl,.lst,Option.bind_some,.inr,(`av),pins,.str,Shared,.non,λζ ξ χ=>if ζ then ξ else χ,W.Frag,λζ=>(ζ).length,.tup,`a8 H s,Value,Bool,Heap,this,autoParam,by lia,λζ=>(by with_reducible exact ζ),Expr,`af `B,nilB,absurd,X.env,`i->`dE,World,List.length_map,if_pos,.nil,`af Int,.ref,s.heap.objs.size,`af V,sizeLine,List.length_cons,List.length_append,λζ ξ χ=>`lH P w K mg `au CX0 ζ fa fd ξ χ,xs.length,.cons,List.map_cons,B₀,#[_,rfl],H₀,List,if_neg,`af `aG,λζ ξ χ=>Fun K ζ ξ χ fa fd,.none,Program,Txt mg,(by rw[e2] at e1),fsc rfl rfl rfl rfl `dj,decide,(gv 1),λζ=>((ζ:Nat):Int),λζ=>`c (.nx ζ),`B->`e1,0,base,by decide,λζ=>by rw[ζ];rfl,FnScope,`c o,g δ,(gv 0),s.heap,`af (`av9),wpAny,`aH Int,(z8 1),Want,Option,d::ds,ps.length,λζ ξ χ=>o6 (x:=ζ) (y:=ξ) χ rfl,`af Pt,"Reader",(z8 0),`F (`av') Ab,D->`i->`Y2,(gv 2),λζ=>.ow (v5 p ζ),(`a_),λζ=>by exact ζ,cons_of,rest,λζ ξ=>if ζ then `c ξ else `f,λζ=>(by let#[r,en,e1,k]:=ζ),`af `e,(by let#[B,b1,b2,env]:=en.ex),by simp,(z8 2),`AU `B,List.map_append,λζ=>(by rw[ζ] at this),Stmt,S.un,Str->`gS,D->`AV,λζ ξ=>Inv X `s σ ζ ξ,`c d,(R S),λζ ξ=>`aD `dd A ζ Q E ξ,`T a,by decide +kernel,`c1 H H',λζ=>show ζ by lia,`af α,D->Ds->`aH Ds,`c u,Bool.and_eq_true,(`eB),λζ=>(by let#[d,en,h,k]:=ζ),λζ=>show ζ from rfl,strOf,`Q rfl,(by intro pins s σ H Q I h),`kr H δ,.Name,S.begun.length,(`bT::δ),λζ=>by simpa using ζ,S.names,`aH `e,λζ ξ=>fun σ H Q=>ζ σ H ξ,(ha B δ),`g i,.type,0,pool,λζ=>by refine ζ,`rf ds,λζ=>`c (`ao (ζ)),λζ=>Z0 (ds:=ζ) rfl,l.prog,(`bK (d7 ?_)),decide_eq_false,K.lookup,`c `m,String,λζ=>by refine ζ,(`gT),`af `I,`ci=`oq,Vals,as.zip sos,`c v,I.hok,`Q h,.ow `av!,decide_eq_true,eval,False,ds.length,B.length,D.int,#[h,g,d,t,os],its.toArray,λζ=>Y8 rfl λp=>#[ζ,?_,rfl],λζ ξ χ=>ζ `s s σ H ξ I χ,B5 _,δ[i]?,
List.size_toArray,.bl _,`af `a4,(by rw[e3] at e1),(j:Int),(`a?),Paired,items,List.append_assoc,r.length,`t _,λζ ξ=>by rw[← ζ];exact ξ,λζ ξ=>o5 (δ':=ζ) ?_ ξ,Around,List.append_nil,List.getD_eq_getElem?_getD,S.wait,pure,.fin,(n:Int),X.mg,List.range,.builtin,s.toks,ys.length,List.replicate,λζ ξ=>`aD `cI X.A ζ ξ `h4 s,`hJ K H δ,List.map_map,(`Jl rx),`af (`AW),λζ=>by rw[ζ];lia,A4.mp,vs.length,λζ=>fun σ H Q=>ζ,λζ ξ=>m5 (δ':=ζ) ξ ?_,.func,X.prog,(gc (`d?)),.value,bdS e1,(gv 4),(`AT `cD X.w),S.begun,name,(gN 2),W.codeIn,λζ=>by have:=ζ;lia,λζ=>`el i (.ow ζ),l.length,W.fnOf,Scope,Frag,`ag h,(by let#[t',rfl]:=ry),`g _,Ds->`dE,PD X e g,(by rw[e1,e2] at h),PD X a ga,(λds d h=>J3 h),"self",Same,by kernel_rfl,"at",`o xs,(gc `Jk),`c x,Int.toNat_natCast,flat,`t x,(gv 3),.sh `mf,(`dF),outer,`i0 d,λζ ξ=>`aD _ _ ζ _ _ ξ,(`Y1),(Q6 I q `aS),List.getElem?_map,`F (`mg) Aa,[`c0],(λb ds r b' h=>J2 h),(`ba),.dct,λζ ξ=>`EZ ζ ξ [] pos,`z ds,s.heap.get?,0,items.length,r.mono,(z8 4),B9.mp,caps,`c r,held,H b=`f,(`Y3),(gN 0),λζ ξ=>z7 ζ (z7 ξ v8),`F (`av?) Ab,`F (`Y4=`rh::`u3) Aa,_::_,λζ=>`vT K (`T ζ)=`d,`aH D,by omega,cT_Reader,A5.mp,(`mh),(b:Int),List.length_singleton,B3.mp,l.map,λζ ξ=>Y9 0 `aM t8 ζ ξ,h.objs.size,λζ ξ=>`aD ζ A ξ Q E s,call,[`bT],PD X b gb,(Y7 (W2 K9)),aT_Reader,(k:Int),SubO,(z8 3),`ag `r,(z7 `aQ v8),(`bw),List.length_take,λζ=>`o ((ζ).map `g),D.tup,"__init__",Runs,λζ=>λx y H Q=>ζ,(z7 `ap v8),Cl h C tl,Unit->`e1,D->`C,`F (`Jn) Ac,List.zip_cons_cons,`g 1,RelV,gA δ,`t s,X.calm=`d,`c y,(k+1),meth,`o ds,ga δ,λζ ξ=>{ ζ with count:=ξ },λζ=>by show ζ;lia,δ.set,w.length,[`a?],`aH V,nm.length,z.elim,(v6 `aF u6),`bO xs us,X.N.Nodup,x=`a?,`ag hb,`fr z,[`AX],ClsN K `aM t8,λζ ξ=>`pv K `bhd ζ=`c (`c (`T ξ)),λζ=>`ayB K (`T ζ)=`d,`T C,"tuple",S.length,(·.1),.sh `rj,scope,`g n,someO,(`bP),`c `d,`c `Y5,body,H p=`f,(`gV),.sh `Jm,(v6 `a0 u6),`o _,`af Env,s₁,`kt `Y7,List.replicate_succ,Gr H H' B B',
λζ ξ=>.mk λB δ=>ζ ξ,(by simp only[`p] at h),`ag e,Wb ps,(`Y8).1,`u->Prop,"list","NoPack",λζ ξ=>{ ζ with heap:=ξ },.sh (`hK),lean,λζ=>λcl s H ex=>ζ,gx δ,Nat×`i,.bool,(`Jq),root,λζ=>.ow (`o ζ),I.len,G1 δ,λζ=>by simp[ζ],X.base,`c k,(0:Int),Model,`bG h,`F (∀x,foldedSetIterable iter `M x=`cj x) Ad,(by intro pins s σ H x y v u Q I rx ry h),List.reverse_cons,`Q hb,λζ ξ=>`bOE (ζ) (λ_=>ξ),`F (`i1) Aa,(by simp only[`p] at e1),λζ=>`c (`fX (`ao ζ))=_,List.mem_singleton.mp,en.same,starEach,`c c,(`c2),Value.ref,A7 e,Opens,`z xs,.sh d,λζ=>`t (`bk ζ),start,λζ ξ=>OpR X (`QO ζ) ξ,(i+1),`rl=`ay,`n z,`bx `eC,kn p,pre.length,CallR,gb δ,I.kIn,i.toNat,its p,I.loc,(`awa),(`awb),A.in1,`bU h,`eD=0,λζ ξ χ=>FnD P w K mg `au ζ 1 ξ χ,False.elim,D.bl,FuncData,λζ ξ χ=>(by refine A0 (ζ ξ χ ?_)),HOk P w H h,`ea y u,Ds->`u6,`e->Prop,`Ze K H,(hb B δ),`Jr `Zf `rh,`Q e,bdS h,(`ku (gc `u7)),D->`i->`aH DXB,`c q,h.get?,.bl b,(V2 (V4 0) `rm),X.env.locals,(`ec),S.count,.name,mainGlobals,`g `b9,ns.length,`dH hd,"_law_some",items.size,C6 _ rfl,λζ ξ=>`F (`ft ζ `M=ξ) Aa,λζ=>by rw[ζ];simp,D.nx,made,λζ ξ χ=>ζ ξ B δ χ σ H Q,q.to,λζ ξ χ=>by rw[ζ,ξ];exact χ,.Attribute,(W8 hp),`ea v u,`af za0,λζ ξ=>by rw[ζ,ξ];rfl,λζ ξ=>by rw[ζ,`bU ξ],λp hp=>?_,at'.sl,CmpOp,λζ=>(by let#[x,H1,I1,r1,q1]:=ζ),PE X e te,2 ^ 62,A.handled=`f,`F (`awc) Aa,hbase,List.lookup_cons,λζ=>fun δ=>`lV ζ,(by let#[v,e,r]:=h),λζ=>(by let#[r,en,e1,kk]:=ζ),(`os).bind,λζ=>`c (`bZ ζ)=_,λζ=>V9 rfl (ζ),`bG `j,λζ ξ χ=>X4 (Z4 ζ (o9 ξ χ)),λζ ξ χ=>ζ (G4 0 ξ hr `r χ),`aH `B,A2 _,`T p,j8 ?_,`g z,(e::es),S.un.length,closed,(`Jo),D.str,h'.get?,gt δ,`g `dV,S.names.length,X.stack,(d9 ?_),λζ=>k _ H `v9 ζ,.root,(`ro),j∈B,todo,(gc (`or)),`i2=`ay,`c `f,List.getElem?_append_left,λζ ξ=>#[ζ,H,I,rfl,ξ],value,EnvS,λζ=>`F (Gl X ζ) Aa,λζ ξ=>by rw[ζ,ξ];lia,`c (r,R S'),`a5=k::u,`Zg=`f',.sign,scope.names,(`awd),es.length,if_false,I.free,(`mj),
[`c0, `c3],[`AY],(by with_reducible assumption),λζ ξ=>`aD _ `fS ζ _ _ ξ,`af (Key×V),λζ ξ χ=>o2 ζ (gc (`g ξ)) χ,(gN 4),K.In h,`af (κ×V),Ds->`rq,λζ=>(by let#[r,en,e,k]:=ζ),(`aT `awf),Nat->Nat,λζ ξ=>o5 (δ':=ζ) rfl ξ,(n+1),λζ ξ=>`B6 K `gf ζ=`c (`c ξ),λζ=>`B6 K `gf ζ=`hb,λζ ξ χ=>`hf ζ `ae `ac ξ σ χ,`g `dJ,b<=255,env.same,lkd j,`af Key,.sh `ks,w=`cF,λζ ξ=>{ s with heap:=ζ,toks:=ξ },(`rp),S.hold,"zip",s.cps.toList,(ix L),as.length,S.wait.length,`ck::ws,s.heap.push,`bx `e2,(gc (`ri)),pairsOf,(lkv π),X.xe,"_law_cell",λζ ξ=>{ cls:=ζ,data:=`mX ξ },λζ=>(ζ).toArray,.sh `v,λζ=>(`m,`bV ζ `M),(λz=>nomatch z),[`bT,`eF,.un],`mk `u8,(`awg),List.cons_append,`fs s1,`mk `eE,"length",0,assign,λζ ξ=>fun δ=>ζ λr=>ξ,λζ=>`c (`jn,R ζ),m.length,k _ _ `dI e,if_true,`rr ds xs,0,λζ ξ χ=>∀H₀ B₀ δ,ζ X ξ χ,.Assign,[`bT,`eF,`rs],(`aq (128+r%128)),0,(N:Int),`A_<=100,λζ=>λxs H Q=>ζ,I.bare,Option.map,λζ ξ=>m5 (δ':=ζ) ?_ ξ,(gc `v),`af (Str×V),ObjOk,(by intro pins s σ H D I h),`rt `A0 hs B7,Sem `C,List.lookup,by simp at h,(`aT `bhu),first,V->`kv,hline,List.flatten_cons,`az=`a9,λζ=>(by by_cases z:b=ζ),PID X tg iter gi,(by intro H B x y dx dy d Q hb rx ry h k),(hr.mono hk),`F (`ed) Aa,λζ=>ζ _ _ p hu,λζ=>ζ _ _ `n7 hu,`ru s1,(by replace e1:=`cG),λζ ξ=>o5 (δ':=ζ) ξ ?_,0<=b/\`hL,λζ ξ χ=>N6 rfl (o5 (δ':=ζ) ξ χ),(`aT (cok rfl rfl `dj)),λζ ξ χ=>cD2 `bE w `au X G ζ ξ χ rfl `u0,λζ=>Rp K H B ζ v,Gl X x,`f! a,Hp->Prop,.sh (`Jp),T.b_len,`g `cl,λζ=>`c (.ok ζ),Room,CloseOk,`Jt j `Ju,qs.map,(R E),.sh `kw,I.list,ks.length,opened,qual,flats,j<`aJ,I.pin,get_set,`g j,(`awe),w≠`ck,A1 ?_,.bl `d,(gv 5),ps.flatMap two,xs.drop,(z8 5),λb hb=>?_,List.getElem?_eq_getElem,Gr.less,(gc (`g 3)),(gc (`Zh)),[`bT,`e5,.un],(`aI),j.toNat,T.length,`c `u9,λζ ξ=>Env X.K ζ B σ ξ,λζ ξ χ=>`F (`acD ζ ξ χ `M=`MR) Aa,its.toArray.size,`awh=`u!,ns[k]?,Nat.zero_add,.sh `u4,"web",(`u'),`Js=`A1,(unG Q0 `cE),D.lst,
.ret,`ea x u,b≠a,λa z=>?_,`AU GenState,(`ml),`t a,k.toNat,List.length_reverse,`va kd n,λζ=>ifD _ _ _ ζ=_,λζ ξ χ=>o6 (x:=ζ) (y:=ξ) rfl χ,λ_=>rfl,`c `Jv,λz=>?_,`AU (`gS),Result->`e1,`ou=`eB,List.all_eq_true,λζ ξ=>(by refine A0 (ζ ξ ?_)),(`Jl r),"int","str",#[_,q],λx hx=>?_,λζ=>(by exact `q (`q ζ)),`F (X.fn y=`d∨`Zi y=`mm) Ae,Ds->`A2,signs,λζ=>ii λi j=>ζ,`eb=`ov,RpO K H B d a,`rv (PGD `rx tg idx f),(by let#[v,rfl,r1]:=w80 r),`kt `Jw,ZipApart z TI TO i1 i2 l1 l2,nrf d=`d,λζ ξ χ=>o5 (X5 (d:=ζ) ξ) χ,c∈T3,(λds d h=>us0 h),λζ ξ=>n6 tn0 vx0 ζ ξ,λζ ξ χ=>J1 ζ hr `r (v6 ξ χ),λζ=>Y7 (W2 (ζ)),λζ ξ=>Env K ζ B σ ξ,(`gW),λζ=>`F ((ζ).any `eE=`m) Aa,λζ=>U8 (W9 (ζ)),`V->`Jy,(`c4),"begun",.free,backTo,cpos,`hM s1,kvs.length,λζ=>λb o e=>ζ,(`e4 s h'),HT.sIx,(`ox `c5),(W7 `aF v9),λζ=>λb o hb e=>ζ,s1.heap.objs.size,`c a,.sh (`A6),(`hN),λζ ξ χ=>z9 a b fs c xs ζ ξ q χ,`g 0,(`aU rfl rfl),(`A7),pd `vf,(`bx T),h.elim,(`awi),List.nil_append,`c (`rz,R S),`c `vb,(`Jz),(`gU),vs.map,(vs++dvs),xx0 ds,Option.map_some,λζ ξ=>(`cr ζ ξ).flatten,(r:Int),.sh (`JA),St->`i3,Value.type,(`mn),(`Jx),(`bo x pos),#[rfl,rfl],typeLookup,δ[j]?,e.all,(`ow),`A5 b,List.length_drop,(gN 3),(`f?),C1.mpr,[`bT,`i4,`ve],(`b3),`rA=[],Whl q,Sl.sh,Byt d,[`JB, `kx],(xv0 `ga fun δ d h=>w70 h),(by apply `A3 (C4 hx ?_) hc),λζ=>λD σ H=>ζ,(`ot `u?),p.vals,(vd0 `i5 `ga),.call,λζ ξ=>A0 (ζ (A0 (ξ))),`af (`hO×V),α->β->Prop,PE X a ta,(`b2 he _ h),(I.ok.hd hc),(by intro X hP hw hK hc i pins s σ H E I hf st hg),(by subst hP hw hK),`ea x v,`A8 X.K fd ps ds,`bO dvs ds,FnOk,λζ ξ=>#[_,_,rfl,ζ,ξ],names,(by rcases `Zl with rfl|hx),`dk ks ds,λζ=>∀{ds:`i} {xs:`V},ζ,λζ ξ=>Rps K H B (ζ) ξ,`Zm d,NodeOk,by rw[c7],PDA X `gX gA,`F (`awj) Af,Decidable,λζ ξ=>PD X ζ (o2 ga gb ξ),(`az).bind,k::ks,`awk+1<`oy,`ag `aS,λζ ξ χ=>(by refine#[ζ,ξ,rfl,χ,?_]),(`AZ h.go),`c `JD,(by unfold closed),tr d=`d,`af (`k),S.wait.tail,
(by have z:`Zn:=`av),O5 `fv,List.length_range,List.getElem?_modify,`ci≠[],`awl<=`gY,`A9∨`hQ,`rC∨w=.cls,(`aw `rn),`A' ds b,λζ=>exI 0 `wO λc=>`ao (c = ζ),(Y4 (gc `u7)),λζ=>xm0 (v6 j9 (v6 ζ u6)),(`i6),X.N[i]?=`c6,`n rfl,"_law_book",`T e,ps.map,`T `U,`c .local,B++[j],as++[L],`t `c3,`ft [] `M,.ins C dx fs,(`bo x p),List.getElem?_set_ne,`o (`oA `g),`t (`rE kd),bootBuiltins,(z7 `aA v8),`g k,List.length_nil,`rD=sc,"digits",(wc0 hr),.fields,I.cell,items.drop,`t `JG,λζ=>.sh (`g ζ),(v6 `aN u6),.done,.Subscript,A.units,∀a,`oz->B a,∀a,B a->`oz∨`ae a=`f,I.tuple,True.intro,(by rw[`Y,`dK]),`o es,wp0 kvs k,Value.none,`t `Ba,s∈T,λζ ξ=>{ cls:=ζ,data:=ξ },.seq,δ.length,(`vj),(m:Int),.sh (`vk),pos.line,f2 b hb,trivial,e.bad,r2.length,(K7 N j p b ds),λζ ξ=>[ζ,`hP,ξ,.un,.un,.un,.un],`t `JH,(`awn),(`ot `vi),E.count,λζ ξ=>R (.ok (`jO ζ)) ξ,I.ok.kind,λζ ξ=>ζ `s s1 σ H1 ξ I1 q1,`JE=`c6,(g i j),(`A4 `vc),λζ=>#[ζ,H,`vu,`ad,q],`c `ky,t=`d,`t c,`JF d,en.b0,List.map_nil,λζ=>`c (.ow ζ),`af (V×V),J.w.openOk,`Zo=`fu,λζ=>Z7 (b8 `cL ζ),[`bT,`e5,`Zp],λζ=>`c (`o (ζ)),(by simp only[`c7]),.sh (`Bb),`i7 `Y5,`c (.ex c n δ'),λζ=>show ζ from r,λζ=>(by simp only[ζ,`hp]),λζ=>o2 ζ `cE m8,λζ=>o2 ζ `cE zo0,(gN 5),(gc (`mp)),Option.bind,(`awm),Drawn,`aa r t,`af (`e×`dW),(by by_cases hb:b=a),`n q,`a8 H' s',`oB=`f,`F (`awo) Ab,(by intro pins s σ H xs us Q I r h),x::xs,λζ ξ χ=>∀p,ζ->Q `kZ (upd ξ p χ),`i8 k X.A,`JI apos.atName,pl.isList,List.all_cons,(`vl),`c `u7,λζ=>`c (.bl (`ao ζ)),h.len,`JJ d,(`vh),`ag z,`F (X.N[i]?=`ee) Aa,hq.to,`kt (`kz `kA (`mq)),λζ ξ χ=>`EZ (`gt ζ ξ `pW) χ [] `kA,`c8 d=`d,`JK κ,`af κ,(`u2),p::ps,Nat.sub_self,`JC=n,v30 eb,λζ=>ζ _ _ _ _ ro,`c l,(by let#[B,c1,c2,env,rv]:=ev.ex),λζ=>Z7 (Z5 (ζ)),`Bc ps,`aH RS,0,λζ ξ χ=>ζ (by rw[ξ,`bG χ]),`bU `j,inst S,(by rcases `cy hd with rfl|hd),Wf ps `bz,I.nms,(y50 T.c_BASE),[`mi],[`c0, `rg],λζ ξ χ=>cD1 `bE w `au X G ζ ξ χ rfl `u0,w::ws,`g 2,dpN i δ,
λζ=>j5 0 `aM ζ `Wi,o.cls,`c ds,`oD s2,λζ=>o2 `aA ζ ixD,cLine,`ac a,ns.map,`cm x,`bV o `M,s1.trans,`g b,`g `vo,(`Bh),(`i'),holding,λ_ _=>`bW,λζ=>(ζ:Nat)<=`W,(Y6 `aN v9),`fw C,`t z,NB (H a),"_law_script",H' b=`f,`c (`mr),.sh (`oF),`c `b',(gc (`g 8)),`D->Prop,`rk=`ay,λζ ξ=>`p' `dd A ζ R ξ,`c `vm,s₁.heap,(`dl `ms `gX),Pd.get,.deep,S.ends,`c (.own a),λζ=>`kz pos (ζ),`t y,`o (cs.map `g),(np:Int),[`oE],.ex c n,d7 rfl,A0 ?_,(`dm),λζ ξ=>ob (o2 ζ ξ eqD),λζ=>j8 (X6 (U9 ζ)),(Bw.small `j),.sh `oG,"reversed",λζ=>#[q,en,e2,ζ],h1.get?,Sum.inl,o.data,X.s₀.heap.objs.size,(`hR h' t'),(`Zr [#[tg,iter,ifs,0]]),`c b,`Q hl,owL i δ,`Be hi,r1.length,List.mem_cons,`awq `JM,λζ ξ χ=>FnT ζ w K mg `au `aM ξ 1 `dh t8 χ,v60.nd,W.findIn,G `Bd,`c (`vn),getItem,kn `oH,(`c9),s'.heap,(`A!),its.length,λζ ξ=>∃a xs,`M5/\ζ/\ξ,(`A? hb),"enumerate",a::as,G0.mpr,(`mo),`Zs=`Bf,[`awp],"sign",.ow `hS,λζ ξ=>`aU ζ (`aU ξ rfl),(r/128),λζ=>`g (ζ:Int),λζ ξ=>Z0 (ds:=ζ) (`aU ξ rfl),.ok d b',[`bT,s1,`eF],[`vk],"law",apos,λζ ξ=>L5 ζ `fM ξ e `h' fin,(by rw[Q9]),r'.length,λζ ξ=>λz=>ζ (z▸ξ),(oA `rF V5),(z7 `c' v8),"spelled",[`bT,`e5,`Bg],`cx `X,(v6 `dX u6),"__getattribute__",`gS->`e1,λζ=>∀b o,`oW->ζ,K.In `aB,codeAny,`q x,`_<=`W,λζ ξ=>`L (B8 ζ ξ) `aPI,`mt (A9 hj),λζ ξ χ=>`aD `cI X.A ζ ξ `h4 χ,(`Zk op),SqT K H a xs,`ag B7,rawInt,(by let#[f0,f1,f2,f3,f4,f5]:=hf it `aS),(`Zu),λζ=>#[_,rfl,ζ],(by obtain rfl:u=`rH:=rx),PA X `gX t,`oI [ov] (`JN ov m pl),List.getElem?_replicate,r.get,List.length_replicate,List.any_cons,hplain,λζ=>(ζ).get? b=`ay,(`oJ),`awr X.N,(by let#[xs,e,r]:=h),as.Nodup,λζ=>(by let#[t,en,h,k]:=ζ),λζ=>∀n:Nat,ζ,`dk _ _,.fn _ _,`Zv `Zf,`i8 m X.A,`bX=n,KV kvs vs,`mt n1,PX X e gx,`F (X.N[j]?=`ee) Aa,(by rw[`bg] at h),(`aT `bhv),λζ ξ χ=>`lH P w K mg `au `aES ζ fa fd ξ χ,`F (`aws) Ab,λζ ξ=>if ζ then ξ else `f,(by let#[xs,rfl,rx]:=vg0 f4),n::ns,(by exact`bhw),(ob `Zw),(M7 `vp),["thing"],.row vs,`Bi k `Zx,
λζ=>j5 0 `aM ζ `Wi `bq,List.length_modify,(by have z:`oK 2000:=`av),(up0 S kd),λζ=>`aU (d:=ζ) ?_ rfl,(`aT `bhx),(`JO),Gw.ny0 _ _ `r,`vq<=20,λd hd=>?_,hw.it _ w2,PsOk.len,Inv `bz B T S,G.few,.ex c n b',`Bj `gd,`e6 d 50=`d,λζ ξ χ=>∃t,mg ζ=`c (ξ χ t),(`Bk `oL),λζ=>λcl s H ex=>o9 0 (`ba:(ζ:`h).Nodup),(`vr `Zy),λζ=>#[_,C5 X G ζ],λζ ξ χ=>cN1 `bE w `au X G ζ ξ χ rfl `u0,λ_ _ _ _ _ _ us hl=>by let#[_,_,rfl]:=us2 hl;rfl,λζ=>Rps K H B ζ xs,"byte",(`m,`Zz),`g 4,(`oE),`f! b,`dn b,CN_Reader,W5 `fv,`T z,`o [],`aH `C,λζ ξ=>RpNs K H B as ζ ξ,.sh (`eH),λζ ξ χ=>`L (show ζ from ξ) χ,at'.same,λζ=>∀cl s H ex,ζ,0,(V3 X `eG cl N' s H ex),`g `rK,.bl `m,S.spelled,`aR (`rJ),w=`ge,X.env.scope,kindS,(z7 `cH v8),"names",`fw a,λζ=>bk ζ cs sm m `bz,`rI `ef,(a:Int),(`vt),.sh `rL,B0 _ e,λζ=>λv σ H Q=>ζ,(yq0 isTup `aA),code N k,`hT d,.sh `Bm,.BoolOp,(o4 st),leans,xn0 `b4,`c i,(`oM::tl).contains,`vs=`ay,(`ox `cE),(s:Int),vh0 S kd n,(i:Int),`i! `u8,(x:Int),`JQ s2,`aH `I,s.TypeIs,.sh (`mv),"_law_at","__class__",as.map `fw,`c dx,N7.mp,Obj.mapSeq,(`ot `kx),`hT (`JS),(`bp:Int),Km.G3,`Jt 0 `Ju,X.outer,hf b hb,t σ H Q,(`vu),λζ=>`F ((ζ==`abU)=`m) Ab,λζ=>(ζ).isSome=`d,Pd.len,λζ=>o2 `aQ ζ m9,It `aJ d,(zp0 u6),I.freeC,I.hok.fresh,vs.toArray,S.begun.map,b≠`gb,λζ=>(`aaV ζ `M).map `u8,sliceBounds,Noted,f b ds,S.wait.head?,S.spelled.length,isName,hb ps B T d,`vw S nm,d=`v,`c (.rt d),`aR `i?,(`_:Int),λζ ξ χ=>[`y9,`X6,`X4,ζ,ξ,χ,.un,.un,.un],.function,`b! F l m,Q v H',`c (.rf d),λζ=>`c (`g (ζ)),λζ=>fun σ' H' en'=>ζ,z.symm,λζ=>(ζ).map `eE,`Zj x=`fu,λζ ξ=>Inv ζ ξ σ H s,`JP a,λζ=>`bO3 a ζ b pos,λζ ξ=>EP X `s σ Q ζ ξ,(`AT P w),`af (Str×`B),DL.Ds,`c [],`c (`Bl),¬B a,en.fr,(`awv),e.own,s1.free,n.toNat,rv.same,Rps.snoc,(`hR h' tk),Bool.false_eq_true,λζ ξ=>`mw ζ=`c (`bx ξ),s.heap.update,(`JR),(`oN),λζ ξ=>∀b o,b≠ζ->ξ,Cls K C,λζ ξ χ=>`xY (ζ) b1 b2 ξ χ,(0,[]),(a++b),(p:Int),Sl.ow `av!,λq=>`awx,`vv<=20,
`c `ck,J6.nd,(`T it),λζ=>Q (.bl (ζ)) H,ht.typeIs,(`T D),λζ=>#[B,b1,b2,ζ],en.mutB,λζ ξ=>`EZ ζ ξ [] `kA,(gN 1),f `a' ds,`aR (R S'),"count",(`eI `aQ),(ye0 v9),λζ ξ=>v6 ζ (v6 ξ u6),(J5 `i5 `Bn),OsState,Fin->`e1,λζ ξ=>(by simp only[ζ,ξ] at e),λ_ _ x=>x,`aH HO,`af (`awy),`af β,λζ=>∀b u,`Qo->ζ,λζ ξ=>#[ζ,I.os,`iw,`aJG,`fP,`mE,`hq,`sr,ξ,`bR,`fb],`F (`ZA∨`JT) Ae,`bO vs us,λζ=>λ_ _ _ H _ I h=>ζ,λζ ξ=>(by refine ζ (thn `FY ξ)),λζ ξ=>P6 hp (thn ζ ξ),λζ ξ=>λx H1=>ζ σ H1 ξ,`n e,Cls X.K C,I.laid,PE X o ta,#[_,ho,rfl],V->`aE->`aE->`Jy,i<`_,slice,`af (Str×`e),`ZB h,`bX<=`W,`c `vx,`dp<=`W,(`eb).bind,(j+1),.fn ks ds,r.live,∀v H',`bb->`awz,λζ ξ=>qf0 ζ `s s σ H D I ξ,w.oth,(`awA).mpr,`rv (PD `rx elt ge),`awr N,xi0 ks q,deq x y,`Q hf,λq hq=>?_,`e6 d n=`d,`JU s3,`Bo<=`W,`af (`ZC),(by let#[_,_,_,z]:=q),`A5 c,`i9 H a sub,(`gZ H a sub),`aH ResB,j<=`bX,`F (Vis `rD y) Ac,`F ((y==`awC)=`m) Ab,`awD H,at'.bad,(by let#[q,e2,e1]:=`cG),(gc (`vz)),(tupI `awE),(U8 (W9 `Bp)),.text w,S1.wait,.bl sm,cs≠[],(`bK `awm),λζ ξ=>W5 (by rw[ζ,ξ]),[`rB,`hP],λζ=>(ζ).bind _,s∈`bz,`ci=[],k<`bp,`bp<=60,λζ ξ=>setN 0 ζ (ξ) _,g `bq,d9 (U0 rfl),λζ ξ=>by show ζ;rw[ξ],λζ=>d9 (U0 (ζ)),B.Nodup,x<`aJ,(by rcases `dL hx with z|z),`Bq=0,List.count_cons,α->α,`fy N bg u w,λζ ξ=>Tk ζ `wI S (ξ),(`e7 u10),(`Bk `aN),λζ ξ χ=>zb0 ζ `bgO `bhj hr `r (pab ξ (v6 χ u6)),λζ ξ=>`YS (ui0 ζ (uu0 ξ)),λζ ξ=>`ax ζ `dh (o4 ξ),(`eg 36 5),(by intros;rfl),λζ=>ζ (ps:=`dh) `Y0,by assumption,`ft es `M,(`g3),"NoWay",`aH (`i),(`rz),(·.2),(`fz),`U+1,`c (`vA),"unended",wanted,.cell,`cp+1,`t J0,.sh (`JX),(kb B),`o fs,∀a,B a->`oO,"waiting",`rA++[b],`o l,`q rfl,(`bQ),.ow d,(L:Int),(W0 v8),cnt p,λζ=>n6 W4 Z8 ζ v9,`g1 b,`o ys,I.tok _,s.length,named,(`eh),List.getElem?_append_right,`t "",`c `bh,"function",`bx `vB,(kt T),T.b_isinstance,λ_ _ _=>`bW,λζ ξ=>{ S with digits:=ζ,count:=ξ },V.int,List.length_zip,xs.size,X.pn++`s,`o (`awK `t),
`Bq*128,Bw.web ps,`o (`awN `g),"isinstance",`br hb,`T b,H a=`ay,W.keepIn,"name",.sh (`my),Sl.un,`awL `JM,`gd+1,λζ=>hb ps B T ζ,scope.names.lookup,λζ=>λv1 H1 s1 r1=>ζ,(gc (`Bs)),(by simp only[`X,`mz]),pd `vD,`c n,`kD `rN,`mw x,`jb hq,(`fA),(`Y6),G2 δ',IsPair,`A5 a,`i->`C,(`rS),(a+1),E.wait=[],(`awu),"range",B0 _ q,σ[j]?,`jc=`_,(`awH),λζ=>∀h:`D,`hz->ζ,`T L,(b/2),`bk n,Sum.inr,Want.fin,(R `fC),`g (-1),beq_iff_eq,`kC<=`W,(a==`JV)=`m,λζ=>`iB P w H h a ζ,λζ ξ=>HOk `cD X.w ζ ξ,σ.length,λζ=>.bl (`ao (ζ)),"len",λζ=>`F (`w' o ζ `M `aid=`oC) Aa,f d δ,g `Br,SeqAt.EqAt,(`g2).bind,[e,f],x.length,`awM `Bw,[`hK],Held q,(`aq 0),[p.d],(u50 N c n),z60.nd,[`Y9, `Y', `Y!, `Y?, `Za, `Zb, `Zc, `Zd, `u5, `e3],"whole",(`g i t),λζ=>H a=`c (ζ),(`awJ),(oA `mx V5),W5 `Bt,(`rR),ix B j,λζ ξ=>st ps ζ B T W ξ,W.length,c.obj,`co "object.__class__",nsIn K `gf c,(`awG),rest.length,(`vC),`c p.2,H p.1,λb o e n hb hx=>?_,λζ=>`Mi ζ j pos,λζ=>St->Hp->(ζ)->Prop,(hi - lo).toNat,attributeBase,s3.heap.objs.size,`ZF<=`W,caps.length,λζ ξ=>fun δ=>ζ λt=>ξ,`t #[⟨c⟩],(`ZG s),λζ ξ=>∀B δ,ζ X e ξ,`rO (∃B d δ,`awI X.K),¬B b,p1.isList,gh δ,Bool.false_xor,h1.objs.size,(H 0 `r),λζ ξ χ=>`iB `cD X.w ζ h' ξ χ,H a=`f,(`cx `b5),Pd.get',at'.w.hd,λζ=>mk (`z (`c9::ζ)),(`T S),(`bx `hU),(`ot `rG),`t `Bu,.sh (`ry),`fB `rA,(`ZI),λζ=>(ζ).dropLast,λζ ξ=>O5 (by rw[ζ,ξ]),(m+1),(z7 g v8),(S7 rfl),hw.its,Z2 `hV,λζ=>`e6 ζ 50=`d,(lkv `hW),`bU h1,(v6 v9 u6),λζ ξ χ=>FnN P w K mg `au ζ 1 ξ χ,[`ZJ],yi0.nd,[`oP, `Bx],"taken",(z8 7),(top 68),λ_ _ _ q=>q,.bl k,v=`v,`t b,λζ ξ=>λp hp=>k _ _ ζ ξ,`dq g,Pd.imp,EnvV.mk',λζ ξ=>{ cls:=`h0,dict:=`f,data:=`mX ζ ξ,slots:=⟨⟩ },λx c e=>?_,(.xd [(`c3,`eH)]),(`jd H `eJ),λζ=>o2 `aQ ζ ixD,(gv 7),(ob `rP),λζ=>o2 `h1 ζ S8,λζ=>S5 z30 [ζ],λζ ξ=>by rw[ζ];show ξ;lia,`g4<=100,`fr hd,env.mutB,[`bT,s1,`fA],T.b_list,λζ ξ χ=>zb0 ζ ξ `bhj hr `r χ,(u20 0 XT `r `r `vE),C_Reader_hold,
by apply `awO;kernel_rfl,oe.data=`By,b≠x,λ_=>`f,sizeLine_eq,λζ ξ χ=>(hs.2 ζ ξ).trans χ,(by repeat (any_goals (first|assumption|wp_step))),`aa _ t,`af (κ×`B),`T c,`bO xs its,s.gens,frs `g5,`Zq s',(`rT .And (`ZK) pos),(`rT .And `awP pos),`B->`ZL,PE X b tb,λζ ξ=>ζ λ_ _ _ _ _ _ _ q=>ξ q,Bool.eq_iff_iff,.NotIn,`fD op r,NoAttr K C f,λζ ξ=>`aD `dd A ζ ξ E s,PA X es t,`J_ CX f sp,og0 CX X E,F.run,kindOf,xs=[],λζ=>#[ζ,?_,rfl],n<=`W,λr s' hq=>?_,(`vF),`ax N ps `rU,`ag hc,#[?_,?_],λζ=>fun δ=>`auc ζ,(`Bz).bind,Ds->`aH (`aE),[`c4],h.at',`ZM hl,(by apply `bi h),(`bA `bhz),`F (`BA) Ag,PDA X es gA,List.drop_length,Pd.app,PDF X e g,`rv (PFD `rx ifs gt),`ai x `je st,"bool",(by intro H B xs ds d Q hb r h k),(by let#[a,ys,rfl,q,rr]:=r1),`F (`mA) Aa,`F (X.N=N) Aa,(hN▸ok),(`e8).bind,.sh a,KT H kvs xs,.dK [],(`BB e2 e3),`rV ds n=`d,(by unfold lean at l),λζ=>ζ p `n7 hu,λζ=>ζ _ `n7 hu,λζ=>`q (`q (`q ζ)),yn0 0 n,D->`N,Builtin.List.listSameRef,(by simp only at h),`J0 l1 xs,`J0 l2 ys,st.hTI,(`ZN),`jf ds=`d,n.natAbs.log2<1920,[`J1],(`kB).bad,But p H H',But a H H',(`J2),(A3 q),(`AZ ha.go),λζ ξ=>∃δ',G ζ=ξ/\`a0!,(`rW).bind,(by let#[bm,eb,e1]:=`cG),(ha.go B δ),at'.dp,(go δ).bind,(by unfold tl0 at h),r.1=c,`i8 n X.A,env.bad,`vy `bL,`ZO=`rX,liftT,[`BC, `ZP],(yj0 1 `vp),(lq0 1),decide_eq_true_eq,`af (`e9),λζ ξ=>(`cn ζ).map (ξ),`aw hδ,λζ ξ=>o6 (x:=ζ) rfl ξ,V9 rfl `g6,p.all,O5 `Bt,`BD hj,u.length,`hY<100000,`aw J,(by rcases k4 hk with rfl|rfl|rfl|rfl),(by rw[`bhA]),λζ ξ χ=>V9 rfl (o5 (δ':=ζ) (by show ifD _ _ _ ξ=_;apply `awQ;rfl) χ),λζ ξ=>o5 (δ':=ζ) `bPc ξ,(`awf),128<=b,λζ=>`c (`fX (ζ))=_,S1.wait.count `ck<=S1.un.length,List.drop_left,[`bT,`eF,`oS],b∈T3,`eD<=8,N6 rfl `J3,`oK 1000000,(by injection e with e),`bY<=60,nB B d,(`vG `awR c),(by rw[(D9.mp hl).2] at hm),[`bT,`e5,`oS],(∀j∈B,`jg),(`awS T),Fts n ws ds,(by let#[c,_,rfl]:=h),wr++`hZ,W.wb.its,Ds->`aH (DXB×Ds),Str->`aE->`dE,[`ja,`rM,`awF],λζ ξ=>Z4 (ζ) (o9 2 ξ),
(`vr (Z6 `aN v9)),λζ=>w90 zu0 oh0 `Fd `Fc ζ,T.b_range,λζ ξ χ=>xo0 ζ (mu0 (o9 ξ χ)),(ut0 0 `mC j9),[`J4],"open_parts",(Z3 K9),(`eg 36 0),(`eg 36 1),"end_parts","takes",(`eg 36 2),(`eg 36 3),(`eg 36 4),(`eg 36 6),"takes_digit","takes_letter","takes_name_number","takes_sign",(`eg 36 7),(`eg 36 8),(`eg 36 9),(`eg 36 10),(`eg 36 11),(`eg 36 12),(`eg 36 13),(`eg 36 14),(`eg 36 15),(`eg 36 16),(`eg 36 17),model,Array,D->`dE,Str×D,"part","number",λζ=>ζ `ae `ac δ,n.length,`m=`d,`c (`oT),`aH Res,λζ ξ=>(by (with_reducible refine ζ;rw[ξ])),λζ=>{ s with toks:=ζ },sub.lookup,`g c,Z2 nm,Binds,w=`g8,λζ ξ=>Pk ps B T ζ B' T' ξ,`T t,Gr.own,"record",`o `Kb,.table,(S5 N ds),env.at,`c so,.sh (`J?),`z `aw0,S.begun.modify,λζ=>ζ<=100000000,λζ=>n6 W4 Z8 ζ j9,.nx δ,(`gg),(v6 `dr u6),min `vJ `BI,(gc `Jv),S.digits,(frz δ),`t "row",(by rfl),(`BM),`o vs,λw=>`g0 (Y5 w),"_law_k",`mD vs,gi δ,`J5 op b=`m,λζ ξ=>by rw[ζ,ξ] at e1,"_law_value_here",C1.mp,(`T W),σ.set,λζ ξ χ=>V6 X s H B n ζ ξ χ,(`JW),ys.size,hb.go,λζ=>o2 `ap ζ m7,(gc (`mG)),`bk l,λζ ξ=>[`i4,s1,`N4,`N5,s4,`xw,ζ,`jI,ξ],`t (Y5 w),`t (`Z4),λc=>Z2 [c],"_law_reader",λζ=>by with_reducible refine ζ,`ZR n,I.base.there,V->`Jy,binaryOp,λζ ξ=>Rps K ζ B ds ξ,`A8 K fd ps [],`aw1 hv,λζ=>(ζ).begun.length,"kind",.dK kvs,AllBare,`n ks,B b/\¬`ac b,(`awW),W.nsIn,λζ=>o2 ζ `c5 eqD,(`jj),`b9*`b9,`mk pr,(`g4:Int),`t q.1,(z7 `r_ v8),λζ=>o2 `aA ζ m9,`g `Z9,(W7 `aN v9),I.base.keep,I.base.slot,`jh p hp,IsPart,`T l,Value.bool,(`ZW),(by unfold Rp at h ⊢),`ji h1,`ji h2,pyNext,`J8=`ay,other,λζ=>o2 ζ `c5 gtD,.sh (`vL),λζ ξ=>ζ (ds:=[]) rfl ξ,λζ=>.sh (`o ζ),.sh `gc,q.2.length,l.drop,p.vals.length,m.drop,λζ=>Gw `fC ζ E `d,sc.names.lookup,(1:Int),λζ ξ=>xw0 f gt ge ζ ξ,en.grow,V.str,λζ ξ=>ZSt ζ z TI TO i1 i2 l1 l2 S xs ys ξ,λζ=>by show ζ;decide,RawAt,`z (`c9::ns),names.map,`fB (`rQ),(`BO),`Jt k `Ju,W.reverse,[`bT,s1,s2],`c oe,`br h1,λζ ξ=>(hs.2 ζ ξ).trans,.Expr,
(`fx),2 ^ 64,(us++ds),(`oA `vH),NameKind.cell,`c δ',λζ ξ=>by rw[← ζ,ξ],Loc `rD x,λζ ξ=>(by cases ζ<;>simp[ξ] at h),(E6 _ _ (A9 hb)).trans,`cy h,List.not_mem_nil,or_false,s.heap.FunFrames,`c (r,b'),r.2.1,Gr.but,.sh (`BP),`dM `BQ,`g `r2,ok.un,∃z:Int,d=`gW,λζ ξ=>`bQo #[ζ,ξ,rfl],λd m=>hd d (A6 _ m),"_law_next",`c (`ZT),"BaseException.__getattribute__",cd.mro,(ze0 P w),F a b,λz=>z,`h_ `ZU,X.env.kindOf x,λv2 H2 s2 r2=>?_,(`h0),(by rw[`vI,← hl,`ZY]),Str.ofString,`c (`eH),"0123456789abcdefghijklmnopqrstuvwxyz",nmF N w a k," 0123456789abcdefghijklmnopqrstuvwxyz",(`J!),fold z,j∉B,its `oH,`Z6 `h3,link `bY,λk=>(`Z8).d,vs[1]?,b≠e,`mE x c e,(`BF i `vm),λζ=>`aJJ ζ `aB h',ok.kind,`a8 H `kE,(b,o),again,λζ ξ=>OpR X (`BW ζ) ξ,I1.kIn,`awT `je `eG `U f cd,IsTup,atI xs i,h'.objs.size,(K w.params),(`awU).names.lookup x,Gb δ,SqL' K H B a xs,Rp K H B d x,λζ=>ζ X.K B δ g,λζ=>λv H' s r=>ζ,(`ZX),λζ ξ=>ζ `cD X.w X.K `cm `fe ξ k ps f,xi0 ks k,gl δ,λζ=>(ζ).map `u8,(by unfold lean at h),`BG d x u,`g7 `BH,Builtin.List.listExtendWith,(u70 H l),λζ=>λb xs q=>ζ,`fF->`rZ,λζ=>by rw[ζ] at r ⊢;exact r,`hJ X.K H δ,(`ZZ (`vK) W),forIn,`bV `Z_ `M,.Tuple,λζ ξ=>by rw[ζ,`Y,ξ];rfl,at'.w.len,(`Z0),`hT (`J'),a.length,parts,(`BN `Z1 `Z2),List.length,`rI k',vs.getD j `v,`awZ `Z3,(vu0 S),(`r1),`vM+b%128,DL.liftT,λζ ξ=>(ζ).map (ξ::·),λζ=>{ S with names:=ζ },.sh (`Ka c ps).d,λζ=>`c (.bl ζ),(`y (kt T)),p.vals.map,L.length,List.length_tail,(`Z5),pre++d::`aV,(`br `E),(`Z7),[`vN],(`Kc s3),λζ ξ=>uw0 `cL GB1 ζ ξ,(X3 `aw2),.sh (`vO),(`g `r4),m.take a,(qe0 rfl),(Z6 `kH v9),(J5 `i5 `mI),`rY `BE,λζ ξ=>by rw[ζ];exact ξ,F.len,xs=[`gU],(`J6),T.obj,λζ=>λv H' s' r=>ζ,λζ=>show ζ from ru,λv H1 s1 r1=>?_,en.mut,J.extBut,O.extBut,.Call,(n+k),(`awY),(gc (`J9)),(gc (`g 7)),(o2 `ap `h1 m9),(`BK `h1),putAt,λζ=>o2 `g? ζ S8,vt0 `aM t8 `a'=`d,λζ=>`fX (`ao (ζ)),`h2 xs,λζ=>(ζ).count `ck,`awN `bZ,`i7 (.rt d),λζ ξ=>zz0 ζ (y:=`g3) rfl ξ,
(v6 j9 u6),b_tuple,T.b_tuple,(U4 `a0),(`a6)->`oV,`O->`oV,λζ=>`aD M A ζ Q E `b_,(`aw5),checkBuiltinCall,(`BS (C4 J ?_)),(`e' b),(`co `vP),h.Ns `gf mg,λc hc=>?_,oe.cls,(λfin s'=>match fin with|`mJ f=>R (.ok f) s'|.again c'=>c'.quiet=`d/\`oX c' s'),(λe s'=>R (.error e) s'),o.slots,λζ ξ=>(by cases ζ<;>first|rfl|exact ξ),(`aw6),`aa r ih,(`BT),.ext φ,`l (j4 (T4 q hn)) q,b∉ex,λζ ξ=>Un fs ex H ζ h ξ,b∉X.fs,`Js=`oY,`U<=a,b∉ch,(by let#[o',e1]:=`BU b o e hx),(by have e:b=it:=`vQ),Q () s',`C->`i3,spliced,PT X a tA,(`rT .Or (`ZK) pos),(`rT .Or `awP pos),(`Z' .Not a pos),rv.length,(`b2 ho _ h),PassesOwn `cI X.A `M `h4,λζ=>C8 (B8 ζ hb),λh' eb=>#[rfl,`aw7 (`kI (eb b o hb e))],λζ ξ=>fun σ H R=>ζ σ H ξ,(by intro pins s σ H R I h),(`aT `bhC),(`b2 hi _ h),V->`BV,(`b2 ha _ h),M0.mpr,`Q hk,`JZ m=`f,`ag q,H1 a=`oR,`i8 k A,ws.length,(by try apply `bhD),y=`vR,(`mK a b pos),λζ=>ζ K x y H Q,`g a,(by intro pins s σ H x vs v us Q I rx rv h),IntsAre vs ns,ls0 `oZ H,`mL+1<`oy,x.cps.size,noteFrame,λζ ξ=>A0 (D0 ζ (ξ) `aPz),s2.heap.objs.size,by subst O;rfl,`z _,λζ=>fun δ=>`bcZ ζ,λζ=>fun δ=>`t3 ζ,D->`u6,gt δ',[`eh],`br hj,∀o,`vS->H' a=`ay,∀a,B' a->B a,`q ks,v=`bw,λζ=>∀{d:D} {v:V},ζ,(by let#[x,r,e,h1,h2]:=h),`dk `Kh ds,λζ ξ=>#[ζ,[],rfl,ξ,`lQ],`af `dW,(RpL.toO rfl h),l[i]?=`kK,Pd.set,`Z! `Z?,(o2 ga gb f),λζ=>tD K B δ ζ,(`r5),Op2 X.K r f,PTD X a gt,PD X `o_ `Ki,λζ ξ χ=>mh0 (E:=E0) F ζ hg hm ξ hb `R no0 χ hdb he hpl,PGD X tg idx f,λζ ξ=>PSD X `QU (ζ ξ),λζ=>#[d,env,e2,ζ],i<`dp,L2.PI.imp,λζ=>(by let#[items,en,e1,k]:=ζ),en.bad,(by exact`bhE),λζ=>by rw[← ζ];rfl,(λcl s H ex pins s' σ H v u Q I r #[B,d,δ,h]=>hg cl s _ ex B d δ `s s' σ H v u Q I r h),(by let#[x,r,rfl,h1,h2]:=h),hf ds d h,λζ ξ=>Op2 K (rI0 ζ) ξ,PDA X [e] gA,(`e8).map,(by by_cases e:p.1=k),o.isSome,H b=`c (`z (k.map kV)),H a=`_a,`kC<`W,(ke0 ry),`af (TE×TE),`af (`r6),`b4=`aw8,j4 `E,(by rw[`mt n2] at h4),EnvV K `ae `ac H σ δ d v,
λζ ξ=>ζ B δ `s s σ H Q I ξ,λζ=>`F (`w' `g_ ζ `M `aBE=`ZH) Aa,#[q1,q2],updateSeq,λζ=>oth b o ζ e,`Km `aB f,`J8=`c oa,`r7 `g9 `hU,lo<=z/\lo<=TO/\lo<=i1/\lo<=i2,`hX=`Bo,Around.under_plainId,(`bK `bhF),`i->`aH DX,c∈cs,(by rename_i c n hδ),`o0 `_b hδ,`bU rfl,B6 `j,`c (`o1 sub),(by unfold L2.opened),(by unfold L2.closed),`vy `j,(by let#[a,h1,hB,rl]:=J.at e'),(by let#[rfl,O]:=s20.mp rl),(by have less:=qa0 c1 hB),`g p,lm0 ns d,(`BB e2 `p),(by let#[c1,c2]:=J.w.back),(gv δ).bind,(t70 d).bind,PN X i o go,ClsN X.K c F,`F (f∈F) Ab,(by let#[q1,q2]:=hc.ok C hC),`fr q,env.free,λζ=>by rw[ζ] at h ⊢;exact h,PTX X a gt,(`BB hq `bl),(`BB hq `dY),List.filterMap_cons_some,[`h5, "_law_small"],λζ=>Y4 (yp0 ζ),(ob `aw9),[`vU, `Kn],[`c0, `mB],[`c0, `JY],.rcd c ps,c∈`Ko,S1.begun,vm0 w u,[`rB,`vV,`Kp],`aR `jk,l.take,(`awt),λζ ξ=>O8 (by rw[ζ,ξ]),yn0 0 `cl,[`vW],`ag `j,Nat.min_eq_left,[`Kq,`aw',`aw!,.un],Res.nx,List.map_singleton,`o2=S,(`aw?),λζ=>∀(b u:`i) (δ:Ds),ζ,(`aR (N0 b u)::δ),λζ=>`Q #[rfl,ζ],`bp≠60,[`bT,`r8,`c!,.un],(by unfold DL.liftT),(`bK `bhG),(`ej S `vY),`Kr=`axa,S1.wait.length<100000,[`e5,s1,`_d],`JK α,λζ=>λx hx=>ζ x `bhs,`g4<60,{ S with spelled:=w,names:=`_e },`bs[`axb]?=`c nm,(`aq (n%128)),n<`Ks,List.flatMap_cons,λζ ξ=>o5 (δ':=ζ) `ma ξ,`z [_,`jj],Pn.put,(`y (kb B)),(by by_cases h:`g'),nW ps B W d,`R S,Runs.one,(`ej S2 c),λζ ξ=>∃c,`d4 S ζ (ξ:RS).ends,`hY<90000,ws.count `ck,(by have hf:`jl:=`BZ),l.modify k f,`Q hj,`ag hj,(by injection h with h1 h2),w.cps.toList.length,I.tnd,I.tin,(`B_ `_f),(by let#[c,_,rfl]:=`gi),Ft n w d,bg[k]?=`f',lim kd,w≠`g8,(`axd),vm0 (t::(`Kt)) (k::us),okr m r l,wj0 h2 `j,List.take_append_drop,(by intro S k u ws p pre I hn hB hL hu hk hp h0 he hw),(`aT `bhH),λζ=>.two `bb1 ζ,`az=`Kg,fin (st ?_),Gw S l E t,q<=`_,`ZR q,λζ ξ=>p50 (δ':=ζ) ξ,a'.length,`kN `mf `i? (.ow `i?),Bt.zq0,λζ ξ=>`I' (te0 ζ (ri0 ξ)),pn0.nd,(b7 `aF v9),λζ ξ=>Y6 ζ (Z6 ξ v9),"_law_value","_law_part",y70.nd,PWD.pt,
"give",λζ ξ χ=>FnT P w K mg `au `aM ζ ξ `oo t8 χ,λζ ξ=>`ax ζ `oo (o4 ξ),"goes_on","takes_head",`axe P,"takes_part","hold","takes_known_name","names_here",λζ ξ χ=>FnT `bE w K mg `au `aM ζ ξ `oo t8 χ,λζ=>ζ (ps:=`oo) `re,(`kO),λζ=>by let#[t,rfl]:=ζ,(`vN),Vis `rD x,`bo x px,`g N,`T f,λζ ξ=>`F (ζ=ξ::`mq) Aa,σ[i]?,ps.getD,(.row []),(`jn),`o4 `mq,`T x,Hp->VK->Prop,y90 n `dt δ,`g c1,"value",`bX+1,(`mR),xs[i]?,λζ=>RpL K H B ζ a,"text","table",standAt,λζ=>RpG K H B ζ a,DecidableEq,(`axn),(U3 S),getMethod,S7 (z00 ?_),λζ=>SqL K H ζ xs,r1.same,`_o _,link `bp,`Zi x=`mm,(`ow).trans,sysModules,by rw[Y0],`g (N/4),"item",fs.lookup,λζ ξ χ=>`lH `cD X.w X.K `cm `fe ζ k ξ fd ps χ,s.heap.IsList,`bo y px,λ_=>`bW,(S7 ?_),"_law_web_here",behindInMarks,`e' `d,(`awp),`dn a,`g 36,Z2 [b],nodes S,`fB [b],Pt.rcd,(nd L),s2.trans,"some","_law_e",ps.zip,`c `kw,(`B3),(oA gA f),λζ=>λ_ _ _ _=>ζ,`c `Kl,(`T fa),λζ ξ=>IsZ ζ z TI TO a ξ,"told",nameS.cps.toList,.sh (`o6),.sh (`mu),Z1 `a' `o8,2 ^ 2600,`g!++`hZ,"_law_size",λζ=>ox0 X `s ζ b,`z ys,List.zip,nm.map,(st:Int),(k+1+n),λζ ξ=>{ ζ with spelled:=ξ },by apply `mQ;lia,(`v3),(`kR),(`fI),(`vq),(`jm),λζ=>ζ b o e n hb hx,I1.kept,`mO hq,`V->`i3,λζ=>by rw[← ζ],`c `b?,r.same,sos.length,(`axh),λζ=>`ao (ζ+`aEs+`aEt<30),λa z=>z.1,its.size,`T r::XC.bmV,λ_ _ z=>z,(`sa rx),λζ ξ=>by let#[a,as,sos,at']:=ζ ξ,env.atN,cs.length,.sh (`Bv),.sh (`_C),`z (`B'),D5.mpr,(2*`vv+1),rel π p,w::`aV,λζ ξ=>ns5 ps B ζ ξ s4,tgs ds,"dict",H b=`o3,I.base.free,Sem `B,sIx `gk 0 lo,(`B1),`af DL.D,λi H2 g2 hi=>?_,isL d=`m,kv.1=k,λζ=>putK kvs k ζ,(`h6 `h0 ([]:`J).toArray),(`Kw),`aR b',E5.mpr,(`B7 `aQ),t.cps.toList,tgs `axr,`o (`i! λq=>`B?),typeOf,fs.length,`c o',k b u q,`_j=`ay,λζ=>B4 (B8 `CU ζ),I.ok.above,setItem,sp vs H Q E,r.append,(`_m),(xs++ys),(`co id),callerA,BindsTo,cl.lookup,`axg x,`c (.frz o `kw),λζ ξ=>∀(cdv:`B) (A:`cf) (outer:`bOA) (s:`u) (H:Hp) (E:XK),`bOB->ζ ξ `R7 G,`bo Tn p2,
(`n hx),(`T I),hG.above,A.frames,X.hand,`T ea,L2.closed,us.take,(`_w),l.filterMap,`o7 - 1,`bj ((`_F : Str)=Y5 `g8),(`KB S `vj),(`c 2),ok.few,count_tail,λζ=>{ S with length:=ζ },its (`sg),`va `KF `KG,`L rfl h,(next S1),.sh (`Cc),ys.take k++[o],[`JG, "row", `JH, `Ba],(W7 `a0 v9),"WebError","ValueError",#[hh,gg,dd,tt,oo],λζ=>∀x c,`sS->c≠ζ,isTrue,"__setattr__",Value.str,X.env.scope.kind,λζ ξ=>O1 (i:=ζ) ξ hv hd hcd,λζ=>λvs H1 s1 r1=>ζ,`c (`_n),λζ ξ χ=>rk0 ζ P w K mg `au ξ `je `rU χ cdv A `da s H E,λζ=>λv H' s' r'=>ζ,SeqAt.RcNeAt,(`r?),.Constant,(`o5),J.w.opAt f1 f2,J.w.hd,(gc (`t `JB)),(plN `axm),(`g 255),w.take,pool.getD,Want.name,4*`vq+`fI,`g0 c,λζ ξ=>(ζ).resolve_left ξ,ix T s,[`Bh,`kR],Want.value,((`r3).map f),`i! `eE,`g0 q.1,(`c `axs),.ex c n _,(`v4),`t `r' tk,(`axf),λζ=>`c (`c (`T ζ)),xs.map,its.toList,`Kv H,`g (i+j),(i - j),`ao (x=y),Str.empty,`a8 H s',getAttr,(`Zz),`cj `m,I1.laid,(`fC N vs),(`T sl),j60 xs lo hi,xs[j]?,[`oN],a::b::r,s₁.heap.get?,(K w.params).In,`v_ y,env.cells.lookup,ForInStep.yield,ge δ',SqT' K H B a xs,v=`a?,`Kx ns xs,(SlR K H B),k H' s,λζ ξ=>ζ `ae `ac δ `s s σ H D I ξ,`w `B4 `f (H1 b),`mF `fE,(O7 n `dt gi f gt ge),λζ ξ=>`yZ (tw0 (N:=N) ζ) ξ,`g7 ?_,rr.length,λvs H2 s2 r2=>?_,dj0 i δ,`_+`cq<=`W,valueAt,ks.map kV,(`l e `mP),dd.typeIs,λb z=>?_,(`vR),λζ ξ=>ζ X.K `ae `ac δ ξ,xs[k1]?,ys[i]?,Bool.or_false,(`h7 `r!),λζ=>`F (ζ ≠`azC) Ab,Prod.fst,(t,HO.tup `B5)::zf0 as `axj,`z [x,y],(Gr.fresh hp),Q () `kE,·.setIfInBounds,y.length,(`_u),dx≠e,H dx=`f,`B6 X.K `gf c=`u!,(`bo x p0),en.same.trans,wf0 dk,OpenOk,`c so.ho,λζ ξ=>`t3 λds=>ζ λr=>(r.1,ξ),λz=>h (`fG),"append",rw0 nk,w.opAt,(vs++[]),ns++[`rp],(`fH),rv.mono,`_x (`_y),(`jd H3 `eJ),nm++[f],(`c `J7),(`sb (λ_=>(⟨⟩:`a1))),(L,`_z (`axl))::zf0 as' `axj,λζ=>o2 `a42 ζ py0,(gc (`_A)),(plN `aww),λζ=>{ S with digits:=ζ },`c `d_,b.length,λc=>[c],`cx `d0,.sh (`vd),.sh `JL,`mH (z/4%4),`_B+`b9*`Kz,`mk Pt.d,
λζ=>[`Kq,`aw',`aw!,.ow ζ],`g `_D,`cJ++[`_E],`g `se,(tz0 p S _),(`sd),(Z9 rfl),(`aU rfl `kP),(`KC),U3 S k,`hT `kQ,[`gW],[`ec],(`y `jp),.sh (`_H ps).d,(`q s),`mk λp=>(p.1,lkv π p.2),(`sd).begun,λ(k:Nat)=>`dV,λζ ξ=>po0 p S _ ζ ws hw ξ,B'.length,(`sf J).2,(n2+f),(nT T `gc),Km.pak ps 0,λζ=>Aft S S1 k ζ,λζ=>Inv `bz B ζ S1,T.begun,`R _,(`z `axq),[(`h9 ae)],λζ ξ=>EndBX G ζ j p ξ,λζ=>.ex `e3 `bQa ζ,(`c `cl),(`_J),λζ ξ=>ζ `a' []=`c (ξ,R S),deq xs[c] ys[c],`jq k,(`o'),(.ow b'),λζ=>j70 (δ':=ζ) ?_,`kN w `i? s,`_K rfl rfl,(`_L:`i),(`cq:Int)+1,"is_new","number_bytes","sign_bytes",(Z6 `Cd v9),"_law_cell_at","_law_values",[`axt],λζ ξ χ=>IniC ζ w K mg `au ξ χ 1,λζ ξ χ=>FnD P w K mg `au ζ 2 ξ χ,"made_part",[`B0, "held"],"sign_of","is_left",λζ ξ=>`akR `bg! ζ=`cj (`Kf ξ),λζ=>#[f,fd,o,`bOI,F9.kp,`bOJ λ_ _ _ _ _ _ us h=>ζ],(h.trans hl),λζ=>by cases ζ<;>rfl,λζ=>(by with_reducible apply `aHO;rw[ζ]),(`ds hi).1,`_k `bL,r x y H Q,(k,x)::r,∃t,u=`_l i t,λζ ξ=>ζ `s s2 ξ H2 _ I2 q2,(eqU x),`B2 s'.gens,target,λζ=>by subst O;exact ζ,`l `_p hi,λζ=>λp H' hp s' r'=>ζ,(ty0 h1).elim,u=`rH,kvs.map,#[a,rfl,hb,r],Pd.impI,λζ=>D8 hz rfl (x:=ζ) rfl ?_,PySem.Str,g.objs.size,List.range',I.closed c,(λa=>`w (a=p) `f (H a)),en'.same,sos.set k so',q2 f hf,`os=`c ns,(`BJ `ae `ac q.2),(gv 8),(`eI `jo),λζ=>o2 ζ `cE eqD,(oA `dZ V5),(`BK `oU),(gc (`g 5)),λζ=>o2 ζ `iz t60,λζ=>o2 `ap ζ ixD,λζ=>o2 `NZ ζ eqD,λζ=>o2 `aA ζ eqD,(zh0 0 `sc),(z/(`b9+1)+`B9),(by apply `v2;lia),(`ek (2<=`W)),(`axo).flatten,`g `B!,[`bT,`e5,`h8],[lkd 0],pw `aJ,λζ ξ=>o5 ζ (o5 ξ rfl),`cn `aJ,(oA (z7 `kG `Ca) M8),(`Cb `g?),(o2 `ap `oU m9),λζ=>zm0 ζ `iz q80,λζ=>Y9 6 `aM t8 v8 ζ,`c (`o9),λζ ξ=>by rw[ζ,ξ,`X];lia,λζ ξ χ=>t00 (S:=ζ) (ds:=[]) rfl rfl (ξ χ),b_list,λζ=>J4 0 ζ hr `r,(U4 `jr),λζ=>J4 6 ζ hr `r,λζ=>X4 (rt0 0 ζ `rm),λζ=>n6 nl0 qk0 ζ v9,`aH α,bmV.contains `kS=b,(by (apply `bhI)),(`A4 t'),beq_iff_eq.mp,beq_self_eq_true,
(`BS (C4 hC ?_)),(`o!),`Q `r,#[rfl,?_],1<vs.size,`oW->`rZ,`c cd,`t `cK tk,λζ=>by rw[ζ];decide,A0 `KH,dx≠x,`h_ `_M,y.cls=`vC,(`AT P W),(`t x t),us.length,by simp at e,L2.SubO,H b=`bf,`ou=`fH,o.dict=`f,λζ ξ χ=>H ζ=`c (.frz ξ (.own χ)),∃o,`ha,∀b xs,`_N->`axu,∀b u,`_O,`c ob,Un.kept,base.Ns `gf mg,`g5=`M::`sh,λζ=>∀b o,`aJh->ζ,I.ok.bs b o e,A6 _ hb,(O b o e hx),(`KI `Ce),(by let#[sl,e1]:=`KI `Cf),(by let#[e,n,ne,nf,d]:=`Cg),I.step,s.drawn,(`js),λζ=>λb o _ _ hc e _=>ζ,λb u e=>?_,∀b u,`axv,N.Nodup,`ZM hiσ,compareOp,λζ=>λx H1=>∃c,`bP2/\ζ,λζ ξ=>thn ζ λv s1 h1=>thn h1 ξ,c=`d,(by intro wh pins s σ H Q I h),Array.length_toList,(`Zt (`c e) pos),(by intro pins s σ H vs us Q I r h),It->`i3,λζ ξ=>Turn P w K tg ζ [it] it (λi h=>ξ),p.isList,`gm [a] [`_Q],λζ=>(by let#[vs,H1,I1,r1,q1]:=ζ),λζ ξ=>`bht/\W i ζ ξ H',r xs H Q,Int->Int->V,Operator,(tOp r ta tb),0<j/\`axw,λζ ξ=>ζ (Q6 I q (C7 not ξ)),(by rcases q with q|q),W.hasDictIn K C=`d,[(f,v)],`ag hk,(by exact`bhJ),H a=`oR,`axx=`hb,`vT K `e!=`d,`Q q,A.depth,`axy us,λζ=>`Eb ζ x1 pos,(`Kf us),#[us,[]],Meth X.K C m f,`_R (`o4 `Y4),λζ=>i9 (pl:=pl) (thn `lA ζ) ht,(`bK `bhK),sc.names,Str->`aH NameKind,λζ ξ=>ζ `yF `bQx m ξ=_,N.length,(`n h),`hc `axz,List.getElem?_take_of_lt,λζ=>`a__=`c #[oc,od,`cC ζ,osl],`v6=`c `kS,ws.toArray,`w (v<0) (v+`cl).toNat (min v.toNat n),(`aq `axA),s.heap.IsSliceOf sl vl vu `aj,`Ch vl lo,`Ch vu hi,eq_of_beq,λζ=>λx lo hi H Q=>ζ,Subscript_,(by intro pins s σ H x v vl vu lo hi sl Q I rx hs pl pu h),`l J hw,r1.append r2,`aH Nat,`c j,`Q h1,`ag h1,`ag h0,subscripted,`JP p,(by let#[its,r,pl,hz]:=`v7),(by let#[its,r,pl,hz]:=`KK),(`aT `bhL),xs.all tm0=`d,(by rcases hq with hq|hq),λζ ξ=>ζ `O? ξ `bQy `bQz,(by rw[`bhM,`bhN]),λζ ξ χ=>∃p ys,`EQ/\(ζ∨ξ)/\χ,(by let#[u,rfl,rx]:=`_U),(by simp only[`b5]<;>lia),`cq<=`W,xs.reverse,H l=`Kg,Builtin.List.listTooLong,(by let#[u,rfl,ru]:=rv.one),l.most=`v4,`gh<=n,#[t,rfl],`Cj `d,`aw4 `je,(X8 st),
λζ ξ χ=>`lH P w K mg `au CX0 ζ f fd ξ χ,hr.units,`c1 H1 H2,(`hR h' `vc),v=`c9,Nat->Nat->`KL,`KM hs3,Y.extBut,λζ=>by have:=ζ;subst O;exact `E,`c `o?,(`el i `v8),`aH Sl,(`y `aI),u5 G1 G2 δ,`az=`eK,`az=`bI,`Bz=`KN,xs.getD,(A3 z),g _ _ n h,.dK `Ck,by apply `Cl;exact h,(by let#[a,xs,e,q,r]:=h),by unfold Rp;rfl,by conv=>lhs;unfold Rp,#[x,rfl,h1],(by let#[y,t,rfl,h1,h2]:=h),(by cases d<;>try exact `kT),`KO s,by apply `_V;exact h,`_W n,`hX=`KP,(RpG.toO rfl h),od=`r?,SlR K H B o s,h.same,(`aT `bhO),f ds=`a9,∀σ H Q,t' σ H Q->`sj,`g7 `KQ,`F (mw0 b) Ah,λζ ξ=>#[ζ,en,e1,λv H1 s1 r1=>ξ],FnR X.K r f,λζ ξ χ=>ζ ξ hg hm hv χ hn hdb he hpl,`c1 `ae H,λζ ξ χ=>λD σ H=>∃r,ζ/\`bOQ/\ξ χ `ae `ac D r,PSD X st G,l70 (i:=i) hN hi hx hf,(`aT `bhP),λζ ξ=>ζ X `aKv (ξ G1 G2),(`aT `bhQ),PTD X c gt,λζ ξ=>ζ X `bcI (ξ gt Ga Gb),(by exact`bhR),(by let#[x,t,rfl,r1,r2]:=r),`dp - `fE,(by rw[`bhS]),`jt hlt,(`aT `bhT),k H `v9,(`ZG s2),rp.same,`BX H vs,(by split at h<;>cases h),(`bK `bhU),λK d=>by cases d<;>kernel_rfl,Rp X.K H B d x,(by cases `bhV),(`o (xs++zs)),p2.isList,λζ=>js0 (g':=ζ) `bPD,λζ=>(by let#[a,xs,rfl,q,r]:=ζ),`KR [e].length,(by let#[fa,fd,F,hm,kp,hb]:=C),(wf0 d).bind,ow0 ds,xy0 xs ys,`v'=r,List.nodup_append,(kvs.any `_X),(`mS),Rd H a `_Y,(by cases `bhW),(w8 hu),(jv0 `bR eb),(`_Z).isSome_eq,h _ `sk,PE X o td,keys.length,(by let#[b,e,O,r]:=h),(by rcases `Cm with⟨rfl,_,_⟩|⟨_,h⟩),#[_,hi],#[_,h],(by rcases z with z|rfl),(by rcases `Cm with⟨rfl,_,_⟩|⟨n1,h1⟩),(by rcases `Cn with⟨rfl,_,_⟩|⟨n2,h2⟩),`L rfl n3,#[v,e,`dq (`ju `KS)],(by exact`bhX),(by let#[B',c1,c2,J]:=en.frz),λζ=>(by simp only[`p,ζ] at hq),`ag hf,[`Jo],λζ=>`aRy/\`aRz/\`bn/\ζ,`KR ([e]:`bM).length,"extend",λζ ξ=>rp0 ζ hs `s s σ H D I ξ,Rps X.K H B ds xs,V6 X s H B' m e y w,Bool.true_xor,dxs.length,Int.zero_add,λζ ξ=>λd=>match d with|ζ=>ξ|_=>`v,[`eH],(`bx `__),`cj `f,(hT 0 _ st),`c `_0,(λ_=>⟨⟩),by simp[hh],(`KT:Int) - 1,Heap.size_push,
(`axC r2),(va0 rr).2 hl,xi0 pr.1 q,(`bA `bhY),(by cases e<;>simp[`c8] at he<;>simp only[Q9,V1,Y0,R4] at ru<;>subst ru<;>rfl),`v! `aB TI `_1 `_2,`axD i1 l1 k1,`axD i2 l2 k2,(∀c o,c≠z->`axE),A0 (`_3),`a! (`Co `g9) s,`axF S,λζ ξ=>ζ λo e=>hk _ o (B4 ξ) e,st.hl1,st.hl2,λζ=>B4 (B8 hb ζ),∃f0,IsZip `aB z TI TO f0,(`sb (`_4 `mT)),(`sb `axG),hl p hp,by simp[zf0] at h,`hX=(`y (xs.zip ys)),(`_5).symm,(by split at h<;>try cases h),λv H3 s3 r3=>?_,nd.keep,nd.slot,λc od H'=>∀C,c=`eB->`axH,`J_ (CXE `cD X.w) f sp,(`T Wc),`sl cn,`aH RX,.ex c n δ,(`KU),(λz=>by cases z),(`BF i o),(λd z=>nomatch z),`_6 h a o C od,findObj K C od f=`c (`cF v),y'::ys,"index",(by let#[ds,e2,e1]:=`cG),"setdefault",(gk δ).bind,(by cases o<;>exact λz=>nomatch z),`sm `v?,`Cq b _ q `h' `h',c.root,(`aT `bhZ),G δ=`eL,λd=>d,#[λb o n e=>hh b o n (s1 b o e),λb o xs n e=>s1.nf b o xs (hh.nf b o xs n e)],N7.mpr,by unfold RpN at h;unfold Rp;exact h,`_7=`d,by unfold Rp at h;unfold RpN;exact h,k<`KP,b∉as,PN X i e g,`sn `KW,λζ=>setN i k ζ δ,(by let#[d,e2,e1]:=`cG),(by let#[c,so,rfl,f1,f2,f4]:=`axK r1 e6 hnode),λζ ξ=>`UL (`yZ ζ (`aa ξ `R)),`_R (`Jw),(by let#[ns,e3,e1]:=e1),(by let#[#[n0,rest],w0,e0]:=J9 e1),(by let#[#[c',fs,ds],w1,e1]:=J9 e0),p20 w0,(by cases `bh_),(by try dsimp only at e1),(`KX `KY e3),en.setN,(`Kj rfl),(by exact`bh0),`jf es=`d,decide_eq_true_iff,(by let#[c1,c2]:=w.back),(R7 `kU),λζ ξ χ=>#[`a?,ζ,a,`bP,`bOK,a,dx,fs,rfl,ξ,χ,a,`bP,c1,?_],`hc hk',(by by_cases hb:b∈`mo),(by rcases `dL hb with q|q),(`o (es++[dp])),trs ds,`_8 ns ps,k9 (A3 ec),`rv (PX `rx elt gx),`af (D×D),λζ=>.mk λH₀ B₀ δ=>ζ `l_,`fD op rr,Op2 X.K rr f,c.other,(`axL),U b hb,`o `_c,(L6.mp z),`_9 `vH,q40 ds,List.filterMap_cons_none,ym0 its l u c,(Y4 `c5),(`Cb `jv),(`pa `_' `c5),λζ ξ=>ob (o2 ζ ξ ltD),(zw0 (ob `axM)),(b8 `cL (o2 `axN `axO ixD)),(M7 (oA `Ca wa0)),(Z5 (u60 1 (oA `dZ wa0))),(ob (`Cr `aQ)),(Z5 (w00 1 (o2 `jw (o2 `aQ `jw m7) m8))),(b8 `cL (`so `jw)),[`B0],[`B0, `_i],
λζ ξ=>Z7 (t80 0 `aM ζ ξ),["held"],.text _,J0.cps.toList.getD,D->`wa,`e8=`c (d,δ'),o6 h1 h2,[s0,`vV,`Kp],(`KZ:Int),`c `ks,10 ^ 60,Vk v m,d9 (U0 `fv),`bG h1,λζ ξ=>Q4 (by rw[ζ,ξ]),`pb ?_,`bk sep,[`rS,`_!,`hP],`Q `j,`em=8,(`aT `bh1),Gw.ff0,(`cx cl),z/52%3,[.un,.un],λζ ξ=>show ζ by simp[`ch,ξ],np=13∨np=53,`cx re0,(`_? .un .un),[`axP,`hP,`c!,`K_,`Cs,`K0,.sh (`K1)],λζ ξ=>wg0 (`aU rfl ζ) ξ,V9 rfl ?_,λζ=>`c (`jN (ζ))=_,λζ ξ=>zh0 0 ζ `bq=`c (ξ),List.dropLast_concat,λζ ξ=>(by rw[ζ,`p,ξ,`p,yt0,`p,wq0,`p]),`K2 `c?,(by show `bh2),(by show `bh3),`z [`mv,K4 (`bp+5)],`gY<=1000,(j7 0),[.sh (`mU),`c!],(`aaa `axo),λζ=>`oi::`eR::`eR::`eR::ζ::_,n<=(`aab),(by show `bh4),(by show `bh5),λζ ξ=>j8 (X6 (z70 ζ ξ)),[`axQ,`i4,`ve],λζ ξ=>m5 (Z9 (δ':=ζ) ?_) ξ,[`bT,`rs],`g (`vM+b),(`aT `axR),[`bT,`eF,`aac],`Ct z70 (tr0 S),yy0 `h!=_,`cy hm,Nat.pow_succ,sub_len',`aae=`d,K8 `jx=_,[.sh (`mU),`Cu `jy],S7 (z00 rfl),b<`g4,(n/128),(`aq (r/128)),(by have z:`oK 100000:=`av),D->Prop,.sh p.d,.sh (Pt.row vs).d,List.take_length,`aJ<=20,(`y `h?),ix l a,(`axS),k∈ks,ix ks k,by injection e,`w `mV (bs `axT) (bs `K3++sg s),(`Jt `jz `Ju),(`n `b9),kb_mem B j,`bG `ia,`jA<=100000,[`Cv,`axU],nh0 _ `pc,(by show `bh6),λζ ξ=>V9 rfl (o5 (δ':=ζ) `HX ξ),Bw.cr0,(`aaf `pd),λζ=>[a,b,c,.ow ζ,e,`Cv],(`K4),`vZ `kM,hq.vals,trs l=`d,(`aq (N%128)),Bw.fold z,(D9.mp z).2,(`axW z),(`aag),c∈yh0,(by simp only[`ab,`ca,`ib,`kV]),[`bT,`r8,`rs,.un],h.resolve_left,`q (`fG),`Kr=`kW,(by rename_i B T j ds B1 B' T1 T' b1 b),(by rcases `dL z with z|z),(∀d∈ds,`sp),hw.len,(by let#[N,hN]:=h.pre),λζ ξ=>`af? ζ (m:=`PP) λy hy=>`lh ξ,h d A8,Km.m60,`fI≠0,`L rfl ht,λζ=>by show ζ<=30;rw[`P];lia,(by show `bh7),I.held,`Cw<30,λζ ξ=>∃S1,`d4 S (ζ) `aeH/\ξ,(K0 I.wc),(`axX).begun,`bY+1,(by rcases `dL hq with z|z),Pq N q t,(D9.mp h).2,hf n h,`ci=`K5,Pq N q [],G.held,(a++c),okr m 0 l,`Cx j,`fJ<25,pk0 `axY,(by rw[he,`Y,`X] at this),ix L j,`Cy<=20,lh0 xs,(by have h:`bh8:=h),K22.jw0,
`K6 W `wb,K22.fz0,#[h',g,d,t',os],[`mj,`g n tk],PX X a gx,(qp0 `e3 `aah),(y20 (X3 (`dN `dZ Z1))),tx0 ?_,`Cz `wc,λζ ξ=>T7 0 (z7 (U7 `ap ζ ξ) v8) T6,`CA l,`w `wd `v `aai,(`_g rfl rfl),.sh (`vg),`kN `mf `a' (.ow (R F)),.sh w,(ini 10),(ini 11),"folded","unfolded","is_whole",λζ ξ=>`ax ζ `ex (o4 ξ),(top 27),"pair_names",(G6 `sq),"is_byte","most_held","wanted_items","made_pairs",(Y6 `aF v9),(top 35),"pack","held_items","item_bytes","known_head","name_bytes","part_number","text_bytes",λζ ξ=>G6 (pv0 ζ hr `r ξ),(top 42),(v6 `oL u6),[`Kd],"unpacked","_law_names","_law_number",[`mi, `Ku],(top 54),"_law_word",(top 56),"_law_web",(top 57),(top 58),"_law_numbered","_law_led","_law_drawn","_law_byte",λζ ξ χ=>v6 v9 (v6 ζ (v6 ξ χ)),"_law_bent",[`Ke],"_law_refusal",[`BR, `aw3],"_law_given","_law_whole_at","_law_alike",[`BR, `gj, `_h, `r9],"_law_bad",PWX.pt,λζ=>wr0 ml0 o80 ζ zj0,[`c0, `Kd],[`c0, `AY],[`c0, `B0, `_i],[`c0, "behind"],λζ ξ=>∀{us:`bd},`Ql=ζ->ξ,fI_NoWay,fI_NoPack,λ_ _ _ _ _ _ us hl=>by let#[_,rfl]:=us1 hl;rfl,`AT prog w,`aH (D×D),h B δ,`ft `gX `M,(.nx δ'),`_o H,`o4 `u3,z50 `ayl,"NoText","NoPlace","NoValue","TooMany","NoMake","NoBase","NoRow","NoName",λζ ξ=>RpW ζ ξ B ns a as sos,`ft [e] `M,`cJ[k]?,`g 128,X.env.scope.names.lookup,X.env.cells.lookup,λζ=>`ae_ a [ζ] [b] pos,`cy hx,λζ=>RpN K H B as ζ v,`oK 1000,as[k]?,.sh `kQ,λζ=>Inv X `s σ' H' ζ,λζ=>`ay3 elt ζ `eG pos,sos[k]?,.Return,by simp;lia,λζ=>(`kz `kA (ζ)).all `aBp&&`aBq,(o2 `kG `BL eqD),λp=>(p.1,p.2++[d]),(Z6 `aF v9),`bV e `M,X.fn x=`d,λζ=>λx hx=>ζ x `bhs,`e×HO,δ'[j]?,`c (`Li),z.length,Gr.same,`bV `g_ `M,put S k d,"signs",b::`aV,`B->`K!,List.getElem?_set_self,`CH (2<=`W),`dt[k]?,"_law_order",`t _ _,xs.take,λ_ _ q=>q,`c `e!,W.emptyDict,λζ ξ=>ζ pos `s s σ H _ I ξ,`_x xs,`_9 `CF,Nat.min_self,X.body,(`J1),xs++[v],`fa (`CK `t),.sh (`CL),λn=>`g0 (`wn),`bk pre,100000 - n,pre.map,`o (`aaG),rel `hW (`CN),(q:Int),.UnaryOp,List.getElem?_eq_none,(`bid),`c `La,
en.all,(`Ky `t),.sh (`aaA),`bs++[w],wv0 S0 `bY `Ll (`hZ),Ta.rq0,"_law_cut","size",`bh9 b,I1.hok.fresh,Value.int,`ss `bL,.ow ds,Same.refl,rs.length,λζ ξ=>`i8 k (`acH (`awT `je ζ `U ξ cdv)),backToKw,(`bh?),rx.same,`K' b o e n hx,`sr x c e,sos++[`aav []],ks.zip,`k_ `u8,HO.lst,`g 60,z/1000,`g `Kz,(`eD:Int),(kd,[]),"root",pre.isPrefixOf,Pt.table,(`gd:Int),`g kk,Ta.lx0,[`aaI,`wr,`jn,`v,`t "a",`ayk],(`mW (`bx `K8) (.dict ⟨⟩)),H b=`jB,`rk=`bf->`vs=`bf,s1.toks,(`m,`aak),λζ=>`a_f pos f `iI ζ `bPK,P.zip vs,λb ob q=>`wg,vals1 r,(by unfold RpN at h ⊢),λζ=>`lP K H B as ζ so,λkv=>`ao (`Le),(`ax6),rel.val k,"list_reverseiterator",(`h6 `h0 ⟨⟩),(`T i1),(`T i2),A0 (D3 ?_),·.push,A3 `E,InstAt,vf0 ds,partsOf,ys.map,(`biz),.sh (`t S),λζ ξ=>[`axP,`hP,`c!,`K_,ζ,ξ,.un],λζ=>(ζ).flatten.length,`w (kd=0) 20 12,.sh `CM,λζ=>yu0 `cL SB `a9y ζ,left `bs `eD `mZ,λζ=>[`eP,ζ,`a!A,`axU,.un],sp++[b],(`biX),`g `axs,.tbl ps,`bV a `M,sIx `gk `gk hi,`aal - `K?,`mX `b0 n,NameKind.free,Rps.mono,`z `ax!,λζ ξ=>`EZ (`bo ζ p2) ξ [] pos2,(`bij),.ext (`CI e C `f),`n (`ayc),SubO.lst,at'.w.own,λζ=>ys0 `dy ζ 1 `V4 `b? `jk,(T7 1 v8 f),S1.count,`fB [c],`o `dv,[`ayf,`o q.2],(O4 q),(`id).zip,(`biV),nd `CO,(`su `gp),`g 256,"beginning","object",`cj `we,.cls cd,oe.dict,λζ=>#[_,ζ,rfl,_,rfl,rfl],.frz ob u,(.own x),λζ ξ=>by subst z;rw[ζ] at mu;exact ξ,`c (.frz o u),`CB x=`kX,b∈X.ex,assignEach,λζ ξ=>`F (`bP4 ζ ξ `M=`TS) Aa,(`mW (`bx `wf) (`mD ⟨`g lo t,`g hi u,`g 1 v⟩)),`c (`c `ax3),xs.dropLast,d.name,#[[u],[]],Sum Int Str,Rp.mono,(`ic).same s2,(q.mono g2).to,L2.atI,`Lf v,h70 `bR e,ey0 `bR e,λζ ξ=>ζ ξ s u w (deq d e),SeqAt.RcAt,xy0 ds es,(`bii),2 ^ 63,env::`da,λζ=>Lie ok ζ C od e,(`bik),`ax? b ps e,`c (`aat),λζ ξ=>XdX ζ `ae `ac H σ δ od ξ,XC.Tab,`bo c' pc,`bo y pc,us.drop,mkB n N j G b ds,r.2.2,λζ=>`xp ζ (i:=0) rfl,PartAt,r.1=`d,"pair",[`ge,`cF],`g4=60,left `bs `wm [],(`cn n).map,cg ((N+`dV)%36),nm.getD,z/4%21,(`hY:Int),Gw.o60,`su `ayd,Y5 `cF,
`g (`aq (36 ^ m)),`mH `m_,`t (`wn),.sh (`aaB),`z `aaC,2 ^ 2500,.sh (`g x),T++[s],.ow `KD,ok.held,`sf hj,h.gd p hp,λζ ξ χ=>FnB P w K mg `au ζ ξ `on 0 χ,(top 55),(top 60),`eB::tl,"object.__setattr__",fs.map `eE,("__debug__" : Str),λζ=>`aD `cI X.A ζ Q E s,`ax4 C `U,λζ ξ χ=>∀l,ζ l=`f->Q (`Ci) (upd ξ l χ),(`h6 `h0 `st),k==`aao,Rp K H' B d v,#[`Lc,λi H2 x H3 g2 y hi=>?_,`Lc],L2.start,`bo y p3,`aar `pe [e],c≠i1,c≠i2,"__length_hint__",`aar x2 `gX,"ValueError.__init__",.List [] lp,operate,`dk ks vs,q.2++[d],λζ=>`bP! - (ζ/4).toNat,(c:Int),`CK `aw_,L - `fJ,`o `aaD,(`biU),(o++`ayh),`g0 p.1,`o (nd (`Lm)),L.take,(`b_:`u).TypeIs,.head _,`ax_==`ax0 `ax1,λζ ξ=>ζ (g:=g) (d:=d) (t:=ξ) (os:=os),"ValueError.__new__",`e?::cs,`e' `m,findIn,h.Ns1 dx mA,∀f,RelO (`JZ f) (mA f),b=a∨`K9,`c (`aaj),`af L2.V,`KT<=`W,`_<=i,h.IsListIter,mA `cK,W.plainGet,xz0 f v fs,swapsWith,(`y (us++ds))=`aJ,(`bh!),I2.kIn,A.deeper,b∈([]:`aY),λζ=>A0 (m:=`aYa _) (M1 ζ J),(`bic),`kF `_ 0 lo,-`cl<=i,eqV y x,`g `ZF,`c (`mW `h0 `aan),`gn q,Params,N'[n+k]?,(`wh).join,`c `rL,λζ ξ=>∃m',m'<m/\W `fE m' ζ ξ,s2.toks,Nat×`Lb,`CD `kY `b?,`wi/\`bB,Rp K H' B' d v,q.mono g,`aap g r,λζ=>∀{l:`bd} {m:`tI},ζ,`oA `t,λζ=>∀(k:Nat) C dx fs,ζ->k=0,RpD K H B ns a,`c `v8,(`bie),(`bif),`go σ H,b2 a z,s.free,(b1 a z),λζ ξ=>`hf X.K ζ `ac H' σ' ξ,it.yld,(gN i),(o40 _),λζ=>(by let#[#[cls,dd,data,sl],ho,hc,n,hd]:=ζ),`g7 `wj,`jC H δ,λζ=>.bl (xor neg ζ),(`ax8)∨(`ax9),List.find?_cons,`big e,λz=>e (h1.trans z),(kV k),h _ ?_,e.at hi,(`c `kZ),∃(i:Nat) (d:D),`ax',λp=>`aaq,`B->Prop,wt0 ks q,(`bih),(`_t s1),List.forIn_cons,`JE=`f,acc.toList=`r!,(`fw `dO),`CG `aB 0,`h_ `Lg,N9 _ 1,u70 H l b,(A7 q),λζ=>λb ps q=>#[⟨⟩,by rw[ζ,q];simp],zf0 as ps,`c `Lh,λζ=>LieT ok ζ C od e,Obj.mapFields,(`_v),Gl X cn,`wk `aya,XC.c90,2 ^ 20,q.symm.trans,(vp0 l),(A3 z).symm,ds.drop,(`bio),ns.set,J.w.node,`n #[rfl,xs,`aau],(`bip),(`bis),(`bit),`c (`CJ,mk),[v1,`wl],at'.w.all,(`biu),(`biv),(`biw),
ev.same,(`bix),(ns++[`mR]),r.2.1.length<1000,(`biy),(`biL),S.begun.getD,b∈yh0,(`biR),`aax `aay,gv 2 δ,`g `_I,`g `Bq,λζ=>le0 (es:=ζ) rfl,(l5 _),`o (`awZ `aw_),`o (`awM `aye),λζ=>fv0 ζ `aS `aS n hn,(wd ws).reverse,`biS+3,(ob `Lk),Q5 `a' `o8,`aaz=`gd,words A k,(nj0 p S _),K4 (k+5),`fa (`ayg),λζ=>(`bPL ζ).flatMap two,`aaE vs,(`wo s:za0),(`bY:Int),`w `g' B `mn,`ek (`jA<=_),λζ ξ=>{ S with length:=`ep,spelled:=ζ,count:=ξ },`aaF<n,`bp=60,n1+n2+1,`Cw<=30,`wp::ws,S.part,λζ=>(by let#[w,wr,s1,s2,s3]:=stage p `axY (`bby) (`Aj hp) h0 pre ζ ds he),S1.ends,S2.ends,(`biW),(`oE::l),gN 2 `rj `CP,`z `aaH,`c `mf,`g `ayi,.ow `wq,wb0 `ayj,"_law_signs",[`rg, `ZJ],[`rG, `ie, `aaJ],c.look,(λ_ q=>q),(`ZS),X.env.globals,λζ=>∃σ' H',`yq/\ζ σ' H',(`bh'),.Compare,`g (`w k 1 0),RelO.some_of,λζ ξ=>tg0 I hg hm hv ζ hn ξ,(`ZV ha h),(`ax5==0&&`CC==1&&(`aam)==`gk)=`d,SqL X.K H p ys,SqT X.K H p ys,`CE s',(hi B δ),`l (Y b n) h,it.stop,λζ=>λcl s H ex pins s' σ H Q I #[B,δ,h]=>ζ,`ax7/\`Ld,λ_ z=>z,λ_ z=>`fG,Pd.setR,λj ds b h1 h2=>?_,λj k a ds es h1 h2 h3 h4=>?_,λj ds a h1 h2=>?_,λζ=>by first|exact ζ|rfl,Txt.startswith,s1 _ _ hx,D.l2i1,`l (J c `aas) q,setFlight,I.base.frzs,(`bil),λζ ξ=>λb xs e=>ζ b ξ `aZ!,λb ps e=>?_,λb u q=>?_,oth c _ z,(`bim),λζ ξ=>upd (upd ζ e `at?) dx ξ,λζ ξ=>it0 (v:=ζ) hg hm ξ hd,H p=`_a,(`bin),λζ=>λb hb=>`bQf id ζ,`v0 ?_,(`biq),(`bir),λζ ξ=>ph0 ζ `s s σ H De I ξ,K4 `gh,`c8 dk=`d,`Lj #[x9,U1],`aaw b q,`cr `mY .un,(`biA),(`biB),(`biC),(`biD),(`biE),(`biF),(`biG),λζ ξ=>O7 1 [] ζ `dy noT ξ,(`biH),(`biI),(`biJ),(`biK),(`biM),(`biN),(`biO),(`biP),λζ=>fnN 0 `xu ζ wd0,(`biQ),(gc `B8),[`fA,.ow `jk],z/300%`o7,Want.cls,`bG `c?,N/4<`se,Bt.uf0 _ _ `r,(`biT),[.sh X],`c8 `kQ=`d,(ds++W),r.app r',λζ ξ=>u40 (items:=ζ) ?_ ξ ?_,(X5 ?_),K22.sub_len,(`biY),(`biZ),(`bi_),(`bi0),(`bi1),[`bT,`m0,.un],[`m0,.ow `i?],(U4 v9),λζ=>tp0 nf0 ic0 `i5 c6 ζ,(ql0 v9 v9),[`Bx, `mi],(`bi2),(`bi3),(`bi4),(`bi5),λζ=>n6 pw0 ps0 ζ zj0,
`bx `aaK,Row h tl,List.contains_cons,typeLookup_eq,`C->`e1,isSubtype,λζ=>(ζ : Str)∈vq0,"getset_descriptor",c.hasT `dj,Builtin.«object.__getattribute__»,getAttrBy,λζ=>(by with_reducible apply ζ c hx hc),(`BS (C4 O ?_)),`Lo `kS=`aaL,X _ _ ho,`c #[`awu,_,`aaM,sl],sl.toList,(by rename_i dd cd sl ho),(by rename_i k0 k1 k2 k3 n k5 hs),(by simp only[`bg,`ws,Bool.not_eq_true'] at e),Ri h C tl f,`pg b=`ay,`f! e=`CQ,`aaN=od,[`mj,v],(by repeat apply `bi6),`aH Obj,clsIn K C,cd.hasDict,`c `U,isSubtype_type,`cj `d,(by let#[hh,gg,dd,tt,oo]:=s),(by have z1:`ayn `e! `vB := #[_,e,c]),(`ph a:Key),(`wo a:Key),(by injection e with e1 _),Paired.length,`aa r _,by simp at e;subst e;exact`ayo,#[u,`CR,h2],(`jq n),(`aaO `gl),λζ=>`p?/\∃(its:`J) (n:Nat),`yn/\ζ,H dx=`o3,`Lp<=1000,`wt/\`wu/\`ayp a,(`ayq),`wv o,∀a b,`ayr,`c (`aaP),`dO<=a,λζ ξ=>(ζ).stay (ξ) `aeV `aeW `xR,(x b u e).stay,Mut (H x),e=x∨H e=`c `aaQ,∃u,`g1 e=`bf,`c (.own y),`aaR r mu,`c (`ays),(by rcases hc with rfl|hc),∃sl,`vs=`c { o with slots:=sl },∃o',`vs=`Lq,∀b o u,H b=`aaS->H' b=`aaS,k b ob q,λb u q _ _ _=>`Lr,λb u q _ _ _=>#[u.slots,`Lr],λb u q _=>#[u,`Lr],(upd H x o),K.In `au,builtinsNs,Str->`C,`ayt∨`aaT,X.A.frames,b∉X.ex,`af (`eo),List.filterMap_cons,I.stkSub,(`aaU∨`pj<=b)/\`sv/\`ayu,`ww H' h',∀b o,`Ls->`sv,λb o e hx=>?_,λi x v e1 e2 e3=>?_,`a8 H `pk,k b o (λz=>hc (`ayv)) e,λ_ _ e=>e,σ'.length=`wx,λj y v' e1 e2 e3=>?_,`br `fb,(`CS b (`Lt `Lu)),#[u',r',?_],I.ok.has,(`CS b (`Lt (I.ok.cab x c U hc))),s'.os=s.os,V->`i3,Q vs H',(`bi7),(`bi8),#[v,H,I,r,h],wpAny_Name,λζ=>s40 I hg hm ζ hd,(by intro pins s σ H Q I hw),(`bi9),`F (∀whole,`ayw=(do let v ← whole;`JI e.pos;`oI [v] (truthy v))) Ad,(`bi'),(`bi!),(`bi?),(by let#[c,rfl,q1]:=q1),`c `v,r.inj r',(by let#[σ',H',I,q]:=h),(by exact`bja),`jD e `f `m1,(`CT e pos),λζ ξ=>thn ζ λv s1 #[x,H1,I1,r1,q1]=>ξ,`aaV es `M,(B4 `CU),PE X o to,(`bjb),(`oC),`JI pos,`oI `ayx (`Lv ov iv v),release `ayx [],`ayy [tg],`aaW [tg] e,
`F (`sw [tg]=[`ig tg `M]) Aa,(`bjc),`Kv H',λx c e z=>?_,λp hp z=>?_,Nat->`oV,tn i `aB,J.go i H,(`bjd),`a8 H' s2,J.yld i H x H',J.stop i H,λζ=>λi H x H'=>H'=H/\ζ,`g (lo+i),(by let#[o,e,c,d]:=st),(by exact`bje),(by let#[xs,x,hq,hx]:=hg),(by let#[u,hu,ru]:=rv.get hx),(`bjf),(by let#[o,e,c,d]:=id J),λζ=>λ_ _ _ _ _ st h=>ζ st h,I.turned,λb hb=>(`si).1,I1.list,(`h_ `aaX).objs.size,`br q,PI X tg iter wi,(`bjg),I7.unpinned,λζ ξ=>T.keep _ _ _ ζ λb hb o e=>ξ,(f v u),Int->Int->Prop,λζ=>∃i j,`aiQ/\y=`jj/\ζ,x=`bw,(`bjh),λζ=>∀(i j:Int) (t u:Tok) (s:`u) (Q:`as) (E:`as),ζ,0<=j/\j<=1000000/\i.natAbs<`CV,(`BW .Add),V->`C,L90 x y=`d,λζ ξ=>`ao (ζ i=ξ j)=(i==j),λi j=>`wy (i<j),λi j=>`ayz,λi j=>`wy (j<i),λi j=>`ayA,(by let#[u,rfl,t,rfl]:=`_U),`c od,ObjM `aB x dx C mA,(by let#[od,J,hl]:=I.look),`ayB K `e!=`d,`ayC=`aaY,`ayD=`d,(by rw[`bji]),`JZ f=`bQ,I.write,`bV e env,(`bjj),PE X `he tv,Around.under,Code.isFrame,H1 p=`f,(`bjk),∀vs H Q E,`Lw->`cz=`aJ,`ayE A,e.frames,H1 dx=`f,(by have r2:`bO `k0 `CW:=`Lx hd),(`bK `bjl),`vT K `bh,`i8 `ef X.A,`ayF::us,vs[i]?=`bQ,λ_=>`d,`vy `axz,`cM K cdv `je=`d,(`bjm),`fK X `kS r,#[_,J,rfl],(`bjn),Builtin.Slice.slicePlaces,λζ ξ=>A0 (D8 O J (x:=ζ) rfl ξ),(`Jl r1),(`e4 s3 (s3.heap.push (`mW (`bx "slice") (`mD ⟨vl,vu,`aj⟩)))),tail_any,λζ ξ=>#[`ml,_,`tT (t':=`cp) (o:=ζ) `a4w `bL ?_,rfl,ξ],q _ `Ly,IsTupN.new _ _,xs≠[],`z `Lz,λζ=>OpR X `aiU (ζ X.K),`Q h0,IxR X r,SqT K H p xs,(by intro value slice pins s σ H x y v u Q I rx ry h hs),(`Jl ry),(by let#[j,h1,h2,h3,h4,h5]:=dh0 he),C70.lookup,(`bjo),λζ ξ=>by rw[`b5,← ζ];exact ξ,Y2 `j,`sx lo hi `f n,(`bjp),(`bjq),(`bjr),(`bjs),tm0 x=`d,(`co `wz),(`ayG `v7),(`ayG `KK),`g1 `U,h'.push,`Lo `LA=`cj (`bx "method_descriptor"),MtR X id r,`wA `cK,(`bjt),(`y (e::es)),acc++its,(`bju),(by let#[z,its,n,r,hl,e]:=I.lstM hH),#[_,e,rfl],(`o `aaZ),OpenLaw,d.params.defaults=[],mg `aa_=`Kk,s₁.heap.Ns,`i8 k `LB,∀(s:`u) (u:`B),`LC s fd `aa0 [(x,u)],SqL K H a `CX,(λv _=>v=`jn),
H b≠`f,(`bjv),W.OpenLaw,λζ ξ χ=>`bQq _ ζ ξ _ _ _ χ _ _ _,x.cps[i]?,[`kJ],`LD y=`fu,x.2=`ky->∃c,`LD x.1=`fu,(n,k)::r,λ(n,k)=>`w `ayH (n,`CY) (n,k),`w ((`ayI&&`LE==`kX)=`d) `CY k,`Q hc,Nat->`e1,`wh=`oY,W i m ys H2,newList [],h₁.get? b=`ay,(x,`ky),(`m2).2.1,`ayJ `pl,`c (`ig `J7 `M),`af (`aa1),(`fL).bind,`c (.ct δ'),`c (.bk δ'),yu0 f G `b? δ,`i->`u6,λζ=>`cr (`Rp - ζ) .un,`c (`ayK),`bC (i=j),sIx `_ 0 lo,`wB=`CZ,by simp[hp],`fc=`eL,by unfold u5;rw[h],`Q h2,.dT `Ck,bindArgs,`bB->Rps K H' B' ds xs,xs++[x],by simp[c7],by rw[c7] at h;subst h;simp[c7],s _ _ e,(by let#[xs,e,l,r]:=h),RpNs.mono,by apply `_V;exact `aa2 g h,so=`c4,`dq g `KV,λζ=>p80 (λ_ _ r=>ζ) h.all,(by exact`bjw),(by let#[x,ns,e,r]:=h),∀o xs,H a≠`LF,(by rcases h with⟨d',q,r⟩|⟨ks,vs,q,ts,xs,q1,e,q2,r⟩|⟨x,ns,e,r⟩),`aE->Prop,XcR K H B c n a,m[i]?=`pm,l.set i a,λζ ξ=>#[`Gy ζ i `lb,`m4,ξ],(upd H p o),Rp K H B dx x,(`aa3).bad,fun σ H Q h=>d30 hf h,(`bA `bjx),k _ H' s (`C_ h V1),(by simp only[`p,`pn] at h),(by simp only[`p,`ag hl] at h),`n d8,(`ic).bad,fun σ H Q h=>Yp0 hf h,∀a,`oz->NB (`ae a),`ae p=`f,e.same.trans,λj hj=>?_,`F (`C0) Af,`hM s',Gr H₁ H B B,λζ=>PID X tg e (ζ g),(`bA `bjy),(by let#[a,xs,rfl,q,rs]:=r),(by exact`bjz),(by let#[x',e4,r']:=rs.get (i:=i) (d:=_) (B6 hi)),y xs `aa4,(by exact`bjA),(by exact`bjB),(by let#[B,b1,b2,en]:=e.ex),#[_,`Kj Iff.rfl],(`awA).mp w0,`ayL (tu0 h1).elim,`cA (∃B δ,`gq tDT X.K gt),`cA (∃B δ,`gq tD X.K ge),(`bjC),λζ ξ=>ζ hc hsc ξ hidx hi hg ht he hs,`LG PSsD `ayM,`hf K H B H `ayN `Bd,(by let#[a,xs,rfl,hq,_]:=r),`cm `vP=`f,`hg `vP,`ft [`LH] `M,(`bjD),`Kj `JW,λζ ξ χ=>k90 ζ (fo0 (C:=ξ) (g':=χ) `alN) ha hb,x=`Ci,J.toArray,eqS dx dy,`aa5 xs i,SqL K H p ys,SqT K H p ys,`n `gr,`q `gr,PD X o g,(`bA `bjE),λζ=>∃(fa:`e) (fd:`fY),ζ/\`aoa,(`wC).bind,(rs0 s),(`po).bind,ta0 ks ds q,R6 gt G n δ',`rV xs n,`e6 x 50=`d/\`e6 y 50=`d,#[hl,?_],cutD xs lo hi,(`A4 (`cp+knd.draws k)),(k6 ..),entryOfKey,λζ=>`bQg ζ ho hd `al9,
λ_ _=>rfl,(by let#[y,hy,rfl]:=`dH hx),(by let#[h1,h2]:=h),Option.isSome_map,Rd H a `La,upd H a (.dK (`aa6)),(by rcases g with⟨kvs,k,e,ey,l⟩|⟨kvs,k,b,e,ey,eb,l⟩),(`ayO `aa7),dd.mapOf,(by let#[z,hd,xs,rel,dd]:=`aa8),DGet H a y o,∃q,`g1 a=`f',`af (Key×`B),(by have hl:`ayP<=`W:=`cN (q90 kvs k v)),let #[q,_,_,hq,_]:=J;`ayQ,PE X i ty,λζ=>λpins s σ H Q I h=>ζ,(`bjF),λkv=>(kV kv.1,kv.2),RpG.mono,λζ ξ=>`b! (λ(o':`eo) (s:Sl)=>SlR K ζ ξ o' s∨`bOL) σ δ,`n `m3,(`aT `bjH),(by rcases `ji e2 with⟨rfl,e3,_⟩|⟨J,e3⟩),`m4 b z,en.same.nf,en.same.free hp,(`aT `bjI),DL.fz d,`n `ayR,(λo h=>h),(by apply `C1 d `c8),`hh `b5 `b5,its.toArray.isEmpty,(by let#[a,J,hb,xs,hx,rx]:=`pp),`n #[rfl,xs,`n `LI],rx.length,(by let#[B,b1,b2,env,rv]:=en.ex),`aaV `ayS `M,(`bjJ),by unfold deq;simp,λj=>`awB,by unfold xy0;simp,List.all_map,`ea y w,`aa9 `wD A,v1.length,v2.length,λζ ξ=>ζ (e:=`amO) p p' hu ξ,`aa' A s _ _ (`aa!),(by have s1:`jE=`bX:=by rw[`b5,← v.length,`cb]),(by have s2:`bjK:=`bjL),λζ ξ=>ζ (e:=`amO) p p' `bPA hu ξ,`mL+n<`oy,(by let#[a,xs,rfl,q1,r1]:=rx),k7.mp hn.symm,`gs `pq `m5 hz,(`aa3).same s3,(`ds h).1,trees ds,tree d=`d,`Q ht,∀i s,St i s->`r7 `LJ `__,(by unfold Builtin.List.listExtendWith),(by unfold Builtin.List.listLengthHint),`kI (`C2 e),its.reverse,(`bjN),(`h_ _).objs.size,`mw `e2=`ayT,`cm `e2=`f,`hg `e2,λ_=>?_,(`ZW).map `ayU,(by let#[x,r',rfl,h1,h2]:=r),DGet.k hp,DGet.t hp hb,pr.1.length,`cO (`dk (`n (`ayV)) `aa?),(`kB).mut,ds.all `c8,(A3 h).symm,`Km h' `d,`v! h' `U x y,(`bjO),(`bjP),λζ ξ=>ζ _ _ c3 (`EX _ _ c1 ξ),#[_,hz,rfl],(`hR h tk),N3 hlo.1 L.z,d4 k8 _,`LK a ha,(by let#[f0,hI]:=hI),"tuple.__new__",#[[`fH,`ro],[]],List.nodup_cons,(by rcases `C3 with rfl|h),`br h2,zf0 as (xs.zip ys),k b o hc e,H t=`f,(by simp only[`pr,`C4,`C5] at hc),(by let#[#[old,he],h1]:=st),(s1.mono g2).to,`aba - 1,Tbk ok h e v,`LL=`c (`abb),`C6 `au (`abb),env.frame=`c L,∀b,`U<=b->ok b,`sy ok (`ayX) `aB h',(`bjR),`abc `aB,`dP M `abd,
λζ=>λh' nd le=>h h' ζ le,nd.there,`rl=`f,FpW X `s H b,z.2.2.2.1,dp0 X `s H `aB C od e,(by let#[J,q]:=`abe),(by let#[e,n,r]:=`Cg),I1.free,(`CS b (up b o e)),strLen_append,`cm cn,`c (`c (`co "type.__getattribute__")),RawAt.stay,[`mj,`eH],H e=`abf,(`bjS),`abg K n,(`aT `bjT),mg x=`Kk/\`vT K `Kl=`d/\`BY,`sl c,(cl _ `fM),x6.mp hc,`abh K mg `e? r cs rs,`abh X.K `cm `e? r cs rs,`ft [`abi] `M,(by let#[C2,a2]:=`ayY),(`bx Tn),`ft [`abj] `M,∀d,s≠`vn,(`bjU),.ex c m,(by let#[_,_,_,_,_,z]:=q),`LM (X.A.mark (`c (`LN))),(by let#[#[h1,h2],h3]:=e),∃C,`jF/\ErrG K C `c3,#[tk,rfl],List.range'_succ,x=`gU,`bH a=`ay,of_decide_eq_true,#[ds,env,e2,`ayZ],`mS=`f,X00 K=`d,(by rcases (all _ (vp0 lc)).1 with z|z),H c=`o3,#[_,e],`LO H a sub c,SubO.no_tup,λζ ξ=>(by obtain⟨_,all⟩:(`aZO)/\∀p∈ζ,`bPm:=ξ),λζ=>fun σ H=>∃sub,`uk/\ζ σ `ul,(by let#[σ',H',I,sub,c,k]:=h),(by exact`bjV),`LP j++`gU::`abk j,`BX H us,RpG K H B b p,`sz=`C7,RpG K H' B b' p,List.getElem?_cons_succ,(.rt r δ'),∀p,EndB G `m6 j p r b',(by let#[B',c1,c2,J,rv]:=ev.ex),`abl=`C7,`c (`aR b),f bm.1 ds,(by let#[a,J,hB,ro]:=`pp),λζ ξ=>(by have O:`bPn:=`x' hi J ζ (h2 H' B q.2 ξ)),(`bjW),by unfold RpN at h;exact h,by unfold RpN;exact h,(`KV),λz=>h (`q z),(`k1).bind,λk=>`jG,`sm `os,(`bA `bjX),λζ=>(by let#[k',c,so,rfl,f1,f2,f3,f4]:=ζ),(`KX `KY e5),`_t s2,λζ=>`U4 b1 b2 env ζ at' f1 f2 nk `a3j (d:=`v) (v:=`v) `pY,`aw e1,(unL p.2).bind,`c (c,f,e),tl0 `C8 `abm f,(unL ns).bind,(i10 p.1).bind,PD X `he gv,`jD `he (`c (`ay1)) `m1,λζ ξ=>PSD X `bP5 (ζ i c f ξ),(by let#[dv,e2,e1]:=e1),(by let#[so,Y,nk]:=`abn J.w.all),`g (n1+n2),(R7 `axI),D80.mpr,J.w.backS,sos[0]?=`oR,nv0 hfl h1 a5,λζ ξ=>kk v H' (`xY ζ b1 b2 ξ rv),`dq g l,t∉as,k=`hX,(`ay2 `LQ),a4 b hb n,by rw[vj0],λζ ξ=>PS X ζ (λD σ H=>∃H₀ B₀ δ dp δ',`bOC/\qr0 i ξ dp δ=`CZ/\`bOD),tc0 ns d,`ay3 elt `ay4 `eG lpos,`cA (∃B δ,`gq tDT X.K noT),(`bjZ),(`C9 hB s2),λζ ξ=>#[λx o n e=>ζ,λx o xs n e=>ξ],(`pf `ay5),`CE s1,λd=>(d,r.2),
List.any_eq_true,`ih `wE (`w `abp (Ga r.2) (Gb r.2)),PTX X c gt,(`bK `bj_),λζ=>PTX X `qd (X3 ζ),(by rw[e4,`k2,`p] at e1),λζ=>λb o e1 e2=>ζ b o e1 (no b e2),a5 b hb n,`t c',(`bj0),`aar `hU `wF,λζ ξ χ=>`bP? (ζ).1 (ξ).2.1 (χ).2.2,`sx lo hi st `_,`LR `ay6,(`bj1),(`bj2),"abcdefghijklmnopqrstuvwxyz 0123456789",(`bj3),(`bj4),(`bj5),(`bj6),[`AX, "items", `abq],mkN 1 v90 vc0,(`bj7),(`bj8),(`bj9),mkF 1 rz0 rg0,(`bj'),(`bj!),(`bj?),[`AY, "out", "rest"],mkN 1 xa0 yz0,(`bka),mkN 1 xj0 wx0,(`bkb),mkF 1 w50 w60,(`bkc),mkN 1 v80 v00,(`bkd),(`bke),(`bkf),(`bkg),(`bkh),(`bki),(`bkj),(`bkk),(`bkl),λζ=>Z7 (db0 0 `aM ζ `c5),λζ=>Z7 (h80 0 `aM ζ `vp),(`bkm),(`bkn),(`bko),(`bkp),(Y4 `aQ),(`bkq),(`bkr),(`bks),(`wG:Int),`ao (0<=i),Pt->`i,.rcd _ ps,c40 v=`d,PsOk ps,(`k3 n `abr),(a,b)::`h2 r,b/2=0∨b/2 > 8∨`abs∨`abt=`m,b∉T3∨`aae=`m,`sB+1=`eD,`bs++[`vj],S.length > 0,S.letter b,λζ ξ=>{ S with wait:=ζ,un:=ξ },`c `ay7,`q `c3,`q `ay8,`q `ay9,`c (`A6),k<1000000,(Z9 `fv),(`ay'+3*k*k),`Q h3,[`mu,`my],(`bkt),(`ay!),c∈Zc0.cps.toList,[`kL,.sh `u7],λj=>`o',`bU h0,`bG h0,λζ=>Y8 rfl λp=>#[`uC,m5 `bOY ζ,rfl],`bU q0,`bG q0,(λv hv=>by cases hv),by simp[hl],λζ=>(ζ : Str).cps.toList,`abu at',[`rB,`c!,`_!,`hP],uf0 _ _ `j,`cn 13,(`rQ).take (`w (35<k) 2 1),`sC s=`d,`fB [`abv],λζ ξ χ=>o6 (x:=ζ) (y:=ξ χ) rfl rfl,cg0 _ `j `j,o5 ?_ rfl,app _ _ ?_,λζ=>X80 _ _ `j `j `j `j ζ,Yt0 _ `j `j,`dL hc,by split<;>lia,λζ ξ=>[`i4,`c!,`N4,ζ,ξ,.un,.un,.un,.un],(`B9+3),λk=>`ay?,List.range_succ,(t:Int),λζ=>J _ (λs0=>ix s0 ζ _ q rfl) `j `j,`c (r,δ'),`abw `fN "",PoolB np `bz,(`aq (ix j)),(`aza hp),im0 P (ix j) `j (`cN (J j)),by rw[e],(by show `bku),(`m7 `rB `c!),(`abx).toNat,λζ ξ=>λp=>#[ζ,head p _ _ (J p _ _ _ ξ),rfl],z/156%(`LS),`g `o7,(`bkv),Nat.min_eq_right `j,`aJ<=60,pool.length,[`mu,`g `r0],10 ^ 30+57,List.map_drop,λζ=>`oi::`arT::`bPM::`aeh::ζ,`g `aby,(`y `wH),`g4<=1000,(`J!).set,`abz _ _,λζ=>(ζ).reverse.map `Bw,λζ=>t80 0 `aM ζ g `bq,(`abA)[k]?=_,
[`bT,`fA],`c `CM,`K2 gi0,`o (`vX),List.count_cons_self,{ vu0 S with un:=u },`bp::`a5,[`bT,`r8,s2,s3],(`y (wd w)),[`mv,`i6],[.sh (`m8),`c!],`g (`aab),List.reverse_append,List.map_reverse,`hY<=10000,(o50 _),`ci=`cF::ws,T5 `a' [`Jp],(by rw[`bkw]),(by show `bkx),`ao (n=0),`Kr=`hi,λζ ξ=>i30 S ζ ws hw b p _ _ ξ,(by rw[`LT,`bj ((`JB : Str)=`abB),qj0,qj0]),(by rcases hv with rfl|rfl<;>rfl),trs q.2=`d,(A6 _ z),`bky a,[s0,s1,s2,.sh (`abC),`abD],.sh (`azb),`vo - `azc,[.sh (`abE),`oS,`C'],`ao (`A_=L),`_G n,w::`azd `em,`sB<`eD,[`aR (R `LU),`e5,`Bg],`bD [`hK,`aze],s60 b _ _ d50 `r,S9 `a' `wI,λζ ξ=>by show ζ<=ξ;apply `mQ;lia,(`y `vj),`sx (`c 0) `f `LV n,`sx (`c 1) `f `LV n,codes (`C!),(kd,`dv),[.sh (`m8),`abF],(by let#[q,_,rfl]:=`gi),λζ=>#[[.sh (ζ)],rfl,rfl,rfl],λζ ξ χ=>by unfold G5;rw[show ob `Zw ζ=`bI from `c2,show ob `aw9 ξ=χ from `c2];rfl,`gp (2,`dv),`gp (3,`dv),[`bT,.un],.sh (`abG),`c (`C?),vy0 `j `m9 `v,`rC->∃k u q,`hj/\`hk/\`wJ/\`A7 ∉O4 q,K6 `jx=_,(by rw[`bkz]),(by show `bkA),(`axb),(`aq (2*b)),(by show `bkB),o.length,z.natAbs<`abH,`vv<=`W,(`y `fO),(`vq:Int),`fr hm,(`y `azf),L6.mpr rfl,(`bkC),idx_map,`jz∈B,`vZ `gc,(`jA:Int),`g `wK,(`aaf `h8),(`aaf `abI),`c `azg,`bD `wL,`w `mV T `abJ,.ow `KE,[a,b,c,`abK,e,`Cv],(o++`sD),`oK 16000000,λζ=>`W3 (da0 ζ rfl),(`axV),.ow `azh,`azi `h3,d6.mp hq,#[c+1,?_],{ S1 with digits:=`k4 },#[`Da,`LW,`abL,ok.wait,ok.names],(by rcases `cy z with z|z),List.count_append,`g4<=60,`LX hf,s30 th rfl,sp.length,(`ej `sE c),(`axc),(`LY `ep),`cr `cP `hl++ws,`sF∨`Db,pj0 hn hj,(by rename_i B T j ds B' T' b),λh hd=>`azj,eb0 (hd _ A8),`aw `jH,(by let#[n,h1,h2]:=`azj),(`bA `bkD),(by rw[`azk,`ca,← h2 f W]),(`bkE),(`abM).2,Pk ps [0] [] (`LZ) L T b1,h.range,λζ=>i60 ps pre d `aV ζ,(by rcases hh with⟨a,b⟩|⟨a,b⟩),λζ ξ=>∀{l:`i},(∀d∈l,ζ)->ξ,(`L_).drop `fJ,w.cps.toList.map,I.okS W,`bY::`a5,`cy hk,(`_f).begun,`cJ≠[],λζ ξ χ=>∀k q,ζ->k∉ ξ->Pq χ q [],λh=>`L0,m `a' ds,(`azl).flatten,Fts.pairs,
(by let#[n,dn,hk,hn,e,f]:=p),`vM+`dJ%128,λζ ξ=>r<=m/\if `z2 then okr m (r+1) ζ else ξ,E.begun,qs.flatMap two,`Dc q hq,by show (`y (`Z6 _))<30;rw[`P];lia,λζ ξ=>(by let#[S',r',D']:=ih S1 k u ws p (pre++ζ) I1 hn hB ξ `bOF `bOG hp h0 `atl `bOH),(by let#[M,hM]:=hL),#[M,hM],W.wb.len,S2.begun,B1.length,S2.begun.length,qs.length,(by let#[q,hq,rfl]:=`gi),by simp[nob] at h1,q40 `Kb,`o (nd B),`K7++W,(by let#[n,h1,h2]:=ih hn hB `Dd),.sh (`axZ),(`bkI),(`awX),gm0 e2 e4,(k60 f),(`az).map,(`bkJ),(`bkK),(`bkL),(`bkM),uz0 G1 G2 δ,z20 G1 G2 δ,(`bkN),[`aR (R `L1),s1,`eF],n<=`_,(`eI gh),(`abN).ok,Bt.d7 ?_,wn0 [`vO,`A6]=`c `azn,c/8/`cl,#[byt _ λb O=>?_,?_,λok=>?_],(by rcases `dL O with z|z),`n (`azo b z),λζ=>o5 `bd6 (o5 `bP1 ζ),G `wM=`sG,[`sH,`m0,J],λζ=>.tk hb ht hl hc hk ζ,[`sH,`m0,`azp,.un],(by show `bkP),(by rw[`bkQ,e]),[.sh x,`h8,.un],Int.toNat,`g `sI,Alk xs ys c,[`sH,`ja,`L2,`jI,`jI],`kN `u4 `i? s,(`sJ `k5 `rM .un),`L3++ys.drop k,(`bkR),(top 14),(top 15),(top 16),(top 26),(`bkS),(`bkT),(top 29),(top 30),(top 31),(top 32),(top 33),(top 34),(`bkU),λζ ξ=>`I' (m90 ζ (lt0 ξ)),(top 38),[`jJ, `JY, `kx, `Kn],PDF.pd,λζ=>`au_ (li0 `x? `bfM ζ),(l90 1),(top 39),(top 40),λζ=>J1 ζ hr `r `bQr,C_number_bytes,(top 41),(top 43),X90 K mg "KINDS" `L4,(top 44),(top 45),(`bkW),(top 46),(top 47),M_Reader,(top 49),(top 50),[`azq, `azr],(top 51),(z8 8),(top 52),(top 53),`abO `De 1 Q7,(`bkX),o4 `abP,[`oP, `azs],(Z6 `L5 v9),λζ=>xo0 (W2 ζ) `bQs,(top 59),o4 `abQ,(o9 4 `wN),(v6 `jr u6),[`h5, `azt],(top 61),[`gj, `h5],(top 62),(`bkZ),(top 63),`abh K mg `L6 rr `wO `azu,(top 64),(top 65),[`gj, `azv],(top 66),(top 67),`pt P `wP X7,(o9 5 `pu),"Reader.__init__",(`bk0),(`bk1),"Reader.give","Reader.whole","Reader.open_parts","Reader.taken","Reader.web","Reader.takes",(`bk2),"Reader.takes_digit","Reader.goes_on","Reader.takes_head",(`bk3),"Reader.takes_part","Reader.hold","Reader.end_parts","Reader.takes_sign","Reader.takes_name_number","Reader.takes_known_name","Reader.names_here",
"Reader.takes_letter",`B6 K `gf x=`Df,`azw spD,`azx FnD,`azw spN,`azx FnN,λζ ξ χ=>FnB `bE w K mg `au ζ ξ `on 0 χ,λζ=>ζ (ps:=`on) `Y0,`e×Obj,(x==`abU)=`m,(v5 p `a'),(x==`awC)=`m,EP X `s σ Q,zg0 n `dt σ,(apos.endLine==cpos.line)=`d,upd H a o,`rI k,j8 `bmS,`br h,`B6 K `gf c,`Mb i hN,Loc `rD y,X.A.units,S.wait.count `ck,d9 `bmR,`cx `P,x ≠`azC,`bo y py,S.un.reverse.map,λζ=>CompOk sc `eG ζ N' n `dt,(y==`abU)=`m,`aw `wU,`bx "type",`el i (`vn),(z10 0 `m' `jM),`z [q.1,q.2],`hO×`azB,`ab_->`sM,hW _ _ _ _,deq (`azG) (`azH),("__classdict__" : Str),λζ=>AtN K ζ B σ δ i a ns as sos,(`bmc),.sh `azP,`T r::bmV,by rw[V1],λζ=>tDG ζ idx f B d δ v σ H Q,λa=>B a∨a=p,pool.map,(`azN).map,S.wait.reverse.map,(zs m).map,(by rw[typeLookup_type,`bk4]),(a::`ZK),(by rw[`bhy]),(`aq (N/128)),λζ=>by let#[B',T',b,h]:=ih B ζ hm hn hB J,envOfC,relabel `eG `M,`af Keyword,as.map V.ref,.ext (`CI e C `Mh),sos++[`aav xs],S.names.map,λn=>`abE,[`mp,`gg],λζ=>by rcases ζ with rfl|rfl<;>decide,(`bmQ),"_law_piece",λζ=>`cQ x ζ (U5 st) `R7 `rU `aj kV doc pm an cdv ct,`bx `L7,`br e,λζ=>`aiE (t':=`cp) ζ f0 f1 f3 f4 f5,`c (.ow d0),(o2 `kG `v1 eqD),`mH `r0,.sh (`g f),`gn hw,`ii S1,`azQ - b,`l `ca he,`az1 _,λζ=>FnT ζ w K mg `au `aM `Jf 1 `HP t8 V8,`bx `azy,env.kindOf,by rw[R4],PySem.Env,(us.zip ws),I.base.tups,as'.map V.ref,(`bmM),`t (`bk w),`cr n [`Mr,`cF],λc=>`aaA,[`mp,`C?],(`i').vals,(`m!:Int),"_law_part_here",H' b=`jB,`rl=`bf->`vs=`bf,j<1073741824,`pv K `bh f,λζ=>`aH! (`co `aH? #[`eB::ζ,kw]),(`bla),sIx n 0 lo,(`blc),λζ=>by let#[p,xs,rfl,_,hp,hl,rr]:=ζ,s.heap.IsListIter,`ab4->`ab5->`dn c=`ay->`azI,λζ=>ZLow z TI TO i1 i2 l1 l2 ζ,(·.pop),nw0 X σ H' C od,(ho.go B δ),λζ=>#[d,a,ns,as,sos,env,ζ,at',`afy],J.w.nodeK,rj0 i `JD δ,(`bl2),(`bl5),(`bl6),`aR (`rI `KA),`aR (R `wV),j8 `bm2,`Mu `C3 λz=>e `sQ,(`azU),.sh `KD,`cx `Y,λζ=>by let#[l,hl,hm]:=i5.mp ζ,`hT (`DA),(W.ok p hp),`o `My,`ax0 `Dg,Value.builtin,"object.__getattribute__",`L9 b,(`co `abS),W.instObj,
(`aq `K?),.dT kvs,`pw=`sN,-(`CV)<i/\i<`CV,-(`CV)<j/\j<`CV,`azE/\`jL,[p.1,p.2],I.base.tbls,XC.Cl h C tl,h.own b hb,`n (`Mk),λp=>`jN p.2,λw=>`BO,`t (`rE q.1),o.map `g,`vZ `oG,(`gY:Int),[`m0,.un],`g 1000,bT_Reader,isNs_of_in,(`L8:`u).TypeIs,#[_,rfl,r],λζ=>∃vs,`qE/\h.DictOf `Di ζ vs,`bk6 `Di,`Dj->G a b,.frz ob u',`CB x=`mm,(`ax2)/\∀p∈`vK,p.1≠b,by simp[z],`L' e `M whole,[v,ov,iv],λζ=>`F (`a0y ζ e `m1 `M=`MR) Aa,`wy (i<=j),`wy (j<=i),W.isFn,`pv K `bh `L!,W.makesIn K C,λζ=>Env0 P w K mg `au ζ `da s H,`fw `jK,λζ=>by let#[its,r',pl,hz]:=ζ,(`blf),`abZ&&env.scope.kind==`sK,λζ=>`F (`acD ζ `NU `aCh `M=`agV) Aa,`g (i%j),λζ=>λi j a ds es h1 _ _ _=>ζ,(`Me CX0 N fa).nox,(`ab1 N vs),λζ=>by let#[z,hd,vs,rel,dd]:=ζ,(`y `aa6),#[q,hq],#[z,q],[`azF,`ab2],`c `Do,λp=>`w (p.1=q) v p.2,wt0 pr.1 q,`c `bly,(`abb).filterMap (·.frame),T.all c hc,`Mc ?_,(`bk7),(`blI),`gt `g_ f pos',(`mo).zip,.ListComp,[`blN],λv H' ev=>?_,(xs[·]?),(.rt d δ'),"cells","small",c%2147483647,`oA `bZ,`bk (`Dt),λζ=>by let#[j,hj,rfl]:=`dH ζ,`o (`acc),(`fJ:Int),λζ=>`a9N λn=>`ao (`A_=ζ)&&`asj,`t `Ds,`Mt::`jp,(`ao (`Dx)),(`blr),(`fO).map,ih h `Dd,`bc (n+1+f=(n+f)+1),`cr n [`Mr,`Mx],λv H1 ev=>?_,(`o (`az4 `g)),(sub a).1,.ex `e3 `MB,"_law_number_here","_law_many","_law_start","_law_there",[`Y9, `Y', `Y!, `Y?, `Za, `Zb, `Zc, `Zd],"_law_more",λζ=>`lH P9 w9 K mg b9 CX0 n f fd ps (ζ K m),λζ=>ζ P9 w9 K mg b9 x n ps m,"BaseException",(`ax4 C dx),PySem.Within,`e×`B,"__name__",`ft `wF `M,`b4=`px,`bo x p2,ds.getD j `v,es.getD j `v,`g1 c=`ay,.JoinedStr,.FormattedValue,SubO.ins,B a/\a≠p,`cn `bp,`g `acb,(`azO),`g4 - 1,(`Dw:Int),((sg s).map `g),(`aq `Ms),2*`acf,`bm9+2,`aJ - `bY,`wY+51*(`azW)<=M,(l++[d]),S1.spelled,O.length,(`jp).map,λζ=>by show `l4=ζ;rw[hw];rfl,λp=>(p.1,p.2++[`DA]),(`acj j).map,(zs m').map,gc `bl1,lookupAlong,onTheHeap,λζ=>`f! C=`c (`bOR nm q C N bs tl hdct sn sub ab col dd k0 k1 k2 k3 k5 ζ),`c (`co n),`Dh==`abR,nsOkIn K cd.ns,`eB::`awG,`c `azz,`azA mA (`abT),
TabOk H h a (qOf ps),W.methodObj,j4 (hm b _ q `Dk),`bk8 b,s.heap.IsCell c v,λζ=>#[ζ,`w6,`K',`ahF,`axk,`afm,`ax?],z.sameBut hs (cne y c e),`pi=`mX its n,k it `aS o e,I.list_inj,s.heap.IsTuple a `b0,Nat->`k6,(`bk9),`abV (f `wQ (`g j u)),`g (i/j),`g (i ^ `jz),`t (i++j),W.lookIn `cK od,`bk' K C,(`Dl).push (`abW),c00 `bR e,xz0 f y fs,`gt o f pos',λζ=>upd (upd ζ dx `aaQ) x `a4c,cellsFrom,λζ=>rk0 CX P w K mg `au N `je `eG f ζ A `da s H E,`c `LA,sIx n n hi,(`r2+`m_*1).toNat,(items.toList.drop (`K?)).take (`aam),"__getitem__",`kF `_ `_ hi,λζ=>(ζ (`acL)).take (`aAH - `acL),(i+n).toNat,ixN `_ i,(1:Int) > 0,`bR p _ hk,`cr k xs,`c `abY,λζ=>`p' ζ `LB (`lv `Kl `aO2) `bPN `eT,λζ=>ζ q loose XP YP `aOW d [] `bP6,H b=`ay->H' b=`ay,`v_ y.1=`mm,N'.length,Str×NameKind,s2.heap.push `Lg,(`m2).2.2.2.2.1,PG `rx tg g,PF `rx ifs tt,PE `rx elt te,(·.length),sep.length,`ar δ2,Rd H a `kw,`wR (dOb ks xs)/\dLn ks=`_/\`bB,`Zo=`kK,λζ=>∀(k:Nat) a,`aA4->ζ[k]?=`kK,`sL->`b! G l m,`Zs=`oR,.frz ob `kw,by rw[V1] at r;exact r,`b4=`Md,(`blk),Hh b=H1 b,λζ=>`amy b o xs (s1.nf b o xs ζ),RpO K H' `wS d p,B a∨a=L,(`blo),(`blp),`Mf (q v H' s' r'),`jE+J.toArray.size,ds.dropLast,`c8 x=`d,`c (`o `Lz),`sO (i*j),atKey xs k,`c `_Y,(·.isSome),`kz `kA (`azD),(λx=>!x.1),(`_r `kA `_s).all (λx=>x.1.isSome),λj k b ds es h1 h2 h3 h4=>?_,(`blu),Bool.and_false,`Mg A s _ _ `d,λζ=>λl hl=>k _ _ `bhl (ζ hb hl rr),λζ=>λl hl=>k l _ (`s5 hl) (`oD `bhl) #[_,d8,ζ (Gr.fresh hl)],(ds.zip es).map,λζ=>WalksS prog w ζ I fp wr G n P St,s'.heap.get?,`c `blw,`h_ `_0,(`h9 (`ab3)),`kz pos2 (`mq),(`ZH),h'.IsListIter,Builtin.SmallTypes.ownedTupleIsFree `g9,Builtin.SmallTypes.nextOf,List.Pairwise.nil,h1.IsList,λo e=>hk _ o e,`l (J b `aas) q,(`h9 (`ab7)),(`h6 `fH ⟨u,w⟩),(`blB),{ cls:=`bx "traceback",dict:=`f,data:=`mD ar },D6 _ hT (i7 (X2 J _)),(`co `ab8),∀h:`D,X.K.In h->`aya,`dw->`oQ,`c (`Dr),(`blF),t D σ H,tl.contains,`i7 (`Bl),E `bh od H',`bR a _ hH,`fw r::XC.bmV,
λζ ξ=>#[o.mod,o.kind,o.glob,o.blt,o.above,o.inj,o.has,o.cab,ζ,ξ,o.stk,o.exf,o.bs,o.bsz,o.noex,o.exfs,o.funs,o.frf],`t f tk,ys.findIdx?,λy=>`ao (y=z),(`C9 hb hh),`azL C dx fs,(f b.1 ds).map,#[v,_,I'.opened o,r,k],`jt `j,λζ=>ζ `cD X.w X.K `cm `fe c m k ps F f,[ke,`ab9],H a=`blL,at'.w.ins,(`blK),λζ=>fun σ H R=>∃B δ,tDI ζ B δ gi σ H R,ev.s.grow,λζ=>by rw[ζ];apply `l1;rw[`bl],xz0 f v (nm.zip xs),(`blO),spos.line,h1.push `_0,`aa5 ys i,λζ=>∀o i,`RM ζ `m o i=`bQt,(`blQ),"_law_pool","_law_step","_law_first",(o2 `wT `ap eqD),(`bmJ),f (`ab!) ds,λζ=>cm0 k h0 ζ cs hc sm m `bz,parts.map,(`bmU),(`bmV),`Mp (k%7),(`blR),`Mq (ix j) "",Gd p m `bz,List.take_of_length_le,List.drop_of_length_le,(`o (`ab?)),(`bmW),`t (Y5 v),λ(p:`e9)=>`jN p.2,`ao (a=b),`aca N,n*128<=323,(`bm0),[`e5,s1,s2],`t `Du,(`aq (36 ^ (`acd))),i4.mpr,y4.mpr,`bs++[`rA],(s80 p S _),ym0 xs (`c 0) `f `LV,(`bm3),`Dv[k+5]?,.ow `bm4,(`bm5),(`bm6),λy=>eqF y `kQ,`mH `k4,`g `azR,`o `azS,(`vv:Int),`g `azT,`d1 (tx p),(ib0 _ _).mpr,(`bm7),(`bm8),(`Mv:Int),(`wW:Int),(`azV),bs (4*(4*cnt `oH+`pz)+3)++tx `oH,`wX `acg (`pd),`aK `vN `gg rfl,st ps `acg `k8 T (`fO++W) (`pd),hw.it p hp,`ek `azX,λζ=>λa ha b hb e=>by rw[`fr hb] at e;exact ζ (e▸ha),trs `azY,`azZ++[b],(N/4%4).toNat,V7 `a' `wI,`ZB hd,hb ps [] [] (lkd 0),`hN∈its (`CN),λp=>`ach,pw `az_,`sR (`h2 (`Dz)),List.drop_drop,Km.pp0 `h3 (cc0 π),λs=>`hV,`bs++[`hV],(`B_ `sd),(`rR).begun,(b%128:Nat),`Bi k `az2,`d2 `aaC,L.map λk=>`Z8,`fd nob,ixD X (`wr),.sh `bm?,.sh (`Ln),`az3 `DB,`jC H' (`cO (bm.2 b')),`aR (R S1),M5 `a' [],`o (es.map `g),m'.length,(`ij:Int),zs m++[0],.ex `e3 `MD,`c (`m,δ'),(`y (ys.take k)),λζ=>FnI ζ w K mg `au `aM 1 `dh P0,λζ=>FnTX ζ w K mg `au `aM `I! 7 `YU t8 zr0,λζ=>FnTX ζ w K mg `au `aM `jJ 3 `dh t8 M5,[`e3, `u5],λζ=>FnE ζ w K mg `au `YL 1 `YK y00,λζ=>FnB ζ w K mg `au `YN 8 `YM 0 T6,l9 _ `dj,(`bk5),I.mod.glob.keeps I.bk,Array.toList,I.unwish,letOwnedTupleGo,(sb.2 b hb).trans,I1.fpOk,`ao (x=`v),xz0 f v r,
∃t,u=`L? x t,(`bk!),(`bk?),hc `s s1 σ H1 vs us Q I1 r1 q1,(`blb),`abX H H `Lh,`Ma==`sK,`Dm==`kX,(`blg),(`blh),(`bli),λζ=>`s4 j k ζ ds es h1 h2 h3 h4,`v0 #[y,`ic,e2,`Dn],s.trans,(`blj),(`oD `gu),`l `pq hl,λζ=>Q8 ζ zv0 `s s σ H D I `aEU,(`bll),k _ H' s' `ab0,λi ds a h1 h2=>?_,(`blm),(`bln),λζ=>ζ cl s _ ex B δ `s s' σ H Q I h,`pw=`sG,(`blq),λζ=>`eM cdv A `da s H E hr H B ζ,λζ=>λi j a J es h1 _ _ _=>ζ,Txt.slice,rel.length,([]:`awV).length,(`w ([]:`awV).isEmpty 0 1),(`bls),(`blt),λζ=>λd e x y u w h1 h2 h3 h4 h5 h6=>ζ,v'.length,(`blv),(`blx),by apply `Dp;exact hz,"list.extend.loop",`k7 `hU,specialOf,(`Dq `ab6),ys[j]?=`ee,as[j]?=`kK,λζ=>by let#[_,e,_]:=ζ;exact `fx,(`blz),(`blA),(`blC),λb o e n hx=>?_,(`blD),(`blE),[`bo `c0 p3,`azJ [`Mi `Mj j p4,`azK (`bo `c3 p5) (-1) `f p6] p7],h1.go,(`blG),#[_,en,e1,`sP #[r,en',e,k]],(CXE P w),(`blH),#[_,en,e1,k],(`eM cdv A `da s H E hr).go,(λa=>`azM),λH' B' b' r'=>r'.toL,J.w.opAt `Ml Y,(`blJ),rj0 i `hS δ,`go σ' H',(`blM),(`pf λH' J=>?_),[`blP],(`blS),`t `ay8,(`blT),(`blU),(`blV),(`blW),(`blX),(`blY),`g 48271,(`blZ),(`bl_),`t `ay9,(`bl0),(`bl3),(`bl4),(`bl7),(`bl8),(`bl9),(`bl'),(W0 `dZ),(`bl!),(`bl?),(`bma),(`bmb),(`bmd),(`bme),(`bmf),(`bmg),(`bmh),(`bmi),(`bmj),(`bmk),(`bml),(`bmm),(`bmn),(um0 `m),(`bmo),(`bmp),(`bmq),(c80 `L4),(`bmr),(`bms),(`bmt),(`bmu),(`bmv),(`bmw),(`bmx),(`bmy),(`bmz),(`bmA),(`bmB),(`bmC),(`bmD),(`bmE),(`bmF),(`bmG),(`bmH),(z7 `Mm v8),(`bmI),(`bmK),(`bmL),(`bmN),(`bmO),(z7 `Mn v8),(`bmP),(gc `Mo),λζ=>vk0 (p:=p) (b:=`awe) rfl rfl ζ,(`bmT),(`bmX),(`bmY),(`bmZ),(`hT `v),`g (`vM),(`bm_),(`bm1),yr0 `m `kQ (`ace),`jA - 1,o20 T s,(by rw[`bm']),ix0 rfl B,(by rw[`bm!]),`bD `Mw,`w `g' W (`Dy++W),λf W=>?_,#[z,rfl],`az0 `h3,(`h?).map,q00 hw `r,D'.inv,.sh (`aci),(`bna),(`Mz).zip,(`bnb),(`i! λq=>`MA).zip,(`bnc),(`bnd),(`bne),(`bnf),(`bng),(`bnh),(`bni),(`bnj),(`bnk),(`bnl),(`bnm),(`bnn),(`bno),(`bnp),(`bnq),(`az5),(`bnr),(`bns),(`bnt),(`bnu),(`bnv),(`bnw),(`bnx),(`bny),(`bnz),`c (`MC),
`bnA=1,(Ze0 hE),(`bnB),(`bnC),(b7 `a0 v9),C_Reader_taken,(`bnD),C__law_cell_at,(`bnE),(W7 `dX v9),C_Reader_whole,(`bnF),fun δ d h=>mc0 h,α->`aH β,o.bind f=`du,∃a,o=`kK/\f a=`du,#[a,rfl,h],"__getattr__",`J->Prop,λζ ξ=>`c { cls:=ζ,dict:=dd,data:=ξ,slots:=sl },Row h (`abR),`az6 bmV n=`cj y,lookupAlong_cons,wpAny_mroOf_exc,(by let#[nm,q,N,bs,O,sn,sub,ab,U,dd,k0,k1,k2,k3,k5,J,hC]:=`wZ),`ack `bh "type",#[_,hC,rfl],`cj (`c (`w_)),.tail _ (`acl),`m? `bh `b_,(`bnG),(`bnH),F.owner_object_class,λζ=>O0 W1.plain `bO1 (W1.check _ _ _ _ _ _ _ _ ζ `bO2 ?_),(`bA `bnJ),(by repeat apply `bnK),#[[`a?,`ME],[]],F.slot_gs_set.lookup,(by repeat apply `bnL),Q () `b_,`rY `MF=`d,(`co `Dg),F.attr_ValueError.ga.plain,F.entry_bexc_ga,(by have f3:=`bnM),(by have z0:`bnN:=`bnO),(by have z1:(`az7 (`oM)&&`acm)=`m:=`aw z2),(by repeat apply `bnP),#[h,g,d,t+1,os],`rY `bh=`d,(`bnQ),#[h,g,d,t',os],Builtin.«isinstance.nested»,`g dep tk,`acn c.isT (t+1),Cl `aB C tl,[`a?,`T W],λζ=>`bPo (S:=λ_ R s'=>s'=s/\∀t',ζ) `bPp `bPq,isinstance_outer,λt'=>hr t',(by intro e;cases e),(`bK `bhB),nsMap_none_of_in,λζ=>`bPU/\h.Ns N mN/\mN `d3=ζ/\`bPV,[_,_,_,_,`az9,_],`az'&&n == `aco&&!cd.hasDel&&tailIn K bmV tl&&`az!,nsIn K cd.ns `d3,(by let#[nm,bs,mro,ns,qn,hd,sn,sub,ab,Y,Z]:=cd),sl=`bnS,λζ ξ=>#[nm,qn,ns,bs,hd,sn,sub,ab,Y,dd,k0,k1,k2,k3,k5,_,`agE,`a_0,ζ X ξ O,`bOW],nsIn K `gf `e?,`MG r,(`acp).all,nsIn K `gf c',mg c=`vA,`w0=`u!,At K mg c C `w1,Tab K mg `e? r cs rs,Bool.not_true,λζ ξ=>∀h' e,`a_k->`aD `dd ζ `bO4 (λr s'=>r=`aj/\Q ξ s') E `aIc,`w2<=`W,#[`eB::`aV,[]],(`h6 `fH rest.toArray),(`mW `eB (`mD ⟨`T `dO,`aj,`aj,`aj,`acq,`aj⟩)),(`bnU),A.under,"type.__call__",codeAny_of_tree ?_,`DC=`c `aj,#[h',g,d,t,os],`bnV _ _,(by rw[`bnW]),`Dh=`az?,`acr K `bh `cK=`hb,looks_clsIn X hc,I.type.here,refuseLoop_ref,`acr K `bh `L!,`a! (setAttr `k9 `cK v) s,λζ ξ=>A0 (`bQb hx (A0 (ζ (s:=`ne) ξ ?_))),Heap.get?_update_ne,λe he=>`L he `aS,wpAny_nsSet1,Heap.Ns1.of_empty,wpAny_lookBehind,pastItsLine_dict,
(`jO `w3),hh.get? f=`ee,`c `w3,`B->`C,Value.isInt,Value.isStrOf,`af L2.Key,Y2 (λq=>nomatch q),(by rcases ya0 hb with⟨j,u,rfl,e⟩|⟨y,u,rfl,e⟩),(by rcases ya0 hv with⟨j,u,rfl,rfl⟩|⟨y,u,rfl,rfl⟩),(ze0 prog w).is,`AU UInt8,`af (`aH L2.V),`af (L2.Key×L2.V),∃t,u=Value.bytes b t,∃t,u=Value.float b t,λζ ξ=>∀{xs:`V} {us:`J} (n:Nat),`es->`bO ζ (ξ n),`ea p.2 q.2,upd H a o b,`mX `b? n,cont.toList,`i2=`aAa,∃mA,`acs/\(`act)/\`aAb,p.1=q.1/\H q.2.1=`c (`z (p.1.map kV))/\`ea p.2 q.2.2,λζ ξ χ=>∃o es ep,ζ/\`aOz/\`aO0/\es.toList=`MH (`al' ξ)/\χ,(`MH `eE).Nodup/\ep=es.size,`ay_/\SubOk P w H h a p.1 p.2,∀h1 h2:`D,φ h1->(∀o,`pg a=`ay->h2.get? a=`ay)->φ h2,(by let#[_,_,_,_,o,_,_,e,_]:=x),(show `aAc from x),∀b u,(`acu)->`_O,∀b,`K9->H' b=`o3,(by let#[z,y,vs,r,ob,es,ep,e,c]:=x),#[od,es,ep,k _ _ (`q d) e2,c],Paired.mapP,#[z.1,ht _ _ z.2.1,z.2.2],k a _ `dI e,`c (`aAd `e! (`T y)),#[o,`ik],`wv u,∀b u,`DD->`_O,(upd H x o'),∀b ps,H b=`acv->∃more,H' b=`c (.tbl (ps++more)),k b u (hb b n) q,`l `aAe q,`aAf=`ay,∀x:Str,`awo->mb x=`v6,Mod X.K `cm `fe,`Zj y=`fu,X.env.frame=`c `gb,X.H₀ b=`f,X.s₀.heap.FunFrames,s.heap.Ns `gb m,`dn p.1=`w4/\`w5=`f/\p.1≠`gb/\p.1∉X.fs/\∀v,p.2.data≠`vb v,X.base.get? b=`ay,`fF/\`dw,(I.ok.noex b o e),(by let#[_,o,ho,_]:=I.ok.funs.mem hb),(by let#[v,o,ho,hd]:=`DE),λζ ξ=>hs ζ (by unfold frs;rw[`ahA,hf];exact ξ),(by rcases I.ok.stk with e|⟨e,hf⟩),`a8 H' ({ s with heap:=h',gens:=g',drawn:=d',toks:=t' }),`kD (`Lt `Lu),∀x c,`sS->∀v,`aAg->h'.IsCell c v,λz=>(hch c z).2.2.1 x c e rfl,λζ=>ζ c o (I.cne x c e) hc J ho `adK,#[_,q,hd],(by let#[u,r,l]:=`bnX),#[u,r,?_],(by rcases l with l|⟨k,c,e,z⟩),(by let#[m,#[o,_,_,ho,_],_]:=`fP),λz=>(hch _ z).2.1 rfl,(by let#[m,#[o,es,ep,ho,r],_]:=id `fP),(λ_ z=>nomatch z),λζ=>λb o _ hb _ e n=>ζ b o e n hb `aS,#[_,U,O,hL,r'],(`bnY),(λm hm=>?_),(`bA `bnZ),I.base,(`dL hp).elim,Inv X `s `DF H s',Heap.SameBut,`dP M (storeName `M x u),`bn_=`m,`aw `na,
(by have hiσ:i<`wx:=`bn0),`DG a,`ww H h',(`CS c ?_),(`aAh `w6),λy c e=>?_,(by let#[u',r',q]:=`bn1),(by rcases q with⟨k,e⟩|⟨k,c,e,z⟩),`n #[k,?_],(by have:y≠x:=`bn2),`q #[k,c,e,`aAi],#[w',`aAi],(by exact`bn3),`acw->L2.Hp->L2.VK->Prop,`gv/\`sM,λζ ξ=>∀(pins:`aC) (s:`u) (σ:St) (H:Hp) (Q:ζ),`A->`sj->ξ,λζ=>∀(pins:`aC) (s:`u) (σ:St) (H:Hp) (D:Ends),`A->`aBW->ζ,(`w7 `d_),(`w7 `pA),Calls.Constant_str,`abV (`bV `k' `M),(`bn4),PE X `k' (tC v),λζ=>λv s₁=>`aD `cI X.A `bPh (λu s₂=>ζ) `h4 `eT,PC X op a b t,`F (`BA) Ai,wpAny_Compare1,(`bn5),wpAny_isTrue_Compare1,λc H1=>Q (!c) H1,(`bn6),hb wh `s s1 σ H1 Q I1 q1,#[H1,I1,q1],`nb hb Q,λζ=>∃(o:Obj) (its:`a1) (n:Nat),`aou/\ζ,`aAj/\`acx/\`bO xs `MI,SqL X.K H a xs,λζ=>∃its:`J,`yn/\ζ `aB a `b0/\`p?,`fM a o hk,`br hs,SqT X.K H a xs,(by have:its=J:=`bn7),(X.wish E).Ok,#[ok.mod,`DH,ok.glob,ok.blt,ok.above,ok.inj,ok.has,ok.cab,ok.hd,ok.frames,ok.stk,ok.exf,ok.bs,ok.bsz,ok.noex,ok.exfs,ok.funs,ok.frf],`sT (X.wish E) `s,SP X `s D f s',{ D with nx:=u D },#[σ,H,I,h],(st::`aV),λf s1 q=>?_,interactive,`w8 `k6,(`bn8),V->`bn9,(by intro pins s σ H v u Q I r h),wpAny_assign_Name,λζ=>`F ((ζ).findIdx? `eE=`f) Aa,`br rv,(`bn'),`bo x pos',{ D with nx:=N,ct:=N,bk:=`go },PSs X `eM tb,(`bn!),#[m',hm,σ3,H3,I3,w3],Nat->`i3,λζ=>`dw/\`sv/\`FB/\(`aaU∨ζ)/\`ayu,(`bn?),∀v,`pi≠`vb v,(∀b∈fp,`MJ),Turn `cD X.w X.K tg J fp it tn,tn 0 s2.heap,(`boa),`bob n,λi H=>∃xs x,`sU/\`nc,∀xs,`sU->`nc,λi H=>∃xs,`sU/\`acy,`acz it a i,λi h h' st k=>st.at λo e=>`aAk,(by let#[its,rv,p,hz]:=`v7),λh' J sb=>?_,(by have I1:`DI:=`boc),λζ=>#[u,rfl,Zd0 (s:=`kE) e c d `r #[x,H,I1,ru,#[rfl,ζ],J,`aiF]],λys hy=>`l (`aAl hy hq) hx,(by let#[its,rv,p,hz]:=`KK),(show `aAm from p),I.tuple_inj,IsRangeIter,Data.fields,(`bod),(`boe),(by let#[a,e,#[xs,hq],q]:=q1),λζ=>#[`kJ,`akl,_,_,H1,rfl,`bho,ζ a _,`bhp,`js,q],(`hR (`h_ `aaX) tk),(`aq `w9) - `wK,Gl X `wf,`cm `wf=`f,PA X [a] ta,(`bof),
λζ ξ=>Call_ (tg0 I hg hm ζ (P7 (thn `ae3 ξ) hs rfl)),Nat->`aAn,`aw e,λζ=>∀{H':Hp},`bht->∀b∈fp,ζ,tn i `pB,I7.pin `DJ `aAo,`DK I7 n7,`a8 H2 s2,`DL op r,(`sV op),(`bog),Int->Int->Int,Q (`g `nd `cp) `ne->`aAp,λi j=>`g `nd,(`nf (`g `nd)),(`boh),λi j=>`MK,λi j=>`g `ML,(`BW .Mult),λi j=>`g (i*j),λi j=>`aAq,λi j=>`ayK,λi j=>`aAr,(.bl (`MM)),(`boi),(Q6 I q ?_),(`boj),(`bok),λζ=>ζ `s s σ H x y v u Q I rx ry q,(`bol),`fD op' r',`F (lastMarks [op,op'] [b,c]=`m) Aj,(`bom),∃i j,x=`t i/\y=`t j/\i.length+j.length<=`W/\Q (`aAs) H,`bO [x] us,∃u,us=[u]/\`jP,(`bon),(`co "ord"),(`boo),∀name,`aAt=`c (`acA),Array.find?_toList,es.toList.any (·.refKey),`acB K C `cK=`d,`pv K `bh `cK,W.findObj_own,`B×`J->`e1,`aAu=`d,`gh<=`W,`pv K `bh `d3=`Df,(`e4 s `aAv),(g==f)=`m,`sR `acC,`fd xz0,(by let#[t,e]:=`bop),(by let#[t,e]:=`boq),`acB K C `MN,NoAttr X.K C f,∀u s',`MO->`gv->Q u s',`dP `cI (`MP `b' f b),(by let#[mA,O,r,_,_,_]:=`aAw),(by let#[u,hu,ru]:=`bor),`Lp<1000,(.ins C dx (`aAx)),(`bos),.own `jK,.ins C `U [],`w' e f `M `MQ=`Zz,λζ=>(by let#[x,H1,I1,rx,a,C,dx,fs,v,ex,ea,c,n,l,q]:=ζ),`acD `he (`c (`aAy)) `m1 `M=`MR,(`bot),(`bou),(`bov),λζ ξ=>.AugAssign (`gt ζ f tpos) ξ `he pos,recursionLimit,`cN r.dp,`cN r.un,`i8 `ef A,Code.frames,#[[],H,I,`R,h],(`bow),(`bK `box),λζ=>#[`bPw,upd H1 `kJ ζ,`bPx,rfl,q _ hf],Un (frs `da) [] H H' `aB `pB,HOk P w H' `pB,CE `da P w H s Q u s',I.ok.frames,λζ=>t σ H1 λvs H2=>sp (x::`k0) H2 Q ζ,(`Jx::`k0),(`boy),λζ=>`Ql=`aJ->`akR ζ `Rh=`cj `Rg,`cs (`dQ `e! us) `fQ,(by have hl:`acE:=`boz),λζ=>P2 (K2 (`yE X.A `g5 s H `Rh `CW `k0 Q ζ hr I.env0 `bOS r2 h) `yJ),`oB=`ZT,`vT X.K `e!=`d,λζ=>u3 (h₀:=`fe) `bhk hk (thn `ae3 ζ) he hpl,#[`DM,?_],`bV `acF `M,λζ=>u3 (first:=`en) (h₀:=`fe) `bhk hm.kp (thn `bOZ ζ) hst hpl,#[`acG,?_],(`aa rfl r),`aAz H,V.ref `jK,(`ayF::`CW),sc.kind=`sK,sc.isCoroutine=`m,sc.isGenerator=`m,N.take P.length=P,y.2≠`ky,λζ=>∀{binds:`sY} {m:`a6},`bPd->ζ `yF binds m x=m x,λw hw=>h w (A6 _ hw),
(by have:x≠n:=`boC),P[i]?=`c6,λv hv=>(E5.mp nd).1 (B90 hv).1,λζ=>ζ (i:=i) (E5.mp nd).2 (`CR) (`anE) hk,`acH (`DN),W.cellsFrom_some,`ax N ps `eG,(`DN).kindOf,`aAA `jK `hm [],`aAB cd,`rt `acI z `aS,`q `k!,λb z=>`L z (J b),e0.hok.fresh,H0 `boD,(`boE),t { nx:=λ_ H'=>Q `v H',rt:=Q } `MT H,`kD (e0.bs b o e).1,`fK X `LA r,`v6=`aAC,PE X `o_ (tCB r t),(`bK `boF),(`boG),(`h7 (vs++ws)),`aE->Nat,(`boH),Builtin.Slice.sliceAdjust lo hi 1 `cl,(`aq `aAD),slicePart_none,λ(m:Nat)=>xs[`aAE]?,λm=>xs[i+m]?,`DO `aB t `b?,`K?=0/\`aal=`gk,`mX (`h7 `aAF),`a! (`py `pC `MU) s,`r7 `MU "slice",A0 `boI,`Dq `aAG,(`boJ),(by show `boK),A0 `boL,A0 `boM,(by show `boN),`acJ `acK,(`boO),`aE->`i3,evalPart_none,r x lo hi H Q,`k? `kS `aAG=`cj (`aAC),λζ=>ζ `s s σ H x v vl vu lo hi sl Q I rx hs pl pu q,(`boP),wpAny_Slice,(`boQ),(`boR),(`boS),subscriptTail,`T `w!,(`acL=0/\`aAH=`_),`z (`MV),(by let#[a,xs,rfl,hx,hw,q]:=h),(by let#[its,r,ht,hz]:=`mO hx),(by have J:`jE=`_:=`boT),C0 (g70 xs lo hi) hz,`aAI r.drop,SqT K H b ys,(by let#[its,r1,p1,_]:=`mO ha),r1.nil_iff.mp,`l `Y hz,if 0<=i then (`w (i<n) (`c `fN) `f) else `w `acM (`c `aAJ) `f,(`aAK).bind λj=>`MW,seqIndex_of,seqIndex_neg,`cs (`dQ `LA (v::us)) `fQ,λζ=>ζ `he `tY `s s σ H x y v u Q I rx ry q hs,λζ=>∃p xs i v,`aot/\y=`bw/\ζ/\`bPW,atI z.cps.toList i,(by let#[p,xs,i,z,rfl,rfl,hq,he,q]:=h),(by have fin:`sW w s:=#[z,H,I,J,q]),(`boU),subscriptTail_builtinR,pl.isList.typeIs,λr s'=>r=w/\`sW r s',#[rfl,fin],-(`aba:Int),(by simp only[`sx,`kF,Option.getD_none,show `aAL by decide,`il]),`kF `pD 0 lo,`o (`MV),ht.isList.typeIs,SeqAt.EqAt.none_bool,SeqAt.EqAt.bool_none,SeqAt.EqAt.bool_bool,SeqAt.EqAt.bool_int,SeqAt.EqAt.bool_str,SeqAt.EqAt.int_bool,SeqAt.EqAt.str_bool,xs.any λy=>`acN,(by let#[p,xs,rfl,hq,fx,fs,q]:=h),Q (`g `cq) H,#[`g `cq,H,`vu,#[`vc,by rw[`b5,J]],q],∃z,xs=`MX/\`w?/\Q (`acO) H,λζ=>ζ `s s σ H xs us Q I rs q,`abX H H `rL,`bO ys its,λζ=>`bQh p ζ ho hc hd `bQi `RX,(`boW),`T `DQ,ob.dict=`f,o.ExactDict,
(by let#[_,_,_,_,o,_,_,e,ex,_]:=`aAM),#[o,e,ex],(`bA `boX),#[o,e,ex.2.1],tyV K T x H1,PlainAttrs T,Slot T `cK id,λζ=>#[T,id,pa,slot,hty,h1,h2,ζ],(`kz `kA (`u3)).any `eE,Vals.append,(`aAN).flatten,(`y `MY),(`y (b::r)),acc.toArray,(`k3 k its),`dn l=`acP,(by unfold Builtin.List.listTooLong),λζ ξ=>λx vs H Q=>∃l xs y,`alP/\vs=ζ/\`R_/\ξ,"list.append",λζ ξ=>#[`v,_,I.lset (its':=its++ζ) hH e `aS (`Lx ξ) ?_,rfl,q],Array.getElem?_toList,pre_splitW hpre,l.row.toRowW,(`d==`d),`MZ a=`aAO,s₁.gens=⟨⟩,`aAP `sX,`pi=.dict es ep,hA b (`acQ),#[`en,[]],λb o e=>?_,`L rfl z,`acR->`x,∀(w:`O) (h:`D),YP w h->`M_ h,λζ ξ=>∀base:`D,`M_ `au->`Qx->`lH `bE w `DR mg `au ζ k fa fd [x] (sp ξ),λζ=>∀(w:`O) (H:Hp) (a:`e) (ns:`S),`R3->ζ,λζ=>`bQu->sp ζ `en H `akf `vF,`aAQ W.WalkO,Fun K x `je st f fd,∀b o,`aAR,H' b=`LF->H b=`LF,Option.none,"str_ascii_iterator","str_iterator",#[⟨x.cps[i]⟩],λh' J sb=>fin h' J sb,λζ ξ χ=>ζ ha #[`kJ,`akl,_,_,H1,rfl,`bho,Y70 _ ξ χ x t,`bhp,fp default,q],scope.kind=`sK,y.2≠`vb,y.2=.local->`aAS,y.2=`ky->`CB y.1=`kX∨`CB y.1=`ng,`aAT=n+`xa,`acS=(`ZO).bind (N[·]?)/\(`acS).all (λy=>`M0==`ng)=`d,caps.map λj=>`acT,(`y `awb),`af (`aAU),x.2=`ky->∃c,`M1 x.1=`fu,acc.lookup y=`fu,λy d hy=>?_,λx hx hf=>?_,`ayH=`d,`br hx,(.ok .next),λζ=>`D? ifs `d λc r=>if r=`d then do let ok ← ζ;`bO_ else `bO0,(`boY),λ_ _ h'=>h'.elim,λζ=>∃m,W 0 m [] (upd ζ D `hS),(`boZ),J.yld i H2 x H3,Wk `fR σ4,if b=`d then te σ4 H5 λy H6=>H6 D=`acU/\`cq<`W/\`acV (ys++[y]) (upd H6 D (`o (ys++[y]))) else `acV ys H5,(`e4 s2 `aAV),s3.heap.get? b=`ay,(by let#[o,e,_]:=`bo_),(E1 _),V3 X `eG cl N' s3 H3 fp,B4 (e9 b hb),λx c e=>`aAW x c (hcl1 x c e),`DS=`bo0,(`m2).2.2.2.1,(by rcases `bo1 with z|z),{ s3 with heap:=h₁,toks:=`acW+([]:`sY).length },`vy `aS,Nat.add_sub_cancel_left,(`bo2),(by have e':`LD x=`fu:=`bo3),`L hp (by simp[V3]),(K0 `sQ),Ia.pin `DJ `aAo,`rv `aAX,`rv `aAY,`rv `aAZ,(`aT `bo4),(`aT `bo5),(by let#[it,fp,tn,J,H2,rfl,I2,T,Z,f2,q2]:=h2),
λζ ξ χ=>b40 (Q:=ζ) (RR:=λa1 C=>compPost `cI X.A `h4 ξ χ a1 C) hc hsc ok Y U (hg cl) (ht cl) (he cl) I2 T Z f2 q2 ?_,λζ ξ χ=>ζ (t':=ξ) χ as.1 as.2.1 (`q as.2.2.1) `aP6 as.2.2.2.2,λv H'=>`go `DF H',λ_ s'=>SP X `s D .next s',as.2.2.2.1,`af (`acX),DL.D->`sZ->`aH `sZ,`sZ->`aH DL.D,`sZ->`rq,`sZ->`aH (`Lb),(ob ga δ).bind,λ_=>`s_,fun δ=>`s0,`xb `wE (`w `nh (Ga δ) `DT),(`wB).bind,yu0 f G ds δ',λc=>`xc,`cr n .un,caps.map λj=>iw0 `la,`CD δ ds,(`acY).map,`c (`aAq),(eqS x y).map,sIx `_ `_ hi,`c (`g `_),(`_9 `aA_).sum+`cq*`aA0<=16777216,(`bo6),`M3=`c (h d),`CD δ `b?,fa0 `bo7,`wB=`c δ1,G δ1=`aA1,ifD g Ga Gb δ,by unfold ifD;rw[h];rfl,O7 n `dt gi f gt ge δ,o2 ga gb f δ,λz=>(by cases z),`s1/\`aA2,g _ _ h.1 h.2,Gr H H' B B,fd.scope.names.lookup,TelO K H B p kvs,`pE `M4 `bB,`pE `DU `bB,`pE `s1 `aA3,`pE (FnAtH K H B a `Ck) `acZ,`i->`V->Prop,∃x r,xs=x::r/\`DV/\`BX H r,`db->`ac_,#[a,xs,e,`ac0,`ac1],`br e1,Rps K H B es ys,λζ=>by rw[c7] at h;subst h;exact ζ,λζ=>∀{ds:`i} {xs:`V} (n:Nat),`bB->ζ,List.take_succ_cons,(by exact .of e (λ_ _=>λz=>nomatch z) λ_=>λz=>nomatch z),(∃k a,`k1=`ff/\`aA4/\`M5)∨`k1=`f/\`pE `M4 `im,∃x r,xs=x::r/\RpN K H B as d x/\`rr ds r,`aA5 as',`ac2 `aA6,`z [`ni,`vg,`eh],∃C dx ns xs,so=.ins C dx (`M6)/\fs=`ac3/\`gh=`_/\`jF/\dx∉as/\`im,as[0]?=`kK,`ac4 `aA7,(λ_ _ z=>nomatch z),∃x ns,es=`c9::ns/\`ac5,#[x,ns,e,`dq (λo z=>s _ _ z) `xd],RpL K H' B d a,λζ ξ=>`q (`n #[ks,vs,q,ts,xs,q1,ζ,q2,ξ]),H a=`bo8,K90 H B od n,g _ _ h1 h2,g _ _ q1 q2,B a/\`nj,(m.set i b),`b! `M7 σ δ,`c (.ow es),`b4=`ac6,`o0 `lb h,#[v,rfl,r],`mt (A9 hk),∀ob xs,o≠`aA8,`xe PE (`DW tD),`xe PT `ac7,`xe PW `ac7,∀B δ,PA X es (`DW tDA),Rp K H B dy y,λpins s σ H Q I z=>`b2 h Q `ac8,(`awi).imp,`c (`t y t),#[_,en,e,`DX #[t,`aA9,`M8]],#[b,en,e,λH' s=>?_],(by exact`bo9),#[c,r,?_],(by exact`bo'),(`bA `bo!),(Wh0 `dx).imp,`DX (k v H' (`oD s) r),λζ=>λvs H Q _=>∃(B:BS) (ds:`i) (d:D),`nZ/\`S4/\`SG/\ζ,`A8 X.K fd ps [],#[ds,en,e1,`ayZ],(`mM),(`mN),
∀(i:Nat) (ds:D) (a:`e),`aA'->`jL->`ae a=`f,∀σ H,`ct->`ac9,`io PS st `aA!,`io PSs st `aA!,Wr idx σ σ' δ δ',∀B d δ,PG X tg (tDG X.K idx f B d δ),`mt (A9 `E),`hf K `ae `ac H' σ' δ',e.fr i ds a h1 h2,λζ ξ=>e80 `dx ζ hs hw h1 `s s σ H D I #[d,env,e2,ξ],λζ ξ χ=>fun σ' w en'=>k σ' ζ (ξ b1 b2 χ w en'),PSsD X as Ga,PSsD X bs Gb,λζ ξ=>d40 (hc B δ) ζ ξ `s s σ H D I `bP7,∀B δ,PI X tg e (`DW tDI),(`bA `bo?),PDA X [a] gA,(`bA `bpa),`c1 `ae H₁,λa z=>(`ac').imp id λq=>`ac! q,PSsD X `eM G,(by have a7:PG X tg (`xf):=λpins s σ H v u Q I r #[B,d,δ,h]=>hg B d δ `s s σ H v u Q I r h),λζ ξ=>(by have a8:PSs X `eM (λD σ H=>∃H₀ B₀ δ,ζ):=λpins s σ H D I #[`ae,`ac,δ,h]=>ξ),tDS X.K `ae `ac δ G D σ H,`M9 hb h,(`bK `bpb),(by obtain⟨Hh,U⟩:∃Hh:Hp,Hh=λb=>`M':=`ad),(by have Y:∀b,`xg->`aA?:=λb n=>`l U (`ag λz=>n z.1)),(by have a1:`bpc:=`bpd),(by have a4:`bpe:=`bpf),a1 b z.1 z.2,(`M')=`ay,(by have h0:=`bpg),(by rw[`bph] at h0),`c1 `ae Hh,s1 b o (`fs b o h),λb o xs h=>`aBa (a3 b _ h),`hf X.K Hh `ac H1 σ δ,(`bA `bpi),`q (a1 a z q),`s2 i ds a h1 h2,(by let#[o,e3,a',e4,hB,_]:=`o0 Z.all h1),Z.bad a `ac?,λζ=>m=`dp - i/\`aSE/\∃δi,`bO5/\ζ f G (`mF i) δi=`du,(by have gr:Gr H1 Hi B B:=`bpj),λζ ξ=>`q #[`bON,fun σ' H'=>∃δn,`bOO/\ζ f G (`M!) δn=`du,fun σ' H' #[δn,en',e']=>ξ,`bOP],(by let#[sm,d,hd,rd]:=`adb i Hi x H' gr y hlt),(by let#[B',c1,c2,env0]:=O.ex),Rp X.K H' B' d x,(`bA `bpk),env0.same sm,`mF i=d::`M!,(`bA `bpl),(by have b3:`bpm:=`bpn),(`bA `bpo),(`aT `bpp),(`aT `bpq),(`aT `bpr),(`bK `bps),k σi Hi (O.lower hS `nk),∀B δ,PF X ifs `ac7,`cr n `vW,∀(i:Nat) (ds:D),`b4≠`Md,(`br z),∀p H',`eN->`bb->`aBb->Q `kZ H',`xe PE (`DW tDF),(`bpt),λJ H1 s1 it=>λL hL=>?_,λa=>`aBc,Gr H1 H2 B Bp,i<=`dp,H2 L=`acU,Rps K H2 Bp pre ys,λζ=>Pd.impG (gr s2) `bPE (ζ n `dt).all,λx H3 y=>?_,Rp K H3 Bp dx x,λζ=>fun σ4 w en4=>#[#[w.len,ζ],?_],λH5 s5=>?_,en4.same s5,H6 L=`acU,Gr H6 `aBd Bp Bp,([]:`i)=`aV,PDF X `pl `M?,
(`bpu),PD X `pl `M?,PSD X `aBe (b8 `adc `M?),(`bpv),(by let#[B,ds,d,_,r,h,_]:=zQ),(by let#[B,ds,d,hb,r,h,q]:=zQ),(`bA `bpw),(`bA `bpx),`Na r `add,#[_,en,e,`aBf],`bO `DY us,by rw[`nl] at r;cases r;exact `R,(by intro pins s σ H x xs v us Q I rx rs h),λt' k=>#[`cc,H,I.tok k,#[t',rfl],q],(`bpy),#[o,h1,h2],λζ=>show `iB `cD X.w H `aB a (ζ) from `bPu,(`aT `bpz),Int->Int->D,∀i j H B,Rp K H B (g' i j) `nd,(by cases dx<;>cases dy<;>simp only[ii] at h<;>try cases h),`g7 (hg i j H B),SqL K H b zs,`_+zs.length<=`W,(by let#[l,b,xs,zs,rfl,rfl,hH,hB,hz,q]:=h),(by let#[J,r2,p2,z2]:=`jb hB),(by apply `ade `xh),`aBg<=`W,λζ ξ=>#[`T _,_,I.lnew (t':=`cp) ζ ξ,rfl,`bPO],`KO (W8 h),#[h1,`l h2 `adf],(by have hy:dy=`v:=by cases dy<;>first|rfl|cases h),#[ry,`Nb],(by cases dx<;>simp only[Q9,V1,Y0,R4,N5,Q3,pr0,R80] at rx),(by (let#[a,xs,rfl,_]:=rx;rfl)),`n #[a,xs,_,v,rfl,rfl,`gr,hv,`g7 rv],`xe PO (`cA (∃o,`adg/\`az=`ay/\∀H',`bb->Q o H')),by rw[Y0] at r;exact r,`g7 (by rw[Y0,`Nc]),`cm `wz=`f,`hg `wz,(`bpA),λζ ξ χ=>pe0 `bPF ζ ξ χ (ho B δ) `bv `gH hfew `iK hs `qr,#[rfl,_,`ic,e2,`Nd],`DZ FnD x,fun δ=>`wC,`aH (D×Ds),`nm `vx,`cO (`o (ds++[d])),`cO (`o (ds++es)),ds.getLast?,`cO (`o `aBh),`aH (`gw),(`_x ds).map,`gw×`i,(`Ne).bind,λk=>ta0 ks ds k,λk=>`adh (`D_),`aW (`aBi/\ys.all `c8=`d) (`adh (ys.any λy=>eqF y x)),`w (isL d=`d) `f `a9,mkF n N G ds=`a9,#[e,x20.mpr hn],mkN n N G ds=`a9,`w `Nf `aBj `f,`w `adi `aBk `f,(`D0).bind,(`xi).bind,HeapKind prog w K,`af (K×`azB),knd.is `aB k a,At knd `aB d xs,∀h',At knd h' d (storedH xs k a v)->`DG d->Q () (`hR h' (`cp+knd.draws k)),dictSet d `b' v,Obj.isFreed_of_dict,Obj.data_mapDictKeys hd _,List.mem_singleton,Obj.data_mapDict hd _,"__setitem__",slot_dict_setitem,wp0 (p::r) k,by simp[wp0,`adj,e],`Ng vs k,`Ng (q::qs) k,by simp[`Ng,`adj,e'],vs.any `_X,(`bpB),`aa ?_ ih,`Q (`adk),`ag (`adl),#[h1,h2],r.repl k ry,Paired.snoc,`ea `adm u,`D1 `aBl,atKey (q::qs) k,by simp[atKey,`adj,e'],(`aBl).isSome,(`z (`Nh)),(`ayq).is,H a=`aBm,
λζ=>∀w' s',`MO->`ea ζ w'->Q w' s',(`bpC),h w' _ `sk J,(upd H a ob),(`ayO (Zl0 `bR e)),(by have hz:`cz<=`W:=`bpD),λh' J hs=>`adn,ig0 I `Ni hs he (Y60 hl hd (rel.put k rv) J),A1 (A0 fin),`r7 `b' `K8,λζ=>td σ H1 λx H2=>∃a o,`eu/\`bPf/\Q (.bl ζ) H2,(`bpE),λζ ξ=>ζ hu I2 g ry λs3 I3=>#[.bl ξ,H2,I3,rfl,q2],(.Dict [] [] pos),`nn->`i3,`af (`B×`B),ec0 trs σ H Q,qq0 kvs more,keys.all `aBn=`d,ze0 `cD X.w,(`aBo).all `aBp&&`aBq,`ao `bpF,`aBo=[`rh,(`h9 f)],#[`Nj,λb q=>?_,hd],(by let#[ob,_,_,h1,h2,_]:=dd),#[ob,h1,h2.2.1],#[x,ns,e,`dq s g],`kr `hn `s3,(by let#[a',h1,hb,_]:=`ado),#[?_,`Nk,`aBr],`n #[v,e,`dq `pF],(by have h1:=`bpG),(`bK `bpH),(by rcases h with h|⟨d',rfl,rfl⟩),(`aT `bpI),∃d,`la=`px,∃d,δ[k]?=`px,(by rcases `Cn with⟨rfl,_,_⟩|⟨_,h⟩),`s4 j k b d1 d2 q1 q2 h3 h4,(upd H' a o),`s2 i d0 a hi hs,(`bA `bpJ),(by have:`jQ:=λz=>by rw[z,h0] at h;cases h),(`fs b u h),(by let#[a',e1,_,ro]:=`Be (i:=i) (by rw[`ZM J])),`L h (ro.plain ob xs),`s2 j ds b h h2,`hf K `ae `ac H' (`BF i `adp) `s3,(by have g:Gr H H' B `wS:=λb u n h=>#[λz=>`eq n (T4 h hp),s _ _ h]),∀{j:Nat} {d':D} {b:`e},`la=`c (.ow d')->`wh=`c (`c `Nl)->b≠p,(by let#[a,q1,q2,q3]:=e.at h1),(`aT `bpK),(`bA `bpL),λζ=>`Gy #[p,rfl,`vl,ζ] i `bQp,(by exact`bpN),(`m4 a z).same s,(by rcases `ji h3 with⟨_,e3,_⟩|⟨n3,_⟩),`L rfl (live h2 h4),(by rcases `ji h4 with⟨_,e4,_⟩|⟨n4,_⟩),`L rfl (live h1 h3),`L rfl n4,(by rcases `Cn with⟨_,e3,_⟩|⟨n3,_⟩),λζ ξ=>∃B':BS,(`Go)/\(∀a,B a->B' a∨ζ)/\Env K H B' σ ξ,(DL.frz δ),λa=>B a/\¬`adq,`ayL ?_,(dy0 (A3 h1)).elim,#[B',`jR,λa z=>b2 a (c1 a z),J],c2 a `ac?,(`aT `bpO),λb=>B b/\`jQ,(Zj0 q).elim,λζ=>h B' `Br `s s σ H Q I #[_,J,e1,λv H' s' r=>k v H' s' ζ],λζ=>ζ h `ae `ac `Br `s s σ H D I `bPP,(`s5 hp),#[_,rfl,h],List.dropLast_eq_take,λζ ξ=>∀v H',EnvV ζ `ae `ac H' σ r.2 ξ v->`sM,`io PE e (`Nm tX gx),∀H₀ B₀ d δ,PG X tg (tTG X.K `ae `ac ft d δ),PTG X tg ft,
λζ ξ=>`anm hi J #[_,d8,(ζ `adv ξ).mono `pF],(`aT `bpP),R6 gt G m δ'=`du,(`aT `bpQ),`sw [`ab2],`mt (A9 h2),`mt (A9 h1),#[_,U,rfl],by apply `D2;unfold deq;exact jn0 ds n h,min `bX `ho,`bX==`ho,List.range_succ_eq_map,λζ=>V6 X s H B `hG ζ `b' `b',∀{m:Nat} {d e:D} {x:V} {u:`B},`D3->V6 X s H B' m e x u->d=e,`rV es m=`d,λj h1 h2=>?_,Wf0 I ih l l' r r' v,`e6 e m=`d,Rp X.K H B' e y,us.toArray[j],ws.toArray[j],λζ ξ=>V6.inj I (ζ k ds a xs its l q r v p) (ξ k' es a ys its' l' q' r' v' p'),.of_refs hab ?_,(`bpR),`wD A s _ _ `m,SeqAt.RcAt.lists,y10 (A:=A) p p' `aBs hu,(by rw[`bpS,`aBt]),`aa9 `aa' A/\`Mg A s u w (!deq d e),(by have J:=`bpT),`aa' A s _ _ `m/\`aBu,`awk+64<`oy,(by let#[B,B',dx,dy,hx,hy,lx,ly,q]:=h),Qg0 I 50 50 dx dy x y v u X.A `j lx ly hx hy rx ry,λζ=>#[B,B,dx,dy,rx,ry,hl.1,hl.2,ζ],(by let#[b,ys,rfl,q2,r2]:=ry),‹`i ›,(`bpU),(`bpV),PDO X lo gl,PDO X hi gh,λζ ξ=>#[l,`ic,`bPG,λH2 s2=>#[u,ζ,`bPH,λH3 s3=>ξ]],by rw[`cb,m70,m70];exact hw,(Ut0 r l u),#[_,rfl,`D4],`aBv mv0,(`cn `s6).map,(`ow).free,(`bpY),(by let#[q,xs,rfl,hq,rr]:=r1),`aBw rr.mono,`DZ FnN x,[`eh,`mR],(`aBx `adr),`jS->`jS->Prop,Nat->`ads,`aBy `fS,`c (`mW `h0 (`mX ⟨⟩ c0)),λζ=>∀s' acc' c',`bP8->`bP9->`aWE->ζ,`k7 `__,Builtin.«list.__init__»,Builtin.List.listItems,Builtin.List.listUpdate,letGo old.toList.reverse,`D5 `bh `LJ `aj,(by unfold Builtin.List.listItems),letGo (⟨⟩:`a1).toList.reverse,wpAny_letGo,λζ=>W.frame 0 s _ `cp st `bL ζ,(`e4 s `aBB),ItemsOf P acc' n,λζ ξ=>D40 (Q₁:=λob s1=>ζ) A11 (A21 _) A31 `bPI ξ,#[_,gC,rfl],(`bp_),(by simp only[`pr,`C4,`C5] at hb),`cm `pe=`f,`hg `pe,`gm [`ab3] (`aBC::`mq),`kt `aBD,(`bp0),P7 ?_ e1 h1,λv s2 hv=>b5 hv,wp0 `Ck q,λd' e'=>?_,(`adt).zip ys,`F (Se0 b) Ah,(`axC r1),(by let#[v,hv,rv]:=(va0 rr).1 d h),k v H2 `lc rv,(by cases y<;>simp only[um0] at h<;>try cases h),(by simp only[`k2,`p,asB,`xj] at h),k H2 `lc,`ig `adu `M v,`oI [v] `aBE,`oI [v,ov] `MQ,(`bK `bp1),(by let#[ys,hy,Z,U,Y]:=dr0 (q:=q) (v:=v) hl),(`bA `bp2),
k40 (`s7 s1) `adv,`s8 `adv (`s7 s1),(`bp3),#[ys,d8,Z,rr.mono `pF],(`aT `bp4),loadIfAlive,`aBF i1 l1 (k1+1),`aBF i2 l2 (k2+1),`DQ=`u',(`bp5),(by show `bp6),(`bK `bp7),(by show `bp8),(`bK `bp9),A0 (i8 hTI rfl ?_),`dc (`aBG>>=_) _,(by simp only[List.forIn_toArray,`adw,List.forIn_nil]),`dc (`aBH `_1>>=_) _,`dc (`aBH `_2>>=_) _,(`bp'),(`bp!),h₄.objs.size,λo e=>`rN,`Nn=`f∨ys[k2]?=`f,"StopIteration",wpAny_nextOf_list_end,Q (`c `jT) `kE,wpAny_attempt,`Dq "__next__",F.entry_zip_next,(`bp?),Q `f `kE,ZG xs ys S h as,g.pairs j a hj,`CG h i,hk _ _ (B4 L.z) hz,`CG `aB i,(`bqa),(by rcases st.own with⟨rfl,hz,p,q,hp⟩|⟨a,f,oa,hz,ha,n1,n2,n3,n4⟩),λc o c1 _ c3 c4 e=>hk c o c1 c3 c4 e,`adx∨`No=`f,`g1 S=`ayW,ZG xs ys S h' as,`ady->`m? res `s9,(`bqb),λζ=>∀(h h':`D),`bQc->∀b o,ζ->`Qb,(by intro i h tk c acc as hk hi a3 J hS O U hG),Nat.le_total,P1 F.entry_extend_loop ?_,(by show `bqd),(J b o h1 e),λj a hj=>?_,hG.pairs j a hj,(`_4 `adz),acc.push `adz,(as++[`dO]),(`bjQ),∀S,S≠z->S≠i1->S≠i2->`adA,`axF `U,Gj0 xs ys lo s h' as,`U<`DQ,F.plain_list_iadd,(`e4 s `adB),(by have h2:`bqe:=`av),(by have h3:`bqf:=`av),(by simp only[h1,h2,h3,`Np,`s',`hp]),wpAny_pyIter_zip,(by show `bqg),rule "list.extend.makes-room",Builtin.List.listTouch,λζ ξ=>`G' ζ (`_4 `aj)>>=λ_=>`G' ξ `axG,#[`aBI,(λ_ ha=>nomatch ha),(λj a hj=>by simp at hj)],(`h6 `fH `Nq),F.plain_tuple_new,Builtin.Tuple.tupleExact,(`bqh),Q `pC `s9,(`bqi),(by have a1:l1<`U:=`bqj),(by have a2:l2<`U:=`bqk),`aBJ l1 xs,hl1.at `aBK,`aBJ l2 ys,hl2.at `aBK,∀k,k<5->`U+k<`xk,zipApart_new,#[N9 _ 4,N9 _ 3,`gT,`adC],#[H 4 `r,H 2 `r,H 3 `r,H 0 `r,H 1 `r,E7 a1 `xl,E7 a2 `xl],upd `D6 p.1 p.2 b,λq hq=>h q (A6 _ hq),`U<=p.1,p.2=`fz/\`xm H p.1 `u9,`a8 `D6 `pk,∀b,b<`U->`adD=H b,E1 _ (B8 hb `E),λb u q n _=>`l (J b `adE) n,`D7 `aBL,λb u xs q=>`aBL,`adF (J b `aas),(by rcases ns0 e with⟨p,hp,rfl,rfl⟩|e'),(by exact`bql),fr0 X (`bx T1) (`bx T2) r,`cm x1=`f,`cm x2=`f,`s! x1 T1,`s! x2 T2,`Nr x1,`sl x1,`Nr x2,`sl x2,
`gm [`ab7] (`aBM::`mq),`kt (`kz pos2 (`u3)),(`bqm),(`adG).map `Ns,ps[j]?=`c p,vs=[`T q1,`T q2],`JP q1,SqL K H q2 ys,λζ=>∀(t:`e) (as:`aY),`Ug->`qw->`apo->`anH->`bOX->Q `pC (u70 H ζ),(by let#[q1,q2,xs,ys,rfl,h1,h2,k]:=h),(by let#[us1,v1,p1,z1]:=`jb h1),(by let#[us2,v2,p2,z2]:=`jb h2),`hh `vI hl,k t as O U (λz=>E1 _ (ha t z).2) (`ss ht) λa h=>`ss (ha a h).1,(by let#[j,#[x,y],e1,e2,e3]:=i40 J),(by let#[u,w,f1,f2,f3]:=hp j p.1 e1),(by have:`bqn:=`bqo),(by have:`bqp:=`bqq),(ha p.1 (C9 e1)).1,`aa g2 (`aa g4 `R),(`aaO f3),λp=>`d2 `ax!,`c (`aA8),(by let#[q1,us,rfl,s1,t1]:=r1),(`Nt).map `Ns,by rw[`ab,nk0 hl],`cd J (S4 hp),(by rw[o70 λp hp z=>by rw[← z,fr p hp] at e;cases e]),λb ob xs e=>Vn0 (by intro _ _ z;cases z) e,oz0 hN _ A8,oz0 hN p (A6 _ hp),∀b o,b∉fp->`D8,(`bqr),upd H `U (`Nu) b=`f,(`hR (`h_ `aBN) t'),(by let#[us,rv,p1,z1]:=`v7),(by simp only[`pr,`C4,`C5,not_or] at hc),wpAny_pyIter_enum,Gl X `pG,`cm `pG=`f,(`bqs),(`bqt),∀a,B a->B' a∨∀ys,H a≠`adH,`D9 c7,(`bqu),∃a,d=`jU,(`bqv),`aBO=`m,λζ ξ=>(`cr ζ ξ).foldl (·++·) ⟨⟩,#[u,q,`dq `Nv],.of rfl no nt,`abc h,(by let#[oe,vs,h1,h2,h3,h4,h5,h6,v,h7,h8]:=l),g.push `aBP,(h _ ?_ ?_),(`bqw),`fd hsz,`sy ok [] `aB h',`adI h'->`Nw,E6 _ _ (A9 n),oth b o z λw=>n (w▸okT),#[_,`aBQ],`abc h'->`Nw,(`s? T (`adJ (`Nx 3 `mT))).get?,(`bqx),∀b,ok b->ok' b,(by let#[_,_,_,_,_,_,_,q,_]:=z),∀h',`DI->dp0 X `s H h' C od e->`Nw,I.afterNote,FpW X `s H a,∃o,`Cp,(by let#[z1,z2,z3,z4,z5,z6]:=fp),λb u q=>`l (j4 (T4 q z1)) q,(`bA `bqy),#[J,oth b _ q],j4 (z5 x c e),(by exact`bqz),(by exact`bqA),(by let#[ea,C,od,H',rfl,os,bare,un,hok,lie,wish]:=hq),λζ ξ=>wish C rfl `s s' ea (ζ (ch:=[]) os un hok bare λb z=>by cases z) (lie.mono λb z=>ξ z.2 z.1),`Ny<=1000,joinParts_cons,W.specialIn,λζ=>W.findCls ζ `Uo `we `d3=`bQd,`ft (`pH) `M,`ft as `M,(`bqB),`oI [ov] (`JN ov `d3 pl),∃tl,`aBS,cl _ `DM,(`bqC),`a8 H' s,∀b,`aBT,λb o e n hx=>no b `Nz,(`axk b xs e),no _ `hq,λx c e=>no _ `adK,#[e,no _ n,r],(`c3 : Str),
`F (`adL) Aa,`gt (`bo `c0 pa) `c3 pa',callWith,σ[0]?=`c (`c `hr),σ[1]?=`aBU,(∀dx,`NA->`NB->`go σ `aBV)->`aBW,(O1 hN0 hv0),Heap.MadeExcOf h h' e `bh `aV,`aBX `MF=`d,fun δ=>(G δ).map .ok,fun δ=>`aBY,`c (.xd [(`c3,`my)]),∀σ H C od,`D'->`NC->`abg X.K n->nw0 X σ H C od,(`bqD),`A8 K fd `hs [],`jF->XdS H H' od n->`aBZ,`c (.ok d),(`bqE),λζ ξ=>#[`Y6,#[B,`afa,`afb,#[?_,hb,ζ]],ξ,hb],λζ ξ=>#[ea,C,od',H',rfl,I'.os,I'.bare,I'.base,I'.hok,ζ `bPg,ξ],`rt `acI y `aS,`cm c=`vA,H a=`bqF,(by let#[#[oe,h1,h2,_],_,_]:=`aB_),λt'=>#[`b6,H,I.tok t',rfl,q],XC.bmV.contains,cs.contains c=`d,(`oM::`aB0).contains,`ao (c=c'),(.tail _ h2),[`Jo,`abi],(`m,`ZH),λζ ξ=>ou0 ζ hgi hm `bO8 (O2 `bO9 (O2 ξ zy0 s1) s2) `r `r s2 hpl,(by let#[c,a,C,od,hc,rfl,h1,h2,h3]:=Rz0 en h),k _ _ `ta `wj,[`Jo,`abj],(`ZZ pn W).Ok,(`aB1 o.hd o.frames),`sT `D! [],`sT (`LM A) `s,e.fr j ds b h1 h2,(by let#[dx,B,h1,h2,h3,b1,b2,en,nb]:=x),[`bqG],λζ ξ=>D0 (run { nx:=ζ,rt:=`oJ } ξ) (`aKw) `aoZ,#[[`a?,`aB2],[]],handedIn v=`d,∃tl,`adM,`i7 (.nx δn),uw0 f G ds δn,`bH f,.of_isNs (`aym X hok),`acr K `bh `c3,L2.ErrC K C r `c3,#[_,a.cl],`adN K `e? c f=`d,(by let#[C,a,ri,ec,eg,rc]:=XC.Pm0 T hc ib),`aw h,x.cps.toList,λζ ξ=>∀(m:Nat) (y:ζ),`bhr->∃t,us[m]?=ξ,#[tk,`aw6],(`bqH),`D? [lo:hi] b f,ys[j]?=`c z/\(∀m,m<j->ys[m]?≠`c z)/\Q `Bm H,(by let#[p,ys,z,j,rfl,rfl,hq,hj,U,q]:=h),`C_ `cb `P,(`ds hj).1,λζ=>∀m (hm:m<`jE),∃y t,`bhr/\`bPv=ζ y t,(by have J:m<`cq:=`bqI),#[ys[m],t,B6 J,?_],its[m]?=`c its[m],eqU `tb (`t y tk),F.slot_tuple_index,λζ=>show `r7 `kZ ζ from `bQv,λζ ξ=>#[h1,λy hy=>tq0 (x:=ζ) `R4 rfl r (ξ ys) y `bPk,`bPl],(by let#[y,tk,e1,e2]:=at_ j `xo),(by let#[y,tk,e1,e2]:=at_ m hm),(`aT `bqK),(`aB3 `aB4).map λj=>`gg,X90 X.K `cm x ys,`bV `ND `M,(`bqL),`aB3 (`aB4),(by let#[y,rr,rfl,r3,r4]:=r2),(by let#[hj,h1,h2]:=Ar1.mp e4),λζ ξ=>#[p,ys,z,j,rfl,rfl,ζ,?_,`bPQ,k _ _ ξ `BH],λζ=>`q #[o,its,n,hk,hc,J,ζ,hv],h2 m hm (L9 (A3 he)),swapsWithSole,`_*`jV<=`adO,(`bqM),`bqN k,
F.slot_int_rmul,Nat.mul_comm,(`CE `lc),nn0 (`NE s1) x1,`tc p `aAR,`kr H' `s3,`n #[v,e,`dq `aB5],(`NF).bind,k _ H2 `lc `wj,`bqO hl,(`bqP),∀b C dx fs,(b,`aB6)∈sub->`A5 dx=`f,∀C dx fs,p.2=`mr->p.1=a,SubO.no_own,SubO.no_frz,o.there (x b _ (J l)),`LO H a sub b,`NG H a sub,(`jd H sub),∀so:`dW,u≠`NH,(by have nl:∀so,`ld≠`Bf:=λso l=>n so (`adP (c.at' _ `adQ))),nl so (z▸l),`L l (nl so),λso z=>so.no_tup xs `adR,λso z=>so.no_frz o u `adR,λso z=>so.no_tbl ps `adR,(Ends.closing a D),(`bqQ),PSsB X as Ga,PSsB X bs Gb,(`AZ `BJ),(spB K j f),(ds.take j).map,(`adS j).map,`hh `P `d0,`L h (J _ _),`ZD=`ZE,λζ=>`q (by simp only[ζ,`il]),(`bqR),(by simpa only [z,`hp] using `E),c1 x `ayR,(by rw[hv,`Y,`X,`d0,`le,hr.length]),hf b ds r b' h,(`bA `bqS),fm0 (N:=N) hb hp hj rs ro,(`bA `bqT),(`aT `bqU),(`bA `bqV),(by let#[B',c1,c2,J]:=en'.ex),(`aT `bqW),λζ=>by classical exact if h:`n'/\ζ then `bO' else none,∃q:D×D,∀p,EndB G `m6 j p q.1 q.2,#[hh.1,`E],(T0 (T0 e10).2).1,(by rcases h with⟨δ1,e1,e2⟩|⟨rn,δ1,e1,e2⟩<;>rcases h' with⟨δ2,e3,e4⟩|⟨J,δ2,e3,e4⟩<;>rw[e1] at e3),(x8 hh.2 0).one (h 0),`nm (`ab!),(.ow (`CJ)),(by exact`bqX),`NI `aB7 (`cO (b.2 r.2)),(`bqY),(`m,`Ea),λζ ξ=>#[B,ds,vs,a,bm.1,q.2,q.1,`zq,hB,rfl,ζ,r1,`bcT,e3,ξ],(`aT `bqZ),(`n (wt0 ks k)),λζ=>∃a sub,`bPX/\Q ζ (`jd H' sub),λu s' #[v,H',I',r,a,sub,o,k]=>`aB8,λv H'=>∃a sub,`i9 H' a sub/\Q v (`gZ H' a sub),[`t "@",`g3],RpN K H' B as d v,(`bP).lookup c=`Bf,(c==x)=`m,`pI `NJ,List.getElem_zip,`jd H `eJ b,`L z hb,by rw[`aB9,← e],λζ=>pu0 h.hd h.nd `nX (λk c so e1 e2=>ζ) h.ins,h.opAt e1 e2,(`bq_),∀C dx fs,so'=`mr->k=0,(`bq0),upd H a (`o1 `adT),(`adU k n'),`dq (`A? hB),DL.setN i k n' δ,(by rcases r with⟨k',c,e1,e2,e3⟩|⟨e1,_⟩),(`KX en.atN e3),(by let#[w,w1,w2]:=rx.atI h),λζ=>#[c,xs,z,w,rfl,rfl,ζ,w1,ad,`bP,c1,?_],k w H2 O w2,(`bA `bq1),`adV r1 hn,nrf dv=`d,(`o (es++[dv])),`xp w.all hn,(`bq2),`wA `NK,
λζ ξ χ=>z90 (pe0 Q2 ζ ξ χ `aph `bO6 `gH hfew `iK hs `qr) `s s σ H Q I `bhm,#[a,`bP,`no,`adW,?_],#[a,`bP,c1,?_],O.w.opAt f1 f2,`bV `adX `M,λζ=>λx H1=>∃a dx fs,`eu/\`F2/\`F0/\∃a' sub,`bOM/\sp (x::([]++dvs)) (`gZ H1 a' sub) Q ζ,λζ=>(by let#[x,H1,I1,rx,a,dx,fs,ex,ea,l,a',sub,cl,q]:=ζ),λζ=>B80 (first:=`en) `DM hm.kp ζ,tl0 (`ac3) ds f,(f==n)=`m,λζ=>`bQj λl=>`bQk λp=>`bQl ζ,(S60 p.1).bind,p20 (m:=l1) w3,λζ=>`Hx λdv=>`gM λns=>`ao? λp=>`apa ζ,λζ=>setN i 0 (`z [`bhn,`o `C8,`o (kc0 `C8 `abm f ζ)]) δ,(`bK `bq4),(by let#[C,U,nm,xs,rfl,rfl,hl,hC,a1,rx]:=`NL),(`bA `bq5),λζ=>`z [`apL,`Vo,`o (kc0 `_c ds f ζ)],(`Kx nm ys),λζ=>#[C,ζ,nm,ys,rfl,rfl,y2,hC,a1,y3],(`o es.dropLast),(by rcases hb with hb|⟨ob,hb⟩),`l (v50 U) hb,(`bq6),λζ=>rp0 (z90 ζ) hsw `s s σ H De I `bhm,(RpN X.K H1 B as),λr=>`w (`c8 r=`d) `du `f,`o ls::ds,λ_ z=>`eq,`n #[`Dk,`ayc],`Z k ps (spB K 0 f),`jF/\`td/\Meth K C m fa/\`BY/\m∉F,`aB' FnT,`bV `adY `M,`NM w.hd a6,(`a?::`NN),`bV `adZ `M,(`BB `bq7 `p),λζ=>by rw[ζ] at U;cases U;rfl,(`el i .un),(by rcases `Cm with⟨_,z,_⟩|⟨n1,h1⟩),`rW=`ad_,`ft [`ab9] `M,(`Eb `aB! x1 tp),(`bq8),(by have hH:`aB?:=at'.w.at'),upd H1 L `hS,`c (`z `ad0),(by have aL:a≠L:=`bq9),(`y `mo),`Ec `Y `Ed,(`mo).Nodup,(`bA `bq'),La (z▸hx),`pJ[0]?=`kK,`l (`hc (`ds `xq).1) `xq,λζ ξ=>∀(k:Nat) c so,`pJ[k]?=`fu->ζ[k]?=`Bf->`bO7∨(`app/\c=L/\ξ),(by rw[`bq!] at q2),(`ds q1).1,by simp only[`X,`mz] at hl1;lia,(`aT `bq?),`aCa k C dx fs e,c0.w.opAt q1 q2,`jQ->Hc b=`o3,∀b,b∉`mo->Hc b=H3 b,λζ=>`ag (show ¬b=a from λz=>hb ζ),v50 `bra,(`brb).1,(`bK `brc),`aCa k C dx fs q2,(a,`aB6)∈`bP,C9 (i:=0) ?_,List.getElem?_zip_eq_some,`cO (`xr (`NO)),#[x,_,rfl,_,_,hw],`mt (A9 c2),`l `Ed (`sn `ad1),λζ=>`n #[`gh,L,vl0 _,by rw[ζ,`zG,`n9];rfl,rfl],`ft `pL `M,(`brd),(λ_ _ _ z=>nomatch z),qr0 i ga `ad2 `aCb,qr0 i gb `ad2 δ2,∀b xs,`xg->`_N->¬B' b/\`axu,(`bre),(`KX `KY q2),(`axJ q1),λp H2 hp s2 ro=>?_,Env.blank (`KM env.len),
`te (`CE sm) (`hM sm) ?_,(`brf),λ_=>`KN,`mw `eC=`c `NP,`jd H1 `eJ,H3 b=`jB,`gZ H3 a `eJ b=`jB,(by rcases `Cm with⟨q1,_,_⟩|⟨_,z⟩),`L z (no _ _),`fR[n+k]?,a8 K H B a ro,But a H1 H2,j4 (T4 e hL),(`brg),PX X `ad3 `ad4,`aCc X.K,(`brh),(`bri),`ayJ `ad3,PSD X (`ip `pL `ad3 spos) (f80 j `ad4),k v H' `ad5 (`NQ (`ju c1)),ev.same.trans,`CH ((2:Nat)<=_),putK acc p.1 p.2,`gx `nl c7,PDP X pos keys vals gP,`fs `lc,(`NR).map,(`brj),(`g2).map,`c8 da=`d,λζ=>ζ `zv `Pu wh `s s σ H Q I `aE2,#[t,r3,k H3 (`aCd s3)],`gZ H a sub b,H dx≠`f,`i9 `NS a `ad6,Hc=`brk,`aCe O,`cO (`xr `ad7),Zg0 f `C8=`d/\`ad8,λζ ξ=>.nx (setN i 0 (`z [`bhn,`bPr,`o (`abm++[ζ])]) ξ),`aCf=(`NT).zip `Ee,λζ=>`z [`apL,`bQw,`o (ds++ζ)],λζ=>.ins C U (`Kx (`NT) (xs++[ζ])),`aw `a2,`Ec `Y hl,`z [`ni,`rp,`rp],`hg c,`jD `aCg `NU `aCh,PSD X (`ip `pL `aCg spos) (su0 j c f),(`bib),λb=>B b∨b=x,Ss0 K C F=`d,λζ=>∀h' tk acc c as,`aXW->`aXH->`Hd->`aXI->ζ,`D5 `xs `g9 `aj,`s? S `NV,(`e4 s `aCi),(`aCi).get?,`mw `hU=`c `xt,`ft [f] `M,(`NW).map `Ns,eqU `ks (`g y tk),F.slot_list_index,(`aCj).map,List.filterMap_nil,`o `ad9,`F (`aCk `aCl) Am,(`brl),(`e4 s4 (s4.heap.push (`mW (`bx "slice") (`mD ⟨vl,vu,vc⟩)))),`T s4.heap.objs.size,(`_T),(`brm),(`brn),mkF 2 ww0 J7,"abcdefghijklmnopqrstuvwxyz0123456789",(`bro),(`brp),(`brq),(`brr),(`brs),(`brt),λζ=>[`azq, `azr, ζ, `bO!, "_law_j", `bO?, `bPa, `Bx, `bPb],"_law_signs_here",(ob `ap),(`bru),(`NX `NY),(`brv),(`brw),(`brx),[`mi, `r9, "_law_cells"],(`bry),[`mi, `h5],(`brz),(`brA),(`brB),(`brC),(`brD),(`brE),(`brF),(`brG),[`mi, `h5, `Ku, `gj, `aCm, `aCn, "_law_pairs"],(`brH),λζ ξ=>y40 (W9 (o2 `cE (o2 ζ ξ m7) m8)) `bP3,(gc (`g 10)),(`brJ),(`brK),[`oP, `azs, `aCo, `mi],(`brL),(y40 (ot0 2) `lf),(`brM),(Z5 (w00 1 `c')),(`brN),(`brO),(m20 `ap),(`brP),(`brQ),(`brR),(`brS),(`brT),(`brU),(`brV),(Z5 (w00 2 `cH)),"_law_found",(`brW),mkF 2 rf0 ll0,(`brX),(`brY),(`brZ),mkF 2 sy0 sf0,(`br_),(`br0),(`br1),mkN 2 sk0 sx0,(`br2),(`br3),(`br4),(`br5),(`br6),
[`jJ, `JY, `kx, `Kn, `AX],mkN 4 so0 sd0,(`br7),(`br8),(`br9),[`jJ, "out", `kx, `Kn, `vi, `JY],mkN 1 fy0 fh0,(`br'),(o2 `ap `jw S8),(`br!),(`br?),(`bsa),(Z7 `ad'),(`bsb),(`bsc),(`bsd),(`bse),(`bsf),(`bsg),(`bsh),(`bsi),yb0 (ob `aCp) (ob `aCq),(`bsj),(`bsk),(`bsl),(`bsm),(`bsn),(on0 0 `xu `Mn),[`c0, `rg, `pM],(`eI `g?),(`eI `cE),(`bso),(`bsp),(o2 `ap `g? m9),(`nq `NZ),(`bsq),(`bsr),[`t p.1,p.2],isWord w=`d,`z [`mp,`bw],(`y `BM)=`cP,by show l.toArray.size=_;simp,`bss=l,`fd `bk,#[`G,λc hc=>`br (h3 c hc)],p++sep++n60 sep (q::r),`af Rm.Want,λζ ξ=>{ S with begun:=ζ,wait:=ξ,digits:=0 },`cr n `hl,[`mp,`g3],S1.begun.length,(n/4%4).toNat,n%4=2/\n/4<`se,λζ=>¬(`bbn∨ζ*128<=4*(4*20)+3),(`N_ n),(`h2 p.2).map,(`h2 (p.2.drop 1)).map,S.names.getD,`ad! (S.un.headD 0) `tf,λζ=>{ ζ with length:=0,spelled:=[] },`w `ad? (`c (`Ef)) `f,vm0 `ci `a5,o8 G1 G2 δ,ifB g Ga Gb δ,by unfold ifB;rw[h];rfl,S8 `d_ `B8=`aBk,λζ=>by simp only[S8];rw[`Q ζ],`az=`N0,`c (`o6),cs.map `bZ,∃z,0<=z/\Q7 `jk []=`c (`gW,`rJ),λζ=>∀s0:Sl,o2 `aQ ζ ixD `VO=`aqN,[.un,`vV,`Kp],λζ=>J ζ (λp δ hδ=>?_) (`bfs),`g (3*k*k),(o6 rfl rfl).trans,λζ=>by simp only[ζ,ii];rw[`bS],(by show `bst),`bk a++`bk b=`bk `tg,`Eg+`N1<=`W,(`bsu),`az=`c `lg,ob g δ=`pm,by unfold ob;rw[h];rfl,λζ=>∀(Ga G:GS) (r:`A2),G `aqW=r->u5 (ifD ζ Ga t7) G `aqW=r,(`bsv),T7 i gA f δ,(`sz).map,(`aCr).map,`e8=`c (d,δ1),marks (`mp) `c3,`aCs hk,Z9 `bsw,λζ ξ=>∀(p:`e) (j:Int),ob (o2 `Pz `afZ ζ) `uC=ξ,λp j=>`o',(λi e=>by cases e),λζ ξ=>∀(p:`e) (Ga G:GSB) (r:`um),G ζ=r->ξ=r,λζ ξ=>Uo0 cs hc sm m hm `bz ζ `ef `j ξ,br0 rfl rfl e,(by rw[`bsx,`p,c]),λζ ξ χ=>((ys0 `dy ζ 1 `V4 ds ξ).map λq=>(χ::q.1,q.2))=_,`bk (n60 sep `Eh),`o (`aCt λp=>`g0 (`bk p)),n60 [] (`dM `N2),S.cps.toList,`aw hS,(by have a1:=`bsy),(by have a2:=`bsz),(`bsA),`g (`B9),p=13∨p=53,`aea%`th,`aCu - `aea,(`lh hd),(`lh h2),`L e3 z,cg `aCv,`Mp a++`rQ,`aCw++`rQ,names.length<=100,`c (`xv),Tt0 w _ `j `j `j,Gw.iz0 _ _ (`N3),
λζ ξ=>show `Dt=ζ by unfold nmF;rw[`ag q0,ξ q1],o2 `cE `aCx m8 `Ei,(by show `bsB),λζ=>iq0 (d:=`CL) (l:=`f) (h:=`c ζ) rfl rfl (Xe0 e),(`y `Dt),hm c (i3 q),gw0 N k c q,C7 `Ej e,`t (`bk []),`fB (w++[cg q]),[`i4,`c!,`N4,`N5,s4,`xw,`pN,.un,.un],(`bsC),λζ=>`aCN (`aCO (D90 ?_ (Aw1 (n:=ζ)))),(z/4%4).toNat,λp k cs m pool=>Z9 ?_,o2 `axN `axO ixD (`m7 s0 `N6)=`c (`g r),[z/4%5,z/4%5,z/4%13].map,.ow `bsD,`aeb=`c (vs,`Ek),(`bsE),PoolB np nm,`abw i "",`abw j "",(`N7)%`o7,(`bsF),(`cn `cz).map λj=>(`aCy,`El),∃(p:Pt) (k':Int),k<=k'/\k'<=k+14/\`aCz/\N8 `jk []=`c (p.d,`Ek),(`bsG),E2 (z/156) (`bc (`LS≠0)),(`bsH),(`bsI),(`bsJ),`aCA (`l `le `gT),`aCB `j,List.take_nil,Gd p (`aJ:Int) `bz,`z (`N8),ns.drop (s+1),`aec=`c (`g f),`o [`g 13,`g 53],(by rw[ix δ h,q]),if sm=`d then 1+f/64%60 else 1+f%8,yn0 0 `m_,(bk3 cs sm),`c (`aq (s+1)),(`N9 (bk4 cs sm `m_)),(`ad! k `tf).1,`c (`aed),`c (K4 1),`c (K4 2),`c (`aee),`c (`N'),`c (`xx),(`y `Em),(`abA).set k `aCC,λζ=>z10 0 `ls `jM ζ=`c (`Of),`bj (unG Q0 `cE (`ti::δ)=`c (`wr)),`aef `ps,(U3 `En),`aR (R `xy),(`gx c0 hu),`Da k `aCD,(gc (`aCE)),`bC (w=v),(by show `bsK),{ S with un:=u },`o (`xz `ps),w.count `ck,[`bsL],`L h `aeg,(by let#[c,b,u,nm,w,dg,l,sp]:=S),`L rfl hv,gA `bq=`ov,λζ=>`d2 [`t (`rE (`bPJ ζ `tf).1),_]=_,`aeh::`aei::((`su `aCF)++[`rp]),List.map_congr_left,λb u δ=>by rw[J,hL];kernel_rfl,`hh `P `jW,wd `bsM,(`cl).toNat,`o (wd (`jX)),λζ=>∀(a b:Str),ob `bPs [.sh (`jU),ζ]=`bPt,λa b=>`o',[.sh (`Bs),`c!],`aK (`o (wd `abr)) `i6 rfl,`aej `abr,`oK 200000,`o ((`wH)++[`BO]),(await S ws),vf0 `aek=`d,`o ((`wH)++`aek),(`bsO),(`y `jX),`bsP<=_,`ii `Eo,by split at h1<;>lia,`aR (R `Eo),(`bsQ),`aK `N? `_A `Oa,`bsR=_,[`aR (R `Ob),`r8,`c!,.un],lb0 S (`JS),(`sd).wait.length,(`sd).wait,`jY [`rs],`xA c `fT,(`aq `ael),m5 (δ':=`li) `Oc `eO,`bsS=_,link (`aCH),`bsT=`bsU,`cB `li `Oc,`jZ `JX `N? `Oa,`bsV=_,(`bK `bsW),`bsX=_,orG ga gb δ,by unfold orG;rw[d7 h];rfl,`ao (`hQ∨`aCI),(`bsY),`hQ∨(`Ep)*128<=323,(by obtain⟨n,hn⟩:∃n,n=`Ep:=`ad),
(by rw[`bsZ,hn]),`Eq `aem `iq,`c (`m,`iq),ob `Lk `iq,y20 `aCJ `iq,z70 `kP (fn0 S w ws hw n),(by show `bs_),λζ ξ=>m5 (Z9 (ζ p S _ `aQ ξ rfl)) `z1,`aen=`hi,X3 `aw2 `h!,(`bK `bs0),.sh (`t (Y5 `hl)),(by rw[`bs1,qj0]),`F (`aeo) An,`aad `aCK,#[s2,rfl],SB `bs2,λζ=>(match ζ with|`eL=>`bhq|`akD=>`bhq|`akE=>`eL|r=>r)=_,λz=>h `sQ,(`dM `axp),K1 `a' `wI,[`aR (R (`Ef)),`e5,`Bg],`bD [`hK,`aCL],s60 b _ _ Ym0 `r,List.drop_zero,`g (`aq (36 ^ `xB)),`g `aCM,(`y `Z4),List.range_eq_range',c9 λj _=>?_,λd=>match d with|`ec=>`ao (s.cps.toList.length=L)&&`_G `hV|_=>`m,(`A_:Int),(`y `wn),`CK `Z3,names.filter,(F.length:Int),l.Nodup->(∀a∈l,a∈m)->`cP<=`ij,`Er `aep c,A.length ^ k,`aCN (`aCO ?_),[`oF,`BP],left `bs L [],(`aq (2*L+1)),R `bs3,`bs4=_,(by show `bs5),(by rw[`bs6]),`bs7=_,ip0 p S _ _ L [] `Od `j hl `lj `j,(`Es `aCP),`o ((`Em)++[`xx]),`bs8=`bs9,`aK `xx `J? `aCQ,(by rw[`bs',`p,`dY]),ip0 p S _ _ `eD `mZ (`pO `aeq sp) hn hl `Oe `j,(`sB:Int),(`y (`bk `rA)),λζ=>fx0 S b hb hn hl `j hL hleft p _ _ ζ,[`aR (R (`vw S `mZ)),`e5,`Bg],(`KB S w),λj hj=>h j (A6 _ hj),(`aCR).zip `aCS,(`aza hi),(`bs!),held.length,∃c:Nat,d=Z2 [c],`dv=`C!,[.sh (`Bs),`abF],(`h2 ds).map,`c (`aq 1),`mk `tj,(by show `bs?),`aK X `wr rfl,(`bta),(`btb),`h2 (held.drop 1),held.headD `v,Fits q.1 q.2,vf0 q.2=`d,tc0 `Dv (`Of)=`c (`abG),`aCT=`c (`o q.2),`Of=`z [`ayf,`aer],Z0 (ds:=`aaC) `Od,`ii (`Og),[`aCU,`e5,`Zp],(by rw[`btc]),(by show `btd),`Eq `aCV `nr,`bj ((`vU : Str)=Y5 `ge),X3 `aCW `nr,(by rw[`bte,`p,`btf,`btg,`p]),(O4 q).any `aCX,`bth=_,(by show `bti),λζ=>ζ S ok w ws hw b hb nm hnm hin,`w (r=0) [] (`ir::dgf f `pP),(`y (bs n))<=2601,N3 (Nat.div_le_self _ _) h,[a,`aes,`aCY],T9 [`i6]=`c (`d1 (bs n)),(`aq (n/128)),(2:Nat) ^ 2502,ug0 `Oh=`c (`aCZ),`btj=_,(`aq `Dw),λζ=>by unfold fold;rw[ζ];lia,λ(c:Nat)=>`acb,M6 `Oi=`c (`aC_),(`dM `g),`cP+e.length<=`W,Z5 (u60 i g) δ,(`btk),oA `xC V5 δ,`g `aC0,(`aU h rfl),(by show `btl),`pQ `fI,zs0 `wL=`c (`aC1),yc0 `wL=`c (`aC2),`Oj=2*`aJ,`aet j,List.take_succ,
[a,`fa pre,s],z40 `wL=`ns `fO,[`Ok,.un,.un],[`Ok,`pN,.un],(`btm),[`Et,.un,.un],d.1.length<=20/\Vb d.2,(`btn),(by let#[p,hp,hm]:=l6.mp hd),(by have hp:=`bto),sub_len,`D1 `aeu=vs,λζ=>ta0 ks (nd (`Pn ζ `jc)) k,(`pQ `jc),λ(k:Nat)=>(`ph `dV:za0),λs=>`aev,(`ph `b9:za0),List.mem_map,(`ao (`mV)),xi0 `vD `Ol,`aC3 `aC4,Zm0 `aC5,`Eu `azg,`g `aC6,ta0 `vD (nd (`cn `Ev)) `Ol,Xq0 `aC4,`g `aC7,[`ec,`v3],Bw.J00 _ _ `j,[`hP,.sh X],`g (`aq `azV),.sh `KE,(`aew - 1 - `aC7),[`vN,d,`kR,`v3],(`btp),(`btq),(`btr),`w `g' (bs `aC8) `aC9,(by generalize `i'=p at w1 w2 hq ⊢),(`wX o s),`pQ `Ev,(`bts),(`btt),λζ ξ=>`nD (`ix (λd'=>(d',(ζ:Ds))) (ξ).getLast?) _=_,`CO++[d],List.getLast?_concat,(by rcases hd with⟨x,rfl,hs⟩|rfl|⟨x,rfl,hx⟩|⟨j,rfl,hj⟩),(`bK `btu),(`bK `btv),(by have e1:nB B `oG=`aex:=by unfold nB;apply `nt),(by have e2:`btw:=`btx),`ce `aC' rfl,`pR `wL (`l `aC! w1),`ce `aC? rfl,∀s:Str,`tk->P `gc,(`bty),λs h=>hn s (D7 _ h),(`aDa).vals,(by obtain⟨g,rfl⟩:∃g,f=g+1:=#[f - 1,`G]),#[`G,B,T,s,?_],λζ ξ=>`a!f ζ (m:=`PP) λy hy=>`lh (ξ y hy),#[`aDb,`aey,hn,J,O],(`mn).Nodup,`aDc h,(`y `mn),(o5 q `xD),`mk λp=>(p.1,f p.2),(`K4).vals=`Ew `h3,#[?_,rfl,rfl,?_,hv,?_],(`y `Om)=`aJ,pp0 `h3 (`j_) ps,`sR `Om,nB B `kM,0<`Ex/\`Ex<=60,(`CN).vals,(by let#[k,hk,rfl]:=`dH hp),Yg0 `hW (`CN),(by let#[u,hu,rfl]:=`dH hv),(by rw[`btz]),k80 `btA,(by let#[c,b,u,nm,w',dg,l,sp]:=S),`aDd=`d,(tr d&&`d)=`d,(tr a&&`aDd)=`d,#[`gd,?_],(`btB),(`btC),(`btD),λζ ξ=>(do0 (S:=ζ) w1 ξ).trans (by rw[J]),`g (t10 (`it/4)),λζ ξ=>`it%4=2/\`bPY/\0<=`it/\ζ=`bPZ∨`it=0/\ξ,`btE=0,List.count_eq_zero,(`r1).wait,`On++[`_E],`aw hw,Pq0 _ `j,λζ=>u00 S _ w ws hw hv _ _ (`q #[h0,ζ]),(`hh uo0 `Ey),S.names.Nodup,nm∉`bs,(`aez sp c),(`btF),(`btG),(`btH),(`l J O),(`btI),(`KB S1 `aDe),`Cw+`cP<=900,`dM `Oo,λa=>`a_,by rw[w1];rw[J] at hl;simp at hl ⊢;lia,(`ej (wv0 S k (b::l) ws) c),`aeA∨`aeB,[`mv,`eH],`t (`rE `aDf),`Op w `g8,(`bK `btJ),W3 `a' `wI,(by show `btK),`btL=_,`aDg=`kW,l.all `c8=`d,`c (`d,`nr),
`g (`aq (b/2)),`S->Prop,#[[],`a_],λζ=>#[λj hj=>ih.1 j (`bP_ ζ),ih.2],n+51*`bY<=`bX+51*`Oq,λζ=>`W7++pk ps ζ (`a?b) T `bQe=_,(hw.it _ `Or).gp.len,`bc (`aeC+f=(n1+`Os)+1),(`aT `btN),(by have J:∀d∈ds,`sp:=`aDh),(by rcases hd d A8 with⟨s,rfl,_⟩|rfl|⟨z,rfl,_⟩|⟨j,rfl,hj⟩),(`awS `Ot),#[B',T',_,`t h],#[B',T',_,.val `dI h],(by exact`btO),#[B',T',_,.old hj' h],`Ou=`aDi++b1,∀j,`aDj->j∈L,(by have hB:∀j∈[0],`jg:=λj hj=>`l (`fr hj) J.1),`xE (`sf J.1).2,h.nodup `aS,(by have hp:`btP:=`btQ),(λj hj=>by cases hj),(`btR),`Ex<=`aJ,`bc (n+`Ez=100000),`jp=`EA,#[`aw a,b],`h2 (`jp),(`fI,`Dz),d80 (a3 y hy) π,J.map `aDk,`cr `cz `Mx,(by have hl:`btS:=`btT),λζ ξ=>#[`ge,`bOU,?_,`bOV,λs es=>`q #[rfl,fun π=>#[#[ζ,ξ,a1 π,a2 π,?_],?_]]],`jf (`aDm)=`d,`xF ∉`aDm,(`bA `btU),(by rw[a,`Y,xb0,hl,← `aDn,mp0,c30]),`L es (Y d (hv d ?_) s),`z `btV,`z `btW,(by rw[← `aDo,n00,Km.my0,`cu,`cu,`cu]),w.cps.toList,by apply `EB,T.map `aDp,`hY<=4000,l[k]?=`kK,λq=>`aeD,`Ov `gc,λζ=>by rcases ζ with rfl|⟨rfl,_⟩<;>decide,#[pl0 hu _,rfl,rfl],λζ ξ=>#[_,r,I.aft A hq hl hw ζ `ol `IF `IG rfl I.l0 I.s0 ξ,A],(`Es `aDq),`Ow T,(A++N).modify k f,ir0 (w:=t) O,`aDr::`a5=_,s30 I.th rfl q z,t.cps.toList.map,`btX=_,dg0 _ _ _ _ U.symm,(`y `aeE),S0.un.length,∃l,Nm l/\d=Z2 l,(∀j∈us,j<k),`fy N bg us ws,(`axW hm),(`btY),`fU/\`lk,(by cases h),(by rcases G.op with⟨e1,e2,e3,_⟩|⟨_,o⟩),Pq N q (w::`g!),`L rfl hf,`Ox=`aDs,T.wait=`aV,G.open' hw hr,λh=>`L l0 h,(by rcases hv with hv|hv<;>cases hv),λζ ξ=>#[`q7,ζ,G.cl,G.nl,G.nm,G.dg,G.l8,ξ,G.ln,G.dv],∃n,Nm n/\x=Z2 n,bb0 q.1 n hn,#[`G,λh0=>?_,λh3=>?_],`cr n Want.sign,λζ=>by rcases hv with rfl|rfl<;>exact ζ,S.number b eqS,(by have hl:∀n∈`bs,`iu:=λn hn=>`cN (G.nm n hn).2.1),λ_=>#[w,ws,hw,hv],`aeF kd n,λζ ξ=>#[pb0 S G.ok ws hw n _ rfl ζ,`dv _ ξ,rfl],(`aDt:Int),#[`G,`G],`sA=`c `cF,`sA≠`tl,S.takes b eqS,`L z.1 `aeg,λζ ξ=>(ζ).lift λr S' h=>u00 S S' w ws hw hv b r ξ,
λζ ξ=>(ah0 G hw ζ l0 s0 b).lift λr S' h=>si0 S S' _ ws hw ξ b r h,λζ ξ=>if `z2 then rl (r+1) ζ else rl 0 ξ,(by exact`btZ),#[`G,?_],wj0 h1 `lj,E.begun.length,W.wb.it p hp,(∀v∈`r3,Vb v),hn s (D7 _ (J qs hv hs)),λζ=>#[S',ζ,`aGn,D'.un,D'.wt,?_],λζ ξ=>(by let#[S1,r,I1,A]:=Y00 W I hu hk (`atW) hw L `bQm ζ ξ),(`bA `bt_),(by apply `aeG `kM),(by have U:`hQ:=s2 λs e=>by cases e),(`y `aDu),`d4 `aeH b1 `aeI,(`aDu)++(B1.drop `bY).map `aeJ,#[S1,`Oy,I1,u1,w1,?_],ua0 ps `hW j,(`bA `bt0),List.drop_append_of_le_length,(∀q∈qs,`ll),gs0 xs h q hq,λq=>`aDv,d80 (hI x hx) π,(ir0 (w:=w) ho).1,#[c,rfl],(by exact gen `h' λz=>nomatch z),`d2 `aaH,Bw.web (Km.laid ps L),(`sf O.1).2,{ S2 with un:=[],wait:=[] },`d2 ((`aDw).map Pt.d),ce0 xs ys h1 h2 h,by simp[xy0] at h,#[`aDx,by cases n<;>simp[`e6]],(`ZQ),pairs qs hv,`aDy=`c (`z (`i! pr)),(`bK `bt1),[`aDz],(`bt2),[`bt3],L.map `Oo,(`K6 W d3),`xG `EC,(Km.Xm0 hq).2,(`bK `bt4),`d2 `axq,[`lm `Oz],(`bt5),`aaG++[`bZ `b9],(`bt6),`o (nd E),λζ=>#[n,`p4,λf W s3 s4 hl=>by rw[Rg0 ζ];apply `bPe],λf W s3 s4 hl=>?_,λζ=>Uh0 hw (B:=B) (W:=`at8) ζ (O hn hB) `as' s3 s4,k00 (`gy S70 `aS) e,wi0 `ED=`c (`Bb),(`bt8),`Cu (`Ew f),#[s6,?_],[a,b,c,d,.sh (Pt.text w).d,.sh `hS,s6],#[`aDA,?_],λζ=>[a,b,c,d,.sh (`Ip ζ `My).d,`at',`aDA],(`bK `bt9),`z `bt',[`bt!],`bD [`Ln,`axZ],(by show `bt?),(by have:=`bua),[`eP,`nu,`pN,.un,.un,.un,.un],`fa (`aDB),`o (`Ew `xH),(rel `hW p).d,`o (L.map `DB),`gm [ae] `OA,`F (`kz `kA `OA=`OA) Aa,(`bub),(upd H1 e (`aat)),`l (j4 (A9 n1)) O,(`buc),(.If c as bs pos),∃q:DXB,∀p,`OB `m6 q,i90 n N j G b ds=`du,∀p,`OB `m6 r,`c (`pS),`c (d,b'),`cO (b.2 b'),.ex c n r.2,`aB' FnTX,(by let#[Ca,fa,fd,Fo,hC,cl,a3,hb,a5]:=C.ex),by rw[hC] at Z;cases Z;rfl,h1.same s1,(by have J:`aDC:=`bud),(`bue),(by have J:`aDC:=`buf),(`bug),#[_,en,e2,λH' C od J nn xx=>k σ H' C od J nn xx],(`ei).bind,(zm0 gx g f),λζ=>ζ ho `zv `bPB hm `s s σ H Q I `bc5,(`aT `bui),#[B,env,λu H2 s2 ru=>?_],
λζ ξ=>hf H2 B v u q.1 y ζ _ `bPi `bPj ru e4 λw H3 s3 J=>ξ,(`aCd `EE),(`pf `azm),(`buj),i90 1 ur0 0 v40,(`buk),(`bul),(`bum),(`bun),[`h5, `azt, `gj],mkF 2 q30 q60,(`buo),(`bup),(`buq),(`bur),(`bus),(`but),(`buu),(Y4 (oA `mx wa0)),[`gj, `h5, `r9, "_law_byte_here", "_law_kind"],mkF 2 q20 td0,`fc=`nv,`i7 `ay7,by unfold uz0;rw[h],`fc=`nw,by unfold z20;rw[h],by unfold plN;rw[Vy0];rfl,(`buv),(`buw),[`aDD,s1,`eF],(`ej S1 (`aaz+1)),`c `bux,tx0 (oi0 p S _ hc),`EF `aeK `CP,`aeL=`c `pT,`aDE=`c (.ok (`aeM) `a'),#[`dR,?_,rfl],y20 `EG `dR,`aDE=`c (`OC `a'),DXB->DXB×Ds,[s0,.ow b'],[s0,.ow `a'],`aCA `j,sIx `_ 0 `OD,`xi=`aeN,(`y (`i! _))<=12,λs=>`sC s,(by let#[q,hq,rfl]:=`dH hs),Kf0 hl.2 ((`abN).vk v hv),J p hp s hs,[`kL,.sh (`g y),.sh (`aDF)],`aDG<=`ij+1,zs (m.take n),List.map_take,zs (`Cz n),`ij<=12000000,(`buy),`g `aDH,[`EH,`kL,s2,s3,s4],[`EH,`kL,`xw,.un,.un],(`aDI).map,[`EH,`kL,`xw,.sh `EI,.sh `OE],[`EH,`kL,.un,.un,.un],o6 (e8 _ _ _) (Z _ _ _),`c (`ry),(`y `EJ),`EJ++[x],`n ((sub `wc).2 b z),(`buz),(f4 _),(fe 5 _ h6),(`buA),mkB 1 xu0 0 zx0,(`buB),mkB 1 ux0 0 v20,f c n=`a9,(b30 h1).elim,(`buC),(`buD),"_law_caught",(`buE),(`buF),λζ ξ χ=>orT (`zI (ob (o2 `cH ζ ξ))) (orT χ `bQn),λζ=>U8 (de0 (zm0 ζ `c' eqD) `bP'),λζ=>b8 `lf (o2 (oA ζ U6) `bfr m7),(`buI),(`buJ),(`buK),(`buL),(`buM),(`buN),(`buO),(`buP),(`buQ),(`buR),(`buS),`c `buT,gN 2 d `CP,[`sH,s1,s2'],iy0 rfl λp=>?_,(by let#[J,e]:=`buU),(by show `buV),`ln∨Odd d,∀r',Gw E (b::r') E `m,Z1 `a' `wI,.no hbi tk `j,λζ ξ=>λ_=>#[[],ζ,l,rfl,`It,rfl,`bPR,λr'=>ξ],λζ=>.tk hbi t1 `j wl.2.1 k1 ζ,#[b,hb0,rfl],.odd hod `j,`OF R8 `aeO,λζ ξ=>Y8 rfl λp=>#[`dR,show ζ `dR=_ from ξ,rfl],`OF R0 `aed,[`sH,`m0,`h8,.un],λζ ξ=>m5 (δ':=`bPC) `Oc (m5 (δ':=ζ) (Z9 ?_) ξ),W70 (ds:=`pU) rfl hg,[`m0,`aeP],yv0 `pU=`c (`azp),`aeQ=`buW,s50 (ds:=`pU) rfl (mq0 h),`Bj `m!,(`buX),`buY=_,[.sh x,`aDJ,.un],(by rw[`buZ,`p,h]),yb0 g g' δ,by unfold yb0;rw[h];rfl,λζ=>∃c':Nat,`bPy/\R6 ATt AB ζ `Am=`bPz,d00 rfl `EK,`c (`OG),
W20 (by rw[t1,`xI]),`_<20000000,`Z! (`N3),(`OH).take (q - k),`g2=`aDK,`c (t,δ'),f d y=`du,`ao (i=i),[`c4,`Cc,`g3],(by have U:k<`_:=`bu_),(b::r).take (q - k),d00 (a:=k) (b:=q) rfl rfl,p50 (Sp0 `OI),(`aT `bu0),(`bu1),(`aT `bu2),[`sH,`ja,`L2,`jI,`h8],[`aR (R F),`ja,`L2,`jI,`h8],δ[k]?=`nm `a',`c (r,`el k `OJ),by unfold G5;rw[h];rfl,`OK `OL,λζ ξ=>y30 (zz0 (l00 (S:=`fC) (ds:=[`o ζ]) rfl `bOT (o10 ξ)) (y:=`v) rfl rfl),λζ=>y30 (zz0 (l00 (S:=F) (ds:=[`o ζ]) rfl (`aU `X3 rfl) (o10 f2)) (y:=`v) rfl rfl),(`bK `bu3),Gw `fC fs S `d,(`bu4),`ln∨d∈`ON,(by simp only[`pr,`C4,`C5] at h),(`bkO),E2 _ `r,h00 [`mu]=`j0,(`Ou).map,.sh (`g c0),c1/4%(`OO),by simp only[`Y,`d0,`le,`dK];lia,(`sJ `k5 `rM `jI),λζ=>o6 (qe0 (xs:=ζ) rfl) rfl,`aDL+[o].length<=`W,c1/7%(`sI+1),z9 a w fs (`k5) xs J `wq q .un,"MOST_NAMES","MOST_NAME_SIGNS","MOST_PARTS","MOST_VALUES","MOST_WORD_SIGNS","NAME_SIGNS","WORD_SIGNS",.ClassDef _ _ _ `eM _ _ _ _ _ _ _,#[rfl,rfl,rfl,`ba,rfl,`ba,`ba],T.b_reversed,λζ=>ss0 Yi0 b_bool `vE T.b_bool ζ,λζ=>tp0 Xk0 Q60 T.b_ord b_ord ζ,(Z3 `a0),(`bu5),(`bu6),(`bu7),C_made_pairs,(`bu8),(`bu9),[`vU, `ie, `aaJ],`fV `OP `lo y60,(v6 j9 `xJ),λζ=>G7 (ss0 T90 b_str `vE T.b_str ζ),(Y6 `jr v9),`xK `OQ `ht T9,λζ ξ χ=>ci0 (tf0 `au5 hr `r (v6 (b7 (M9 v9 ζ) v9) u6)) (tf0 ξ hr `r χ),`xK `OR `xL M6,λζ=>M9 v9 (zn0 `bPS (U40 `mC `aF ζ)),C_sign_bytes,(`bu!),`aDM P,`aDN P,`aDO P,C_Reader_give,(o9 3 `tm),(o9 8 `tm),λζ=>S6 (o30 6 (b7 (T8 `dX R9 ζ) `avg)),λζ=>Z3 (b7 (zn0 (Z6 ζ `bPT) `agj) v9),(Z3 (zn0 `OS v9)),[`Bx, `aeR, `h5],λζ=>FnB ζ w K mg `au `Yz 2 `Yx 0 zi0,(o9 2 `xM),(v6 `EL u6),(`bva),[`Bx, `BC, `h5, `aCm, `aCn],λζ=>W50 0 1 (`ba:(ζ:`h).Nodup) `r,`fV `OT `xN U6,(Z6 `a0 v9),(v6 v9 `xJ),["_law_name", `BC],`xK `OU `OV M4,C__law_values,(ol0 `aF),(Y6 `dr v9),(b7 `EM v9),(`bvb),(`bvc),(`aDP:`h),(`bvd),(ja0 `m),`aDQ P,C__law_refusal,λζ=>FnX ζ w K mg `au `Yu 8 `Yt yv0,`pt P `xO R0,`aDR P,(`bve),λζ=>Y7 (P30 (mm0 W4 Z8 ζ `dX) `bP0),(U4 `dX),
λζ=>FnB ζ w K mg `au `YR 9 `YQ 0 t50,(spD K h00),(`bvg),(o9 4 `pu),(`bvh),C__law_whole_at,(U4 `xP),λζ=>wr0 pf0 sb0 `bgQ (qi0 pw0 ps0 ζ zj0),(`bvi),C__law_given,C_Reader_open_parts,(`bk_),`OW P `e3 rr,(`bvj),`OX `OY `OZ M8,(`bvk),C_made_part,λζ=>FnT ζ w K mg `au `aM `Jb 1 `HO t8 zc0,λζ=>FnT ζ w K mg `au `aM `Jc 3 `YV t8 T5,(`vr `a0),(`bvl),λζ=>FnT ζ w K mg `au `aM `Je 2 `YW t8 O9,(`bvm),(`bvn),`fV `O_ `aeS un0,(`bvo),(`bvp),λζ=>FnT ζ w K mg `au `aM `Jg 4 `YX t8 V7,`fV `O0 `aeT wd0,λζ=>pq0 (G7 (bc0 C_is_left hr `r `ga ζ)),λζ=>FnT ζ w K mg `au `aM `Jh 3 `dh t8 K3,(v6 `lp u6),Fun K x x st f fd,(`aw4 x),∀(kV doc pm:`B) (an:`bt) (cdv ct u:`B),`O1 `aa0 [u],(`O2 (by let#[u,rfl]:=us1 `O3;exact b _ _ _ _ _ _ _)),∀(kV doc pm:`B) (an:`bt) (cdv ct u v:`B),`O1 #[[u,v],[]] [u,v],(`O2 (by let#[u,v,rfl]:=us2 `O3;exact b _ _ _ _ _ _ _ _)),(`T `dG),`cQ `pV `pV (U5 `xQ) (X8 `xQ) (o4 `xQ) `aj kV41 dc41 pm41 an41 cd41 ct41,"NoWay.__init__","NoPack.__init__",λ_ _ _ _ _ _ us hl=>match us,hl with|[_,_],_=>rfl,λC cl ec rc hm cdv A outer s H E=>bm0 hm rc cl ec `r,(λb ds q h=>xk0 `r h),I.ok.mod.kin,(W8 hl),(`axJ e2),`t r.1,`KJ (t':=`_P) `v5,#[_,`gl,rfl,rfl],`aad δ',ys[m]?=`ee,(A6 _ hx),(∀b∈fp,`oQ),`fW hq,`aEf `aEQ,#[r,J,e1,k],`K2 `j,W5 `aF6,#[x,en,e1,`aEa],O5 `aF6,c.sub ?_,`aDZ `bL (`O7),(`BS (D3 ?_)),#[v,e,`xW],A0 `bzn,V9 rfl `nE,`L h `bJz,(by apply `O5 hb),(`bwC).elim,p30 I1 ea c hm l ?_,`L `bw4 B7,show `bw8 by simp,mr0 r fs,`aD? a,`b2 rh0 D `bxA,`aEf `aEg,#[r,`ae7,e1,k],`bxP hlt,`sP `bxR,F.ok S `aEn `bx5,(`bx!),(`byb),#[B,`afa,`afb,e],#[rfl,`byM],`M9 h.go `aEU,m80 (d:=n0) w1,#[Z,z1,`bz2],Gw.iz0 _ _ `PH,`bHs=_,`bHt=_,`bHu<=_,`bHA=_,`bIR=_,`bJm=_,`bJA<=20,X.s₀.heap.get?,`kI (`aDY e),`dl `aD3 `gX,`bwG [] `M,`_r pos `_s,.ins C dx [],A1 `bwW,`br hl,`DW tDT,q σ H Q z,h1.symm.trans,`mK `g_ e pos,wu0 pr.1 pr.2 q d,I.hok.lt q,`afl `hr `f,`afm b o u e,`bo cn np,O.less less,as.zip (`Pr),`dl `aD3 [],R7 `bzZ,hv.go B δ,`dl `aEZ `gX,`dl `aEZ [],`z `bz5,`Zr `ay4,
u90 n `dt i `E_ gi f gx,`ay2 `E0,ym0 xs l u c,o2 `aA `jv m7,gc `bBM,T7 1 v8 O6,gv0 0 1,`nz `ap,gc `bBO,z7 `c5 v8,z7 `jo v8,gc (`mU),z7 `ap `dZ,gc `azh,z10 0 `ls `jM,popS 0 `m',gc (`m8),z7 `bGa v8,`PB `aQ,plN `aFZ,zh0 0 `xu,a+`bG8,4*(4*n+kd),ul0 p S _,`aGb - `Mv,`w (kd=0) `bHw 12,ua0 ps `hW,plN `aGt,gc (`aaI),U7 `aA V0 `ty,oA `dZ yg0,zw0 `bLe,`PU X7,T8 `aN R9 `Fe,b7 `agj v9,p90 `ga `tz,xv0 `agn `aG4,(by (apply `bvV)),TP X `s σ Q,SP X `s D,`b2 h _ hw,`rT .And [a] pos,`rT .Or [a] pos,`rT op [a] pos,#[σ',H',`aDW,q],`mK o i pos,`ip [tg] e pos,`aDX tg `tn u,#[o,e,λv z=>by rw[d] at z;cases z],`br hu,.For tg iter `eM [] pos,`nb hb _,`bj `bwB,`gt e f pos,.List es pos,L3 `aD2,`aAB cdv,`br hv,by rw[`b5]<;>lia,match y with|`v=>`d|_=>`m,match y with|`f?=>a==b|`oE=>`bw_|_=>`m,match y with|`f?=>`bw2|`oE=>a==b|_=>`m,match y with|`xU=>a==b|_=>`m,`gt o `cK `pW,λ_ _ q=>`wg,`aa rfl `R,(`bxp).elim,#[x,en,e,`bxt],#[_,en,e2,`bxB],#[xs,xs[i],`aa4,`bxC],#[`JR,_,B6 hi,`bxE],#[xs,`aa4,`Pd],`ae! `bx0,`bo `vP p,#[_,en,e1,`EV],putK kvs p.1 p.2,∃d,`byg,`q `byh,`s2 j ds a h1 h2,`l z A8,`byC=`ho,by rw[`b5,← `aEx,`pZ],by rw[s1,s2,hl],∀b o,`D8,h1.extBut `EX D.i1z,`byU `EX D.l1z,∀b o,b<lo->`D8,`adJ `aEK,`EZ `bzB `aEO [] p8,Q8 `aEQ `bzD `s s σ H D I `aER,upd H a `aD!,#[σ',_,`Po,k],`b2 h _ q,#[ad,`bP,`no,?_],`ip [`ay1] `he pos,`ae! `bAl,d40 `bAr `bAs `Pu `s s σ H D I `aE2,[x].zip `aE3,ob `bAZ,Z7 `aFb,ob `bB8,T7 1 v8 N8,ob `bDF,Z5 `bDG,ob `bDM,Y4 `bDS,Y4 `bDU,yj0 1 `bEa,b8 `cL `bEc,M7 `bEg,M7 `bEi,Y4 `bEI,M7 `bEJ,ob `bEL,ob `bFb,y40 (ot0 4) `nB,Z5 `aFI,ob `bFl,Z5 `aFK,ob `aFL,y40 `aFN `aFO,Z5 `aFP,gc `bFG,ob `bFV,o2 `aQ `bF5 gtD,o2 `PF `NY eqD,o2 `aQ `oU gtD,o2 `afY `NY eqD,oA `mx t20,`l `P h,`bHm=_,wg0 `Od `PI,Q4 `bHC,`bHQ=_,b.isPrefixOf,`jZ `hK `PK `af5,`bIg=_,`bIC=_,nd `bIL,#[n+1,`p4,`aGi],pj0 hn hj',`bJv hu,by rw[A.bg,kv0 hk,`a2];rfl,by apply `bJw;rfl,`ek (1<=`W),b8 `cL `bKR,b8 `lf `bK0,b8 `hy `Pz,ob `bK2,`Eq `agd,o2 `bLM `aGI m8,`bNN=_,`Q `bNP,.Pass `bN_,ik0 `aGV,`e7 `oL,J5 `i5 `eQ,
v6 `aF `eQ,G7 `aGW,`ya 0 `bN' `bN!,ii0 3 `mC j9,`vr `dr,`P0 `aG2,X4 `bOr,X4 `bOt,`Bk `a0,`Bk `ago,builtinLookup_eq_fast,`e' (`EN),tupleKind,p.1=a∨`w5=`o3,(ls0 h H).get?,D4 _ `bwd,W.plainOver,s40 I hg hm ?_ hdb,`gt o m `pW,`br hi,.Slice lo hi `f p2,`br hw,λr s'=>`bxe,λf vs=>PySem.call f vs,`ayI&&`bxf,by show `bxm;rw[hsc];exact z,`o1 `eJ,.ext `bxr,`aEb s',`Nm tDS G,h1 `ae `ac δ,en'.lower hS `nk,`bxT s',upd H6 L (`o (ys++[v])),`ip `pL `pl spos,λvs H Q E zQ=>?_,`dk `byv [],view I h1 h3 h5,view I h2 h4 h6,by rw[s1,s2];simpa using hl,`cx in1_units,(`xZ acc' c'),`bo `e2 p,(`xZ acc c),λc v _ q=>k c v q,.bl (`afh a b),n==1||`wG==0,`Nx 1 `bzl,λ_ _ _ z=>z,`bo cn p1,`aft H `x0,`AZ `aEP,b₀::suite,`cO (bm.2 q.2),`gt `Z_ m `pW,(`aE_).set j .un,`c `aD',`gt o `NK `pW,#[tg,iter,[],0],`dl (`bo c p) [],`azL C dx [],.Slice lo hi st p2,oA `bBa intOfD,gc (`g 12),o2 `ap `Py ltD,gc (`g 64),gc (`g 57),`BK `Py,gc `bBu,o2 `jv `ap S8,T7 0 v8 Q7,y40 `aFa `tu,`nz `aA,(`g 37),dgO 0 `afH,gc `bBS,o2 `E3 `PA m7,W0 `bB_,o2 `bB1 `jv m7,gc `bB',gc (`ayk),z7 `bCB v8,U7 `aA `bCI V0,o2 `bCK `oU m7,gc `bBj,tj0 `aFm `bCP `bCQ,`so `PA,`ox `jM,o2 `aQ `vp dv0,o2 `c' `ap `bCX,ob `aFq,`ox `c',z7 `aFs v8,m20 `bCZ,o2 `aQ `bC2 qt0,z7 `aA `d6,o2 `cH `c5 ixD,`nA `bDX,oA `mx lv0,o2 `aA `ap `aFA,z7 `awE v8,z7 `kG v8,oA `afQ y60,`PC `cE,z7 `aQ `p1,u60 1 `bFj,s70 `bFn,gz0 3 `jo `aFJ,kx0 `bFr,o2 `jo `cE ixD,W9 `bFv,`E5 2 `aFM,u60 4 `bFF,zh0 0 `m',`Cr `aFQ,gc `bFH,gc (`g 20),zh0 0 `ls,gc `bF_,o2 `aA `g? m7,q70 `aA `dZ rd0,o2 `bGg `aA eqD,`ot `ie,`ot `p2,o2 `Mn `aQ m8,ob `afV,`PC `c5,`dN v8 X7,(U0 ?_),(`bG_),show `fg<37 by decide,a+`bG9,`bG!%36,`l hu A8,`aw c,up0 `Ob kd,o2 `E4 `afZ eqD,by apply `bHL;exact `af4,X3 `bF!,`w `A0 _ (y20 _ _),(`bHU),ym0 xs (`c 1) `f `LV,(v5 p (R (`Og))),ob `bGG,gy0 `aQ `bGI (yr0 `m),`bIM h,λz=>`bIQ,4*`bIT,`bD `bIU,`bD `bIV,(`_H qs).d,by rw[`X] at hl;lia,`bJJ pr,`ot `tx,la0 0 `sc 1 [] `dy `PQ,W0 `bKF,`nz `wT,W0 `afM,o2 `aA `aGx m8,`nz `aQ,`eI `aGz,o2 `agb `bK3 m8,U7 `aA `aGA V0,gc `bLa,
o2 `aQ `wT ltD,o2 `aQ `bLu ltD,o2 `bLx `bLy jp0,`dN v8 R0,`Px `bLO,`nz `p0,W0 `bL4,o2 `bL6 `aGD m7,U7 `cH V0 `Pw,`PB `jo,`eI `x3,z7 `aGN v8,o2 `bNj `jo ltD,[`jN l].length,Y6 `aN `tz,ss0 nr0 `Fc `vE `Fd `aN,`PZ `aGY,v6 `aN `xJ,T8 `dr R9 `P_,`co `bvq,`bx `bvv,F.args_gs_get _ _ _,#[`aDS,`bvx],(by (apply `bvA)),(by (apply `bvB)),`bvC `b',`bvE=`m,`O4 expr,(by (apply `bvP)),`jO `aDT,λP' w' A' R s' hs=>?_,⟨k0,k1,k2,k3,`c (`co `aco),k5⟩,`dQ `e! (`mj::`aV),`bvQ rfl rfl,Obj.cls_mapFields,`bvW _ _ (A9 n),hl i x v e1 e2 e3,λb ps e=>`bvX,`bvZ `bv_ `aeV `aeW `xR,(`bv2),`EO `fb `O6,hl j y v' e1 e2 e3,λe=>`bv5,#[`bv7,n,ne,nf,d],`l I.ok.glob `aDU,`b2 h Q hw,thn `bv9 λc s1 e=>?_,`br (C7 `aDV d1),λ_ s'=>`bv',V->`bv!,`nb hi _,.While c `eM [] pos,`l z hb,PIE X `s σ tg R,[`pG, `hU, `bv?, `bwa, "odict_iterator", `bwb, `bwc].contains,`aw7 `aeZ,∃xs,SqL K H1 a xs,`b2 hl _ h,`dl (`bo `wf p) [a],Lx0 ha hb I h `bwf,intBits_le_64 h1 h2,`d5 `bwg,`d5 `bwi,`d5 `bwj,ho `s s2 σ H2 x y v u _ I2 r1 r2 q2,`ae_ a [op,op'] [b,c] pos,`iv `bwp,`iv `bww,(`nx `O'),(`nx `aD1),`ae1 (v:=v) (o:=mA f) `bwE,`w (g=f) `bf (mA g),`ip [`aAy] `he pos,`b2 hv _ h,ha `s s1 σ H1 _ I1 q,`ZV h hq,#[`bwF,?_],λv H2=>`xT/\Q `k9 H2,`cd `m5 (`EP _ _ _ _ h),ha pos `s s1 σ H1 _ I1 q,∀v,(x,v)∉binds,by rintro rfl;exact h v A8,(`bwH),`cQ `cK `je params `eM `eG dV kV doc pm an cdv ct,L3 `bwJ,thn `ae3 `bwK,if v<0 then max (v+`cl) 0 else min v `cl,(C50 `tp `r ?_),P3 b6 `tp `bwN ?_ `bwO,`dc `bwS s,(`bwT),(om0 hs pl pu ?_),`dc `bwV s,A1 `acK,`mK e `aD5 pos,`nb hl _,`O! hu σ,`bwX ..,`l `b5 r.length.symm,by rw[hj];simpa using ew,λh' c' kp e=>`bw9,`iv `bxa,#[#[o,e,ex.1],λa e2=>?_],`Zr `bxh,J.stop i H2/\Q `tq H2,`ES _ _ st2 b hb,(`v_ x).map `bxl,`cy (I3.stkSub b hf),`l hsc z,`Pc e,`n `aD9,`q `aD9,`t `bxn,(`bxo),`c `aD!,#[t,`fs s,h,`bxs],#[d,`fs s,h,`bxv],#[ds,en,e1,`bxy],#[a,rfl,#[xs,`gr],`aEh],#[_,en,e2,λvs H' s' r=>?_],Pc0 hp hc `ae8 a7 a8 hs `s s σ H D I `bxF,∀b,`bxH,λb n n'=>`bxI,∀b,`ac b->`aA?,λb n=>`bxJ,
`aBa h,`bxK z.2,#[a3,`bxL,`aEi,`jR],λb o n h=>`bxN,#[`j1,`bxO],#[B',d,δi,δ2,a6,a5,e3,`bxQ],`ada Hh δ2,O.wr c1 c2 `ta w en',#[Hh,`ac,δ2,rb,b3,e4,?_],`sP `bxS,`Mf `bxU,`Pe `bxV,`n `bxX,`rO `bxZ,`ae! `bx_,`aEm∨`bx3,#[_,`bx6,?_],#[`Y6,`bx9,`bx',hb],`t (`aEq z lo hi),`pX W.kitx_dict #[o,h1,h2.1],`dl (`bo `wz p) [e],`Ph `bya,`l l `_Z,`cd `aEr z,`nb ho _,(`byf),`afc (i:=i) (b:=Sl.ow d) (`n `Pi) hs h0,`Pj `byj h1,`L `byl J,#[`bym,`byn,`afd,`nk],λz=>`byq,#[`NE s,`byr,`aff,`nk],`xX (λo sl h=>?_) `lb,#[b,e,`n O,`bys],`L `byt (`nk a z),k _ _ `byz,`sP #[δn,en',e2],ly0 l l' r r' v v' `byB,`byD hl,ly0 (A:=`fS) l l' r r' v v' `byF,`sV .Add,`sV .Mult,`afg e2,`afg e3,`dl `ms [e],code_list_new _ `k!,λv s1=>`byG,`dl `aEz [`ab3],Rc0 `kU `dx (set_dict hu) ha `s s σ H v u Q I r `byI,#[a,_,rfl,`byJ,?_],.dK ((`ayV).zip ys),k _ _ `byL,`byN #[[`ro],[]],`dc `byO _,A0 `byQ,`dc `byR _,A0 `byT,`byW `EY D.i12.symm,`byY `EY `afj,`byZ _,∀c o,`by_,`co `aEB `by1,∀c o,`by5,`hv (`Co `g9>>=_) _,`by7=`m,`by9=`m,`hv `by? _,∀(j:Nat) (a:`e),`bzd,`dQ `xt [`T l1,`T l2],`aEH hl1,`aEH hl2,`bze `aEI (λc q=>`afk) (λc xs q=>`afk) `bzf,`dl (`bo x1 p) [`ab7],us1.toArray[j]?=`c u',`br g1,us2.toArray[j]?=`c w',`br g3,upd H `U (`Nu),`Eb elts x1 tpos,`dl (`bo `pG p) [a],λx xs H Q=>`bzj,l30 ga gb gc f f',`p_ n1 oke,`bzr h1,#[I.ok,I.os,`iw,`bzv,`fP,`mE,?_,`x_,`gz,`afq,`fb],#[e,`bzw,r],`bzx `aEM (λc z=>`afr) (λc xs z=>`afr) λc _ _ z=>`afr,`dl `bzz (`pH),λb u n z=>oth b u n z,tXS X `ae `ac δ G,`Me `aES N fa,`c `bzF,.ExceptHandler `bzH (`c6) `aET hp,`Pn lo (hi - lo),by rw[`b5] at hm;lia,`br hy,`L `bzJ (U m Y),`afu `gU rfl,`o `bzK,Builtin.List.listFitsIndex,(va0 (q:=q) rx).2,`iv `bzN,`Nm tDB G,by apply `ny z;exact e,#[_,`bzO,?_],#[_,en,e,`bzP],q v H' (oe0 `ad5) `afw `bzQ,#[_,en,e,`bzR],q `v H' (oe0 `Pq) `afw (by rw[rn,Q9]),#[_,rfl,`bzS],vs.take j++`a?::vs.drop j,kk v H' `bzW,`afx `u8,upd `x1 c so'.ho,#[dx,ad,ns,as,sos,en,e1,at',`afy],upd (`jd H' `eJ) c so'.ho,O2 `bzX zy0 hs,`afB `bz0 `bz1,
#[`a?,`gA,a,`bP,`no,a,C,U,_,rfl,`aEY,q1,`Ps,?_,?_],`tt `bz4 [],`bj (v8 δ=`s_),`lr `bAb,λz=>`bAc,#[at'.w.nd,`afE,`bAd],`hc `bAf,`q `bAg,(λz=>hb (D7 _ z)),`bAh n,`Pj `bAk `ad1,`tt `aE1 `pL,(`afG).set j (.sh d'),`l z J.w.in0,λo e=>`bAm,λpins s σ H R I #[B,δ,h]=>`bAn,λcl s H ex pins s' σ H Q I #[`ae,`ac,δ,h]=>`bAo,`Nm tTX gt,`gZ `NS a `ad6,`mK e `aCl pos,ob `bAt,Y4 `bAu,b8 `lf `bAE,b8 (gN 8) `bAI,b8 (gN 8) `bAS,Z5 `bAX,Z5 `bA7,Z5 `bBi,`NX `aE4,ob `aE6,U8 `bBs,U8 `bBK,ob `bBL,`so `aFd,Z7 `bBR,ob `bB2,Z7 `bB6,Z7 `bCb,Z7 `bCk,Z7 `bCF,ob `bCG,tj0 `nC `c5 `aFn,`E5 3 `afL,W0 `bCU,o2 `aFo `g? m7,dm0 `bCW,dm0 `aFr,b8 `hy `bC0,Lw0 2 `bC4,b8 `hy `aFs,b8 `nB `bC9,ob `bC!,b8 `hy `bDg,ob `bDi,b8 (gN 6) `bDn,b8 `hy `bDD,Y4 `bDK,ob `bDV,Y4 `bD3,Y4 `bD7,ob `aFB,M7 `bEr,M7 `bEA,M7 `bEN,ob `aFF,b8 `hy `bEP,M7 `bEZ,M7 `bE4,yj0 2 `afR,yj0 3 `afR,yj0 4 `bE?,yb0 `bFM `bFN,o2 `bFR `jv m8,`Cr `aFU,z10 0 `afS `cE,Z7 `bFT,ob `bFW,ob `bFY,o2 `bF3 `ap mulL,z7 `bF9 v8,`Px `aFX,`ot `mB,b8 `lf `bGe,ob `aFY,Z7 `bGm,G5 `aF0 `bGw,Z7 `bGy,o2 (oA `aF1 V5) `afW eqD,z7 `bGE v8,Z7 `bGM,`Cr `afW,l30 `c5 `aA `aF3 leD leD,(`BM).cps.toList,`bGU=_,by rw[`Y];apply `v2;lia,o2 `_' `afZ eqD,(`bGX),`bj `bG4,E2 `PG `bG6,E9 `PG `aF5,λq hq=>`bG7,`bHd=_,mi0 `kP `j `j,(`bHg),`aR (`Ek),`bc (`o7≠0),K7 wo0 0 p `jk [],`Mq (`af0).toNat "",`ek (3<=`W),`rI k1,`bHq=_,`aR (R `o2),(`k3 n w),`PE (gc (`xU)),await `aF7 [`ck],(`y (`af1::`PJ)),`l `bHv (T40 kd hk),`c `bHy,atC _ (`g (N/4%4)),ob `aF8 `li,`bC (N%4=j),`c `bHE,`iy `bHG rfl,`c `bHI,jq0 p S _ w ws hw,o6 (x:=`aF') (y:=`g (b%128)) `aF! rfl,`bHR=_,Y8 rfl `bHW,`bj `bHX,[`awF,s1,`_d],(`LY L),`c `bHZ,`bH3=_,`aK `PK `_A `af5,`c `bH5,o2 `Mn `aQ m8 `p3,`c `bH6,show `bH8 from `c2,`z `bH9,`bH?=_,λd=>`bIa,`x6 (`gp (1,`dv)),`aK (`g (`B! - 1)) `hK `bIk,`bIo=_,`bj `bIs,`Q `bIt,`Ct z70 `bIu,`nD (`ix _ (`aGa)) _,`bIx=_,`bC (z<0),∃s:Str,d=`ec/\`tk,`bIH=_,o5 `bIJ `xD,`Dc d hd,Un0 h2 `bIK,by apply `aGd;exact `aGe,by apply `aGf;exact `aGe,`l `aGg (Xl0 B j),st ps o B T (d::W) s,
`wX o `v8,`ce `bIY rfl,`ce `bI1 rfl,nW ps B W `oG=`aGh,by unfold nW;apply `nt,`Dc p hp,show `bI2 from m60 _ _,(`bI3),by rcases hg with z|z;exact `fG;right;lia,`l J hc,`l J th,`E' `jX,`x7 J `x8,`l J hln,`l J h8,u00 S1 _ w ws w1 hv _ _ `bI7,Y8 rfl `bI9,`bJa=_,`c (`bZ (`dJ/2)),nW ps B `af8 `kM,λB T _ _ _ _=>`bJb,#[B',T',_,`bJc],Pk ps [] [] `PM L T (`aDi++(b1++[])),.new `aS h (`R L T),λd hd=>`bJj,`aJ=`bJk,by rw[e,`Y,`X],#[`cF,`aDl,?_,`j_,λs es=>?_],(`bJo),(`bJq),S0.begun.modify `bY _,`l c (D4 _ z),#[`bJt,`bJu],#[S',`bJx,`aGn,D'.un,D'.wt,?_],#[S2,r2,D2.inv,D2.un,D2.wt,?_],`af' (`i! pr) `m9,S7 `bJC,.sh (`Ka c qs).d,`af' `lt `j,`K6 (j::W) s3,`ce `bJD rfl,h2 f W s3 s4 `aGp,ns5 ps L [] s3 s4,`PO `bJH `af!,[`bJK],`o `aGr,`bJP=_,`af? hn (m:=`PP) `bJQ,.Raise `bJU `f pos,tXB X `ae `ac δ G,`x' hi U O (h2 H' B b' Y),`ts b1 b2 hi U O J,`x' hi O hh (h2 H' B b' U),`ts b1 b2 hi O hh J,λpins s σ H Q I (h:`bJ_)=>?_,`BJ B q.2 `s s σ H Q I `bJ0,Wd0 `bJ2,b8 `cL `aGv,ob `bKH,Y4 `bKN,Y4 `bKP,Y4 `bK5,ob `bK6,Y4 `bK9,ob `bK',Y4 `bK?,ob `bLc,Y4 `agb,okZ `bLg,okZ `bLk,(`bLl),`bZ `bLn,U tk gx `bLo,U8 `bLp,U8 `bLr,okZ (su0 1 `aM P0),pg0 `bLt,yb0 `bLF `bLG,b8 `cL `aGz,X3 `bLI,zm0 `aGH `c' eqD,ob `aGJ,b8 `nB `bLR,b8 `hy `bMe,G5 `bMi `bMj,orT `bMC `bMD,orT `bMM `bMN,orT `bM3 `bM4,orT `bNe `bNf,ob `aGR,orT `bNv `bNw,jm0 `bNA,(`bNB),T30 (p:=p) (s1:=`m0) h .un,`bNG=_,`c `bNI,`z `bNQ,ub0 [.sh x,.un,.un],`bj `bNT,`PW hx `Y,y30 `bNV,`l J (Xa0 _),`Fa `aGU (Xa0 _),y30 `bNZ,`PX E ie0 E,y50 `bN0,Z3 `bN2,ih0 `bN3 `aF,Us0 `aN `agh R9 `agh,v6 `bN5 u6,zn0 `bN7 v9,G6 `bN9,zn0 (M9 v9 `agj) v9,`e7 `bOb,b7 `agl (yk0 `p5),T8 `aN (U4 `aGX) R9,yk0 `bOh,uu0 `bOj,Or0 `bOl,Z4 `bOp (o9 3 `pu),Z6 `aG1 (b7 `tB v9),v6 `aG3 u6,ft0 I_NoPack hr `r `lp,pm0 `bOv,`P1 `a0,`P2 `lu,`P1 v9,`agp `a0,X4 `bOz,"getset_descriptor.__get__","object.__class__".cutAt,`bvr '.',(`xz `bvs),".".intercalate `bvt,(`bvu),F.entry_object_class,P1 `bvw ?_,(by first|apply `hu|apply `lq|wp_step),(by (apply `bvy)),(by any_goals apply `bvz),
(by any_goals (first|apply `hu|wp_step)),F.attr_ValueError.ga.bind,expr&&`az7 (`ax_),(`bvD),F.attr_ValueError.ga.lookup,`aeU n2 `bvF ?_,F.attrBase_ValueError.noGetattr,`aeU n3 `bvH ?_,(`bK `bvG),(`bK `bvI),(by with_reducible apply `bvJ),(by with_reducible apply `bvK),(by first|apply `hu|apply `lq|apply `bvL|apply `bvM|wp_step),(by (apply `bvN)),(by any_goals apply `bvO),Heap.get?_push_at,X1 J hd `j ?_,(`BS `bvR),(by first|apply `hu|apply `bvS|wp_step),(by (apply `bvT)),(by any_goals apply `bvU),Heap.get?_update_other,#[⟨⟩,`gn e],λc v hc q=>k c v ?_ q,(`bR b u e).stay,(`bvY),`Ma==.module&&`gb != `aeX,(`bv0),`Ma==.class||`bv1,gl0 hN e1 (e▸hi),(`bv3),hj `bv4,(`CS p.1 ne),`bv6 e,`b2 ha Q h,(`bv8),`aeY Q,V->Hp->(`i3)->Prop,"dict_itemiterator","dict_reverseitemiterator","itertools.zip_longest","itertools.pairwise",(D4 _ (pd0 hb e)),ho `s s2 σ H2 x y v u Q I2 rx ry q,λv u s2 x y H2 I2 rx ry q=>`bwe,y=`v/\`to `aD_,`to (!`aD_),y=`v/\`bwh,`O8∨r' x y H Q,xs=[`bw]/\Q `d_ H,∃i,`bwk,xs=[`xS]/\Q (`ae0) H,(`bwl),∃k,`bwm,`bwn∨`bwo,(x.cps.getD 0 0:Nat),`g `bwq,(`bwr),Q `bws H,`wG=1/\`bwt,xs=[`c9]/\`bwu,∃x,`bwv,(k,x)::`aD0,`w (k=f) ((k,v)::r) `bwx,xz0 f v (`O9),(`bwy),`bwz=`bwA,`nx `bW,`cd l (r f),(`bwD),`cd `cb z,keywordEach,x.above y c (L4 h),`ae2 ?_ hdb,(`bwI),λus s1 #[vs,H1,I1,r1,q1]=>`aD4,args_tuple_getitem,`bwL _ _,entry_tuple_getitem,(`bwM),Builtin.Tuple.tupleItemsOf,`bwP `pC,`bwQ>>=_,(`bwR),tupleItemsOf_ ht ?_,`w `ae4 _ _,(`bwU),#[_,rfl,A1 h],Heap.IsSliceOf.new,`w a 1 0,(`bwY),`bwZ==b,`w b 1 0,(`bw0),a==`bw1,show `A0 from fx,(`bw3),its.toArray.any,`bw5 `O?,its.any `O?,`bw6=`bw7,fin its r' hz h' c' kp e,(`ae5/\`aD6)∨(`ae6/\Q `kZ H),(`bw'),`EQ/\`bw!,∃p ys,`bw?,s'.os=s₁.os/\`Pa,r=.ok (`jO `ER),OldK `oZ `pB/\`bxb,`bxc/\`bxd,`axg n==`kX,#[`Pb,iter,ifs,0],[`bxg],(`abZ&&`aD7&&`aD8),`bxi=`d,`w `bxj `CY k,λk=>`bxk,`Zi x.1=_,(Txt.join sep ys),`dM λa=>`t (h a),show `bW from h,lf0 a C od,(`bxq),λJ s'=>k J `aEc,`DX ?_,k v J `aEc,λv J s'=>`bxu,`xV `aEd ?_,
#[`aEe,`bxw],`Mc `bxx,k σ H en,(`bxz),`ET ?_,by simp[`E],r'.mono gB,λB' gB _=>`bxD,#[`b?,env,e2,λJ H1 s1 it=>?_],¬`ac b->Hh b=`f,B b->`bxG,`l U (`Q #[n,n']),`l U (`ag λz=>z.2 n),(b2 b z.1).resolve_left,#[B,b1,`jR,Z],O.same b o (`ae9),#[n,`bxM],sm b o (O.same b o h'),List.drop_eq_getElem_cons,fun σ' w en'=>?_,#[δn,en',ei],k σ' H' `aEj,hS.trans,k v H' `aEk r',k p H' (hS.free hp) `aEk r',`ae' _ Hi gr `bL,#[`bxW,?_],`awI K,∃B d δ,`bxY,`aEl ht,`aEl he,`sF/\∃δ,`pw=`s0,(`bx1),`bx2∨`ae?,λcdv A outer s H vs Q E hr zQ=>?_,(`bx4),`aEo `Bd,`aEp `Pf,#[?_,hb,`bx7],#[B,`afa,`afb,`bx8],λi J a h1 _=>`Pf,`EU `Pg,`w `Le (kv.1,y) kv,λkv=>`bx?,show u=`fw b from ry,(`wF:`bM).length,`byc+`aEs,`byd+`aEt,`bye<30,s=`vn/\o'=`oT,#[d,rfl,e],λj o' s e1 e2 h=>?_,(`byi),`s4 i j a d0 d' hi e3 hs e1,(`byk),#[λb u h=>?_,λb ob xs h=>?_],(`tr env),`l z hp,(`byo),`m4 _ q2 `byp,#[`awJ,λa z=>`n `ac?,`jR,?_,`jR,`afe],`dq (λo h=>s _ _ h) g,(`s2 i d a q1 q2),`n [],(`byu),`EW s1 b1 b2 hi J O,(`byw),`xY `byx b1 b2 O `pY,(`byy),ih k rfl `aEu `aEv,`aEw `byA,its'.toArray.size,beq_eq_false_iff_ne.mpr,V6.eq I `aEy `aEu `aEv,`aEw `byE,`a! (`dQ `Do [v]) s1,λiv H1 s1 r1=>?_,#[_,J,_,env,e3,`byH],DPut.k (`afi) (`aEA),en.s.mut s1 b1 b2 hi J O,(`byK),λe u he ru=>?_,Builtin.«zip.__next__»,(field `g9 2>>=_),`Pk `acq,(`byP),(field `g9 3>>=_),`Pk (`T TI),(`byS),hl1.extBut,h2.extBut `EX D.i2z,(`byV).extBut,hl2.extBut `EX D.l2z,(`byX).extBut,F.args_zip_next_1,c≠z->c≠TO->`axE,[`T S,`ro,res],#[`by0,[]],`ab5->`f! c=`ay->`azI,`ab4->`by2,c≠TO->`by3,c≠z->`by4,`aEC==`k7 `e2,(`by6),`aEC==`k7 `eC,(`by8),`aED (`fw z) `aEE,`by'>>=_,(`by!),`aEF/\`v! h' a x y,`MW=`c6/\`bza,∃x y,`bzb,`aEG->`bzc,(`bR b u e').stay,λc ob u' q=>`afk,Q `aEJ H,xs=[`xU]/\`bzg,x=`jU/\`bzh,∃a b:`Pl,`bzi,`fw `Pm,(`bzk),D8 he hd q ?_,(`bzm),`p_ n1 okT,(`bzo),oth b `bzp,(`bzq).trans,oth b _ `afn,`afo oth _,λb o u e=>`bzs,#[`Ce,`Cf,`aEL,`BU,`bzt,`bzu,`afp],`l (j4 (z6 p hp)) n,(`bR b u q).stay,`gt `afs `d3 `pW,(`bzy),
`gt `aEN `d3 p2,(`bzA),h2.go `ae `ac δ',(`bzC),.ext (DL.lf0 a C od),(`bzE),`c (`bo `e? np),(`bzG),(O y tk).mp hb▸e1,(`bzI),(`k3 `jV xs),`afv/\Q (`g `kC) H,`EQ/\`bzL,∃(p:`e) (kvs:`hw),`bzM,`aEV `Pp `aEW `m6,λv σ' H' ev=>?_,(`NQ (`ju less)),`sP ?_,λK H B a r=>#[r,`aEX],`ts b1 b2 hi J U O,(`bzT),`xY `bzU b1 b2 O rv,(`bzV),(f70 (`aEP B δ)),O1 (i:=i) hN hvis hd hcd,(`bzY),Ye0 `afz `afA hs,(`bz_),#[a,dv,env,e2,`afy],kk _ _ z2.s,`gt o "pop" `pW,(`bz3),[dk,`afC],`abo X.K `ae `ac H' σ' `aCb i j `ad2,`bz6->`aE0,∀σ' H',`bz7,i≠j/\`bz8,`Pt/\`bz9,`afD/\`bz',gk δ=`c dk/\`bz!,`D'/\`bz?,∃H₀ B₀ δ dk ns,`bAa,La (z▸at'.w.in0),λx hx y hy z=>?_,`cd `Ed hk',(`bAe),#[rfl,(A3 q1).symm,(A3 q2).symm],(`afF).resolve_left,r.ext gr λC dx fs e=>?_,λk n so q1 q2 r=>`bAi,(`bAj),u10 B δ `s s' σ H Q I h,`l (j4 Z) e,hi B δ `s s σ H R I h,he cl s _ ex `ae `ac δ `s s' σ H Q I h,`AZ hc.go,ha.go `ae `ac q.2,(`bAp),(`bAq),(o2 `ap `wT ltD),(`ox `ap),o2 (o2 `cH `cH S8) `jv m8,(`bAv),`Cb `bAw,(`bAx),o2 `bAy `E1 m7,(`bAz),`x2 `bAA,(`bAB),o2 `c' `bAC m8,(`bAD),o2 (o2 `aA `x3 m8) `E1 m7,(`bAF),`x2 `bAG,(`bAH),(`Cb `E1),(o2 `x3 `E1 m9),o2 `bAJ `bAK m8,(`bAL),o2 `bAM `E1 m7,(`bAN),`x2 `bAO,(`bAP),o2 `Pv `bAQ m8,(`bAR),(U7 `c' V0 `Pw),o2 `bAT `Pv m8,(`bAU),w00 6 `bAV,(`bAW),`Px `_',(`bAY),(o2 `x3 `E2 m7),`eI `bA_,(`bA0),U7 `c' V0 `bA1,(`bA2),o2 `bA3 `Pv m8,(`bA4),w00 6 `bA5,(`bA6),gc (`g 35),(`bA8),o2 `x3 `bA9 gtD,(`bA'),z7 `bA! v8,(`bA?),o2 `cE `aCx m8,(`bBb),`eI `bBc,(`bBd),U7 `Pv V0 `bBe,(`bBf),w00 6 `bBg,(`bBh),(`aE5),`NX `aE7,(`bBk),o2 `bBl `aE8 m8,(`x2 `ap),(`bBm),o2 `bBn `bBo m7,(`bBp),W9 `bBq,(`bBr),`g 2147483647,(`bBt),`x2 `aE9,(`bBv),o2 `bBw `aE' m7,o2 `aE! `ap S8,(`bBx),(`bBy),o2 `bBz `bBA m8,(`bBB),o2 `bBC `E2 m8,(`bBD),o2 `bBE (gc (`aE?)) S8,(`bBF),o2 `bBG `aE' m7,(`bBH),W9 `bBI,(`bBJ),(`B7 `Pz),(`aFc),`t "many",(`bBN),(o2 `E3 `h1 m7),b8 `cL `bBP,(`bBQ),(`g 13),o2 `E3 `aFe m7,(`bBT),z7 `bBU v8,(`bBV),z7 `aFf `bBW,(`bBX),z7 `aFf `bBY,(`bBZ),`hx `ap 52 m9,(`bB0),
(`B7 `E4),u90 1 [0] 0 1 (ti0 `dZ) `dy `afI,(`bB3),f80 3 `bB4,(`bB5),`Px `E4,(`bB7),`t "pool",(`bB9),dgO 0 `aFg,(`bB!),b8 `hy `bB?,(`bCa),`hx `ap 156 m9,(`bCc),(`nA `p0),o2 `bCd `bCe m7,(`bCf),o2 `cE `bCg m8,(`bCh),b8 `nB `bCi,(`bCj),`so `aFh,o2 `aA `cH S8,(`bCl),(`bCm),o2 `bCn `bCo m8,(`bCp),(oA `p1 V5),o2 `bCq `bCr m7,(`bCs),o2 `c' `bCt ixD,(`bCu),z7 `bCv `d6,(`bCw),yp0 `bCx,(`bCy),O7 2 [1,4,5] (fl0 `p1) `afJ noT `bCz,(`bCA),oA `aFi we0,(`bCC),b8 (gN 6) `bCD,(`bCE),(o2 `E4 `g? eqD),`eI `afK,(`bCH),`so `oU,(`bCJ),o2 `aFl `jv eqD,(`bCL),o2 `aFj `aFk m8,tj0 `afH `bCM Tp0,(`bCN),(`bCO),z7 (gc (`g 53)) v8,(`bCR),z7 `aFe `bCS,(`bCT),ob `aFp,(`bCV),(yr0 `d),oA `aFt M4,(`bCY),O7 1 [] `aFu `dy `x4 `r_,(`bC_),oA `rF rl0,(`bC1),yj0 2 `aFv,(`bC3),oA `aFw sm0,(m20 (oA `rF M4)),(`bC5),O7 1 [1] `bC6 `dy noT `bC7,(`bC8),o2 `aFx `v1 eqD,(`bC'),oA `afN we0,(`bC?),z7 `bDa v8,(`bDb),z7 `v1 `bDc,(`bDd),yp0 `bDe,(`bDf),o2 `aFx `BL neD,(`bDh),(o2 `cH `jM ixD),tupI `bDj,(`bDk),`afO `bDl `kG,(`bDm),z7 (gv 6) `afN,(`bDo),oA `bDp Zb0,(`bDq),z7 `bDr v8,(`bDs),oA `bDt we0,(`bDu),z7 `bDv v8,(`bDw),U7 `cH V0 (`eI `jM),yp0 `bDx,(`bDy),(`bDz),o2 `bDA `bDB m8,(`bDC),o2 `kG `afP eqD,(`bDE),(w00 1 `r_),o2 `r_ `ap (um0 `d),(`bDH),m10 `rP `bDI,(`bDJ),o2 `aA `c5 ltD,(`bDL),unG Q0 `g?,(`bDN),o2 `bDO `aA S8,(`bDP),`nA `bDQ,(`bDR),`E6 `aA,(`bDT),(`PB `aA),oA `d6 ws0,(`bDW),(o2 `ap `r_ nc0),o2 `aFy `bDY zo0,(`bDZ),`x5 `bD_,(`bD0),o2 `bD1 `g? m8,(`bD2),`x5 (oA `mx ug0),(`bD4),`nz `bD5,(`bD6),o2 `aA `jw m7,(`bD8),z7 `bD9 v8,(`bD'),W0 `bD!,(`bD?),`Cb `jw,(`bEb),oA `d6 rl0,(`bEd),cp0 `bEe,(`bEf),`afO (gj0 `aA) `aFz,(`bEh),(o2 `ap `aA nc0),o2 `aFy `bEj zo0,(`bEk),`E6 `bEl,(`bEm),z7 `bEn v8,(`bEo),oA `bEp T9,(`bEq),(`E6 `wT),`nz `bEs,(`bEt),z7 `bEu v8,(`bEv),oA `bEw T9,(`bEx),o2 `bEy (oA `mx M6) qt0,(`bEz),oA `aFC V5,(`bEB),`x5 `bEC,oA `aFD `aFE,(`bED),(`bEE),o2 `bEF `bEG m8,(`bEH),(oA `Ca M6),yq0 isStr `ap,(`bEK),oA (z7 `ap `p1) wy0,(`bEM),`ox `aFG,(`bEO),`x5 (oA `rF zs0),(`bEQ),o2 `bER `jv m8,(`bES),z7 `bET v8,
(`bEU),oA `bEV T9,(`bEW),o2 `bEX (oA `rF yc0) qt0,(`bEY),oA `afQ yl0,(`bE_),z7 `bE0 v8,(`bE1),oA `bE2 T9,(`bE3),z7 `nC `afM,(`bE5),yp0 `bE6,(`bE7),z7 `bE8 v8,(`bE9),W0 `bE',(`bE!),`Cr (s70 `p0),(`bFa),z7 `jo `aFH,(`bFc),z7 `aA `bFd,(`bFe),oA `bFf yd0,(`bFg),kz0 `bFh,(`bFi),yq0 isStr `jo,(`bFk),oA `p1 ws0,(`bFm),z7 `jo `dZ,(`bFo),oA `bFp y60,(`bFq),oA `dZ ws0,(`bFs),s70 `bFt,(`bFu),`ox `aFM,(`bFw),z7 `bFx v8,(`bFy),oA `bFz z40,(`bFA),z7 `bFB v8,(`bFC),oA `bFD rl0,(`bFE),(`t `_F),(`t "end"),`PD `aFS,(`bFI),ob `aFR,ob `bFJ,(`bFK),(`bFL),`x5 `aFT,(`bFO),`x5 `bFP,(`bFQ),t80 0 `aM `mB `c5,(`bFS),`PE `BL,(`bFU),(`PE `v1),`PE `afT,(`bFX),`t `vU,(`bFZ),z7 `aFV `aFW,(`bF0),W0 `bF1,(`bF2),oA `d6 u30,(`bF4),`dz `nC `PF,(`bF6),yp0 `bF7,(`bF8),`dN `dZ zc0,(`bF'),gc (`aze),(`bF?),oA `afU V5,(`bGb),o2 `c' `bGc S8,(`bGd),oA `dZ lv0,(`bGf),z7 `ap `afU,(`bGh),oA `bGi un0,(`bGj),b8 `cL `bGk,(`bGl),z7 `aF_ v8,(`bGn),z7 `afW `bGo,(`bGp),`afX `bGq,(`bGr),ob `bGs,(`bGt),zw0 `bGu,(`bGv),t80 0 `aM `p2 `aF_,(`bGx),z7 `aFG v8,(`bGz),z7 `aF2 `bGA,(`bGB),oA `bGC M8,(`bGD),`PD `aFV,(`bGF),`dN v8 K3,(`bGH),`dN `dZ V8,(`bGJ),Z5 `bGK,(`bGL),(`y `ay!),(`bGN:Nat),(`bGO:Int),k<`bGP,(`bGQ),`ao `bGR,(`bGS),`c `bGT,`aF4 hn,(`bGV),qb0 `bGW rfl,U9 rfl,(`bGY),X6 `bGZ,([`vW,`vW]:Ds).set,`bG0 1 (.ow `jk),(`bG1),gN 0 d `bG2,`bG3=`c `af_,show (37:Int)≠0 by decide,(`bG5),by let#[c,_,rfl]:=`dH hq;exact `gT,`r2*`r0,(`aq (i+d))*`r0,N/36+`dV/36,(`bG'),`ao ((35:Int)<`dV),(`bG?),`fX `bHa,(`bHb),`c `bHc,bk k cs `m m `bz,(`bHe),v5 p `bHf,`awK `g0,(`y `bHh),(`bHi:Int),`bZ `bHj,(`bHk),`c `bHl,(`ao (Y5 w=Y5 v)),`fX `bHn,(`bHo),`c `bHp,`w `E7 _ `f,(`bHr),`ix _ (`tv),(`y (`cr n _)),`bD [`mv],(20:Int),`E8 (`se=60),(`bHx),[`bT,`i4,.un],G8 `bHz,by rw[cm,`af2],(`bHB),`E8 `af3,(`bHD),`aR (R `aF9),[`bHF,`i4,`ve],`E8 (N=0),(`bHH),(jb0 p S _),`aK `aee `Zh `bHJ,(by rw[`bHK]),`ao (b<128),(`bHM),`fX `bHN,(`bHO),`c `bHP,`nD `aF? _,z70 `kP h,(`bHS),X6 `bHT,#[[`tw,`eF,`aac],?_,rfl],λp=>`bHV,(`pM : Str)=Y5 `hl,`E8 (`vo=0),(`bHY),
`ao ((8:Int)<`vo),(`bH_),`fX `bH0,(`bH1),`c `bH2,`E8 (`B!=60),(`bH4),(`fB `mZ),ob `afV `p3,`bH7=`bI,((`E9).map `tj),o2 `aA `jM ixD `af6,(`bH'),`nD `bH! _,match d with|`z [a,_]=>a|_=>`v,(`B!<=`dJ),`ao `bIb,(`bIc),`fX `bId,(`bIe),`c `bIf,`aK `PK `d? `af5,(by rw[`bIh]),by apply `bIi;rfl,(`bIj),(`B! - 1 - `dJ),`bZ `bIl,(`bIm),`c `bIn,gv 2 [`ti,`e5,`Zp],`bj `af7,kj0 S k u hu q hq hh,`bIp=`c `kQ,(`bIq),(`bIr),`w (`d=`d) (X3 _ _) _,(`bIv),`nD `bIw _,`ao (c%2=0),(`bIy),`fX `bIz,(`bIA),`c `bIB,((`y `B'):Nat),(`bID:Int),`bZ `bIE,(`bIF),`c `bIG,qm0 (items:=`B') rfl e,(`bII),λs hs=>h3 s (D7 _ hs),(`cn `jc),(`aGc).mpr,(`aGc).mp,`bIN z,(`bIO),h `bIP,`c (`bZ _),`bY - 1 - `wW,(`bIS),[`v,`kR],[`g x,`kR],o++`vZ `v,(`bIW),`wX `bIX (`h8),`vZ (`g x),o++`bIZ,(`bI_),`wX `bI0 (`abI),lkv `hW `Oz=lkd (ix L i),hc k hk i (Qk0 hu),`x7 J (0<`ep),#[`bI4,ht],`n `bI5,(`bI6),#[`PL,?_,rfl],λp=>`bI8,(`ao (`dJ%2=0)),`fX `bI',(`bI!),`c `bI?,#[B,T,[],`R B T],.val (`q `aGj) h,`q #[0,rfl,J.1],(`bJd),`q `bJe,(`bJf),`q `bJg,(`aT `bJh),by rw[`x9];apply `bJi,J.length+(`az_+1),(`PN).drop,`bJl `fJ,(`h2 (`aGk)).map,`bJn `tj,(`aaE (`aGl `h3)).map,`bJp pr,#[#[z.1,z.2.1],z.2.2],#[z.1.1,z.1.2,z.2],λz=>`bJr,λz=>`bJs,A.un.trans,(by rw[A.wt,hw,`Y,`dK,nt0 s1]),`l `aGm `af9,`fd deq,(`bJy),(`y `r3),z00 (hc _ qs rfl h),(`bJB),ns5 ps `k8 (`Lm++W) `wb (`aGo),cx0 _ _ qs 4 rfl rfl h,(`bJE),X5 (d:=`Ln) `bJF,(`bJG),`aGq `My,(`bJI).map,`z `aGr,(`aGs `My).map `adr,(`bJL),`jN `bJM,(`bJN),`c `bJO,λy hy=>`lh (hL y hy),`tt `afs [ae],(`bJR),`c `bJS,(`bJT),Rp X.K H' B y v->`sM,`bb->`bJV,`jC H q.2,∀v H',`bJW,`bJX/\`bJY,∃B,`bJZ,#[y,env,e3,kk],U8 `aGu,(`bJ1),gc (`g 127),(`bJ3),gc (`g 32),z7 `bJ4 v8,(`bJ5),(`bJ6),gc (`g 97),z7 `bJ7 `bJ8,(`bJ9),(`bJ'),o2 `ap `jw m8,z7 `bJ! `bJ?,(`bKa),(`bKb),o2 `ap `h1 m8,z7 `bKc `bKd,(`bKe),(`bKf),`nA `ap,z7 `bKg `bKh,(`bKi),(`bKj),z7 `bKk `bKl,(`bKm),z7 `aF3 `bKn,(`bKo),z7 `E2 `bKp,(`bKq),z7 `jv `bKr,(`bKs),z7 `g? `bKt,(`bKu),gc (`g 129),z7 `c5 `bKv,(`bKw),(`bKx),z7 `bKy `bKz,(`bKA),z7 `jw `bKB,
(`bKC),z7 `afK `bKD,(`bKE),`B7 `aFX,(`bKG),`hx `PR 14 m7,(`bKI),`x2 `bKJ,(`bKK),o2 `bKL `aga m7,(`bKM),o2 `PR `aga m7,(`bKO),o2 `PS `aGw m7,(`bKQ),o2 `aGy `aQ ixD,(`bKS),o2 `PS `aGw m9,z7 `bKT v8,(`bKU),(`bKV),z7 `bKW `bKX,(`bKY),oA `bKZ wl0,(`bK_),o2 `cH `h1 ltD,(`bK1),(W0 `p1),o2 `aGB `aGC m8,(`bK4),(o2 `cH `h1 eqD),(U7 `aA `ty V0),o2 `aGB `bK7 m8,(`bK8),(o2 `cH `PA eqD),o2 `agb `aGC m8,(`bK!),(`g 6),o2 `cH `aGD eqD,(`bLb),ob `agc,(`bLd),Yj0 0 `aM `tx `cE,(`bLf),`dN v8 zd0,(`bLh),Z5 `bLi,(`bLj),`OC `pT,((`y `E!):Nat),(`bLm:Int),(`cx `dK),(W9 `aFU),W9 `aah,(`bLq),vw0 1 `aM t8 `mx zr0,(`bLs),(oA `d6 V5),`ox `aQ,`PC `aQ,(`bLv),(`bLw),ob `aGF,ob `aGG,(`bLz),(`bLA),ob `aGE,yb0 `bLB `bLC,(`bLD),(`bLE),zm0 `aGH `c' neD,(`bLH),gc (`g 15),(`bLJ),`NX `bLK,(`bLL),o2 `c' `h1 m7,(`bLN),(o2 `c' `h1 m9),o2 `bLP `aGK m7,(`bLQ),gc (`t "a"),z7 `aFh v8,(`bLS),(`bLT),z7 `bLU `bLV,(`bLW),z7 `iz `bLX,(`bLY),z7 `Bp `bLZ,(`bL_),z7 `jM `bL0,(`bL1),z7 `aga `bL2,(`bL3),o2 `c' `PA m9,(`bL5),o2 `aGL `aGM ixD,(`bL7),z7 `bL8 v8,(`bL9),W0 `bL',(`bL!),o2 `aGN `bL? m8,(`bMa),(U7 `cH `Pw V0),o2 `bMb `bMc m8,(`bMd),(o2 `jo `p0 eqD),ob `aGO,ob `bMf,(`bMg),(`bMh),U7 `cH V0 `aGP,(`bMk),z7 `bMl v8,(`bMm),T7 6 `bMn T6,(`bMo),`PT `bMp,(`bMq),U7 `cH `aGP V0,(`bMs),z7 `bMt v8,(`bMu),T7 6 `bMv T6,(`bMw),`PT `bMx,(`bMy),X3 `bMr,X3 `bMz,(`bMA),(`bMB),`PU R0,(`bME),zm0 `bMF `p0 neD,(`bMG),zm0 `age `aGO neD,(`bMI),X3 `bMH,X3 `bMJ,(`bMK),(`bML),z7 `x3 `afN,(`bMO),z7 `cH `bMP,(`bMQ),T7 6 `bMR t50,(`bMS),X3 `bMT,(`bMU),oA `aGQ K5,(`bMW),`PB `bMX,(`bMY),zm0 `age `bMZ neD,(`bM_),y20 `bMV,X3 `bM0,(`bM1),(`bM2),T7 8 `aGQ T6,(`bM5),`PT `bM6,(`bM7),Y9 8 `aM t8 v8 R8,`PU R8,(`bM9),(`bM'),iu0 `bM! `bM? neD,(`bNa),X3 `bM8,X3 `bNb,(`bNc),(`bNd),z7 `cH `dZ,(`bNg),oA `bNh wz0,(`bNi),(U7 `aQ `Pw V0),z7 `bNk v8,(`bNl),T7 6 `bNm T6,(`bNn),`PT `bNo,(`bNp),X3 `age,(`bNr),X3 `bNq,y20 `bNs,(`bNt),(`bNu),`PU (k60 M5),(`bNx),zm0 `bNy (oA `d6 vb0) jp0,(`bNz),`OC `x!,`EF l `agf,(`bNC),`c (RXB.ok `Y5),
match `bND with|`nv=>`bNE|`nw=>`nw|_=>`f,(`bNF),.ex `e3 `MB `agg,(`bNH),`c (DX.ok d),match `aeQ with|`E?=>`bNJ|`aGS=>`PV|_=>`f,(`bNK),`w `aGT `bNL `f,(`bNM),show`aGT from rfl,(`bNO),(E.begun.map `gp),[`lm x,`h8,.un],z7 `aA v8 `bNR,`bNS=`c [x],`Fa `aGU (dc0 _),(`bNU),`PX E tr0 E,(`bNW),zz0 `bNX (y:=`wy `wd) ?_ (Fi0 _),(`bNY),#[0,0,0,0],T.c_MOST_WORD_SIGNS,ih0 (yk0 `Fb) `aF,(`bN1),(yk0 (v6 j9 `Fb)),dz0 T.c_NAME_SIGNS,(`bN4),`agi `er,(`bN6),Y40 `x? `PY `oL,(`bN8),C__law_next,(pab 0 u6),(`agk:`h).Nodup,(`ba:`bN?),o9 0 `bOa,`tA `yb `yb,(`bOc),v6 `yb `bOd,(`bOe),v6 `yb `bOf,(`bOg),wr0 pf0 sb0 `aGZ `dX,(`bOi),mm0 W4 Z8 `aGZ `dX,(`bOk),J1 `aG_ hr `r `aG0,(`bOm),Z6 `bOn `agm,(`bOo),lp0 0 v9 `rm,(`bOq),n80 0 `sq `rm,(`bOs),`PZ `aG2,(`bOu),G4 0 `yc hr `r `eQ,(`bOw),S6 `bOx,(`bOy),`af `axi,`_q `rU fa,`abo X.K `ae `ac H σ δ i j dp,∀H',`abo X.K `ae `ac H' σ δ' i j dp->`go σ H',CoeFun,(`bkF),(`bkG),(`bkH),C5 X9 G9 a9,F9.binds,w.openOk,(`bjG),`i9 H1 a' sub,it.go i Hi gr hlt,`ada Hh δn,λx H' y=>?_,G δ=`du,excClassObj,(hb s us `fM hl),(`aU (`OM) rfl),`cF::`aDl,λz=>`L b (z q.1),tail_of_in X ht,(∀a∈as,`xn),(`dQ p),(`boA),`cj (`M2 ok),`cj (`M2 r),F.entry_gs_get,(`bnI),.BinOp,(`bnT),`hf X.K Hh `ac H σ δi,(`bq3),(`np/\`pK),boot_isinstance,(O1 hi hv hd hcd),`c (Classical.choose h.2),"_law_base","_law_long","_law_names_here","_law_code",(by apply `awQ;rfl),(`boB),(`aT `bt7),DGet H2 a y o,λb z=>#[z.1,?_],(`bV b `M),(`hM s2).bad,(`s7 s2),(`bqJ),(`nf `gg),`ay_/\SubOk `cD X.w H `aB a p.1 p.2,`jC H' `ay0,call_isinstance,(`bnR),#[rfl,hq],`o (`C8++[`t f]),(`bsN),`c (`aCG),`bR a _ hq,its.toArray[m],`T `kJ,`MS (t':=`_P) (λb u e=>`rN) `bL ?_,Alk xs ys c',`ar [`ja,`rM,`mH (c':Int)],(`bjM),(`buh),[`bT,`m0,`h8,.un],`Kj `awH,(λi ds z=>tu0 z),F.plainAttrs_str,(`bpW),(`bpX),(`bpZ),(`N!).getD,(`bia),ps.take,`o (`ps),(`bld),q _ I.fresh,#[r,en.frz,hq,k],λm hm he=>?_,(λd hd=>nomatch hd),(`bu'),(`bu?),`az8 `aco,OwnTail h bmV tl,`DP=`bQ/\Q v H,`NG H' a sub,`it/4<`se,link (`aca `it),
(`cy hj).resolve_left,(`bvf),(fe 4 _ h5),x=.bl c,(`brI),swappedStores,(`bjY),(`ble),#[t,env,e2,λH' s'=>?_],Moved (C::wr) G s s',`aBz C=`aBA,(`buH),`bp - 1,sliceRange,(`c `_I),wpAny_loadPart,(`bqc),`c (.val `aBR),(`btM),(`ayb).imp,knd.keeps,call_list_seq,(`boV),(M60 d).bind,(unL l).bind,(Sr0 p.1).bind,#[N++M,by rw[hM,hN,`ca]],(`buG),A5.mpr,(`bpM),.FunctionDef,(`bkV),(`bkY),`ab' [o,i] (`py o i),SqL `DR H a `CX,#[_,h1,rfl],`o (`Ky `t++[`t f]),((p,w)::`_S),(λw hw=>tq0 rx fx r fs w `axB),(`hd `b6 ?_)]
def Z:="hqIxEAr8Tk9bHFB32dhSxZgAY!Msm_uiigyfJvkbzE?2a4zt0ywfmidlx'VzJ2'4v9aYEML_Jooesk4wh'aZVGy6eX?GrTsi5pPjduAR'Rj?arcBjlO!jQb8RiTBGCtHoyDAlbbsTjh7powgXA_MCJK6OPhYzcrWDeRYnbTGCW7eLXlNfe1oUEVjdiId0gkzhyNyB_lsptDPjuXBJfZn!U08qow9iNN9WzVU4UdajR68YJexesljzBDKJYPlvgK0!MtVC9AGh1Uf2thMCWLf5Pj2SOuHIxiXNNs9IxY2qcHlq?coFGKhcZnXD8NADbxdes?w6XLkDKdG772PfJKzZbl8IzC?gOMUcd8O!qT!Ci5gGMy_Z1hjHclgL6Hd822wdbIP29dXcn3yauOzmLTFpaZal5QvPjtshsgTVveuD7NaLiyag8B0T9YFi2aaLGwSS8pieJFpug5yOSfM9XnYJKeDlagnGxPeJC3rlGnSKe?GpzpfEoGg1A9D85lI6lnZ0Yz85a8WZcq4?shvj4ug2_xntZkhhydR41r2wicrTb?YQ'G?ojtLO?R0tvR?bFm5rX3u15qi9Rm2LL3G9tdE?eL38kFi6aO?ElECJDxyisIYPF7GpBch7!OFfNIK60js!__LpmTchhwJHanteXOCa8iZpfY0wh1kcGL!tQj?p7kxiN0fRAax5kufVqjGF9EEiJe?!ugyz6bjXgk7RE5j31dtJGSXA6mi7g0eZ7XnFP6Qj9yw!lOCzm!i9znkeo?Sw0c?HKPY4MkdUfjRWt?TKUsIb9c5xuKNyk0hVC57dJSdNMi?dhCf7TIaQbC4mLAIV0rZaqiUauk?OqEjP1MNXE3Izjgz8kd!ikfHfbjneMvj?Dy5fLVRj22BrUkkN2KOnv_aH!d!X2g_qyH8nhUt7DGwFj!'cBYCEIZRll8cKJ66!3cgNJddaleGSyuaQkYxEh1zRBZBhGlIyua1!xQgLopNsZ9aXci2ev'nvgykii?IzhmSlNJoaOgD7?mzrjohHYxV7CX?ALlEcgKT9qrppeUZCno'set2kGnvrDVznT?llxYYYePO31fOP3OplJEjzjq5nxgvRF31luGK2'I4lhef4YY5Yg7FLef75KUFZa23yk04Ah?AXgRdbrb!sjRj7sleWwNQ'ZRKu6aeIdsP0bQi!kECBCi8VYkzc6AZwZLF0FnkQcY5tBiUYeeInWAo_BWePio?0lcjiU9lbMLeQfccV'XgdTUBJKqUWnlTSj1Il1Tlcegduk77R11VjtaeTqRp5dbitdrREC_CVZkvtBmMUHWm3hOKjy4KqDk8f8LwhDLriyncbFJ1VT2!03lCGZCjBb'LweHflJI82DHEdqZKwMDrkATcuc_x3y9bD5cGOTLQD9OtVbsm9OdFP?8Ga5Fn17Qmye4kU'xOjHAeayfAodlV3wcNOeW9lIcRAnCnlqVWrsnJu7IeY4o5B_MXcYb1t3j1DpNEddRFPnEz3nLrlTLViXMXtBglWD80esS7udfghA4LjvO1Sc106nZTuMJLbMeCWPoApWje?9063?r6VId4sjZLBvKofbJMI?AZ5pk6e1zJrx0qQ2khbuzdVfT9jQdAMg'VXQN2oaW8g3cDgs2hgb?ubOERnJYhHiVWWT6xSVkvFol6WC6NBg1BThLdB4xVgDXNh8ehIjYfTcxdYVWqd0g1OfUpwbxj7b_?qsjNo0FpenufAY3SrszkgASXNogPXjj_2mZxUo6y5fIM_3KD!x2QfMUMqj_u8X_boBRKjzL_j6le3Th1M6R'8gr1iVGhUu8oe_MVfKB?PqmlMla7dNBYr0jk4pF7?EzQhdgOeuTOMRgSieHhUHs5?I_apCB9bqx5d4d?cVD08U!T_cLb!kr253xFfIjm8LxQweIgILx8Z1KzQyfDgZfGQrgiAhbmG''Gcz4va7xyBzTeI3ieh41RfDdcHEhKg3O5OVlUtedzj?et!0X'eJLv0Ss_4sYfG?6Th!mLWfi?LqUb50CTscsOKQ0y1OvwhQFGM'25oL?gjpnPCm_!4RcP09kSRbPJIbVDEIvz'KRliVCdx60f5EWg!wIWPVfAerezH27Gq1'sgaWEXcXu?sxjbQ7c!sj!D9vffRee4kDfJdbV!eMy!mHY'gVlSfBRWGQSlECfE_WXbjljWnhgD7U!5Hak4Z4XiD0bJg0bC1!_FshUcgOmgWzMajDjm33LnJar'ulhQpYnvT3YcbCi7_e2w8d4g0rpL45uk7Th70hROXHK_Dezol_wmaFckaVUj5GI6kUXfCs?tqPHVJpkyX1TVqH4e1bUPP_rDYNp?jbdQ7NBT2Gqfo8zT8?W9pnjykz?r3cYluk'hClwC4lPTezL0h5ISt4fi5uxFpflQQwg8p912jYgVghGOyDoPwib7apRh8W'Mv1QeJ?RSvpKeYRihwddhKYoz9iBSsmW29_cuitIz_Up?KOvfl3_RUjwTR'cgEkUYE0eM!fZF0TIoT2rUiGSCi_iqR?jdel5cGyKPbEkyNskDNbvG_eSTP2m?f3Ihb5Y_PqajmjVkVj3?44'n5eeNn870Cduj8g4YGwe?O9agkjFq3L3QS_sb6?CVXEQLcSaNdJSn7!U?akSlKIKDQK9Ljbn4iA!tn?'bBFfGbsLg6mfz?JUHBC5Hhbvretr1gohobcihZIobTUSe1oRMnl9jGmjIzPH8rCcBojxuHE0_eUFPiTR9O4PfziXisu'0Doe8sicHIN2'9_RFAgiIGezC3ff6kIFrRLNOlT_fnzLBMjB'XVe4TELE?rz4hdg?pmU0V6Zdims4Q55FIsyiITyy'6ko!HjYVinCXY7g2e7fropSMZrSiO7mQvEBE1xd7h!SgH6E?Sk2GHRys'FylgBnWVe7f1mVbojpM4'ummHhiQPIaAaGC_fX'5bKmTK80eI1NodpPEi?c05cB'pkAvmjmDDlgr2SNplr4B?AVG_qFeJ1D?i_ZWWElgZ2jFlo5nNiZcleSEGDpNi3!46AzGiLQiNJlKJNeqxpc!A4'7qelceeu4XWXXA'txkQp6Uyl6s'qkGtESo03jg_bIU2Y'e5'l8fmPvOjxFa?Sk1MsL5G?pJBjExibt3?fxhlT5wOypGKxCkCwgHmkXTmtaJ?dAEN'cH7eAkKKWEX?rPbf6F4vn2GuZcoMgD?svSgnd6dZKQ2f6F6bj'uM0xH_Pwe6B?Lw1Z92dkDxYkTjR49ebvkhv4HJuzSfLPbw9JZOypa7kXCdoHRXhg51T1pl!LMtjOWN'DqjsavfGCwCVNqpnGd'y'YLbNQaRccUg9z2WHsqgO!AXC_38M6j'8bsq2eAAsjzoisZeRK7FaQwb69MF5EPigEsOLG_L'YeQvbklJGazPfxYaIu1g?6tgh0hjcVmzSFiUKANjv??PzexBklf'y4!hh?lVLVf3GC!hkC0ps12!j9e?Dp!NocsKace!6Zr7Umi3fKRAwfJKxtycn7q6ceXGyddvMef0eLPn?jwhhyTnpm'UhfGmTj!V'VHi6E9Ny0u14mhqj86bcw2jiluCTl8o53dWjOwSwDGDINZek6lrdixw7Hc!W5V77AA'aeGzR1DHdUCvaPcu6or3fIuh?Z7Ta9XUyNkFoQ_eiEJDeggmVRcaU0edhM'P!PVK2nLfxKV5!xH5lec4pH!vsQW0Vig3NU3RhsOVfNZcpqUwlGrhR8VnR94F'tgp!PQ2e1KlAhjCSj!MgFVxhHRynOwgYRmaBW4eLFqjyyal5NBA21HEBgk6hH68ZdrFfG2KeAKGuvnd5'wX4Kan3Qdzr1_otAildezp'Hc34Sv?km0Ootrv6MXhcWU0dsj6c?cT0uSHT2cuAke3rW5'P3tXecB8tt1EdvEjxYJXWZQzK8kXIv0wx1ioXiw1mwUl_rvLeNYwbUO!WKPgWXDzNq5W8Yd3lv_dRrhn_kru'20fw3nXhp?dGoxqqhke'H7IlWFRJGiEl7RvU1EV8aiIqTaMyxP7cextU2KEE2Zg?QQ9v?XSDOadZr6PtiHE?kfsmv5JbZ0OcmGfoEE8MM6kOI5iuMFoxHlLdrb'PV1bZb58_k9?4aGacNfuol5r93TbEybMN8gbFFehbaHXPJfmRbbi?l07KFDokmTqdVu'K8GbGyQ4lLyy_Kk_O!Wm'HNBOaTOiR4iI'shgEBmsRWd0Mdk!?k!X73VwJezIdWc4gQdKfzR6OR!WCa!eP8EWVplKwIaNXQuaYlQaIgDey4xjm8ttjQjeq8LBqkWbk2_Q6V_iy_iz8NzojGjIUfKTu6!iGmKikvpPDN1?Rq2agQ9zcrdP_LlTXJ6gXmDoliRsoDcd7xPmiG3iXK4fHoyjUr02v?aXOGgd0QNlmimQWluvAHYrVjYQj3VToiTw89PewxIqAAD5cVcjJ1!NlMNUOipcQSo3YlFRjaVYkZdJCFlf!'HeqfolbPbfpge'Rraq8jE0H7uPHRExiKMf2QH!6rGiMsK!Q8U_Qig_zmoVPCHY0bFPsihl3T2!f?iJGY?wzWgbGhmvkwryPze6rqc3J96OalcH9wBe_WLMifMKR2iOW4Rbq42!Prq?TrdBTxi1N5e8Sda4tq_WPUrrbBmh_dcgAL5k2tqfTLkmIdijPGwLBQowUfp6dkckKtlRhO7gor6?7?6jAjVDGYM5LvexiS!DpNOa2kEaXuX_ZwHtkcZEjjfaROtaItn22IrFlAg5YIf?ZqH8WjvVm6R8gY9!iQ8mf8oleOteBuWVX!8QlnlcKGlLqQbNkbqcRxpMiuo!eflndQyA'Y_gg'zh!l0!bHczqdBLtA44zb6k5unU8TzLd''uJoEN2Gmi0L6avdoGeDfTYurpgXHC1bkGB'otY8iWkOI4pzYCB2FhIhLLtOJWXelsJHZ7WWgcSjwTclRCtETxlpCdF0Cf't6f?K6?vzXZiycNL0qFBLBsThvZqhUxVRz7jJlxc9YsKmeeFFolHAqwAlhp9071eBSVukcrXXNxccJQbM3SAoTdHS8hcFDLKatnnkdbd2Gfl4_Mohe6fZIwhbQQeAHa9IYEwh4ioLpxktuYYtbQ'qkvpbv9iewjuAYB'5SZi'nSf3tkNyZfHW5uc9B5KjhNyuAWK3A3Lj00udWmHiR9gaYXVhFg5KBjjUmaCZ82GIgKhh_aCRiKdju8XGbf3Xweh'AhC0q8IA!aRo_52A1UXtdKZodm5D46wh35JIg!2LE0lYhk6xagE8mjiy157focXqlAz_tlHf5fPfNg_LYfJVv2g4zxMNiKy?ih5RN'n1493bc!JO1Eytg89aHvLdHDfuB2anRua?4_nQde5vhsFNczrFgD97?mRkCKdbd!5n3'd!G!jb0jADKNpjCipNukLcb9BicqKk0Tk9j8?gNKkAAjHVYtbJze7?LocWbeppVDma!zxYdvzahcXBQKXkWHZPd6CMPAb9kZno1kFb7fRiP7Qh6Z!6a?lMg_gzsYUa62PjxGPdwjlkBaXmOHVFPiVYJZKnBRzOcDCZ8SS0Mbwacxy0Z_XbGBbnCAzX4nJIPewJzRE4!lmllqoVaW0Yp2vcckDBTZOhnujnt57VB'0dmhBwDVxxr7nxjkQ2StzT6!MhBVTmLnUD3JcchYCCQL93vhIEf5OAmg85aPkSbSt2LsWa7_w?r0s8wTh7qkQ3eFQ5jhdW1bhCGxyGcTRCq7?fzVEfBz3'w!Un3nlsANmj0fuWHbEU!mJ2eci9fkotES!qtWEfAmEBUXZGsWheWC!nIoCOTe41YGhr4IN1h8hB_bdwj51dvMBJUyno1Ib8pEpXb!vEzdu9sUcvrTiCkd?OVNE3IBihnQWsb!5hWacCuf1q9u?6'jf0WCeMYAn'gUL6VkI5ulZdGYzkknvgOiaX1aTx35xCuaOALmv!5o4WhFu2mBxw!tpiK1Kdn0WITsdDNJfLztjapd6D9b2KarBTdWAXXExPROzfciCzlr_dyPbSvGvPFq4Vtan!eMsuNpOrk0q!SB042pUcNs7OEmSGFSjoobTXZDLZTcPVGfI2wq60fnhqyIphewYdHT4aUL?NMZdkZndYZ4P?Zeyf_0IeyW67fu6wfg9V_tldHHj4VL3M?0jB'cPbBSvQob4e6ePmCSEAiLgHcc1lFFffyqn2!5N1NOcWQxyt3YTH_bi8taiGX'g4bQcROtYh?iJazRGvFkI'KWkNnly8KU3s5jocn8Qg?UjsgwP9m2bsSpBiic7nzOdbNFfe4blA9gkUEj5V2f7CsF7whZ9FIeH38ytfvQQ7YIkXxellVx1rXYYWgdIbeW1CZ65uaK3'ftzYvO!j!Z'VFUf2Y_h7JjdzVuDH6gV!5o4EAwKPjsCE3wNUXBgcQFqNyJOUtNgbL2OHf2d0_frW4E4R0tCBahZawOQz5okdUAGpZ0sNv?ckhBWMaI8jPcHXjQfJVGH_dBIIt2?LvlQkIH7YxL!_VVhn'w!MVOxRlgqW7'13mSWPfBGK3VuPZR9cQchqbLHwr!i9UXZ15v1cLdC6a3165kE1epFOdKxVXUcfxGG5TfE?!TlprhsPHLI5skR'hoBBEeQLcJfK4QEQus?cLMAv?qx2Oak_wVak1gYM9g_EQJtiQkGzfQPf_cn6RCoeELb8pHQUJ0iQNkzG5VTwhlzhbjufc3iRbF27svYFz9pkIrfBgPhD'Ok9UL2AfgoYjly6298xusRedZTEWGqarYYcyIAjnz7CwCcGRRUjDITkZbfeRcyfiybue6LYbf_BjZofvwizfv8'BNg!FRNfS2nz8gAkVhysyMA2gKdp'Pyozgob'lxh?Pf?dohmIeNmU?czck!UJRPRelxMd573Cdh!AogazAwipCt'l_apqf6PNfr1KjKopZvZB'h7kZLMwb2ZndDe'rN_'lRQPkb7NOjxjeHOcdh0h6_wrHlp"
def k4{k:Nat}(h:k<4):k=0∨k=1∨k=2∨k=3:=`G
def bdS{α β:Type}{o:`P3}{f:`aG5}{r:β}(h:`aG6):`aG7:=by
 cases o with
 | none=>cases h
 | some a=>exact`aG8
noncomputable section
open PySem
def A0:=@PySem.wpAny_bind
def A1:=@PySem.wpAny_pure
def A2:=@Nat.le_refl
def A3:=@Option.some.inj
def A4:=@List.mem_cons
def A5:=@List.mem_map
def A6:=@List.mem_cons_of_mem
def A7:=@PySem.Heap.lt_size
def A8:=@List.mem_cons_self
def A9:=@Ne.symm
def B0:=@PySem.Heap.get?_push_of_some
def B3:=@List.mem_append
def B4:=@Nat.ne_of_lt
def B5:=@Nat.zero_le
def B6:=@List.getElem?_eq_getElem
def B7:=@Bool.false_ne_true
def B8:=@Nat.lt_of_lt_of_le
def B9:=@List.getElem?_eq_some_iff
def C0:=@Nat.le_trans
def C1:=@List.mem_range
def C4:=@PySem.wpAny_loadPart_at
def C5:=@PySem.W.mg_of
def C6:=@PySem.Heap.get?_push_size
def C7:=@congrArg
def C8:=@Nat.ne_of_gt
def C9:=@List.mem_of_getElem?
def D0:=@PySem.wpAny_mono
def D3:=@PySem.wpAny_holding
def D4:=@List.mem_append_right
def D5:=@decide_eq_decide
def D6:=@PySem.Heap.get?_update_self
def D7:=@List.mem_append_left
def D8:=@PySem.wpAny_field
def D9:=@List.mem_replicate
def E1:=@Nat.lt_irrefl
def E2:=@Int.emod_nonneg
def E3:=@PySem.W.mg_none_of
def E4:=@PySem.wpAny_specialOf
def E5:=@List.nodup_cons
def E6:=@PySem.Heap.get?_update_other
def E7:=@Nat.lt_trans
def E8:=@PySem.PassesOwn.never
def E9:=@Int.emod_lt_of_pos
def G0:=@beq_eq_false_iff_ne
def H0:=@Nat.le_of_lt
def K0:=@Nat.le_of_eq
def K2:=@PySem.codeAny_mono
def L3:=@PySem.wpAny_Call_Name_kw
def L4:=@PySem.mem_of_lookup
def L5:=@PySem.W.kia_one
def L6:=@List.mem_singleton
def L7:=@List.getElem_mem
def L8:=@PySem.wpAny_typeOf
def L9:=@decide_eq_true
def M0:=@beq_iff_eq
def M1:=@PySem.wpAny_newObj_type
def N3:=@Nat.lt_of_le_of_lt
def N4:=@PySem.wpAny_updateSeq
def N9:=@Nat.le_add_right
def O0:=@PySem.codeAny_call_builtin
def P1:=@PySem.codeAny_builtin
def P2:=@PySem.wpAny_call
def P3:=@PySem.wpAny_call_entry
def P4:=@List.mem_filter
def P5:=@PySem.wpAny_truthy_bool
def P6:=@PySem.wpAny_passesOwn
def P7:=@PyProof.Rows.callWith_type1
def P8:=@PySem.Calls.spliced_cons
def Q1:=@PySem.call_meets
def Q2:=@PySem.F.plainAttrs_list
def S4:=@List.mem_map_of_mem
def T0:=@List.cons.inj
def U1:=@List.nodup_nil
def U2:=@PySem.F.typeOf_object_class
def W1:=@PySem.F.slot_gs_get
def X0:=@PySem.F.excBase_ValueError
def X1:=@PySem.wpAny_setField
def X2:=@PySem.Obj.data_mapFields
def Y1:=@PySem.wpAny_rule
def Y2:=@decide_eq_false
def Y3:=@PySem.wpAny_standAt
def b4:=@Nat.lt_succ_self
def b5:=@PySem.Calls.spliced_nil
def b6:=@PyProof.Rows.slot_tuple_getitem
def c5:=@PySem.typeIs_str
def c6:=@PySem.boot_len
def c9:=@List.map_congr_left
def d4:=@PySem.plainId_quiet
def d5:=@Array.getElem?_eq_getElem
def d6:=@List.mem_iff_getElem?
def i3:=@List.mem_of_mem_take
def i4:=@List.nodup_iff_pairwise_ne
def i5:=@List.mem_flatten
def i6:=@PySem.Heap.get?_none_of_le
def i7:=@PySem.Obj.isFreed_of_fields
def i8:=@PySem.wpAny_seqItems
def i9:=@PySem.W.methodCall_KW
def j0:=@PySem.wpAny_callSpecial?_slot
def j3:=@PySem.typeIs_int
def k6:=@PySem.Heap.SameBut.update
def k7:=@List.length_eq_zero_iff
def k8:=@PySem.F.plain_extend_loop
def k9:=@Prod.mk.inj
def l5:=@Nat.not_lt_zero
def l6:=@List.mem_flatMap
def l7:=@List.mem_of_mem_drop
def l9:=@PySem.Code.quiet_builtin
def m3:=@Nat.le_succ
def m4:=@PySem.F.slot_NoneType_hash
def n5:=@PySem.F.slot_tuple_hash
def n9:=@List.ext_getElem
def o0:=@of_decide_eq_true
def o3:=@PySem.SeqAt.EqAt.same
def r8:=@PySem.SeqAt.EqAt.int_str
def r9:=@PySem.SeqAt.EqAt.str_int
def t5:=@List.getElem?_eq_none_iff
def t9:=@List.mem_filterMap
def u3:=@PySem.W.callWith_K
def u4:=@PySem.concat_meets
def u8:=@Option.map_eq_some_iff
def v0:=@PySem.wpAny_point
def w8:=@PySem.tupleKind_room_in1
def x0:=@PySem.F.slot_zip_next
def x6:=@List.contains_iff_mem
def x8:=@Classical.choose_spec
def x9:=@List.not_mem_nil
def y0:=@List.all_eq_true
def y4:=@List.pairwise_map
def y6:=@List.any_eq_true
def y8:=@List.length_range
def y9:=@List.nodup_append
def A00:=@Decidable.byContradiction
def A10:=@PySem.wpAny_isSubtype_exc
def A20:=@PySem.wpAny_pyHash_int
def A30:=@PySem.wpAny_pyHash_str
def A40:=@PySem.wpAny_forIn_list
def A50:=@PySem.SeqAt.EqAt.none_int
def A60:=@PySem.SeqAt.EqAt.none_str
def A70:=@PySem.SeqAt.EqAt.int_none
def A80:=@PySem.SeqAt.EqAt.int_int
def A90:=@PySem.SeqAt.EqAt.str_none
def B00:=@PySem.SeqAt.EqAt.str_str
def B10:=@PySem.SeqAt.RcAt.tuples
def B20:=@PySem.wpAny_isInstance
def B30:=@List.getElem_inj
def B50:=@PySem.wpAny_execs_nil
def B60:=@PySem.W.plainGet_of
def B70:=@PySem.Heap.size_push
def B80:=@PySem.W.callWith_K0
def B90:=@List.of_mem_zip
def C00:=@PySem.noFill_tuple_add
def C10:=@PySem.seq_tuple_add
def C20:=@PySem.F.slot_tuple_add
def C30:=@PySem.F.entry_tuple_add
def C40:=@PySem.F.args_tuple_add_2
def C50:=@PySem.wpAny_sequenceKey
def C70:=@PySem.slot_list_getitem
def C80:=@PySem.Calls.callWith_builtin
def C90:=@PySem.Calls.evalArgs_plain
def D10:=@PySem.wpAny_loadPart'
def D20:=@PySem.F.slot_list_append
def D30:=@PySem.F.type_list_append
def D40:=@PySem.callType_codes
def D50:=@PySem.wpAny_nextOf_list_item
def D70:=@List.mem_iff_getElem
def D80:=@List.length_pos_iff
def D90:=@List.Pairwise.imp_of_mem
def E00:=@List.ext_getElem?
def b10:=@PySem.wpAny_callSpecialIfBoundUnlessNone?_slot
def ha0:=@List.getD_eq_getElem?_getD
def hu0:=@PySem.Calls.Name_function_global
def n30:=@PySem.plainObj_wpAny_Assign_Attribute
def n50:=@PyProof.Rows.callWith_builtin1
def nb0:=@Nat.min_le_right
def r50:=@PySem.wpAny_getItem_list_slice
def w20:=@Nat.le_of_not_lt
def w30:=@PySem.wpAny_comprehension_free
def x20:=@Bool.eq_false_iff
def x80:=@PySem.F.slot_list_extend
def x90:=@PySem.F.type_list_extend
def xc0:=@PySem.F.slot_list_pop
def xe0:=@PySem.F.type_list_pop
def xf0:=@PySem.SeqAt.ne_of_list_tuple
def y10:=@PySem.SeqAt.RcAt.lists_lengths
def A11:=@PySem.F.called_list
def A21:=@PySem.F.typeCall_list_1
def A31:=@PySem.F.entry_list_init
def A51:=@PySem.F.args_list_init_2
def A61:=@Nat.lt_succ_of_lt
def Ac1:=@Array.getElem?_eq_none
def Ai1:=@Nat.add_lt_add_left
def Ak1:=@List.getElem?_zip_eq_some
def Am1:=@PySem.F.slot_int_mul
def Ar1:=@List.findIdx?_eq_some_iff_getElem
def At1:=@PySem.F.slot_dict_setdefault
def Au1:=@List.getElem?_set_self
def Aw1:=@List.nodup_range
def Ax1:=@List.eq_nil_of_length_eq_zero
def Ay1:=@List.isPrefixOf_iff_prefix
def B21:=@List.map_snd_zip
def B41:=@List.length_drop
set_option Elab.async false
set_option linter.all false
set_option maxRecDepth 100000
namespace XC
def vq0:`h:=[`r', `p6, `aG9]
variable{b o e tg iter value elt ke ve:`I}{prog:`ak}{A:`cf}{E Q:`as}{a it dx fa I z i1 i2 l1 l2 rr:`e}{n i m t' j k1 k2 x1:Nat}{y root x name c qual x2 cn:Str}{v u doc pm cdv ct oc vl vu:`B}{tk:Tok}{expr:`C}{mg mA:`a6}{cs rs N ps nm loose N' F pool T':`h}{rest suite:`b7}{od an:`bt}{K:`x}{h' base:`D}{vs us:`J}{α β κ:Type}{pins:`aC}{ch fp as as':`aY}{s':`u}{pos pos' tpos apos p2 cpos py spos px pos2 np pc hp tp p0:Pos}{ys:`a1}{es ifs elts:`bM}{lo:`aE}{kw:`sY}{fd:`fY}{sc scope:`cR}{XP:`Ff}{YP:`Fg}{caps idx L:`k}{oa:Obj}{b₀:`a4}
abbrev bmV:`J:=[`aw5,`bx "Exception",`axf,`agq]
inductive Row (h:`D):`aG'
 | end:Row h bmV
 | own {C:`e} {cls:`B} {dd:`bt} {cd:ClassData} {sl:`j2} {m:`a6} {tl:`J} :
   `f! C=`aG! cls `aaM->h.Ns cd.ns m->(∀n∈vq0,m n=`f)->`agr->`aG?
structure Cl(h:`D)(C:`e)(tl:`J):Prop where
 obj:∃(nm q:Str) (N:`e) (bs:`J) (hdct:`C) (sn:`h) (sub:`J) (ab:`C) (col:`rq) (dd:`bt) (k0 k1 k2 k3 k5:`gS) (newId:`bJ),
  `az8 newId
 row:`aG?
def Row.has{h:`D}{tl:`J}(r:`agr){T:`bJ}{b:`C}(hb:`P4):`aBX `kS=b:=by
 induction r with
 | «end»=>exact hb
 | own _ _ _ _ ih=>rw[`ags,ih];rfl
section
variable{w:`O}{h:`D}{g:`jS}{d:`nF}{t:Nat}{os:`tC}{C:`e}{o:Obj}{tl:`J}
def Row.along{M:`fh}{n:Str}{y:`gS}{Q:`p7}(hn:n∈vq0)(hy:`aHa)(hq:Q y `b_)(r:`agr):`Fh (`az6 tl n):=by
 induction r with
 | «end»=>rw[hy];exact A1 hq
 | own h1 h2 h3 _ ih =>
  rw[`aHb];apply `fZ wpAny_classOwn_cls h1 h2;rw[h3 n hn];exact ih
def Cl.look{M:`fh}{n:Str}{y:`gS}{Q:`p7}(c:`d7)(hn:n∈vq0)(hy:`k? `Fi n=`cj y)(hq:Q y `b_):`Fh (`k? `bh n):=by
 skip;let#[nm,q,N,bs,U,sn,sub,ab,Y,dd,k0,k1,k2,k3,k5,O,hC]:=`wZ;have J:`aHa:=by
  rw[`agt,F.excBase_ValueError.mroIs] at hy;exact hy
 done;rw[`agt];exact A0 (`aHc hC (c.row.along hn J hq))
def Cl.sub{M:`fh}{Q:`agu}(c:`d7)(hq:Q (`rY v) `b_):`Fh (`agv `bh v):=by
 skip;apply `aHd;done;exact A10 hC hq
def Cl.isT(c:`d7):`aHe := by
 skip;apply `aHd;done;exact`aHf
theorem Cl.hasT(c:`d7){T:`bJ}{b:`C}(hb:`P4):`rY `kS=b:=c.row.has hb
def Mm0:`k? `Fi `r'=`aHg:=`yd
theorem n1:`agw `r':=`acl
theorem n2:`agw `p6:=`aHh
theorem n3:`agw `aG9:=.tail _ (`aHh)
def get_class{R:`j3}(c:`d7)(hx:`ha)(hc:`j4)(hq:`aHi) :
  `oX (`lv `aHj #[[`w_,`a?,`eB],[]]) `b_:=by
 have ty:`ack (`w_) `agx := U2;have J:`rY `aHk=`d:=`l `aHl `agy
 refine `aHm ty
 repeat (any_goals (first|apply `hu|apply `lq|(apply `O5 J)|wp_step))
 apply `aHn;unfold Builtin.«object.__class__»
 apply `aHo
def Rt0{tk:Tok}{Q:`tD}(c:`d7)(hx:`ha)(hc:`j4)(hq:Q (`mJ (`jO `bh)) `b_) :
  `a! (`agz `aHp) `b_:=by
 have ty:`ack (`w_) `agx := U2;have f5:=U2;have f6:=W1.lookup;have f7:=`aHq
 repeat (any_goals (first|apply `hu|apply `lq|with_reducible refine `aeU n1 Mm0 ?_|wp_step))
 refine get_class c hx hc ?_
 apply `aHr
def bh0{M:`fh}{Q:`d8}(c:`d7)(hx:`ha)(hc:`j4)(hq:`aHs):`Fh (`Fj `Dg #[[`a?,v],[]]):=by
 have k1:builtinKind `Dg=`c .slot:=`ba
 have k2:splitId `Dg=`c (`azy, `p6):=`ba
 have k3:`aHt:=`agy;have k4:=F.args_bexc_ga `b' v;simp only[`Fj,k1,k2];refine `o!;unfold isInstance
 repeat (first|apply `lq|(apply `O5 k3)|wp_step)
 exact hq
theorem Sw0{tk:Tok}{R:`j3}(c:`d7)(hx:`ha)(hc:`j4)(hq:`aHi) :
  `oX (`lv `aHu `aHp) `b_ :=
 O0 `aHv `aHw (bh0 c hx hc (Rt0 c hx hc hq))
def Na0{tk:Tok}{fill expr:`C}(c:`d7)(hx:`ha)(hc:`j4)(hq:Q `bh `b_) :
  `a! (`agA `b' (`ME) fill expr) `b_:=by
 apply `aHx;apply `aHy
 have z2:(`acm)=`m:=`ba
 apply `aHz
 apply `aHA
 refine Sw0 c hx hc ?_
 apply `aHr
def ez0{Q:`p7}(c:`d7)(hx:`ha)(hc:`j4)(hq:Q (`vA) `aHB):`a! (getAttr? `b' `r') `b_:=by
 unfold getAttr? getAttrBy?
 repeat (any_goals (first|apply `hu|apply `agB Na0|wp_step))
universe zz
section
variable{w:`O}{h:`D}{g:`jS}{d:`nF}{t:Nat}{os:`tC}{C W:`e}{o:Obj}{tl tw:`J}
def Nv0:`aHC:=`a_
def Ma0{dep:Int}{tk:Tok}{Q:`tD}(c:`d7)(cw:Cl h W tw)(hx:`ha)(hc:`j4)
  (hq:∀t',Q (`mJ `aHD) `aHE) :
  `a! (`aHF #[[`a?,`T W,`aHG],[]]) `b_:=by
 skip;let#[b1,qW,NW,b3,a1,d1,a4,b2,a3,a8,e1,a6,c0,d3,c1,U,J]:=cw.obj;let#[c3,qC,NC,c4,Z,c2,a5,b0,a2,e0,d2,e5,e3,c8,e4,Y,O]:=`wZ;have hW:=`acn cw.isT t;have a7:=`acn cw.isT (t+1);have e6:=`aHH
 by_cases e:C=W
 ·subst e
  rw[Nv0] at hq;have z:=hq t;have s1:(`oM==`oM)=`d:=`a_
  done;apply `aHo
 ·have s1:(`oM==`fw W)=`m:=by simp[e]
  cases hb:`EN with
  | true =>
   rw[hb] at hq;have z:=hq t
   done;repeat (any_goals (first|apply `hu|apply `lq|apply `Fk|apply `agC|apply `P5|wp_step))
  | false =>
   rw[hb] at hq;have z:=hq (t+1)
   done;repeat (any_goals (first|apply `hu|apply `lq|apply `Fk|apply `agC|apply `P5|apply `agB ez0|wp_step))
def O90{T:`bJ}{b:`C}{dep:Int}{tk:Tok}{Q:`tD}(c:`d7)(hx:`ha)(hc:`j4)(hty:`agD)(hT:`P4)
  (hq:∀t',Q (`mJ (`jO `Fl)) `aHE) :
  `a! (`aHF #[[`a?,`bx T,`aHG],[]]) `b_:=by
 skip;let#[a3,qC,NC,a4,U,a2,Z,a1,Y,a7,a6,b1,a8,a5,b0,O,J]:=`wZ;have b2:=`aHH;have s1:(`oM==`k7 T)=`m:=`a_
 have hb:=c.hasT hT;cases b with
 | true =>
  have z:=hq t
  done;repeat (any_goals (first|apply `hu|apply `lq|apply `Fk|apply `P5|wp_step))
 | false =>
  have z:=hq (t+1)
  done;repeat (any_goals (first|apply `hu|apply `lq|apply `Fk|apply `P5|apply `agB ez0|wp_step))
universe zz
section
variable{w:`O}{s:`u}{C W:`e}{o:Obj}{tl tw:`J}
def G20{Q:`as}(c:`aHI)(cw:Cl `aB W tw)(hx:`Cp)(hc:`j4)
  (hq:∀t',Q `aDT `P6):`a! (`dQ `Fm `aHJ) s:=by
 refine `aHK (R (.ok `aHD) `P6);let#[rfl,hr]:=hs;let#[h,g,d,t,os]:=s';exact `aHL (Ma0 c cw hx hc `aHM) `aHN
def N70{T:`bJ}{b:`C}{Q:`as}(c:`aHI)(hx:`Cp)(hc:`j4)(hty:`agD)(hT:`P4)
  (hq:∀t',Q `Fl `P6):`a! (`dQ `Fm [`a?,`bx T]) s:=by
 refine `aHK (`m? `Fl `P6);let#[rfl,hr]:=hs;let#[h,g,d,t,os]:=s';exact `aHL (O90 c hx hc hty hT `aHM) `aHN
def Vi0{h:`D}{g:`jS}{d:`nF}{t:Nat}{os:`tC}{M:`fh}{Q:`agu}(c:`d7)(cw:Cl h W tw)(hx:`ha)(hc:`j4)
  (hq:Q (`EN) `b_):`Fh (excMatches `b' `BE):=by
 skip;let#[a3,qW,NW,a5,U,a8,Z,a4,Y,a2,b1,a1,a6,b0,a7,J,O]:=cw.obj;have hB:(`fw W::tw).contains `MF=`d:=cw.hasT `dj;have f:=tc_notTuple;done;unfold excMatches
 repeat (first|apply `lq|apply `agC|apply `A3 (cw.sub ?_) hB|with_reducible apply `aHO|wp_step)
 cases hb:`EN<;>(rw[hb] at hq;wp_walk;exact hq)
universe zz
universe XC
variable{b o e tg iter value elt ke ve:`I}{prog:`ak}{A:`cf}{E Q:`as}{a it dx fa I z i1 i2 l1 l2 rr:`e}{n i m t' j k1 k2 x1:Nat}{y root x name c qual x2 cn:Str}{v u doc pm cdv ct oc vl vu:`B}{tk:Tok}{expr:`C}{mg mA:`a6}{cs rs N ps nm loose N' F pool T':`h}{rest suite:`b7}{od an:`bt}{K:`x}{h' base:`D}{vs us:`J}{α β κ:Type}{pins:`aC}{ch fp as as':`aY}{s':`u}{pos pos' tpos apos p2 cpos py spos px pos2 np pc hp tp p0:Pos}{ys:`a1}{es ifs elts:`bM}{lo:`aE}{kw:`sY}{fd:`fY}{sc scope:`cR}{XP:`Ff}{YP:`Fg}{caps idx L:`k}{oa:Obj}{b₀:`a4}
namespace XC
open PySem.W
def S20(K:`cS):`J->`C
 | []=>`m
 | v::r=>(v::r)==bmV||match v with
  | `T A=>(match `bH A with
   | `c #[_,_,`aaM,_]=>`az!&&vq0.all (λn=>nsIn K cd.ns n==`hb)&&S20 K r
   | _=>`m)
  | _=>`m
theorem On0{K:`cS}{h:`D}(X:`hz):∀{l:`J},S20 K l=`d->Row h l
 | [],e=>by cases e
 | v::r,e=>by
  unfold S20 at e;rcases Bool.or_eq_true_iff.mp e with q|q
  ·rw[`P7 q]
   exact .end
  ·split at q
   ·split at q
    ·rename_i ho
     simp only[`bg,`j5,`ws] at q;exact .own (`agE) (.of_isNs (`aym X q.1.1)) (λn hn=>`aHP X q.1.1 (q.1.2 n hn)) (On0 X q.2)
    ·cases q
   ·cases q
def clB(K:`cS)(C:`e)(tl:`J):`C:=match `bH C with
 | `agF=>(match `agG with
  | [_,_,_,_,`c (`co _),_]=>`az'&&!cd.hasDel&&S20 K (`abR)
  | _=>`m)
 | _=>`m
open T in
def Kv0{K:`cS}{h:`D}{C:`e}{tl:`J}(X:`hz)(e:clB K C tl=`d):`d7:=by
 unfold clB at e;split at e
 ·apply `agH
  split at e
  ·apply `agI
   apply `agJ;let#[#[hm,J],hr]:=e;let#[nm,bs,mro,ns,qn,hd,sn,sub,ab,U,Y]:=cd;dsimp only at hm J;subst hm J;have O:sl=⟨k0,k1,k2,k3,`az9,k5⟩:=by
    let#[l]:=sl;simp only at hs;rw[hs]
   subst O;exact#[#[nm,qn,ns,bs,hd,sn,sub,ab,U,dd,k0,k1,k2,k3,k5,_,`agE],On0 X hr]
  ·cases e
 ·cases e
structure Rs(h:`D)(C:`e)(tl:`J):Prop where
 obj:∃(nm q:Str) (N:`e) (bs:`J) (hdct:`C) (sn:`h) (sub:`J) (ab:`C) (col:`rq) (dd:`bt) (k0 k1 k2 k3 k5:`gS) (mN:`a6),
  `aHQ `f
def rsB(K:`cS)(C:`e)(tl:`J):`C:=match `bH C with
 | `agF=>(match `agG with
  | `aHR=>`aHS&&`aHT==`hb
  | _=>`m)
 | _=>`m
open T in
def Cq0{K:`cS}{h:`D}{C:`e}{tl:`J}(X:`hz)(e:rsB K C tl=`d):Rs h C tl:=by
 unfold rsB at e;split at e
 ·apply `agH
  split at e
  ·apply `agI
   apply `agJ;let#[#[#[#[#[hm,rfl],J],ht],hok],O]:=e;apply `aHU;dsimp only at hm J hok O;subst hm J;have U:`aHV:=by
    let#[l]:=sl;simp only at hs;rw[hs]
   subst U;exact#[(`aHW `aHP hok)]
  ·cases e
 ·cases e
def Fb0(K:`cS)(r:`e)(c:Str):`C:=match `w0 with
 | `u!=>clB K C `w1
 | _=>`m
def Es0(K:`cS)(r:`e)(c:Str):`C:=match `w0 with
 | `u!=>rsB K C `w1
 | _=>`m
def Le0(K:`cS)(root:Str)(cs rs:`h):`C:=match `aHX with
 | `aHY=>clB K r bmV&&cs.all (Fb0 K r)&&rs.all (Es0 K r)&&`aHZ λc=>`aHZ λc'=>c==c'||!(`w0==`aH_)
 | _=>`m
structure At(K:`cS)(mg:`a6)(c:Str)(C:`e)(tl:`J):Prop where
 mg:`aH0
 ns:`aH1
 cl:`wk `d7
structure Tab(K:`cS)(mg:`a6)(root:Str)(r:`e)(cs rs:`h):Prop where
 top:At K mg `e? r bmV
 all:∀c∈cs,∃C,`aH2
 rai:∀c∈rs,∃C,`aH1/\`wk (Rs h C `w1)
 diff:∀c∈`acp,∀c'∈`acp,`w0=`aH_->c=c'
open T in
def tab_of{K:`cS}{h:`D}(X:`hz)(G:`Fn)(e:Le0 K `e? cs rs=`d):∃r,`aH3:=by
 unfold Le0 at e;split at e
 ·rename_i r hr
  apply `tE `bg `j5;let#[#[#[h1,h2],h3],h4]:=e;refine#[r,#[#[mg_of X G hr,hr,λh X=>Kv0 X h1],`Fo,`Fo,λc hc c' J q=>?_]]
  ·have q:=h2 c hc
   unfold Fb0 at q;split at q
   ·rename_i C hC
    exact#[C,mg_of X G hC,hC,λh X=>Kv0 X q]
   ·cases q
  ·have q:=h3 c hc
   unfold Es0 at q;split at q
   ·rename_i C hC
    exact#[C,hC,λh X=>Cq0 X q]
   ·cases q
  ·have z:=h4 c hc c' J
   rw[q] at z;simp only[`P8,`aH4,`Np,`ws] at z;exact z
 ·cases e
universe XC
namespace XC
structure Ri(h:`D)(C:`e)(tl:`J)(f:`e):Prop where
 obj:∃(nm q:Str) (N:`e) (bs:`J) (hdct:`C) (sn:`h) (sub:`J) (ab:`C) (col:`rq) (dd:`bt) (k0 k1 k2 k3 k5:`gS) (mN:`a6),
  `aHQ `ZT
 fn:∃o,`f! f=`ay/\`ou=`vC
section
variable{w:`O}{h:`D}{g:`jS}{d:`nF}{t:Nat}{os:`tC}{C f:`e}{tl:`J}
def Ri0{rest:`J}{Q:`tD}(r:`agK)
  (hq:`aH5 A (`mJ (`jO `hr))) (hrest:`aH6) :
  `a! (Builtin.«type.__call__» `aH7) `b_:=by
 skip;let#[nm,q,N,bs,a4,sn,sub,ab,a5,dd,k0,k1,k2,k3,k5,mN,hC,hn,hi,ht]:=r.obj;let#[oI,a3,a1]:=r.fn
 done;repeat (first|apply `P9|with_reducible refine wpAny_madeBy_exc hC ?_|wp_step)
 refine codeAny_call_builtin_code (l9 _ X0.quiet) (wpAny_check_new_subU X0 `dj ht hC ?_);refine codeAny_exc_new_subU X0 `dj X0 ht hC ?_ hrest;show `dc _ _;obtain⟨h1,e1⟩:∃h1,h1=(h.push `aH8).push `aH9:=`ad;have kp:`p8 `agL:=λb o z=>`l e1 (B0 _ (B0 _ z))
 have J:`pg (`dO+1)=`c `aH9:=by rw[e1];heap_get
 have U:`pg `dO=`c `aH8:=`l e1 (B0 _ `aH')
 rw[← e1];have O:=kp _ _ hC;have Y:h1.Ns N mN:=hn.keeps kp;have a2:=kp _ _ a3;have Z:`aHC:=`a_
 unfold isInstance
 repeat (first|apply `Fk|apply `A3 (A10 O ?_) Z|wp_step)
 show `dc (`k? `bh _) _;rw[`agt];apply `j6 `aHc O;rw[`aHb];apply `fZ wpAny_classOwn_exc O Y;rw[hi];refine A1 (D3 `P');unfold bindSpecial;refine A0 (L8 (T := `vB) #[_,a2,a1] ?_);rw[`P!];refine A1 (A0 (D0 (hq h1 (`dO+1) #[kp,i6 (m3 _),`dO,J,i6 `bL,U]) (λr s' hr=>?_) `tF));let#[rfl,hQ]:=hr
 wp_walk
 exact hQ
def Rl0{rest:`J}{Q:`as}(r:`agK)
  (hq:`aH5 (`aH! (`co `aH? `aH7)) `hr) (hrest:`aH6) :
  `a! (`dQ `bh `aV) `b_:=by
 skip;let#[nm,q,N,bs,J,sn,sub,ab,O,dd,k0,k1,k2,k3,k5,mN,hC,hn,hi,ht]:=id r.obj;have f1:=tc_lookup;have f2:=tc_bind `bh;have hT:`aHe := `aHf;done;refine P2 (`aIa);show `dc (callAny `bh _) _
 repeat (any_goals (first|apply `hu|apply `P9|wp_step))
 refine`P?;exact codeAny_call_builtin_at (`aDS) entry_typeCall (wpAny_check_type_call_sub hC (Ri0 r hq hrest))
universe zz
def Raw(h:`D)(e:`e)(C:`e)(od:`bt):Prop:=∃oe vs,`agM/\`Fp=`eB/\`agN/\`ye/\`Qa/\`aIb/\∃t0,vs[0]?=`c (`T t0)
section
variable{w:`O}{h:`D}{g:`jS}{d:`nF}{t:Nat}{os:`tC}{C e:`e}{tl:`J}
def Qw0{v:`B}{Q:`as}(c:`d7)(raw:Raw h e C od)
  (hq:∀h',Raw h' e C od->(∀b o,`DD->`Qb)->Q `aj `aIc) :
  `a! (`dQ `aBR `agO) `b_:=by
 skip;let#[oe,vs,he,hc,O,hd,Y,h1,t0,h0]:=raw;have hB:`rY `Fi=`d:=`agy;let#[nm,q,N,bs,a2,sn,sub,ab,a3,dd,k0,k1,k2,k3,k5,a1,hC]:=`wZ;have U:=X0.noStar;done;refine P2 (O0 F.excBase_ValueError.init.plain X0.initEntry ?_);have Z:∀{Q:`d8},`aHs->∀{A:`cf} {E:`as},`a! (`Fj `ab8 #[`agO,[]]) `b_:=λ{Q} hQ {A E}=>by
  simp only[`Fj,F.excBase_ValueError.initKind,F.excBase_ValueError.initSplit,F.excBase_ValueError.initRow]
  repeat (first|apply `A3 (C4 he ?_) hc|apply `P9|(apply `O5 hB)|wp_step)
  exact hQ
 refine Z ?_;have J:=B0 (h:=h) (`h6 `fH ⟨v⟩) he;unfold Builtin.«BaseException.__init__»
 apply `agP
 rw[hd]
 apply `agP
 rw[h0]
 apply `agP
 have nT:`dO≠e:=C8 (A7 he);have d3:=X2 hd (`Nx 0 `adz);refine hq _ #[_,_,D6 _ J (i7 d3),(`aId).trans hc,?_,d3,by simp[Y],?_,`dO,by rw[Array.getElem?_setIfInBounds_self_of_lt `j]] λb o n z=>?_
 ·rw[← O]
  let#[c',d',dt,x]:=oe;cases dt<;>rfl
 ·rw[Array.getElem?_setIfInBounds_ne `r]
  exact h1
 ·apply `aIe
  exact B0 _ z
universe zz
universe XC
namespace XC
open PySem.W Builtin Builtin.ObjectAttr
section
variable{w:`O}{s:`u}{K:`cS}{x C r:`e}{cd:ClassData}{R:`j3}
def Oq0{ox:Obj}{od:`agQ}{tk:Tok}{v:`B}(X:`p9)(I:`_6 `aB x ox C od)(hc:`agR=`Qc)(hm:`aIf)(hna:`aIg)
  (h:`aD `dd `fS (storeInOwnDict `k9 `bh (`Qd) `cK v `m)
   `Fq `Fr s) :
  `oX (`lv `ax3 #[[`Jx,`Qd,v],[]]) s:=by
 have SF:=PySem.F.store_ValueError;have ne:cd.mro.isEmpty=`m:=`aw hm
 have has:(`oM::`fw r::bmV).contains (`agq)=`d:=`fd bmV
 have sub:Looks `dd `aB (isInstance `k9 (`agq)) `d:=I.type.andThen (looks_mroIn X (by unfold mroIn;rw[hc,`p,`ag (`Qe ne),hm,has]));refine O0 SF.slot.plain SF.entry (@check_slot `dd _ _ s `abS `aaK `L! `k9 [`Qd,v] [] _ SF.kind SF.split sub (SF.args `k9 (`Qd) v) ?_);have J:Looks `dd `aB (mroOf `bh) `Dh:=(`aIh).andThen .now;have ps:refuseLoop `k9 `L! bmV=`cj ():=SF.passes _;rw[osa_eq,refuse_eq];refine A0 (`lw `aIi (J.here ?_));rw[hm,`aIj,`aIj,ps];refine A1 (`lw `aIi ((looks_findIn X hna).here (`Qf)));exact h
def N10{Q:`d8}{ox:Obj}{v:`B}(X:`p9)(I:`_6 `aB x ox C `f)(hc:`agR=`Qc)(hm:`aIf)(hd:`agS=`d)(hna:`aIg)
  (hs:`aIk=`aaY)
  (h:∀h' dx t',`dn dx=`f->`Qg->h'.Ns1 dx (λy=>`w (y=`cK) `bQ `f)->`g1 x=`c { ox with dict:=`r? }->(∀b o,`yf->`D8)->Q () `pk) :
  `aIl:=by
 refine set_plain X I hs (Oq0 (s:=`ne) X I hc hm hna ?_);have hx:=I.at_;have a1:=I.cls;have a3:=I.no;have Z:=I.dict;let#[oc,a8,O,a2]:=ox;dsimp only at a1 Z;subst a1;cases a8 with
 | some _=>exact Z.elim
 | none =>
  refine `lw A1 (`aIm Looks.here (`aIh));rw[hd,`dY];dsimp only;rw[`ag (`fd typeHasDict)];split
  ·cases a3
  ·have U:(`Qh).get? x=`c #[`eB,`f,O,a2]:=B0 _ hx
   have J:x≠`U:=B4 (A7 hx);refine A0 (wpAny_alloc (s:=`ne) ?_);refine A0 (wpAny_update (s:=(`hR `Qh `vc)) U ?_);refine A1 (a:=`agT) ?_;obtain⟨h1,e1⟩:∃h1,h1=(`Qh).update x λo=>{ cls:=`ou,dict:=`agT,data:=`pi,slots:=`Fs }:=`ad
   have a4:`pg `U=`c `_M:=by
    rw[e1];exact(`aIn _ _ _ _ J.symm).trans `aH'
   have b0:h1.Ns `U (`yg):=#[_,⟨⟩,_,a4,rfl,`aIo,`j_];have a6:=(Heap.get?_some_iff.mp hx).2;have a5:`pg x=`c #[`eB,`agT,O,a2]:=by
    rw[e1];refine D6 _ U ?_;apply `Ft O a6
   have oth:∀b o,`yf->`fF->`agL:=λb o n z=>by
    rw[e1];exact(`aIn _ _ _ _ n).trans (B0 _ z)
   show `dc (storeInDict `U (`t `cK `cp) `cK v) _;rw[← e1];unfold storeInDict newKeyGuard;refine `lw A1 (`aIp (`aIq b0) λh' Y hs=>?_);let#[oD,c0,b3,b2,a7,b1]:=Y.count (Within.cons `cK v Within.nil);apply `fZ `aIr b2 (`l a7 (`aIs (C0 b1 (by rw[`X,`mz,`yh];lia))));exact A1 (h h' `U _ (i6 `bL) J.symm Y (`yi x J a5) λb o n z=>(hs.2 b (B4 (A7 z))).trans (oth b o n z))
universe zz
universe XC
namespace KfT
def sl:Slot `vB `p6 `ax1 := by
 refine .of (owner := `aaK) (n := `p6) ?_ `dj `dj `dj ?_ ?_
 ·apply `awO;kernel_rfl
 ·first|exact `n `dj|exact `q `dj
 ·rw[`agU];kernel_rfl
def lk:`k? `w3 `r'=`aHg:=`yd
def ow:`agv `w3 `aHk=`agV:=by
 rw[`aHl,`agU];kernel_rfl
section
variable{P:`ak}{W:`O}{X:`as}{s:`u}{f:`e}{y:Obj}
def gs{R:`j3}(e:`dn f=`ee)(c:`Qi)(q:R (.ok `aIt) s) :
  `p' `Qj A (`lv `aHj #[[`w_,`Jq,`vC],[]]) R s:=by
 apply `agW;apply `agX;have z2:=ow;refine `aHm U2
 apply `yj
 apply `aHn
 apply `yj
def ga{tk:Tok}{R:`tD}(e:`dn f=`ee)(c:`Qi)(q:R (`mJ `aIt) s) :
  `aD `Qj A (`agz #[[`Jq,`ME],[]]) R X s:=by
 apply `agW;apply `agX;have z2:`ayn (`w_) `agx := U2;have z3:=lk;have z4:=U2;have z5:=W1.lookup;have z6:=`aHq
 apply `yj
 refine gs e c ?_
 apply `yj
variable{hh:`D}{gg:`jS}{dd:`nF}{tt:Nat}{oo:`tC}
def by'{R:`as}(e:`aIu)(c:`Qi)(q:R `w3 `L8):`aD `Qj A (`agA `e! (`ME) `m) R X `L8:=by
 apply `agX;have z2:=sl.lookup;have z3:=sl.bind `e!
 apply `yj
 refine O0 sl.plain F.entry_object_getattribute (sl.check _ _ _ _ _ _ _ _ z1 (F.args_object_getattribute_2 _ _) (ga e c ?_))
 apply `yj
def at'{R:`p7}(e:`aIu)(c:`Qi)(q:R (`aIv) #[hh,gg,dd,tt+1,oo]):`aD `Qj A (getAttr? `e! `r') R X `L8:=by
 unfold getAttr? getAttrBy?
 repeat (any_goals (first|assumption|with_reducible apply by' e c|wp_step))
universe zz
theorem kit{f:`e}:W.KitX K `e! `w3 (W.KitAt f `vB):=W.kitx_of W.kitAt_ty λ{_ _ _ _ _ s} p k=>by
 skip;apply `agW;let#[_,e,c]:=p;done;exact at' e c k
universe KfT
namespace L2
open Spec PyProof.Rows
abbrev Key:=`aa1
def is0:Key->`aIw
 | `n k,v=>`aIx k v
 | `p!,v=>`aIy x v
variable{ks:`aIz}
def z41(w:`O):Key->Int
 | `n k=>hashInt k
 | `p!=>hashStr w x
theorem ya0:∀{k:Key} {v:`B},is0 k v=`d->(∃i t,k=`ph i/\v=`_l i t)∨(∃x t,k=`wo x/\v=`L? x t)
 | `n i,v,h=>by
  let#[t,e]:=Value.isInt_shape (k:=i) (v:=v) h;exact `n #[i,t,rfl,e]
 | `p!,v,h=>by
  let#[t,e]:=Value.isStrOf_shape (x:=x) (v:=v) h;exact `q #[x,t,rfl,e]
def Rr0(i:Int)(t:Tok):is0 (`n i) `wQ=`d:=by simp[is0,`aIx]
def Py0(x:Str)(t:Tok):is0 (`p!) `Qk=`d:=by simp[is0,`aIy]
def Dp0(a b:Int):`ao (`agY=`ph b)=(a==b):=by
 by_cases e:a=b
 ·subst e;simp
 ·have h:¬`agY=`ph b:=λq=>e (Sum.inl.inj q)
  rw[`fi];exact(`pI e).symm
def Dq0(a b:Str):`ao (`agZ=`wo b)=`aCG:=by
 by_cases e:a=b
 ·subst e;simp
 ·have h:¬`agZ=`wo b:=λq=>e (Sum.inr.inj q)
  rw[`fi,`bG e]
theorem Gy0(a:Int)(b:Str):`ao (`agY=`wo b)=`m:=`aIA
theorem Fg0(a:Str)(b:Int):`ao (`agZ=`ph b)=`m:=`aIA
def ze0(prog:`ak)(w:`O):PySem.KeyKind prog w Key where
 is:=is0
 hash:=z41 w
 inj:=λv a b ha hb=>by
  rcases ya0 ha with⟨i,t,rfl,rfl⟩|⟨x,t,rfl,rfl⟩
  ·apply `aIB
   ·apply `ag_;rw[e1]
   ·exact nomatch e
  ·apply `aIB
   ·exact nomatch e
   ·apply `ag_;rw[e1]
 byValue:=λk v h=>by
  rcases ya0 h with⟨i,t,rfl,rfl⟩|⟨x,t,rfl,rfl⟩<;>rfl
 pyHash:=λhv h=>by
  rcases ya0 hv with⟨i,t,rfl,rfl⟩|⟨x,t,rfl,rfl⟩
  ·exact A20 h
  ·exact A30 h
 eqBool:=λhu hv h=>by
  rcases ya0 hu with⟨i,t,rfl,rfl⟩|⟨x,t,rfl,rfl⟩
  ·apply `aIC
   ·rw[Dp0] at h;exact wpAny_eqBool_int h
   ·rw[Gy0] at h;exact r8 i t y u _ _ _ _ h
  ·apply `aIC
   ·rw[Fg0] at h;exact r9 x t j u _ _ _ _ h
   ·rw[Dq0] at h;exact wpAny_eqBool_str h
 «strs»:=λk x t v h=>by
  rcases ya0 h with⟨i,u,rfl,e⟩|⟨y,u,rfl,e⟩
  ·exact nomatch e
  ·apply `ag_
   subst e1;cases v<;>rfl
theorem Wv0(prog:`ak)(w:`O)(i:Int)(t:Tok):`aID (`n i) `wQ=`d:=Rr0 i t
theorem V00(prog:`ak)(w:`O)(x:Str)(t:Tok):`aID (`p!) `Qk=`d:=Py0 x t
inductive V where
 | non|bl (b:`C)|int (i:Int)|str (x:Str)|byt (b:`aIE)|flt (b:UInt64)|ref (a:`e)|ty (n:`bJ)
 deriving DecidableEq
variable{xs dvs:`acw}{σ:`aIF}{kvs:`aIG}{v:L2.V}
def RelV:V->`ads
 | `v,u=>u=`mT
 | `f?,u=>u=`Cj b
 | `bw,u=>`O'
 | `c9,u=>`aD1
 | .byt b,u=>`aIH
 | .flt b,u=>`aII
 | `a?,u=>`Pg
 | .ty n,u=>u=`k7 n
abbrev Vals:`V->`aG':=`b! `ea
theorem Vals.length(r:`es):`_=`Ql:=`ag0 r
theorem Vals.get:∀{xs:`V} {us:`J} {i:Nat} {x:V},`es->`nc->∃u,us[i]?=`bf/\`jP
 | _,_,_,_,`R,e=>`Qm
 | _,_,0,_,`ag1,e=>`ag2
 | _,_,i+1,x,`yk,e=>by
  let#[u,h1,h2]:=Vals.get (i:=i) (x:=x) t `Fu;exact`ag3
def Vals.append:∀{xs ys:`V} {us ws:`J},`es->`bO ys ws->`bO `Lz (us++ws):=by
 intro xs ys us ws p s
 induction p with
 | nil=>exact s
 | cons r t ih=>exact `Fv
theorem Vals.take:`aIJ `Fw `LP
 | _,_,0,_=>`R
 | _,_,_+1,`R=>`R
 | _,_,n+1,`nG=>`aa r (Vals.take n t)
theorem Vals.drop:`aIJ `ag4 `abk
 | _,_,0,r=>r
 | _,_,_+1,`R=>`R
 | _,_,n+1,`yk=>Vals.drop n t
theorem Vals.none_of:∀{xs:`V} {us:`J} {i:Nat},`es->`adx->us[i]?=`f:=λ{xs us i} r e=>by
 have h1:=`cb;have h2:`acy:=t5.mp e;exact t5.mpr `j
def RelO:`eo->`gS->Prop
 | `bQ,`bf=>`gv
 | `f,`f=>True
 | _,_=>`bW
def KV{κ:Type}:`hA->`yl->Prop:=`b! λ(p:κ×V) (q:κ×`B)=>p.1=q.1/\`aIK
def kV:Key->V
 | `n i=>`bw
 | `p!=>`c9
inductive SubO where
 | lst (xs:`V)|dK (kvs:`hw)|ins (C dx:`e) (fs:`iA)
variable{so:`Qn}{sos:`af `Qn}
inductive HO where
 | deep (sub:`nH)
 | lst (xs:`V)
 | tup (xs:`V)
 | dK (kvs:`hw)|dT (kvs:`lx)|dX (kvs:`af (Nat×V))
 | set (S:Int->`C) (n:Nat)
 | ins (C dx:`e) (fs:`iA)
 | own (x:`e)
 | xd (fs:`iA)
 | met (f x:`e)
 | rng (lo hi:Int)
 | frz (o:Obj) (u:HO)
 | tbl (ps:`a1)
 | ext (φ:`oV)
abbrev Hp:=`e->`tG
def upd(H:Hp)(a:`e)(o:HO):Hp:=λb=>`w (b=a) `ay (H b)
variable{H H' H2 H₀:L2.Hp}
def d8{o:HO}:upd H a o a=`ay:=by unfold upd;rw[`bl]
def j4{b:`e}{o:HO}(h:`jQ):`aIL=H b:=by unfold upd;rw[`cT]
def Jn0{o u:HO}:upd `hn a u=upd H a u:=by
 funext b;unfold upd;split<;>rfl
def Ca0{b:`e}{o u:HO}(h:`vS)(h':`Qo)(d:o≠u):a≠b:=by
 intro e;subst e;rw[h] at h';exact d (A3 h')
def T4{b:`e}{o:HO}(h:`vS)(h':`dw):a≠b:=by
 intro e;subst e;rw[h] at h';cases h'
def IsTupN(h:`D)(a:`e)(items:`a1):Prop:=∃o,`ha/\`Qp/\∃n,`pi=`aIM/\`Qq
theorem IsTupN.tup{h:`D}{items:`a1}(x:IsTupN h a `b?):`DO h a `b?:=let #[o,e,c,n,d,_]:=x;#[o,e,c,n,d]
theorem IsTupN.new(h:`D)(items:`a1):IsTupN (h.push (`h6 `fH `b?)) `dO `b?:=`ag5
def qOf(ps:`a1):Str:=match (ps[0]?:`gS) with
 | `c (`t q _)=>q
 | _ => ""
def TabOk(H:Hp)(h:`D)(a:`e)(q:Str):Prop:=∃cont:`a1,`i2=`c (`mW `aj (`mD cont))/\TriplesOk `aIN /\
 ∀pos cv,codeAmong pos `aIN=`c cv->∃c oc vs tq,cv=`ym/\`Qr c oc c/\oc.data=`By/\`DC=`c (`t q tq)
section
variable(P:`ak)(w:`O)
def SubOk(H:Hp)(h:`D)(a b:`e):`dW->Prop
 | `c4=>`ag6 (`rk=`acP)
 | `B1=>`wt/\(b==`JV)=`m/\`ayp b
 | `mr=>b=a/\`ag7/\`ag8/\dx≠a/\`aIO /\
   `aIP
def ObjOk(H:Hp)(h:`D)(a:`e):HO->Prop
 | `c4=>`ag6 (`i2=`acP)
 | `fz=>`p?/\∃its:`J,`yn/\IsTupN h a `b0
 | `B1=>`ag9
 | `ax6=>`wt/\`wu/\∃xs:`tH,
   `b! (λ(p:`hO×V) (q:`awy)=>`aIQ) kvs xs /\
   `aIR `ha `ag' `aIS
 | .dX _=>`bW
 | .set S n=>h.SetOf (intKind P w) a S n
 | `mr=>`ag7/\`ag8/\dx≠a/\`aIO /\
   `aIP
 | `o1 sub=>(`Qs)/\∀p∈sub,`aIT
 | .own _=>`Qs
 | .xd fs=>∃mA,h.Ns1 a mA/\`act
 | .rng lo hi=>∃t u v,`i2=`c `aaX
 | .frz o u=>`ha/\`iB H h a u
 | `aaj=>`aAc
 | .met f x=>`i2=`c (`aAd `e! `k9)
 | `Fx=>φ h/\(`Qs)/\`aIU
def HOk(H:Hp)(h:`D):Prop:=∀a o,`vS->`ag!
universe zz
section
variable{P:`ak}{w:`O}{h:`D}{o:HO}
def ObjOk.lt(x:`ag!):a<`dO:=by
 skip;cases o with
 | lst xs=>let#[_,_,_,_,e]:=x;done;exact `fx
 | tup xs=>let#[_,_,_,p]:=x;done;exact p.tup.lt
 | dK kvs=>apply `aIV;done;exact `fx
 | dT kvs=>apply `aIV;done;exact `fx
 | dX kvs=>done;exact `fW x
 | set S n=>let#[o,_,_,_,e,_]:=x;done;exact `fx
 | ins C dx fs=>let#[_,_,_,e,_]:=x;done;exact `fx
 | own y=>let#[_,e]:=x;done;exact `fx
 | xd fs=>let#[_,#[_,_,_,e,_],_]:=x;done;exact `fx
 | rng lo hi=>let#[_,_,_,e]:=x;done;exact `fx
 | frz ob u=>let#[e,_]:=x;done;exact `fx
 | tbl ps=>let#[_,e,_]:=`aIW;done;exact `fx
 | met f y=>done;exact A7 (show `i2=`c _ from x)
 | ext φ=>let#[_,#[_,e],_]:=x;done;exact `fx
 | deep sub=>let#[#[_,e],_]:=x;done;exact `fx
def Paired.mapP{F G:`ly}:∀{l₁:`bd} {l₂:`tI},`b! F l₁ l₂->(`ag?)->`b! G l₁ l₂:=by
 intro l₁ l₂ p f
 induction p with
 | nil=>exact `R
 | cons r t ih=>exact `aa (f _ _ r) ih
def SubOk.stay{b:`e}(x:SubOk P w H h a b so)(hb:`acu)(k:`aIX)
  (ho:`aIY):SubOk P w H' h' a b so:=by
 skip;cases so with
 | lst xs=>let#[z,its,n,r,e]:=x;done;exact#[z,its,n,r,k _ _ hb e]
 | dK kvs=>apply `aIZ;done;exact#[z,y,vs,r,ob,es,ep,k _ _ hb e,c]
 | ins C dx fs =>
  let#[rfl,d,z,ne,e,mA,#[od,es,ep,e2,c],r]:=x;done;exact#[rfl,ho _ d,z,ne,`ik,mA,`aI_,r]
def ObjOk.stay(x:`ag!)(k:`aIX)
  (ho:`aIY) (ht:`Qt) (hf:∀b ob u,H b=`aha->H' b=`aha):`iB P w H' h' a o:=by
 induction o with
 | lst xs=>let#[z,its,n,r,e]:=x;exact#[z,its,n,r,`ik]
 | tup xs=>let#[z,its,r,ob,e,c]:=x;exact#[z,its,r,ob,`ik,c]
 | dK kvs=>skip;apply `aIZ;done;exact#[z,y,vs,r,ob,es,ep,`ik,c]
 | dT kvs =>
  skip;let#[z,y,xs,r,ob,es,ep,e,c]:=x;done;exact#[z,y,xs,`aI0 r λp q z=>`aI1,ob,es,ep,`ik,c]
 | dX kvs=>exact `fW x
 | set S n=>let#[ob,es,ep,t,e,c]:=x;exact#[ob,es,ep,t,`ik,c]
 | ins C dx fs =>
  skip;let#[d,z,ne,e,mA,#[od,es,ep,e2,c],r]:=x;done;exact#[ho _ d,z,ne,`ik,mA,`aI_,r]
 | own y=>let#[ob,e]:=x;exact#[ob,`ik]
 | xd fs=>skip;let#[mA,#[od,es,ep,e,c],r]:=x;done;exact#[mA,#[od,es,ep,`ik,c],r]
 | rng lo hi=>let#[t,u,v,e]:=x;exact#[t,u,v,`ik]
 | frz ob u ih=>let#[e,q]:=x;exact#[`ik,ih q]
 | tbl ps =>
  let#[cont,e,t,c]:=`aIW;exact#[cont,`aI2,t,λpos cv q=>let #[c',oc,vs,tq,z1,z2,z3]:=c pos cv q;#[c',oc,vs,tq,z1,hf _ _ _ z2,z3]]
 | met f y =>
  have e:`i2=`aI3:=x;show `g1 a=`aI3;exact `aI2
 | ext φ=>let#[p,#[o,e],st]:=x;exact#[st _ _ p λo q=>k _ _ `dI q,`aI4,st]
 | deep sub=>let#[#[o,e],q]:=x;exact#[`aI4,λp hp=>#[(q p hp).1.imp id (ho _),(q p hp).2.stay (q p hp).1 k ho]]
theorem HOk.lt(x:`f_)(e:`vS):a<`dO:=(x a o e).lt
def HOk.fresh(x:`f_)(e:`ahb):`xn:=by
 cases q:H a with
 | none=>rfl
 | some u=>exact `qa (x.lt q) e
theorem HOk.kept(x:`f_)(k:`Qu):HOk P w H h':=λa o e =>
 `ahc (x a o e) λb u _ q=>`Lr
theorem HOk.laid(x:`f_)(k:`Qu)(hp:`ahb)(new:`iB P w `hn h' a o):HOk P w `hn h':=λb u e=>by
 have hn:=x.fresh hp
 apply `nI
 ·subst hb;rw[d8] at e;cases e;exact new
 ·rw[j4 hb] at e
  exact`ahd `aEI (λc q=>`Fy) (λc xs q=>`Fy) λc ob u' q=>`Fy
universe zz
def Rd(H:Hp)(a:`e)(u:HO):Prop:=H a=`bf∨∃o,H a=`aaS
def Rd.ok{P:`ak}{w:`O}{h:`D}{u:HO}(r:Rd H a u)(x:`f_):`aI5:=by
 rcases r with r|⟨o,r⟩
 ·exact x a u r
 ·let#[_,q]:=x a _ r
  exact q
def Mut:`tG->Prop
 | `c (`eR)=>True
 | `c (.dK _)=>True
 | `c (.dT _)=>True
 | `c (.dX _)=>True
 | `c (.set _ _)=>True
 | `c (.ins _ _ _)=>True
 | `c (.ext _)=>True
 | `c (`o1 _)=>True
 | _=>`bW
section
variable{P:`ak}{w:`O}{h:`D}{x e:`e}{o':HO}
theorem HOk.write(ok:`f_)(mu:`ahe)(he:`ahf)(k:`aI6)(heo:`ahg)
  (new:`iB P w `aI7 h' x o'):HOk P w `aI7 h':=λb u q=>by
 have J:∀c y,H c=`ahh->c≠x:=λc y r z=>`ahi
 have O:∀c xs,H c=`jB->c≠x:=λc xs r z=>`ahi
 have U:∀c ob u',H c=`ahj->c≠x:=λc ob u' r z=>`ahi
 by_cases hb:b=x
 ·subst hb;rw[d8] at q;cases q;exact new
 ·rw[j4 hb] at q
  by_cases hbe:b=e
  ·have q':H b=`c `aaQ:=by
    rcases he with z|z
    ·exact `L (hbe.trans z) hb
    ·rw[hbe];exact z
   rw[q] at q';cases q';let#[v,hv]:=heo;exact#[v,`l hbe hv]
  ·refine(ok b u q).stay (λc v hc r=>k c v ?_ r) (λc r=>`l (j4 (J c b r)) r) (λc xs r=>`l (j4 (O c xs r)) r) λc ob u' r=>`l (j4 (U c ob u' r)) r
   apply `ahk
   ·exact hbe
   ·rintro rfl
    rcases he with z|z
    ·exact J c b hc z
    ·rw[hc] at z;cases z;exact hb rfl
universe zz
structure Un(fs ex:`aY)(H H':Hp)(h h':`D):Prop where
 keep:`p8 (`dw->b∉fs->`Fz->`rZ)
 slot:`p8 (`dw->b∈fs->`Fz->`ahl)
 free:`p8 (`dw->`Fz->`oQ)
 there:`p8 (`Fz->`ahm)
 tups:`Qt
 frzs:`ahn
 tbls:`aI8
section
variable{fs fs' ex ex':`aY}{H1:Hp}{h h1 h2:`D}{x e:`e}{o:HO}
def Un.any(u:`FA H1 h1){b:`e}{ob:Obj}(q:`rk=`Qv)(n:`dw)(hx:`Fz):∃sl,`pg b=`c { ob with slots:=sl }:=by
 by_cases hb:b∈fs
 ·exact u.slot b ob q n hb hx
 ·exact#[ob.slots,u.keep b ob q n hb hx]
theorem Un.kept(k:`Qu):`FA H h' :=
 #[λb ob q _ _ _=>`aho,λb ob q _ _ _=>#[ob.slots,`aho],λ_ _ _ n _=>n,λb ob q _=>#[ob,`aho],`ZS,`xR,λ_ ps q=>#[⟨⟩,`acQ]]
theorem Un.refl:`FA H h:=`Qw `ZS
theorem Un.laid(k:`Qu)(hp:`ahb)(hn:`xn):`FA `hn h' where
 keep:=`ahp
 slot:=`ahq
 free:=λb u q n _=>`l (j4 (B4 (B8 `adE hp))) n
 there:=`ahr
 tups:=`D7 `Fy
 frzs:=λb u xs q=>`Fy
 tbls:=`adF (j4 (T4 q hn))
def Un.write(mu:`ahe)(he:`ahf)(k:`aI6)(heo:`ahg):`FA `ahs h':=by
 have hx:∀b,`dw->`yf:=λb n z=>`aaR n mu
 have hb:∀b,`dw->`DD:=λb n z=>by
  subst z;rcases he with r|r
  ·exact hx b n r
  ·rw[n] at r;cases r
 have hm:`tJ (¬Mut (`bf)->`yf):=λb u q nm z=>`aaR q (nm mu)
 refine#[λb u q n _ _=>`aI9,λb u q n _ _=>#[u.slots,`aI9],λb u q n _=>`l (j4 (hx b n)) n,λb u q _=>?_,
  `D7 `aI',λb u xs q=>`aI',`adF `aAe]
 by_cases hbe:b=e
 ·subst hbe;exact heo
 ·exact#[u,k b u hbe q]
universe zz
def trk(h:`D)(H:Hp):`aY:=(`cn `dO).filter λa=>(H a).isSome
def ls0(h:`D)(H:Hp):`D:=W.hideAll h (trk h H)
theorem Rf0(h:`D)(H:Hp):(ls0 h H).objs.size=`dO:=W.hideAll_size _ _
theorem Mj0{h:`D}{b:`e}{o:Obj}(e:`oW)(n:`dw):`aI! :=
 W.hideAll_get _ e λhm=>by
  have q:`sm (H b):=(P4.mp hm).2;rw[n] at q;simp at q
def G40{h:`D}{b:`e}{o:Obj}(e:`aI!):`oW/\`dw:=by
 have e':`oW:=W.of_hideAll (trk h H) e;refine#[e',?_];cases q:H b with
 | none=>rfl
 | some x =>
  have hm:b∈trk h H:=P4.mpr #[`lh (A7 e'),by simp[q]];have z:`aAf=`f:=W.hideAll_none (trk h H) hm;rw[z] at e;cases e
universe L2
variable{xs dvs:`acw}{H H' H2 H₀:L2.Hp}{so:`Qn}{σ:`aIF}{ks:`aIz}{kvs:`aIG}{sos:`af `Qn}{v:L2.V}
namespace L2
open Spec PyProof.Rows
structure Mod(K:`x)(mg:`a6)(base:`D):Prop where
 kin:`aht
 glob:`Qx
 blt:∃mb,base.Ns `ahu mb/\`aI?
 nolimit:base.NoLimit
structure Cx where
 prog:`ak
 w:`O
 K:`x
 mg:`a6
 base:`D
 A:`cf
 N:`h
 s₀:`u
 H₀:Hp
 env:Env
 outer:`eS
 stack:`eS
 ex:`aY
 fn:`ahv
 calm:`C
 pn:`aC
 xe:`as
variable{X:L2.Cx}
def frs(l:`eS):`aY:=`LR (·.frame)
abbrev Cx.fs(X:Cx):`aY:=frs `sh
def Vis(sc:`cR)(x:Str):Prop:=`ayt∨`aaT∨`CB x=`ng
def Loc(sc:`cR)(x:Str):Prop:=`ahw
def Look(env:Env)(h:`D)(m:`a6)(x:Str)(u:`B):Prop :=
 (`LE=`mm/\m x=`bf)∨((`LE=`kX∨`LE=`ng)/\∃c,`M1 x=`fu/\h.IsCell c (`bf))
structure Cx.Ok(X:Cx):Prop where
 mod:`aJa
 kind:`Ma=`sK
 glob:`aeX=`gf
 blt:X.env.builtins=`ahu
 above:`pj<=`gb
 inj:∀x y c,`sS->`aJb->x=y
 has:∀x,(`Dm=`kX∨`Dm=`ng)->∃c,`sS
 cab:∀x c,`ZA->`sS->`pj<=c
 hd:`ed->X.A.handled=`f
 frames:`ahx=`c `g5
 stk:`g5=`sh∨(`Qy/\`aJc)
 exf:∀b∈X.ex,`sv/\`ax2
 bs:`Qz (`Ls/\`aJd)
 bsz:X.base.objs.size<=`pj
 noex:`Qz `ahy
 exfs:∀b∈X.ex,`FB
 funs:`aJe `fe `sh
 frf:∀b∈X.fs,`aJd
structure Inv(X:Cx)(pins:`aC)(σ:`ahz)(H:Hp)(s:`u):Prop where
 ok:X.Ok
 os:s.os=X.s₀.os
 bare:`B2 `yo
 base:Un X.fs X.ex X.H₀ H X.s₀.heap `aB
 loc:∃m,`aJf/\∀(i:Nat) (x:Str) (v:V),`mg->`FC->`Jn->∃u,`gv/\Look `M `aB m x u
 cell:∀x c,`sS->∃v,`aAg
 free:H `gb=`f
 freeC:∀x c,`sS->H c=`f
 pin:∀p∈`vK,`aJg
 hok:`ww H `aB
 len:`wx=X.N.length
section
variable{s:`u}
theorem Cx.Ok.nofr(ok:X.Ok){b:`e}{o:Obj}(e:`aJh):`FB:=λhb=>by
 have:=(ok.funs.mem hb).1;apply `a3 e;cases `E
theorem Inv.bs(I:`A):`Qz `aJi:=λb o e =>
 #[`Ce b o (`QA).1 (`QA).2 (I.ok.nofr e) `aJj,`K' b o (`QA).1 (`QA).2 `aJj]
theorem Inv.bk(I:`A):`Qz `fF:=`kD (I.bs b o e).1
theorem Inv.mod(I:`A):`aJa:=I.ok.mod
theorem Inv.kIn(I:`A):X.K.In `aB:=I.ok.mod.kin.keeps I.bk
theorem Inv.lt(I:`A):`gb<`U:=let #[_,hn,_]:=`fP;hn.lt
theorem Inv.sz(I:`A):`pj<=`U:=C0 `Lu (H0 I.lt)
theorem Inv.nofs(I:`A)(h:`FD):a∉X.fs:=λhb=>by
 apply `aJk;exact `qa (A7 ho) (C0 I.sz h)
theorem Inv.cne(I:`A):`L9 `gb:=λx c e z=>by
 skip;apply `aJl;let#[m,#[o',es,ep,O,J,_],_]:=`fP;rw[z,O] at ho;cases ho;rw[J] at hd;cases hd
def Inv.funs(I:`A):`C6 `fe `sh:=by
 have all:∀(l:`eS),(∀b∈frs l,b∈X.fs)->`aJe `fe l->`C6 `fe l:=by
  intro l
  induction l with
  | nil=>intro _ _;trivial
  | cons env r ih =>
   intro hs hl;skip;let#[hk,#[L,o,hf,hn,ho,hd],hr]:=hl;have hL:L∈X.fs:=`aJm L A8;let#[sl,e]:=`Cf L o ho (I.ok.frf L hL) hL λz=>I.ok.exfs L z hL
   done;exact#[hk,#[L,_,hf,hn,e,hd],ih (λb hb=>`aJm b `QB) hr]
 exact all `sh (λ_ hb=>hb) I.ok.funs
def Inv.stack(I:`A):`C6 `fe `g5:=by
 apply `aJn
 ·rw[e];exact I.funs
 ·rw[e]
  let#[m,hn,_]:=`fP;refine `aa (`Qe `na) hf hn ?_ I.funs;exact i6 (C0 I.ok.bsz `Lu)
theorem Inv.stkSub(I:`A):∀b∈`yp,b∈`gb::X.fs:=λb hb=>by
 apply `aJn
 ·rw[e] at hb;exact `QB
 ·rw[e] at hb
  unfold frs at hb;rw[`ahA,hf] at hb;exact hb
theorem Inv.stkFree(I:`A):∀b∈`yp,`dw:=λb hb=>by
 rcases `cy (`ahB b hb) with e|hb
 ·rw[e];exact `hq
 ·apply `aJk
  exact `K' b o ho (I.ok.frf b hb) λz=>I.ok.exfs b z hb
def Inv.step{g':`jS}{t':Nat}{d':`nF}{ch:`aY}(I:`A)
  (hch:∀b∈ch,`ahC)
  (keep:∀b o,`sv->`FB->`FE->`fF->`dw->`rZ)
  (slot:∀b o,`sv->b∈X.fs->`FE->`fF->`dw->`ahl) (free:∀b o,`FE->`fF->`aBT)
  (there:∀b o,`FE->`fF->`ahm)
  (tups:`Qt) (frzs:`ahn) (tbls:`aI8)
  (ns:∀m,`aJf->h'.Ns `gb m) (hok:`ahD) (hg:`B2 g') :
  `aJo:=by
 have Y:`ahE:=`aJp
 have O:∀b o,`Ls->`ahy->`FE:=λb o e hx hb=>by
  rcases (hch b hb).1 with z|z
  ·exact hx z
  ·exact `qa `CU z
 have U:`aJq:=λx c e v hq1=>by
  let#[o,ho,hd]:=hq1
  have J:c∉ch:=`aJr
  by_cases hc:c∈X.fs
  ·let#[sl,q]:=`aJs slot
   exact`aJt
  ·exact#[o,`aJs keep,hd]
 refine#[I.ok,I.os,hg,#[`w6,`w6,`aEL,`ahF,`afo tups xs,λb o xs e=>frzs b o xs (`afm b o xs e),`afp],?_,`x_,?_,`x_,`gz,hok,`fb]
 ·exact keep b o (Y b o e) hb `QC `QD `Nz
 ·apply `QE
  let#[Z,e2]:=slot b _ (Y b o e) hb `QC e1 `Nz;exact#[Z,e2]
 ·apply `FF
  exact free b o' `QC e1 `Nz
 ·apply `FF
  exact there b o' `QC e1
 ·let#[m1,e1]:=`abe
  let#[m2,e2]:=tbls b _ e1;exact#[m1++m2,by rw[e2,Array.append_assoc]]
 ·let#[m,hn,hl]:=`fP
  refine#[m,ns m hn,`ahG];apply `aJu;refine`aJv;skip;apply `aJw
  ·done;exact `n l
  ·done;exact `q #[k,c,e,U x c e _ z]
 ·let#[v,z]:=`DE
  exact#[v,U x c e v z]
 ·skip;apply `aJx
  done;exact free _ o (`aJy) ho `hq
 ·apply `aJl
  exact free c o (`aJr) ho `adK
 ·apply `QF
  have J:p.1∉ch:=λz=>(hch p.1 z).2.2.2 p hp rfl
  exact#[keep p.1 p.2 ne nf J e n,free p.1 p.2 J e n,ne,nf,d]
def Inv.un(I:`A)(u:Un X.fs [] H H' `aB h')(hok:`ahD):`a8 H' `pk:=by
 skip;apply `aJz;let#[sl,hL]:=u.any ho `hq `aS;done;exact `QG (g':=`yo) (d':=`QH) (ch:=[]) `aJA (`aJB u.keep) (`aJB u.slot) (λb o _ e n=>u.free b o e n `aS) (λb o _ e=>u.there b o e `aS) u.tups u.frzs u.tbls (λm' hm=>by
  let#[o',U,O,J,r']:=hm;rw[ho] at J;cases J;exact`aJC) hok `iw
def Inv.call{g':`jS}{t':Nat}{d':`nF}(I:`A)(u:Un (`yp) ch H H' `aB h')(hok:`ahD)(hg:`B2 g')
  (hch:∀b∈ch,`ahC) :
  `aJo:=by
 skip;apply `aJz;let#[sl,hL]:=u.any ho `hq `aJy
 done;exact `QG (ch:=ch) hch (λb o hL hb hc e n=>u.keep b o e n (λz=>(`cy (`ahB b z)).elim hL hb) hc) (λb o _ _ hc e n=>u.any e n hc) (λb o hc e n=>u.free b o e n hc) (λb o hc e=>u.there b o e hc) u.tups u.frzs u.tbls (λm' hm=>by
  let#[o',U,O,J,r']:=hm;rw[ho] at J;cases J;exact`aJC) hok hg
def Inv.turned{t':Nat}(I:`A)(k:`tc it `D8)(hn:H it=`f)(hL:it≠`gb)
  (h1:it∈X.ex∨`pj<=it) (h2:`L9 it) (h3:∀p∈`vK,p.1≠it):`ahH:=by
 have J:`tJ (b≠it):=λb u e z=>by rw[z,hn] at e;cases e
 refine `QG (g':=`yo) (d':=`QH) (ch:=[it]) `QI (`QJ `ahI) (`QJ #[`Fs,`ahI]) (λ_ _ _ _ n=>n)
  (λb o hc e=>#[o,`ahI]) (`ahJ) (λ_ _ _ e=>e) `aJD `aJE (`QK) `iw
 ·apply `FG
  subst e;exact#[h1,hL,h2,h3]
 ·let#[o,es,ep,ho,r]:=hm
  exact#[o,es,ep,k _ o (A9 hL) ho,r]
 ·apply `aJF
  rcases hc with z|z
  ·rw[z];exact J b u e
  ·exact J c _ z
theorem Inv.tok(I:`A)(t:Nat):`a8 H ((`A4 t)):=I.un (h':=`aB) (t':=t) Un.refl `bR
theorem Inv.kept(I:`A)(k:`QL):`ahH:=I.un (`Qw k) (I.hok.kept k)
theorem Inv.laid{o:HO}{t':Nat}(I:`A)(k:`QL)(hp:`FD)(new:`xm `hn a o) :
  `a8 `hn `pk:=I.un (Un.laid k hp (`ss hp)) (I.hok.laid k hp new)
theorem Inv.write{x e:`e}{o:HO}{t':Nat}(I:`A)(mu:`ahe)(he:`ahf)(k:∀b u,`DD->`axv)(heo:`ahg)
  (new:`xm `ahs x o):`a8 `ahs `pk:=I.un (Un.write mu he k heo) (I.hok.write mu he k heo new)
theorem Inv.weak{σ':`ahz}(I:`A)(hl:`ahK)(w:∀(i:Nat) v,σ'[i]?=`oY->`FC):Inv X `s σ' H s :=
 #[I.ok,I.os,`iw,`aJG,let #[m,hn,hl']:=`fP;#[m,hn,λi x v e1 e2 e3=>hl' i x v e1 (w i v e2) e3],`mE,`hq,`sr,`jh,`bR,hl.trans `fb]
theorem Inv.pins_of{pins':`aC}(I:`A)(h:∀p∈pins',`aJg):`sT X pins' :=
 (`tK I.ok λp hp=>`aJH (λz=>`jh p (D7 _ z)) (h p))
def gl0(hN:`QM)(a:N[i]?=`c6)(b:N[j]?=`c6):i=j:=by
 let#[h1,e1]:=`ds a;let#[h2,e2]:=`ds b;exact(B30 hN).mp (e1.trans e2.symm)
def bz0{M:`fh}{A:`cf}{E:`as}{Q:`d8}(I:`A)(hN:`et)(hi:`mg)(hx:`C0)(r:`gv)
  (h:∀s',`aJI->(∃a,`aJJ a `aB `pB/\(a=`gb∨`Zj x=`kK))->`FH) (hf:`tL):`aJK:=by
 let#[m,hn,hl]:=id `fP;have a2:`aJL:=`aJM
 apply `aJN
 have cne:=I.cne;have J:∀{a:`e} {h':`D},(∃o,`Cp/\`xn)->`aJO->`aJP:=λ{a h'} ha hs b ob e=>by
  let#[_,_,O]:=ha;refine`ahc (`bR b ob e) λc w' hc q=>`aJQ q
  rintro rfl;apply `ahk
  ·rw[O] at e;cases e
  ·rw[O] at hc;cases hc
 rcases hx with hk|hk
 ·refine wpAny_storeName_local hk hn (λh' a3 hs=>?_) a2
  let#[oL,_,_,a4,_]:=id hn;refine h _ #[I.ok,I.os,`iw,`aJR,#[_,a3,`ahL],`aJS,`hq,`sr,`gz,J #[oL,a4,`hq] hs,`ahM] #[_,hs,`mh]
  ·exact`ahN `QD
  ·apply `QE
   exact#[sl,`ahN e1]
  ·apply `FF
   exact#[o',`ahN e1]
  ·by_cases hj:j=i
   ·subst hj
    rw[hi] at e1;cases e1;rw[`QN] at e2;cases e2;exact#[u,r,`n #[hk,`a_]]
   ·rw[`qb] at e2
    apply `aJT;refine`ahO;skip;apply `aJU
    ·done;refine `aJV
     apply `aJW
     simp[`E,e]
    ·done;exact `aJX
  ·let#[w',z]:=`mE y c e
   exact`aJY
  ·apply `QF
   apply `aJZ
 ·have U:`ZA:=by
   rcases hf with z|z
   ·exact z
   ·rw[z] at hk;cases hk
  let#[c,hc]:=`ahP x (`n hk);let#[w',z]:=`mE x c hc;refine wpAny_storeName_cell `na hk hc z (λh' Z hs=>?_);let#[oc,Y,a1]:=id z;refine h `kE #[I.ok,I.os,`iw,`aJR,#[m,hn.sameBut hs (A9 (cne x c hc)),`ahL],λy c' e=>?_,`hq,`sr,`gz,J #[oc,Y,`sr x c hc] hs,`ahM] #[c,hs,`q hc]
  ·exact`ahQ `QD
  ·apply `QE
   exact#[sl,`ahQ e1]
  ·apply `FF
   exact#[o',`ahQ e1]
  ·by_cases hj:j=i
   ·subst hj
    rw[hi] at e1;cases e1;rw[`QN] at e2;cases e2;exact#[u,r,`q #[`n hk,c,hc,Z]]
   ·rw[`qb] at e2
    apply `aJT;refine`ahO;skip;rcases q with q|⟨k,c',e,z'⟩
    ·done;exact `nJ
    ·done;refine `q #[k,c',e,z'.sameBut hs ?_]
     rintro rfl;exact hj (gl0 hN e1 (I.ok.inj _ _ _ e hc▸hi))
  ·by_cases hcc:c'=c
   ·subst hcc;exact#[_,Z]
   ·let#[w2,z2]:=`mE y c' e
    exact#[w2,z2.sameBut hs hcc]
  ·apply `QF
   refine#[`yi p.1 ?_ e,n,ne,nf,d];intro q;rw[q,Y] at e;have q':oc=p.2:=A3 e;exact d w' (`cd q' a1)
theorem k30{M:`fh}{A:`cf}{E:`as}{Q:`d8}(I:`A)(hN:`et)(hi:`mg)(hx:`C0)(r:`gv)
  (h:∀s',`aJI->`FH) (hf:`tL):`aJK :=
 bz0 I hN hi hx r (λs' I' _=>h s' I') hf
def Inv.call'(I:`A)(ho:`ahR)(u:Un (`yp) ch H H' `aB `pB)(hok:`ww H' `pB)(hg:`Pa)
  (hch:∀b∈ch,`ahC):`nK:=by
 let#[h',g',d',t',o']:=s';have e:o'=s.os:=ho;subst e;exact I.call (g':=g') (t':=t') (d':=d') u hok hg hch
universe zz
abbrev XK:=`B->`bt->`i3
abbrev St:=`ahz
abbrev VK:=`ahS
abbrev TE:=St->`Jy
variable{r:`aJ_}
abbrev TT:=`w8 `FI
variable{ta tb te tv td ty:L2.TE}
abbrev TA:=`w8 `KL
structure Ends where
 nx:`k6
 rt:VK
 bk:`k6:=λ_ _=>`bW
 ct:`k6:=λ_ _=>`bW
abbrev TS:=Ends->`k6
def EP(X:Cx)(pins:`aC)(σ:St)(Q:VK)(u:`B)(s':`u):Prop:=∃v H',`nK/\`aJ0
def TP(X:Cx)(pins:`aC)(σ:St)(Q:`FI)(b:`C)(s':`u):Prop:=∃H',`nK/\Q b H'
def AP(X:Cx)(pins:`aC)(σ:St)(Q:`KL)(us:`J)(s':`u):Prop:=∃vs H',`nK/\`tM/\`ahT
def SP(X:Cx)(pins:`aC)(D:Ends)(f:Flow)(s':`u):Prop :=
 match f with
 | .next=>∃σ' H',`yq/\`aE0
 | .brk=>`aeY D.bk
 | .cont=>`aeY D.ct
 | `jO u=>∃v σ' H',`yq/\`gv/\D.rt v H'
def PE(X:Cx)(e:`I)(t:TE):Prop :=
 `aJ1 VK (`cs `MQ `fQ)
def PT(X:Cx)(e:`I)(t:TT):Prop :=
 `aJ1 `FI (`cs (`L' e `M `MQ) `ahU)
def PW(X:Cx)(e:`I)(t:TT):Prop :=
 ∀(whole:`K!) (pins:`aC) (s:`u) (σ:St) (H:Hp) (Q:`FI),`A->`sj->`cs (`ayw) `ahU
theorem PW.pt{t:TT}(h:PW X e t):PT X e t:=h _
def PA(X:Cx)(es:`bM)(t:TA):Prop :=
 ∀(pos:Pos) (pins:`aC) (s:`u) (σ:St) (H:Hp) (Q:`KL),`A->`sj->`cs (`FJ (`Y7)) (AP X `s σ Q)
def PS(X:Cx)(st:`a4)(t:TS):Prop :=
 `aJ2 (`cs (exec st `M) `ahV)
def PSs(X:Cx)(st:`b7)(t:TS):Prop :=
 `aJ2 (`cs (execs st `M) `ahV)
theorem thn{t:Sem α}{Q Q':α->`e1}{M:`fh}{s:`u}(h:`dP M t)(hQ:∀a s,Q a s->Q' a s):`aD M A t Q' E s:=D0 h hQ `tF
section
def Az0(i:Nat):TE:=`cA (∃v,`FC/\Q v H)
def tC(v:V):TE:=λ_ H Q=>Q v H
def O1(hN:`mg)(hv:`Jn)(hd:`aO)(hcd:`dA):PE X `k' (Az0 i):=by
 apply `bm;skip;let#[v,e,h]:=h;let#[m,hn,hl]:=`fP;let#[u,r,l]:=hl i x v hN e hv;have fin:`sW u s:=`ahW;rcases l with⟨hk,hm⟩|⟨hk,c,hc,J⟩
 ·done;exact `ahX (wpAny_loadName_local `na hk hn hm fin) hd
 ·rcases hk with hk|hk
  ·done;exact `ahX (wpAny_loadName_cell `na hk hc J fin) hd
  ·done;exact `ahX (wpAny_loadName_free `na hk hc J fin hcd) hd
theorem Dr0{i j pos}:PE X `aJ3 (tC `d_):=`tN (wpAny_Constant_int #[`bw,H,`vu,`ad,h])
theorem Bl0{b j pos}:PE X (`w7 `Fl) (tC `lg):=`tN (Constant_bool (`hd `f? h))
theorem Pp0{j pos}:PE X (`w7 `aj) (tC `v):=`tN (Constant_none (`hd `v h))
theorem Fv0{x j pos}:PE X `aJ4 (tC `pA):=`tN (`aJ5 #[`c9,H,`vu,`ad,h])
def Gl(X:Cx)(x:Str):Prop:=`Dm=`c .globalImplicit
theorem s40{E:`as}{s:`u}{σ:St}{pos:Pos}(I:`A)(hg:`i1)(hm:`oB=`bf)(h:Q u s)
  (hd:`aO):`aJ6 :=
 hu0 `na hg (Calls.loadGlobal_global `aJ7 hm h) hd
def tg0{E:`as}{s:`u}{σ:St}{pos:Pos}(I:`A)(hg:`i1)(hm:`nL)(hv:`v6=`bf)(h:Q u s)
  (hn:`nM) (hd:`aO):`aJ6:=by
 let#[mb,h1,h2]:=I.mod.blt;exact hu0 `na hg (Calls.loadGlobal_builtin `aJ7 hm (`l I.ok.blt (h1.keeps I.bk)) ((h2 x hn).trans hv) h) hd
theorem it0(hg:`i1)(hm:`oB=`bf)(r:`gv)(hd:`aO):`aJ8 :=
 `tN (`ahY `ahW)
theorem Id0(hg:`i1)(hm:`nL)(hv:`v6=`bf)(r:`gv)(hn:`nM)(hd:`aO):`aJ8 :=
 `tN (`ae2 `ahW hd)
variable{a:`I}
def PC(X:Cx)(op:`gB)(a b:`I)(t:TE):Prop :=
 ∀(pins:`aC) (s:`u) (σ:St) (H:Hp) (Q:VK),`A->`sj ->
  `cs (`aak) (`aJ9 (`qc (`QO op v u) `fQ s₂))
def tB(t:TE):TT:=`bu t (`QP (Q c H1))
theorem Gx0{op:`gB}{t:TE}(h:`aJ')(h1:`aJ!):PE X `qd t:=λpins s σ H Q I hw=>`aJ? `aKa h1
def Dl0{op:`gB}{t:TE}(h:`aJ')(h1:`aJ!):PT X `qd (tB t):=by
 apply `ahZ;refine `aKb (`QQ `ah_ λu s2 h2=>thn h2 λc s3 hq2=>?_) h1;skip;apply `gC hq2;let#[d,rfl,q]:=q1;cases r1;done;exact P5 #[H1,I1,q]
def O80{t:TE}(h:PE X e t)(he:`ah0):PT X e (tB t):=by
 apply `ahZ;refine isTrue_plain (thn `ah_ λv s1 hq3=>?_) (he _);skip;apply `gC hq3;let#[d,rfl,q]:=q1;cases r1;done;exact P5 #[H1,I1,q]
variable{tA tB':TT}{rest:`bM}
def Af0(t u:TT):TT:=`bu t λc H1=>`w `QR (u σ H1 Q) (Q `m H1)
def tOr(t u:TT):TT:=`bu t λc H1=>`w `QR (Q `d H1) (u σ H1 Q)
def z01(t:TT):TT:=`bu t `aKc
def Um0(ha:`FK):PW X `ah1 tA:=by
 apply `QS;refine isTrue_and `aKd;cases c with
 | true=>exact isTrue_and_nil e
 | false=>exact e
def P40(ha:`FK):PW X `ah2 tA:=by
 apply `QS;refine isTrue_or `aKd;cases c with
 | false=>exact isTrue_or_nil e
 | true=>exact e
def P00(ha:`FK)(hb:PW X `yr tB'):PW X `ys (Af0 tA tB'):=by
 apply `QS;apply `tO isTrue_and λc s1 hq4=>?_;let#[H1,I1,q1]:=hq4;cases c with
 | true=>exact `aKe
 | false=>exact`aKf
def Kr0(ha:`FK)(hb:PW X `FL tB'):PW X `FM (tOr tA tB'):=by
 apply `QS;apply `tO isTrue_or λc s1 hq5=>?_;let#[H1,I1,q1]:=hq5;cases c with
 | true=>exact`aKf
 | false=>exact `aKe
def Q20(ha:`FK):PT X `FN (z01 tA):=by
 apply `bm;exact isTrue_not (`b2 ha (`aKc) h)
def Ch0(ta tb:TE):TE:=`bu ta (`QP (`w `QR (tb σ H1 Q) (Q `u7 H1)))
def As0(ta tb:TE):TE:=`bu ta (`QP (`w `QR (Q `Jv H1) (tb σ H1 Q)))
def Bf0(ta:TE):TE:=`bu ta (`QP (Q (.bl (!c)) H1))
theorem Ql0{op}{t:TE}(h:PE X a t):PE X `ah3 t:=λpins s σ H Q I hw=>BoolOp_one `aKa
def Rh0(ha:`lz)(hb:PE X `yr tb):PE X `ys (Ch0 ta tb):=by
 apply `bm;apply `tO BoolOp_and λv s1 hq6=>?_;skip;apply `gC hq6;apply `ah4;cases r1;done;refine P5 ?_;cases c with
 | true=>exact `aKg
 | false=>exact#[`rz,H1,I1,rfl,q1]
def Bo0(ha:`lz)(hb:PE X `FL tb):PE X `FM (As0 ta tb):=by
 apply `bm;apply `tO BoolOp_or λv s1 hq7=>?_;skip;apply `gC hq7;apply `ah4;cases r1;done;refine P5 ?_;cases c with
 | false=>exact `aKg
 | true=>exact#[`jn,H1,I1,rfl,q1]
def Dj0(ha:`lz):PE X `FN (Bf0 ta):=by
 apply `bm;apply `tO UnaryOp_ λv s1 hq8=>?_;skip;apply `gC hq8;apply `ah4;cases r1;done;exact not_of (P5 #[.bl (!c),H1,I1,rfl,q1])
universe zz
def SqL(K:`x)(H:Hp)(a:`e)(xs:`V):Prop :=
 `aA2 ∨
  `aKh (`ou=`h0/\`Qq/\`aKi)
def SqT(K:`x)(H:Hp)(a:`e)(xs:`V):Prop :=
 Rd H a `u9 ∨
  `aKh (`Qp/\`aKi)
def z61:`B->`eo
 | `aj=>`ah5
 | `e' b=>`c `lg
 | `g i _=>`N0
 | `t x _=>`c `pA
 | .bytes b _=>`c (.byt b)
 | .float b _=>`c (.flt b)
 | `a?=>`oT
 | `bx n=>`c (.ty n)
 | _=>`f
def RelV.abs{x:V}(r:`jP):z61 u=`c6:=by
 cases x with
 | non=>cases r;rfl
 | bl _=>cases r;rfl
 | int _=>apply `j7;rfl
 | str _=>apply `j7;rfl
 | byt _=>apply `j7;rfl
 | flt _=>apply `j7;rfl
 | ref _=>cases r;rfl
 | ty _=>cases r;rfl
theorem RelV.inj{x y:V}(r:`jP)(q:`f0):x=y:=A3 (r.abs.symm.trans q.abs)
def Vals.inj:∀{xs ys:`V} {us:`J},`es->`bO ys us->xs=ys:=by
 intro xs ys us h
 induction h generalizing ys with
 | nil=>intro h2;cases h2;rfl
 | cons r t ih=>intro h2;cases h2 with
  | cons r' t'=>rw[`ah6,ih t']
section
variable{σ:St}{s:`u}{ys:`V}
def Inv.list(I:`A)(h:`aKj):`aKk PlainL:=by
 skip;rcases h with h|⟨o,its,n,hk,hc,hd,hs,hz,r⟩
 ·let#[z,its,n,r,e]:=h.ok `bR
  done;exact#[its,r,#[_,n,e,rfl,rfl,rfl],z]
 ·done;refine#[`MI,r,#[o,n,`aKl,hc,hd,`aKm],?_]
  have e:=`cb;simp only[`QT] at e;lia
def Inv.tuple(I:`A)(h:`aKn):`aKk `DO:=by
 skip;rcases h with h|⟨o,its,n,hk,hc,hs,hz,r⟩
 ·let#[z,its,r,p]:=h.ok `bR
  done;exact#[its,r,p.tup,z]
 ·done;refine#[`MI,r,#[o,`aKl,hc,n,`aKm],?_]
  have e:=`cb;simp only[`QT] at e;lia
def Inv.list_inj(I:`A)(h:`aKj)(h':SqL X.K H a ys):xs=ys:=by
 skip;let#[its,r,#[o,n,e,_,_,d],_]:=`jb h;let#[J,r',#[o',n',e',_,_,d'],_]:=`jb h';rw[e] at e';cases e';rw[d] at d';done;injection d' with d1 _
 apply `aKo
 subst this;exact `ah6
def Inv.tuple_inj(I:`A)(h:`aKn)(h':SqT X.K H a ys):xs=ys:=by
 skip;let#[its,r,#[o,e,_,n,d],_]:=`mO h;let#[J,r',#[o',e',_,n',d'],_]:=`mO h';rw[e] at e';cases e';rw[d] at d';done;injection d' with d1 _
 apply `aKo
 subst this;exact `ah6
universe zz
abbrev Cx.wish(X:Cx)(E:`as):Cx:={ X with xe:=E }
abbrev Cx.nox(X:Cx):Cx:=X.wish `oJ
theorem Cx.Ok.wish(ok:X.Ok)(E:`as):`aKp :=
 `aKq
theorem Cx.Ok.unwish(ok:`aKp):X.Ok :=
 `aKq
section
variable{σ:St}{s:`u}
theorem Inv.wish(I:`A)(E:`as):`aKr:=(`tK (I.ok.wish E) `jh)
theorem Inv.unwish(I:`aKr):`A:=(`tK I.ok.unwish `jh)
def SP.unwish{D:Ends}{f:Flow}(h:SP (X.wish E) `s D f s'):`aKs:=by
 skip;cases f with
 | next=>apply `ah7;done;apply `ah8
 | brk=>apply `ah7;done;apply `ah8
 | cont=>apply `ah7;done;apply `ah8
 | ret u=>let#[v,σ',H',I,r,q]:=h;done;exact#[v,σ',H',`aDW,r,q]
theorem PSs.nox{st:`b7}{t:TS}(h:PSs X.nox st t):PSs X st t:=λpins s σ H D I hw =>
 D0 (h `s s σ H D (I.wish _) hw) (λ_ _ q=>q.unwish) λ_ _ z=>`fW z
universe zz
section
variable{st:`a4}{t u:TS}
def Cu0:TS:=`lr `ac9
def Ak0(t u:TS):TS:=`lr (t `aKt σ H)
theorem rh0:PSs X [] Cu0:=λ_ _ σ H _ I h=>B50 `aKu
def Q8(h1:PS X st t)(h2:PSs X `aV u):PSs X `aKv (Ak0 t u):=by
 apply `iC;refine wpAny_execs_cons (thn (`b2 h1 `aKt h) `aKw);cases f with
 | next =>
  let#[σ',H',I',q]:=q;exact h2 `s s1 σ' H' D I' q
 | ret v=>exact q
 | brk=>exact q
 | cont=>exact q
def Inv.quiet{σ:St}{s:`u}(I:`A):`aKx `M=`m:=by simp[`aKx,`na]
def Bi0(te:TE):TS:=`lr (te σ H λ_ H1=>`go σ H1)
def rp0(he:`gD)(hs:`ah9):PS X `ah' (Bi0 te):=by
 apply `iC;exact wpAny_Expr_any (`ah! `lA #[σ,H1,I1,q1]) I.quiet hs
def Ao0(te:TE):TS:=`lr (te σ H D.rt)
def qf0(he:`gD):PS X `QU (Ao0 te):=by
 apply `iC;exact wpAny_Return_some (`ah! `lA #[x,σ,H1,I1,r1,q1])
def z21(c:TT)(t u:TS):TS:=`lr (c σ H λb H1=>`w (b=`d) (t D σ H1) (u D σ H1))
def d40{c:`I}{a b:`b7}{tc:TT}(hc:PT X c tc)(ha:PSs X a t)(hb:PSs X b u):PS X (.If c a b pos) (z21 tc t u):=by
 apply `iC;refine wpAny_If (thn (`b2 hc _ h) λd s1 hq9=>?_);let#[H1,I1,q1]:=hq9;cases d with
 | true=>exact `nb ha D
 | false=>exact `nb hb D
def Gm0:TS:=`vF
theorem zv0{sts:`b7}:PSs X sts Gm0:=λ_ _ _ _ _ _ h=>`kT
universe zz
abbrev TG:=V->`aKy
abbrev TGs:=`V->`aKy
def PG(X:Cx)(target:`I)(t:TG):Prop :=
 ∀(pins:`aC) (s:`u) (σ:St) (H:Hp) (v:V) (u:`B) (Q:`k6),`A->`gv->t v σ H Q ->
  `cs (`ig `Pb `M u) `aKz
def PGs(X:Cx)(ts:`bM)(t:TGs):Prop :=
 ∀(pins:`aC) (s:`u) (σ:St) (H:Hp) (vs:`V) (us:`J) (Q:`k6),`A->`tM->t vs σ H Q ->
  `cs (assignInOrder (`sw ts) us) `aKz
abbrev Lc0:=`aKA
def Ez0(X:Cx)(t:Lc0):Prop :=
 ∀(pins:`aC) (s:`u) (σ:St) (H:Hp) (o i v:V) (ov iv u:`B) (Q:`i3),`A->`ea o ov->`ea i iv->`gv->t o i v H Q ->
  `cs (`Lv ov iv u) (λ_ s'=>∃H',`nK/\Q H')
def Ki0(i:Nat):TG:=`rO (Q `DF H)
def l70(hN:`et)(hi:`mg)(hx:`C0)(hf:`tL):PG X `k' (Ki0 i):=by
 apply `aKB;exact `aKC (k30 I hN hi hx r (λs' I'=>#[_,H,I',h]) hf)
def Al0:TGs:=λvs σ H Q=>vs=[]/\Q σ H
def Bc0(t:TG)(u:TGs):TGs:=λvs σ H Q=>∃v r,vs=v::r/\t v σ H fun σ' H'=>u r σ' H' Q
def H90:PGs X [] Al0:=by
 apply `QV;let#[e,h]:=h;subst e;cases r;exact assignInOrder_nil `aKu
def Wr0{t:TG}{u:TGs}(h1:PG X e t)(h2:PGs X es u)
  (hs:`F (`sw `gX=`ig e `M::`D1 `ah?) Aa):PGs X `gX (Bc0 t u):=by
 apply `QV;let#[v,vr,e1,h]:=h;subst e1;cases r with
 | cons r rr =>
  rw[hs];refine assignInOrder_cons (thn (h1 `s s σ H _ _ _ I r h) λ_ s1 hq10=>?_);let#[σ1,H1,I1,q1]:=hq10;exact h2 `s s1 σ1 H1 _ _ Q I1 rr q1
def Au0(K:`x)(n:Nat)(t:TGs):TG:=`rO (`pE `qe (`_=n/\t xs σ H Q))
def Dc0{k:Nat}{t:TGs}{n:Nat}(hc:`ed)(h:PGs X es t)
  (hn:`F ((`y `ah?)=n) Aa) (hst:`aKD `ah?):PG X (`Eb es k pos) (Au0 X.K n t):=by
 intro pins s σ H v u Q I r hw;skip;let#[a,xs,e1,hq,hl,hw]:=hw;subst e1;cases r;let#[its,rv,ht,hz]:=`KK;done;refine assign_Tuple_tuple `lB ht (by simp[hn,← hl,`FO]) hst λh' hx=>?_
 have I1:`DI:=I.kept (t':=`cp) λb o e=>hx b o `aia e
 exact h `s _ σ H xs _ Q I1 (`aKE) hw
def Ay0(to ti:TE)(t:Lc0):TG:=`rO (to σ H λo H1=>ti σ H1 λi H2=>t o i v H2 λH3=>Q σ H3)
def Rc0{i:`I}{to ti:TE}{t:Lc0}(ho:`aib)(hi:PE X i ti)(hs:Ez0 X t)
  (ha:`F (∀v,`ig `aic `M v=(do
   let ov ← `oI [v] `aid
   let iv ← `oI [v,ov] (`bV i `M)
   `aie
   `aif
   `aig)) Ad):PG X `aic (Ay0 to ti t):=by
 apply `aKB;rw[ha];refine A0 (D3 (thn `FP λov s1 hq11=>?_));apply `gC hq11;refine A0 (D3 (thn `aKF λiv s2 hq12=>?_));let#[y,H2,I2,r2,q2]:=hq12;refine `lw Y3 (D3 (thn (hs `s s2 σ H2 x y v ov iv u _ I2 r1 r2 r q2) λ_ s3 hq13=>?_));let#[H3,I3,q3]:=hq13;exact wpAny_release #[σ,H3,I3,q3]
def Gv0(te:TE)(g:TG):TS:=`lr (te σ H λx H1=>g x σ H1 `go)
def e80{g:TG}(he:`gD)(hg:PG X tg g)(hs:`aih)(hw:`aii)
  (h1:`aij):PS X `aik (Gv0 te g):=by
 apply `iC;refine wpAny_Assign_stores (thn `lA λv s1 hq14=>?_) hs hw;apply `gC hq14;rw[h1];exact thn (hg `s s1 σ H1 x v _ I1 r1 q1) λ_ s2 q=>q
def Wi0(hN:`et)(hi:`mg)(hx:`C0)(he:`gD)(hs:`jD e (`c (`aKG)) `m1)(hf:`tL) :
  PS X (`ip [`aKG] e pos) (Gv0 te (Ki0 i)):=by
 apply `iC;refine wpAny_Assign_Name (thn `lA λv s1 hq15=>?_) hs;let#[y,H1,I1,r1,q1]:=hq15;exact k30 I1 hN hi hx r1 (λs2 I2=>#[_,H1,I2,q1]) hf
def Fd0(c:TT)(tb:TS):TS:=λD σ H=>∃W:`aAn,(∃m,W m σ H)/\∀m σ H,W m σ H ->
 c σ H λb H1=>if b=`d then ∃N:`k6,(∀σ' H',N σ' H'->∃m',m'<m/\W m' σ' H')/\tb `aKH σ H1 else `go σ H1
def Lv0{c:`I}{body:`b7}{tc:TT}{tb:TS}(hp:`FQ)(hc:PT X c tc)(hb:`aKI):PS X `aKJ (Fd0 tc tb):=by
 apply `iC;let#[W,#[m0,w0],J]:=h;refine wpAny_While (codeAny_whileLoop (λn s'=>∃σ' H',`yq/\W n σ' H') ?_ m0 #[σ,H,I,w0]);rintro n s1 ⟨σ1,H1,I1,w1⟩;refine `tP (hc `s s1 σ1 H1 _ I1 (J n σ1 H1 w1)) λb s2 hq16=>?_;let#[H2,I2,q2]:=hq16;cases b with
 | true =>
  let#[N,hN,q2]:=q2;rw[`bl];refine `tP (`O! hb σ1) λf s3 q3=>?_;skip;cases f with
  | next =>
   let#[σ3,H3,I3,n3]:=q3;let#[m',hm,w3]:=hN σ3 H3 n3;done;exact`aKK
  | cont =>
   let#[σ3,H3,I3,n3]:=q3;let#[m',hm,w3]:=hN σ3 H3 n3;done;exact`aKK
  | brk=>done;exact q3
  | ret v=>done;exact q3
 | false =>
  rw[`qf];exact B50 #[σ1,H2,I2,q2]
structure It where
 go:`aKL
 yld:Nat->Hp->`ahS
 stop:`aKL
def ox0(X:Cx)(pins:`aC)(H:Hp)(b:`e):Prop :=
 `aKM (`pj<=b)
def Inv.fpOk{σ:St}{s:`u}{b:`e}(I:`A)(hb:`U<=b)(hn:`oQ):`ail:=by
 refine#[hn,`FR I.lt,I.nofs hb,`q (C0 I.sz hb),`aim,`ain]
 ·let#[v,q]:=`DE
  exact `qa q.lt `aKN
 ·exact `qa (A7 (`Cg).1) `aKN
structure Turn(P:`ak)(w:`O)(K:`x)(tg:`I)(J:It)(fp:`aY)(it:`e)(tn:`aio):Prop where
 mem:it∈fp
 obj:∀i h,tn i h->∀b∈fp,∃o,`oW/\`aKO
 keep:∀i h h',tn i h->(∀b∈fp,∀o,`Qb)->tn i h'
 item:∀(X:Cx),`cD=P->X.w=w->X.K=K->`ed->∀(i:Nat) (pins:`aC) (s:`u) (σ:St) (H:Hp) (E:`as),`A->`aKP->`aip->`aiq ->
  `aD `sX X.A (`Co `tn) (λr s1=>∃u,r=`bf /\
   `aD `sX X.A `air (λ_ s2=>∃x H',`ais/\`jP/\`ait/\tn `fE s2.heap/\∀b∈fp,`oQ) E s1) E s
 done:∀(X:Cx),`cD=P->X.w=w->X.K=K->`ed->∀(i:Nat) (pins:`aC) (s:`u) (σ:St) (H:Hp) (E:`as),`A->`aKP->`aip->`aiu ->
  `aD `sX X.A (`Co `tn) (λr s1=>r=`f/\`a8 H s1) E s
 self:∀(A:`cf) (i:Nat) (s:`u) (Q:`as) (E:`as),`aip->Q `tn s->`dP `sX (pyIter `tn)
abbrev TI:=`w8 `QW
def PIE(X:Cx)(pins:`aC)(σ:St)(tg:`I)(R:`QW)(itv:`B)(s2:`u):Prop :=
 ∃(it:`e) (fp:`aY) (tn:`aio) (J:It) (H':Hp),itv=`T it/\`ais/\`aKQ/\`aKR/\(∀b∈fp,`ail)/\R J H'
def PI(X:Cx)(tg iter:`I)(wi:TI):Prop :=
 ∀(pins:`aC) (s:`u) (σ:St) (H:Hp) (R:`QW),`A->wi σ H R ->
  `cs (`bV iter `M) (λv s1=>`qc (pyIter v) `aKS s1)
def Zd0{M:`fh}{A:`cf}{E:`as}{s:`u}{tg:`I}{u:`B}{o:Obj}{n:`bJ}{vs:`a1}{Q:`d8}(ho:`dn it=`ay)(hc:`ou=`bx n)(hd:`pi=`By)
  (hn:`aKT=`m) (hQ:Q () s):`dP M `air:=by
 unfold letOwnedTupleGo;cases tg<;>first
  | exact A1 hQ
  | (cases u<;>first
    | exact A1 hQ
    | (apply `j6 wpAny_load ho
       rw[hc,hd];show `dP M (`w ((`aKT&&vs[0]?==`c (`qg _))=`d) _ _);rw[`ag (by intro h;rw[hn,Bool.false_and] at h;cases h)];exact A1 hQ))
def Itl(K:`x)(a:`e):It :=
 #[`aKU,`aiv `aKV,`aKW]
def Itt(K:`x)(a:`e):It :=
 #[λi H=>∃xs x,`qe/\`nc,`aiv (∀xs,`qe->`nc),λi H=>∃xs,`qe/\`acy]
def Itr(lo:Int)(n:Nat):It:=#[λi _=>i<n,`aiv (x=`aiw),λi _=>n<=i]
theorem Pf0{P:`ak}{w:`O}(a it:`e):`QX (Itl K a) `aKX where
 mem:=`a_
 obj:=λi h st b hb=>by
  apply `FG
  subst e;apply `aix;apply `aiy
 keep:=`aKY
 item:=by
  apply `lC;skip;apply `lD;apply `aiz;apply `aKZ;apply `aiA;apply `qh;done;refine wpAny_pyNext_list_item st `QY (x:=u) `aiB `aK_
  apply `aK0;apply `aiC;exact`aK1 `aK2
 done:=by
  apply `lC;skip;apply `lD;let#[xs,hq,hx]:=hg;apply `aKZ;apply `qh;have hl:=`FO;done;exact wpAny_pyNext_list_end `lB st `QY `qi `FS
 self:=`aiD wpAny_pyIter_listiter
theorem Su0{P:`ak}{w:`O}(a it:`e):`QX (Itt K a) (h.IsTupleIter it a i) where
 mem:=`a_
 obj:=λi h st b hb=>by
  apply `FG
  subst e;apply `aix;apply `aiy
 keep:=`aKY
 item:=by
  apply `lC;skip;apply `lD;apply `aiz;apply `aK3;apply `aiA;apply `qh;done;refine wpAny_pyNext_tuple_item st `aK4 (x:=u) `aiB `aK_
  apply `aK0;apply `aiC;exact`aK1 λys hy=>`l (`aK5 hy hq) hx
 done:=by
  apply `lC;skip;apply `lD;let#[xs,hq,hx]:=hg;apply `aK3;apply `qh;have hl:=`FO;done;exact wpAny_pyNext_tuple_end `lB st `aK4 `qi `FS
 self:=`aiD wpAny_pyIter_tupleiter
theorem S50{P:`ak}{w:`O}(it:`e)(lo:Int)(n:Nat):`QX (Itr lo n) (`aK6 h it (lo+(i:Nat)*1) (`cl - (i:Nat)) 1) where
 mem:=`a_
 obj:=λi h st b hb=>by
  apply `FG
  subst e;exact#[_,st,λv z=>by
   have z':`aK7 _=Data.cell v:=z;cases z']
 keep:=λi h h' st k=>k it `aS _ st
 item:=by
  apply `lC;skip;apply `lD;apply `qh;have W:=Walks.range (prog:=`cD) (w:=X.w) `lB it lo 1 n;done;refine W.item i s _ _ hg st λv h' tk hv J kk=>?_
  let#[t,rfl]:=hv;have I1:`a8 H `s9:=`aiE (`kI (kk b o (`vQ) e)) f0 f1 f3 f4 f5;refine`qj (Zd0 (s:=`s9) (n := "range_iterator") J rfl rfl `r #[`aiw,H,I1,#[t,?_],`k!,J,`aiF]);rw[Int.mul_one]
 done:=by
  apply `lC;skip;apply `lD;apply `qh;done;exact wpAny_pyNext_range_end `lB st (by have:n<=i:=hg;lia) `FS
 self:=`aiD wpAny_pyIter_rangeiter
def Bb0(K:`x)(tl:TE):TI:=`FT tl λx H1=>∃a,`eu/\`aK8/\R (Itl K a) H1
def z51(K:`x)(tl:TE):TI:=`FT tl λx H1=>∃a,`eu/\(∃xs,SqT K H1 a xs)/\R (Itt K a) H1
def Uc0{l:`I}{tl:TE}(hl:PE X l tl):PI X tg l (Bb0 X.K tl):=by
 apply `FU;refine thn `aK9 λv s1 hq17=>?_;skip;apply `gC hq17
 apply `aK';subst e;cases r1;let#[its,rv,p,hz]:=`aiG hq;done;refine wpAny_pyIter_list `QY ?_;refine`aK! Pf0;have e:b=`kJ:=`vQ
 subst e;apply `FV
def Fo0{l:`I}{tl:TE}(hl:PE X l tl):PI X tg l (z51 X.K tl):=by
 apply `FU;refine thn `aK9 λv s1 hq18=>?_;skip;apply `gC hq18
 apply `aK';subst e;cases r1;let#[its,rv,p,hz]:=I1.tuple hq;done;refine wpAny_pyIter_tuple (show s1.heap.IsTuple a `b0 from p) ?_;refine`aK! Su0;have e:b=`kJ:=`vQ
 subst e;apply `FV
def N90{σ:St}{s:`u}{R:`QW}{E:`as}{lo hi:Int}{t u v:Tok}{tk:Nat}(I:`A)(h1:-(`gE)<=lo)(h2:lo<`gE)(h3:-(`gE)<=hi)(h4:hi<`gE)
  (q:R (Itr lo `w9) H):`aD `cI X.A (pyIter `jT) `aKS E `aK?:=by
 refine wpAny_pyIter_range (IsRange.new ..) (small_one h1 h2 h3 h4) ?_;have I1:`a8 H `aK?:=I.kept `v5
 refine#[`aiH,[`aiH],_,_,H,rfl,
  `KJ (t':=tk) `v5,S50 _ lo `w9,?_,`js,q]
 ·have e1:lo+`wK*1=lo:=`a_
  have e2:`aLa=Builtin.Range.rangeSize lo hi 1:=by rw[rangeSize_one];split<;>lia
  show `aK6 _ _ (lo+`wK*1) (`aLa) 1;rw[e1,e2];exact `gl
 ·have e:b=`aiH:=`vQ
  subst e;apply `FV
def Cb0(ta:TA):TI:=`FT ta λvs H1=>∃j:Int,vs=[`jj]/\-(`gE)<=j/\j<`gE/\R (Itr 0 `jz) H1
def Ow0{a:`I}{ta:TA}{p:Pos}(hg:`aLb)(hm:`aLc)(ha:`aLd)(hs:`QZ):PI X tg `aLe (Cb0 ta):=by
 apply `FU;refine `aLf boot_range λus s1 hq19=>?_;skip;apply `Q_ hq19;let#[j,e,q1,q2,q]:=q1;subst e;cases r1 with
 | cons r rr =>
  cases rr;apply `j7;done;exact call_range_1 (N90 I1 `j `j q1 q2 (`aiI))
def Ax0(wi:TI)(g:TG)(tb:TS):TS:=λD σ H=>wi σ H λJ H1=>∃W:`aLg,(∃m,W 0 m σ H1)/\∀i m σ H,W i m σ H ->
 (`aiu/\`ac9)∨(`aiq/\∃N:`k6,(∀σ' H',N σ' H'->`acV σ' H')/\∀x H',`ait->g x σ H' fun σ2 H2=>tb `aKH σ2 H2)
def i00(fp:`aY)(h:`D):`aC:=fp.filterMap λb=>(`rk).map λo=>`DJ
theorem pd0{h:`D}{b:`e}{o:Obj}(hb:b∈fp)(e:`oW):`DJ∈i00 fp h:=t9.mpr #[b,hb,`aLh]
def P10{h:`D}{p:`av9}(hp:p∈i00 fp h):p.1∈fp/\`f! p.1=`w4:=by
 let#[b,hb,e]:=t9.mp hp;cases q:`rk with
 | none=>rw[q] at e;cases e
 | some o =>
  rw[q] at e;have e':`DJ=p:=A3 e;subst e';exact#[hb,q]
theorem Inv.pinned{σ:St}{s:`u}(I:`A)(hf:∀b∈fp,`MJ)(ho:∀b∈fp,∃o,`fF/\`aKO):`sT X (`s++i00 fp `aB) :=
 I.pins_of λp hp=>`aJH (λz=>`jh p (D4 _ z)) λz=>by
  skip;let#[hb,e]:=P10 z;let#[f0,f1,f2,_]:=hf p.1 hb;let#[o,e',d]:=ho p.1 hb;rw[e] at e';cases e';done;exact#[e,f0,f1,f2,d]
theorem Inv.unpinned{pl:`aC}{σ:St}{s:`u}(I:`sT X (`s++pl)):`A:=I.pins_of λp hp=>`jh p (D4 _ (D7 _ hp))
def Pc0{body:`b7}{wi:TI}{g:TG}{tb:TS}{pos:Pos}(hp:`FQ)(hc:`ed)(hi:`aiJ)(hg:PG X tg g)(hb:`aKI)
  (hs:`fj):PS X `aiK (Ax0 wi g tb):=by
 apply `iC;refine wpAny_For (`QQ `FW λa5 s2 h2=>?_) hs;skip;let#[it,fp,tn,J,H2,e,I2,T,a3,f2,W,#[m0,w0],a1]:=h2;subst e;have O:`aLi `ail:=λhn b hb=>#[hn b hb,(`m2).2]
 done;refine codeAny_forLoop_any (λn s'=>∃i σ' H',`yq/\`aLj/\`Q0 n σ') ?_ m0 #[0,σ,H2,I2,a3,λb hb=>(`m2).1,w0];rintro n s3 ⟨i,σ3,H3,I3,Y,Z,w3⟩;skip;rcases a1 i n σ3 H3 w3 with⟨stop,qn⟩|⟨go,N,hN,step⟩
 ·done;refine `tP (T.done X rfl rfl rfl hc i `s s3 σ3 H3 `h4 I3 (O Z) Y stop) λr s4 hq20=>?_;let#[hr,I4]:=hq20
  subst hr;exact B50 #[σ3,H3,I4,qn]
 ·done;refine `tP (T.item X rfl rfl rfl hc i `s s3 σ3 H3 `h4 I3 (O Z) Y go) λr s4 hq21=>?_;let#[u,hr,h4]:=hq21
  subst hr;refine `tP h4 λ_ s5 hq22=>?_;skip;let#[x,H5,I5,r5,y5,U,a2]:=hq22;have a4:=I5.pinned (O a2) (`ES _ _ U);done;refine `tP (hg _ s5 σ3 H5 x u _ a4 r5 (step x H5 y5)) λ_ s6 hq23=>?_;let#[σ6,H6,I6,q6]:=hq23;refine `tP (hb _ s6 σ6 H6 _ I6 q6) λf s7 q7=>?_;skip;have again:∀{σ7:St} {H7:Hp},Inv X (`s++i00 fp s5.heap) σ7 H7 s7->N σ7 H7->∃m,m<n/\∃i σ' H',`Zq s7/\tn i s7.heap/\`Q0 m σ':=λ{σ7 H7} I7 n7=>by
   let#[m',hm,w7]:=hN σ7 H7 n7;refine#[m',hm,i+1,σ7,H7,`aiL,`aiM U (`aLk).1,`js,w7];let#[o,e,d]:=`ES _ _ U b hb;exact(`aLk).2.1
  cases f with
  | next=>let#[σ7,H7,I7,n7]:=q7;done;exact `aLl
  | cont=>let#[σ7,H7,I7,n7]:=q7;done;exact `aLl
  | brk=>let#[σ7,H7,I7,q7]:=q7;done;exact#[σ7,H7,`aiL,q7]
  | ret v=>let#[x7,σ7,H7,I7,r7,q7]:=q7;done;exact#[x7,σ7,H7,`aiL,r7,q7]
abbrev R2:=`FX
def OpR(X:Cx)(f:`yt)(r:R2):Prop :=
 ∀(pins:`aC) (s:`u) (σ:St) (H:Hp) (x y:V) (v u:`B) (Q:VK),`A->`lE->`f0->`O8 ->
  `cs `aiN `fQ
def UnR(X:Cx)(f:`ZL)(r:`BV):Prop :=
 ∀(pins:`aC) (s:`u) (σ:St) (H:Hp) (x:V) (v:`B) (Q:VK),`A->`lE->r x H Q ->
  `cs (f v) `fQ
def CallR(X:Cx)(f:`B)(r:`kv):Prop :=
 ∀(pins:`aC) (s:`u) (σ:St) (H:Hp) (xs:`V) (us:`J) (Q:VK),`A->`es->`Q1 ->
  `cs (`dQ f us) `fQ
def tOp(r:R2)(ta tb:TE):TE:=`bu ta (`tQ tb λy H2=>r x y H2 Q)
def tUn(r:`BV)(ta:TE):TE:=`bu ta λx H1=>r x H1 Q
def rI(C:`aiO)(g:`Q2):R2:=`d5 (`aiP (C i j/\Q `nd H))
def rI0(g:`Q2):R2:=`d5 (`aiP (Q `nd H))
def rU(g:Int->V):`BV:=λx H Q=>∃i,`aiQ/\Q (g i) H
section
variable{a c:`I}{tc:TE}
def Lx0(ha:`lz)(hb:`yu){s:`u}{σ:St}{R:V->`ahS}(I:`A)
  (h:ta σ H (`tQ tb λy H2=>R x y H2)) {Q:`as} {f:`yt}
  (hf:∀v u s2 x y H2,`aLm->`lE->`f0->R x y H2->`qc `aiN Q s2) :
  `cs (`aak) (`aJ9 (`qc `aiN Q s₂)):=by
 refine thn `FY λv s1 hq24=>?_;apply `gC hq24
 refine thn `aiR λu s2 hq25=>?_;let#[y,H2,I2,r2,q2]:=hq25
 exact hf v u s2 x y H2 I2 r1 r2 q2
def Kd0{op:`Q3}{r:R2}(ho:`aLn)(ha:`lz)(hb:`yu):PE X `aLo `Q4:=by
 apply `bm;exact wpAny_BinOp `aLp
def Bv0{op:UnaryOp}{r:`BV}(ho:UnR X (unaryOp op) r)(ha:`lz):PE X (`Z' op a pos) (tUn r ta):=by
 apply `bm;exact UnaryOp_ (`ah! `FY (ho `s s1 σ H1 x v Q I1 r1 q1))
def opI{f:`yt}{C:`aiO}{g:`aLq}
  (rule:`aiS (C i j->`aLr)) :
  OpR X f (rI C `aLs):=by
 apply `fk;skip;let#[i,j,rfl,rfl,hc,q]:=h;apply `cv;apply `cU;done;exact rule i j t t' s _ _ hc `aLt
def Ed0{f:`yt}{g:`aLq}
  (rule:`aiS `aLr) :
  OpR X f (rI0 `aLs):=by
 apply `fk;skip;let#[i,j,rfl,rfl,q]:=h;apply `cv;apply `cU;done;exact rule i j t t' s _ _ `aLt
def Rb0{f:`yt}{g:Int->Int->`C}
  (rule:`aiS (Q (`e' `nd) s->`aAp)) :
  OpR X f (rI0 λi j=>.bl `nd):=by
 apply `fk;skip;let#[i,j,rfl,rfl,q]:=h;apply `cv;apply `cU;done;exact rule i j t t' s _ _ (`hd (.bl `nd) q)
def Nt0(i j:Int):Prop:=`Q5
def M70(i j:Int):Prop:=`aiT
def CMul(i j:Int):Prop:=`adi
def CMul.ok{i j:Int}(h:CMul i j):IntMulOk i j:=by
 rcases h with⟨h1,h2⟩|⟨h1,h2⟩
 ·exact .of_left `aLu
 ·exact .of_right `aLu
theorem Fy0:OpR X `aiU (rI0 `aLv):=`yv Ed0 add_int
theorem Gg0:`DL .Sub (rI0 `aLw):=`yv Ed0 sub_int
theorem Gd0:OpR X `aLx (rI CMul `aLy):=opI λ_ _ _ _ _ _ _ hc q=>mul_int q hc.ok
theorem Hs0:`DL .FloorDiv (rI Nt0 `aLz):=opI λi j _ _ _ _ _ hc q=>by
 have h1:`fg<j:=hc.1;have h2:`axw:=hc.2;exact floordiv_int `j (`l (Int.fdiv_eq_ediv_of_nonneg i `j) q) (`n (PyProof.noPylong_small `j))
theorem Gp0:`DL .Mod (rI (λ_ j=>0<j) `aLA):=opI λi j _ _ _ _ _ hc q=>by
 have h1:`fg<j:=hc;exact mod_int' `j (`l (Int.fmod_eq_emod_of_nonneg i `j) q)
theorem Dg0:`DL .Pow (rI M70 `aLB):=opI λ_ _ _ _ _ _ _ hc q=>pow_int_small hc.1 hc.2.1 hc.2.2 q
def unI{f:`ZL}{g:Int->Int}
  (rule:∀(i:Int) (t:Tok) (s:`u) (Q:`as) (E:`as),Q (`g (g i) `cp) `ne->`abV (f `wQ)) :
  UnR X f (rU λi=>`g (g i)):=by
 intro pins s σ H x v Q I rx h;let#[i,rfl,q]:=h;apply `cv;exact rule i t s _ _ (`nf (`g (g i)))
theorem Fj0:UnR X (unaryOp .USub) (rU λi=>`g (-i)):=unI λ_ _ _ _ _ q=>neg_int q
universe zz
def L90:V->`aiV
 | `v,`v=>`d|`v,`cV=>`d|`cV,`v=>`d|`v,`b6=>`d|`b6,`v=>`d|`v,`cc=>`d|`cc,`v=>`d
 | `cV,`cV=>`d|`b6,`b6=>`d|`cc,`cc=>`d|.byt _,.byt _=>`d
 | `cV,`cc=>`d|`cc,`cV=>`d|`b6,`cc=>`d|`cc,`b6=>`d
 | _,_=>`m
def rEq:R2:=`d5 (`aiW/\Q `aLC H)
def rNe:R2:=`d5 (`aiW/\`to (!`MM))
def Ue0{i j:Int}:`aiX `vH `vH:=by
 rw[`yw];simp
def Qy0{i j:`C}:`aiX V.bl V.bl:=by
 rw[`yw];simp
def Vz0{i j:Str}:`aiX `CF `CF:=by
 rw[`yw];simp
def T80{i j:`aIE}:`ao (V.byt i=V.byt j)=(i.toList==j.toList):=by
 rw[`yw];cases i;cases j;simp
section
variable{a c:`I}{tc:TE}
def Q6{σ:St}{s:`u}{Q:VK}{k k':`C}(I:`A)(q:Q (`xS) H)(e:k=k'):`sW (`e' k') s:=by
 subst e;exact#[`xS,H,I,rfl,q]
def W4:`fD .Eq rEq:=by
 apply `fk;let#[hs,q]:=h;cases x with
 | non =>
  cases rx;cases y with
  | non=>cases ry;exact PySem.EqNone.eq_none_none `de
  | bl j=>cases ry;exact PySem.EqNone.eq_none_bool `de
  | int j=>apply `cU;exact PySem.EqNone.eq_none_int `de
  | str j=>apply `cU;exact PySem.EqNone.eq_none_str `de
  | _=>exact `iD
 | bl i =>
  cases rx;cases y with
  | non=>cases ry;exact PySem.EqNone.eq_bool_none `de
  | bl j=>cases ry;exact eq_bool (Q6 I q Qy0)
  | str j=>apply `cU;exact PySem.EqMixed.eq_bool_str `de
  | _=>exact `iD
 | int i =>
  apply `cv;cases y with
  | non=>cases ry;exact PySem.EqNone.eq_int_none `de
  | int j=>apply `cU;exact eq_int (Q6 I q Ue0)
  | str j=>apply `cU;exact PySem.EqMixed.eq_int_str `de
  | _=>exact `iD
 | str i =>
  apply `cv;cases y with
  | non=>cases ry;exact PySem.EqNone.eq_str_none `de
  | bl j=>cases ry;exact PySem.EqMixed.eq_str_bool `de
  | int j=>apply `cU;exact PySem.EqMixed.eq_str_int `de
  | str j=>apply `cU;exact eq_str (Q6 I q Vz0)
  | _=>exact `iD
 | byt i =>
  apply `cv;cases y with
  | byt j=>apply `cU;exact W.eq_bytes (Q6 I q T80)
  | _=>exact `iD
 | _=>cases y<;>exact `iD
def pf0:`fD .NotEq rNe:=by
 apply `fk;let#[hs,q]:=h;cases x with
 | non =>
  cases rx;cases y with
  | non=>cases ry;exact PySem.EqNone.ne_none_none `de
  | bl j=>cases ry;exact PySem.EqNone.ne_none_bool `de
  | int j=>apply `cU;exact PySem.EqNone.ne_none_int `de
  | str j=>apply `cU;exact PySem.EqNone.ne_none_str `de
  | _=>exact `iD
 | bl i =>
  cases rx;cases y with
  | non=>cases ry;exact PySem.EqNone.ne_bool_none `de
  | bl j=>cases ry;exact `Q6 ne_bool Qy0
  | str j=>apply `cU;exact PySem.EqMixed.ne_bool_str `de
  | _=>exact `iD
 | int i =>
  apply `cv;cases y with
  | non=>cases ry;exact PySem.EqNone.ne_int_none `de
  | int j=>apply `cU;exact `Q6 ne_int Ue0
  | str j=>apply `cU;exact PySem.EqMixed.ne_int_str `de
  | _=>exact `iD
 | str i =>
  apply `cv;cases y with
  | non=>cases ry;exact PySem.EqNone.ne_str_none `de
  | bl j=>cases ry;exact PySem.EqMixed.ne_str_bool `de
  | int j=>apply `cU;exact PySem.EqMixed.ne_str_int `de
  | str j=>apply `cU;exact `Q6 ne_str Vz0
  | _=>exact `iD
 | byt i =>
  apply `cv;cases y with
  | byt j=>apply `cU;exact `Q6 W.ne_bytes T80
  | _=>exact `iD
 | _=>cases y<;>exact `iD
theorem tn0:`fD .Lt (rI0 `aiY):=`yv Rb0 lt_int
theorem Tg0:`fD .LtE (rI0 `aiZ):=`yv Rb0 le_int
theorem nl0:`fD .Gt (rI0 `ai_):=`yv Rb0 gt_int
theorem Be0:`fD .GtE (rI0 `ai0):=`yv Rb0 ge_int
def pw0:`fD .Is `aLD:=by
 apply `fk;let#[rfl,q]:=h;cases ry;refine is_none_gen `aLE;cases x<;>first
  | (cases rx;rfl)
  | (apply `cv;rfl)
def ml0:`fD .IsNot `aLF:=by
 apply `fk;let#[rfl,q]:=h;cases ry;refine isnot_none_gen `aLE;cases x<;>first
  | (cases rx;rfl)
  | (apply `cv;rfl)
def OpR.or{f:`yt}{r r':R2}(h:OpR X f r)(h':OpR X f r'):OpR X f `aLG:=by
 intro pins s σ H x y v u Q I rx ry q;apply `Q7
 ·exact `aLH h
 ·exact `aLH h'
def or0(b:`I){op:`gB}(h:`F (op≠.In) Ab)(h2:`F (op≠`yx) Ab):`BA:=by
 have e1:(op==CmpOp.In)=`m:=by apply `Ft op `L0
 have e2:(op==CmpOp.NotIn)=`m:=by apply `Ft op (`L rfl h2)
 cases b<;>simp[`J5,e1,e2]
def Uv0{op:`gB}{r:R2}(ho:`yy)(ha:`lz)(hb:`yu)(hm:`BA):PE X `qd `Q4:=by
 apply `bm;exact `aJ? `aLp hm
def Ba0(t:TE):TT:=`bu t λx H'=>∃k,x=`xS/\Q k H'
def mk0{op:`gB}{r:R2}(ho:`yy)(ha:`lz)(hb:`yu)(hm:`BA):PT X `qd (Ba0 `Q4):=by
 apply `bm;refine `aKb (thn `FY λv s1 #[x,H1,I1,r1,q1]=>thn `aiR λu s2 #[y,H2,I2,r2,q2] =>
  thn `aLI λc s3 #[z,H3,I3,r3,k,e,q3]=>?_) hm
 subst e;cases r3;exact P5 #[H3,I3,q3]
def Q10(r r':R2)(ta tb tc:TE):TE:=fun σ H Q=>ta σ H λx H1=>tb σ H1 λy H2=>r x y H2 λz H3=>∃k,z=`xS /\
 (if k=`d then tc σ H3 λw' H4=>r' y w' H4 Q else Q `u7 H3)
def L40{op op':`gB}{r r':R2}(ho:`yy)(ho':`aLJ)(ha:`lz)(hb:`yu)(hc:PE X c tc)
  (hm:`aLK):PE X `aLL (Q10 r r' ta tb tc):=by
 apply `bm;refine Compare_chain (thn `FY λv s1 #[x,H1,I1,r1,q1]=>chain_link (thn `aiR λu s2 #[y,H2,I2,r2,q2] =>
  thn `aLI λd s3 #[z,H3,I3,r3,k,e,q3]=>?_)) hm
 subst e;cases r3;refine P5 ?_;cases k with
 | false=>exact ite_ff #[`rz,H3,I3,rfl,q3]
 | true=>exact ite_tt (chain_last (thn (hc `s s3 σ H3 _ I3 q3) λw' s4 #[z',H4,I4,r4,q4]=>ho' `s s4 σ H4 y z' u w' Q I4 r2 r4 q4))
def mn0:(`W:Nat)<`aba:=`Qe `yh
def Ty0:OpR X `aiU (`d5 `aLM):=by
 apply `fk;skip;let#[i,j,rfl,rfl,hz,q]:=h;apply `cv;apply `cU;done;exact add_str (λt' tk=>(`nf `aAs)) hz
def vals1{x:V}(r:`aLN):`aLO:=by
 cases r with
 | cons r1 r2=>cases r2;exact#[_,rfl,r1]
def Pk0:`fK X (`bx `j8) `aLP:=by
 apply `nN;skip;rcases h with⟨i,rfl,q⟩|⟨k,rfl,q⟩
 ·apply `ai1
  done;exact call_int_int #[`bw,H,I,`ad,q]
 ·let#[u,rfl,r1]:=`_U
  cases r1;done;exact call_int_bool (`nf `ae0)
def Xk0:`fK X `aLQ `aLR:=by
 apply `nN;skip;let#[x,rfl,hz,q]:=h;apply `ai1;done;exact ord_of_one hz (`nf `cV)
universe zz
structure ObjM(h:`D)(x dx C:`e)(mA:`a6):Prop where
 obj:`f! x=`aAa
 ns:`acs
 ne:`Qg
open T in
def bt0{h:`D}(n:`acs):∃od,`f! dx=`ai2/\`aLS:=by
 let#[o,es,ep,ho,hd,hk,_,hm]:=n;refine#[o,ho,λname=>?_];have e:=hm `cK;unfold nsFind findBy at e;rw[← `aLT] at e;unfold W.lookIn;rw[hd];dsimp only;split
 ·rename_i y q
  rw[q] at e;exact C7 `c e
 ·rename_i q
  rw[q] at e;have a:`aLU=`m:=by
   rw[List.any_eq_false];intro y hy;let#[z,t,J]:=hk y (Array.mem_toList_iff.mp hy);simp[DictEntry.refKey,J]
  have a':¬`aLU=`d:=`l a B7
  rw[`ag a'];exact C7 `c e
theorem ObjM.look{h:`D}{x C:`e}(I:ObjM h x dx C mA):∃od,W.InstAt h x `azz C (`ai2)/\`aLS :=
 let #[od,ho,hl]:=bt0 I.ns
 #[od,#[I.obj,rfl,rfl,ho],hl]
section
variable{w:`O}{s:`u}{x C f:`e}{v:`B}
def get_map{expr:`C}{Q:`as}(X:`p9)(I:`ai3)(hg:`aLV)(hh:`Q8)
  (ha:`aLW=`hb) (hv:`acA=`bQ) (hv':W.handedIn v=`d) (h:Q v `ne) :
  `a! (`MP `k9 `cK expr) s:=by
 apply `ai4;exact W.get_value X J (B60 hg).1 (`aLX hh ha rfl (by rw[hl,hv])) hv' h
def M50{pl:`iE}{Q:`aLY}(X:`p9)(I:`ai3)(hg:`aLV)
  (hf:`aLW=`Df) (ht:`ai5) (hv:`acA=`f) (h:Q (`Jq,[`Jx]) s) :
  `a! (`JN `k9 `cK pl) s:=by
 apply `ai4;exact W.method_fn X J (B60 hg).1 (B60 hg).2 hf (M0.mp ht) (by show (`aAt).map `aBn=`bI;rw[hl,hv];rfl) h
def It0{ns:`h}{Q:`d8}(X:`p9)(I:`ai3)
  (hs:`ai6) (hp:`aLZ) (ht:W.takerIn K C `cK=`hb) (hh:`Q8)
  (hw:`azA mA ns) (hsz:`aL_)
  (h:∀h',ObjM h' x dx C (λy=>`w (y=`cK) `bQ (mA y))->`DG dx->Q () (`hR h' (`cp+2))) :
  `aIl:=by
 apply `ai4;refine W.set_plain X J hs (W.osa_open (s:=`ne) (r:=`f) X J hp ht λb=>?_);let#[cd,hc,Z]:=W.any_some hh;have hx:`dn x=`c #[`eB,`r?,.plain,⟨⟩]:=I.obj;refine `lw A1 (`aIm W.Looks.here (W.looks_clsIn X hc));rw[Z];refine A1 (a:=`r?) (A0 (A1 `P'));refine `aIp (s:=`ne) I.ns λh' O U=>?_
 let#[oD,a4,a3,Y,a1,a2]:=O.count (PySem.Within.cons `cK v hw);apply `fZ `aIr Y (`l a1 (`aIs (C0 a2 (`p4))));exact A1 (h _ #[(U.2 _ (A9 I.ne)).trans I.obj,O,I.ne] U)
def K00{R:`j3}{vs:`J}{kw:`sY}(X:`p9)(hm:`ai7)
  (hi:`aL0) (hf:W.typeIn K `e!=`aIv)
  (h:`p' `dd (`axy vs) (`lv `e! #[`T `jK::vs,kw]) (W.InitBack `jK R)
   `aL1) :
  `oX (`lv `bh #[vs,kw]) s:=by
 let#[hh,g,d,t,os]:=s;exact W.make_core (W.makes_of X hm) (W.looks_findIn X hi) (λself=>W.bind_fn X self hf) `dI h
universe zz
def xz0(f:Str)(v:V):`iA->`iA
 | []=>`Q9
 | (g,x)::r=>`w (g=f) ((g,v)::r) ((g,x)::`aD0)
theorem g00(f g:Str)(v:V):∀fs:`iA,(`acC).lookup g=`w (g=f) `bQ (`JZ g)
 | []=>by
  show `iF g `Q9=_
  by_cases h:g=f
  ·have hb:(g==f)=`d:=`FZ h
   simp only[`iF,hb,`bS]
  ·have hb:`aL2:=`pI h
   simp only[`iF,hb,`cT]
 | `O9=>by
  have ih:=g00 f g v r;apply `ai8
  by_cases hk:k=f
  ·rw[`F_]
   by_cases h:g=k
   ·have hb:(g==k)=`d:=`FZ h
    simp only[`iF,hb,`Q (h.trans hk)]
   ·have hb:(g==k)=`m:=`pI h
    simp only[`iF,hb,`ag (λe:g=f=>h (e.trans hk.symm))]
  ·rw[`Q']
   by_cases h:g=k
   ·have hb:(g==k)=`d:=`FZ h
    simp only[`iF,hb,`ag (λe:g=f=>hk (h.symm.trans e))]
   ·have hb:(g==k)=`m:=`pI h
    simp only[`iF,hb];exact ih
theorem j50(f:Str)(v:V):∀fs:`iA,f∈`aL3/\∀g,g∈`abT->g∈`aL3
 | []=>#[`aL4,λg h=>`iG]
 | `O9=>by
  let#[i1,i2]:=j50 f v r;apply `ai8
  by_cases hk:k=f
  ·rw[`F_]
   subst hk;exact#[`a_,λg h=>`awg]
  ·rw[`Q']
   refine#[?_,λg h=>?_]
   ·rw[`ab]
    exact A6 _ i1
   ·rw[`ab] at h ⊢
    rcases `C3 with e|e
    ·exact A4.mpr (`tR)
    ·exact A6 _ (i2 g e)
theorem ge0(f:Str)(v:V):∀fs:`iA,(`y `acC)<=`Lp+1
 | []=>`aL4
 | `O9=>by
  have ih:=ge0 f v r;apply `ai8
  by_cases hk:k=f
  ·rw[`F_,`X,`X];lia
  ·rw[`Q',`X,`X];lia
def RelO.some_of{o:`gS}(r:RelO `vm o):∃u,o=`bf/\`gv:=by
 cases o with
 | none=>apply `Q!
 | some u=>exact#[u,rfl,r]
def RelO.none_of{o:`gS}(r:RelO `f o):o=`f:=by
 cases o with
 | none=>rfl
 | some u=>apply `Q!
def ae0(r:`gv):W.handedIn u=`d:=by
 cases v with
 | non=>cases (`nx (u=`mT));rfl
 | bl b=>cases (`nx (u=`Cj b));rfl
 | int i=>apply `aL5;cases e;rfl
 | str x=>apply `aL6;cases e;rfl
 | byt b=>let#[t,e]:=(`nx `aIH);cases e;rfl
 | flt b=>let#[t,e]:=(`nx `aII);cases e;rfl
 | ref a=>cases (`nx `Pg);rfl
 | ty n=>cases (`nx (u=`k7 n));rfl
section
variable{P:`ak}{w:`O}{h:`D}{C:`e}{fs fs':`iA}
def c00(hok:`f_)(e:`Q?):∃mA,ObjM h a dx C mA/\(`act)/\`aAb/\`ag8/\`ag7:=by
 skip;let#[d,z,ne,ob,mA,n,r,q]:=(show `wv (`mr) from hok a _ e);done;exact#[mA,#[ob,n,ne],r,q,z,d]
universe zz
structure Cls(K:`x)(C:`e):Prop where
 pg:`aL7=`d
 hd:`Q8
 po:`aLZ
 sa:`ai6
theorem Cls.get{C:`e}(c:`td)(f:Str):`acB K C f=`d:=c.pg
def NoAttr(K:`x)(C:`e)(f:Str):Prop:=`Ra
def NoAttr.taker{C:`e}{f:Str}(n:`yz):W.takerIn K C f=`hb:=by
 unfold W.takerIn;rw[show `Ra from n];rfl
structure Meth(K:`x)(C:`e)(m:Str)(f:`e):Prop where
 at_:`pv K `bh m=`Df
 fn:`ai5
 kp:`Rb
section
variable{σ:St}{s:`u}{C:`e}{fs:`iA}{f:Str}
def eu0{b:`C}{Q:`as}(I:`A)(e:`Q?)(c:`tS)(n:`aL8)(l:`ai9)
  (h:`aL9):`aL':=by
 skip;apply `aL!;apply `aL?;done;exact get_map `fM O (c.get f) c.hd n hu (ae0 ru) (h u _ `sk ru)
def p30{m:Str}{g:`e}{pl:`iE}{Q:`aLY}(I:`A)(e:`Q?)(c:`tS)(k:Meth X.K C m g)(l:`F0)
  (h:Q (`T g,`en) s):`dP `cI (`JN `b' m pl):=by
 apply `aL!;have hn:mA m=`f:=RelO.none_of (`cd l (r m));exact M50 `fM O (c.get m) k.at_ k.fn hn h
def eo0{y:V}{Q:`d8}(I:`A)(e:`Q?)(c:`tS)(n:`aL8)(hl:`aMa)(ry:`f0)
  (h:∀s',`a8 (upd H a `aMb) s'->`FH):`dP `cI (setAttr `b' f u):=by
 let#[mA,O,r,wi,_,ho]:=`aAw;have hz:(`y `abT)<=`W:=`hh `P `yh
 refine It0 `fM O c.sa c.po n.taker c.hd wi hz λh' O' sb=>`adn
 have hd:∃o,`g1 dx=`ay:=let #[o,_,_,e',_]:=O'.ns;#[o,e']
 refine `ai' (x:=a) (e:=dx) `Ni (`q ho) (λb q hb z=>`aDY z) hd ?_;refine#[`l (j4 O.ne) ho,?_,O.ne,O'.obj,_,O'.ns,λg=>?_,λg hg=>?_]
 ·have:=ge0 f y fs;lia
 ·show RelO ((`aAx).lookup g) `aMc
  rw[g00]
  by_cases q:g=f
  ·rw[`Rc,`Rc];exact ry
  ·rw[`F1,`F1];exact r g
 ·by_cases q:g=f
  ·rw[q];exact(j50 f y fs).1
  ·refine(j50 f y fs).2 g (wi g λz=>hg ?_)
   show `aMc=`f;rw[`F1];exact z
def Inv.made(I:`A):Inv X `s σ (upd (upd H `U (`aMd)) `jK (`aMe))
  `aL1:=by
 have e1:(`Dl).get? `U=`c `ZU:=C6 `aB rfl;have e2:(`aAv).get? `jK=`c (`abW):=by
  have:=C6 (`Dl) (o:=`abW) rfl
  rwa [B70] at this
 have e3:(`Dl).Ns `U (`yg):=#[`ZU,⟨⟩,_,e1,rfl,(`aIo),`j_];have I1:=`tT (a:=`U) (o:=`aMd) (h':=`Dl) (t':=`cp) (λb u q=>`wg) `bL #[_,e1];refine `MS (a:=`u') (o:=`aMe) (t':=`cp) (λb u q=>`wg) (K0 (B70 _ _)) ?_;have ne:`U≠`u':=B4 (b4 _);refine#[by rw[j4 ne,d8],`b3,ne,e2,`yg,(`aIq e3).at λo q=>`wg,λ_=>`mP,λy hy=>`L rfl hy]
theorem T10{prog:`ak}{w:`O}{env:Env}{f:Str}{pos:Pos}{s:`u}{Q:`as}(hb:`w' e f env (`ai!)=`ai!)
  (h:`yA (`ai!) (λo s₁=>`a! (`MP o f `d) `eT)):`a! (`bV `ai? env) s :=
 Attribute_any_ h (by rw[arm_eval_Attribute,hb])
universe zz
def Ag0(K:`x)(ta:TE)(f:Str):TE:=`bu ta λx H1=>∃a C dx fs v,`eu/\`F2/\`td/\`yz/\`ai9/\Q v H1
def Aj0(K:`x)(ta tv:TE)(f:Str):TS:=λD σ H=>tv σ H λy H1=>ta σ H1 λx H2=>∃a C dx fs,`eu/\H2 a=`oR/\`td/\`yz/\`aMa /\
 `go σ (upd H2 a `aMb)
def Fe0(X:Cx)(op:`Q3)(rd:`FX):Prop :=
 ∀(pins:`aC) (s:`u) (σ:St) (H:Hp) (x y:V) (u v:`B) (Q:VK),`A->`jP->`ea y v->rd x y H Q->`cs (inplaceOp op u v) `fQ
def H50(K:`x)(ta tv:TE)(rd:`FX)(f:Str):TS:=λD σ H=>ta σ H λx H1=>∃a C dx fs v,`eu/\`F2/\`td/\`yz/\`ai9 /\
 tv σ H1 λy H2=>rd v y H2 λz H3=>∃dx' fs',H3 a=`c (.ins C dx' fs')/\fs'.length<1000/\`go σ (upd H3 a (.ins C dx' (xz0 f z fs')))
section
variable{f:Str}
def Em0(he:PE X e ta)(hb:`aMf):PE X `ai? (Ag0 X.K ta f):=by
 apply `bm;refine T10 hb (thn `lA λu s1 hq26=>?_);skip;apply `aMg hq26;subst ex;apply `qk;done;exact eu0 I1 ea c n l λu' s2 I2 ru=>#[v,H1,I2,ru,q]
def Ye0(ha:`tU)(hv:`aja)(hs:`aMh):PS X `aMi (Aj0 X.K ta tv f):=by
 apply `iC;refine n30 (thn `aMj λu s1 hq27=>?_) hs;let#[y,H1,I1,ry,q]:=hq27;refine thn `aMk λov s2 hq28=>?_;skip;let#[x,H2,I2,rx,a,C,dx,fs,ex,ea,c,n,l,q2]:=hq28;subst ex;obtain rfl:ov=`rH:=rx;done;exact eo0 I2 ea c n l ry λs3 I3=>#[σ,_,I3,q2]
def Of0{op:`Q3}{rd:`FX}(ha:`tU)(hv:`aja)(hop:Fe0 X op rd):PS X (`aMl o op) (H50 X.K ta tv rd f):=by
 apply `iC;apply `tO wpAny_AugAssign_AttributeAny λov s1 hq29=>?_;skip;apply `aMg hq29;subst ex;obtain rfl:ov=`rH:=rx;done;refine eu0 I1 ea c n l λu s2 I2 ru=>thn (hv `s s2 σ H1 _ I2 q) λw3 s3 hq30=>?_;let#[y,H2,I3,ry,q3]:=hq30;refine thn (hop `s s3 σ H2 v y u w3 _ I3 ru ry q3) λw4 s4 hq31=>?_;skip;let#[z,H3,I4,rz,O,fs',J,l',q4]:=hq31
 done;exact eo0 I4 J c n l' rz λs5 I5=>#[σ,_,I5,q4]
def Aq0:`FX:=`d5 (`aiP (Q (`MK) H))
def Gs0:Fe0 X .Add Aq0:=by
 rintro pins s σ H x y u v Q I rx ry ⟨i,j,rfl,rfl,q⟩;let#[t,rfl]:=(show `O' from rx);let#[t',rfl]:=(show ∃t',v=`_l j t' from ry);exact PyProof.Rows.iadd_int (`nf `MK)
universe zz
structure Room(k:Nat)(A:`cf):Prop where
 hd:`gF
 dp:`Rd+3*k+5<`aMm
 un:`mL+16*k+200<`oy
theorem Room.mono{k:Nat}(r:`F3)(h:j<=k):`i8 j A:=#[r.hd,`aMn,`aMo]
theorem Room.deeper{k:Nat}(r:`aMp)(env:Env):`i8 k (`acH env) :=
 #[r.hd,by have:=r.dp;show `Rd+1+3*k+5<_;lia,by have:=r.un;show `mL+3+16*k+200<_;lia]
def R90{C:`e}:(`Re).depth=`Rd+1:=by
 first|rfl|simp[`ajb,Code.weight,Code.isCreation,Code.isGuard,Code.isCaller,`aMq,`ajc,guardIds]
def Sy0{C:`e}:(`Re).units=`mL+1:=by
 first|rfl|simp[`ajb,Code.cUnits,`aMq,`ajc]
theorem Room.make{k:Nat}(r:`aMp)(C:`e)(us:`J)(kw:`sY):`i8 k (`Re) :=
 #[r.hd,by have:=r.dp;rw[R90];lia,by have:=r.un;rw[Sy0];lia]
def Room.depth{k:Nat}(r:`F3):`Rd<`aMm:=`aMn
def Room.units{k:Nat}(r:`F3):`mL+64<`oy:=`aMo
def M40:TA:=λ_ H Q=>Q [] H
def Cp0(ta:TE)(tr:TA):TA:=`bu ta (`tQ tr λxs H2=>Q (`nO) H2)
section
variable{t:TA}
theorem zy0:PA X [] M40:=λ_ _ _ _ H Q I h=>b5 `aMr
def O2(ha:`gD)(hr:`yB)(hs:`dB):PA X `gX (Cp0 te t):=by
 intro pos pins s σ H Q I h;rw[hs];show `dc (`FJ (`rh::`Y7)) s;apply `tO P8 λu s1 hq32=>?_;apply `gC hq32;exact thn (hr pos `s s1 σ H1 _ I1 q1) λus s2 #[xs,H2,I2,r2,q2]=>#[`nO,H2,I2,`aa r1 r2,q2]
def Ap0(t:TA):TE:=`bu t λxs H1=>`p?/\`nP `ajd H1 `u9
def Ai0(t:TA):TE:=`bu t λxs H1=>`p?/\`nP `ajd H1 `kw
def Yr0{x1}(h:`yB):PE X (`Rf es) (Ap0 t):=by
 intro pins s σ H Q I hq;refine wpAny_Tuple_spliced (thn `aMs λus s1 hq33=>?_);let#[xs,H1,I1,r,z,q]:=hq33;apply `aMt;have hf:H1 `kJ=`f:=`O7;refine`aMu `u9;exact#[z,us,r,`ag5]
def Wh0(h:`yB):PE X `aje (Ai0 t):=by
 intro pins s σ H Q I hq;refine wpAny_List_spliced (thn `aMs λus s1 hq34=>?_);let#[xs,H1,I1,r,z,q]:=hq34;apply `aMt;have hf:H1 `kJ=`f:=`O7;refine`aMu `kw;exact#[z,us,0,r,`gl]
universe zz
abbrev Sp:=`V->Hp->VK->XK->Prop
abbrev CXT:=`eS->Hp->`u->XK->`as
variable{sp:L2.Sp}
structure Env0(P:`ak)(w:`O)(K:`x)(mg:`a6)(base:`D)(A:`cf)(outer:`eS)(s:`u)(H:Hp):Prop where
 frames:`LL=`c `da
 mod:Mod K mg `au
 bs:∀b o,base.get? b=`ay->`aJi
 bsz:base.objs.size<=`U
 funs:`C6 `au `da
 frf:∀b∈frs `da,`dw
 hok:HOk P w H `aB
 bare:`B2 `yo
variable{CX:L2.CXT}
def CE(outer:`eS)(P:`ak)(w:`O)(H:Hp)(s:`u)(Q:VK)(u:`B)(s':`u):Prop :=
 ∃v H',`ahR/\`Pa/\`aMv/\`aMw/\`aJ0
def CR(CX:CXT)(outer:`eS)(P:`ak)(w:`O)(H:Hp)(s:`u)(Q:VK)(E:XK)(r:Result)(s':`u):Prop :=
 match r with
 | .ok (`jO u)=>`aMx
 | .ok _=>`bW
 | .error e=>CX `da H s E e s'
structure FnOk(P:`ak)(w:`O)(K:`x)(mg:`a6)(base:`D)(CX:CXT)(k:Nat)(f:`e)(fd:`fY)(ps:`h)(sp:Sp):Prop where
 len:`ajf
 run:∀(A:`cf) (outer:`eS) (s:`u) (H:Hp) (args:Args) (us:`J) (vs:`V) (Q:VK) (E:XK),`F3->`ajg->`LC s fd args `Rg->`tM->`Lw ->
  `p' `sX A (`lv `e! args) (CR CX `da P w H s Q E) s
theorem Env0.make{P:`ak}{w:`O}{outer:`eS}{s:`u}(e:`ajg)(C:`e)(us:`J)(kw:`sY) :
  `ayE (`Re):=#[by first|exact `ajh|(simpa [`ajb,Code.envs,`ajc,pushEnvs] using `ajh),e.mod,e.bs,e.bsz,e.funs,e.frf,e.hok,e.bare]
section
variable{σ:St}{s:`u}
theorem Inv.env0(I:`A):Env0 `cD X.w X.K `cm `fe X.A `g5 s H :=
 #[`aMy,I.ok.mod,I.bs,C0 I.ok.bsz I.sz,I.stack,I.stkFree,`bR,`iw]
def Inv.after{Q:VK}(I:`A)(h:CE `g5 `cD X.w H s Q u s'):`sW u s':=by
 skip;let#[v,H',os,bare,un,hok,r,q]:=h;let#[hh,g,d,t,J]:=s';obtain rfl:J=s.os:=os;done;exact#[v,H',I.call (h':=hh) (g':=g) (d':=d) (t':=t) (ch:=[]) un hok bare (λb z=>`L z `aS),r,q]
universe zz
def Cl0(sp:Sp)(dvs:`V)(E:XK)(t:TA):TE:=`bu t λvs H1=>sp `k0 H1 Q E
def Cr0(C:`e)(m:Str)(sp:Sp)(dvs:`V)(E:XK)(ta:TE)(t:TA):TE:=fun σ H Q=>ta σ H λx H1=>∃a dx fs,`eu/\`F2/\`F0 /\
 `aMz E
def Bq0(C:`e)(sp:Sp)(dvs:`V)(E:XK)(t:TA):TE:=fun σ H Q=>t σ H λvs H1=>∀x dx,H1 x=`f->`aji->`Qg ->
 sp `aMA (`aAz H1) `aMB E
def Binds(K:`x)(fd:`fY)(ps:`h)(ds:`J):Prop :=
 ∀(s:`u) (us:`J),`p9->`acE->`LC s fd `Rh (`Kf `CW)
theorem Binds.all(h:∀us:`J,`aMC fd):`BY:=λs us _ hl=>by
 rw[`cg] at hl ⊢;exact .of_eq (h us hl)
def og0(CX:CXT)(X:Cx)(E:XK):Prop:=∀(pins:`aC) (σ:St) (H:Hp) (s:`u) (e:`B) (s':`u),`A->CX `g5 H s E e s'->`h4 e s'
section
variable{k:Nat}{f C:`e}{ds:`J}{E:XK}{m:Str}{p:Pos}{t:TA}
def Wt0{pins:`aC}{σ:St}{H:Hp}{s:`u}{Q:VK}{us:`J}{vs:`V}(F:`yC)(hr:`nQ)(hb:`lF)(hd:`lG)(hx:`yD)
  (I:`A) (r:`tM) (h:sp `k0 H Q E):`aMD:=by
 apply `ajj;apply `aME
 refine `aMF E;cases r with
 | error e=>exact hx `s σ H s e s' I hq
 | ok fl =>
  cases fl with
  | ret u=>exact I.after hq
  | next=>apply `iH
  | brk=>apply `iH
  | cont=>apply `iH
def mh0(F:`yC)(hr:`nQ)(hg:`i1)(hm:`aMG)(hk:`aMH)(hb:`lF)(hd:`lG)(hx:`yD)
  (ha:`ql) (hdb:`aO) (he:`dB) (hpl:`eU) :
  PE X `o_ (Cl0 sp dvs E t):=by
 apply `bm;apply `ajk;refine `aMI λus s1 hq35=>?_;let#[vs,H1,I1,r,q]:=hq35;refine `aMJ;exact Wt0 F hr hb hd hx I1 r q
def Jq0{pl:`iE}(he:`tU)(c:`tS)(hm:`Ri)(F:`yC)(hr:`nQ)(hb:`lF)(hd:`lG)(hx:`yD)(ha:`ql)
  (hst:`dB) (hpl:`eU)
  (ht:`F (`aMK=(do
   let ov ← `oC
   `nR
   let (f,`iI) ← `qm
   `Rj)) Aa) :
  PE X `acF (Cr0 C m sp dvs E ta t):=by
 apply `bm;refine `Rk λu s1 hq36=>?_;skip;let#[x,H1,I1,rx,a,dx,fs,ex,ea,l,q]:=hq36;subst ex;apply `qk;done;apply `Rl;refine `aML λus s2 hq37=>?_;let#[vs,H2,I2,r,q2]:=hq37;refine `aMM;exact Wt0 (us:=`a?::us) (vs:=`a?::vs) F hr hb hd hx I2 `aMN q2
structure Mk(K:`x)(C f:`e):Prop where
 makes:`ai7
 init:`aL0
 fn:`ai5
 kp:`ajl=`d
def Ne0{pins:`aC}{σ:St}{H:Hp}{s:`u}{Q:VK}{us:`J}{vs:`V}(M:Mk X.K C f)(F:`yC)(hr:`ajm)(hb:`lF)(hd:`lG)
  (hx:`yD) (I:`A) (r:`tM)
  (h:∀x dx,H x=`f->`NB->`Qg->sp `aMA (`aMO) `aMB E) :
  `cs (`dQ `bh us) `fQ:=by
 have hq:=h `jK `U (`ss (m3 _)) `Ly (B4 (b4 _));have I2:=Inv.made (C:=C) I;have r2:`bO (`aMP::`k0) `aMQ:=`aa rfl (`Lx hd);have hl:(`y (`ajn++ds))=`aJ:=by
  have e:=`m5;rw[`EP _ _ _ _ hq] at e;exact e.symm
 refine P2 (K00 (f:=f) `fM M.makes M.init (M0.mp M.fn) (K2 (`yE _ `g5 _ _ #[`ajn,[]] `aMQ _ _ E (hr.make C us [])
  (I2.env0.make C us []) (hb _ (`ajn) `acG hl) r2 hq) λr s' J=>?_))
 skip;cases r with
 | error e=>done;exact hx `s σ _ _ e s' I2 J
 | ok fl =>
  cases fl with
  | ret u =>
   let#[v,H',I3,rv,ev,q3]:=I2.after J;subst ev;done;exact#[rv,#[`aMP,H',I3,rfl,q3]]
  | next=>done;exact `fW J
  | brk=>done;exact `fW J
  | cont=>done;exact `fW J
def Mp0(M:Mk X.K C f)(F:`yC)(hr:`ajm)(hg:`i1)(hm:`oB=`vA)(hb:`lF)(hd:`lG)(hx:`yD)
  (hdb:`aO):PE X (`dl `ms []) (Bq0 C sp dvs E M40):=by
 apply `bm;apply `ajk;exact B80 `fM M.kp (Ne0 (us:=[]) M F hr hb hd hx I `R h)
universe zz
structure FnScope(N P:`h)(sc:`cR):Prop where
 kind:`aMR
 co:`aMS
 gen:`aMT
 nd:`QM
 pre:`aMU
 par:∀x∈P,`ahw
 nofree:∀y∈`Rm,`aMV
theorem bl0{kindOf:`Rn}:`aMW bindL
 | [],_,_=>rfl
 | (n,v)::r,m,h=>by
  unfold bindL;rw[bl0 `aMX];split
  ·apply `aMY
   simp[`E]
  ·rfl
theorem ag0{kindOf:`Rn}:`aMW bindC
 | [],_,_=>rfl
 | (n,v)::r,m,h=>by
  unfold bindC;rw[ag0 `aMX];split
  ·rfl
  ·apply `aMY
   simp[`E]
theorem b90{kindOf:`Rn}{v:`B}:∀{P:`h} {vs:`J} {i:Nat} {m:`a6},P.Nodup->`aMZ->`ajo->`yF x=`mm ->
  bindL `yF (`_S) m x=`bQ
 | [],_,_,_,_,h,_,_=>`iG
 | `dC,[],_,_,_,_,h,_=>`iG
 | p::P,w::vs,0,m,nd,h1,h2,hk=>by
  simp at h1 h2;subst h1;subst h2;show `Ro bindL p;unfold bindL;rw[bl0 `aM_,`F_];simp
 | p::P,w::vs,i+1,m,nd,h1,h2,hk=>by
  show `Ro bindL x;unfold bindL;exact `aM0 b90
theorem ad0{kindOf:`Rn}{v:`B}:∀{P:`h} {vs:`J} {i:Nat} {m:`a6},P.Nodup->`aMZ->`ajo->`yF x≠`mm ->
  bindC `yF (`_S) m x=`bQ
 | [],_,_,_,_,h,_,_=>`iG
 | `dC,[],_,_,_,_,h,_=>`iG
 | p::P,w::vs,0,m,nd,h1,h2,hk=>by
  simp at h1 h2;subst h1;subst h2;show `Ro bindC p;unfold bindC;rw[ag0 `aM_,`Q'];simp
 | p::P,w::vs,i+1,m,nd,h1,h2,hk=>by
  show `Ro bindC x;unfold bindC;exact `aM0 ad0
def start(N:`h)(vs:`V):St:=`k_ `c++`cr (`Rp - `cz) `f
def rk0(CX:CXT)(P:`ak)(w:`O)(K:`x)(mg:`a6)(base:`D)(N:`h)(qual:Str)(scope:`cR)(f:`e)(cd:`B)(A:`cf)(outer:`eS)(s:`u)(H:Hp)(E:XK):Cx where
 prog:=P
 w:=w
 K:=K
 mg:=mg
 base:=`au
 A:=`aM1
 N:=N
 s₀:=s
 H₀:=H
 env:=`DN
 outer:=`da
 stack:=`DN::`da
 ex:=[]
 calm:=`d
 fn:=`ajp
 pn:=[]
 xe:=λe s'=>`aD `sX (`aM1) (leaving (`DN) e) (λ_ s''=>CX `da H s E e s'') (λe' s''=>CX `da H s E e' s'') s'
def Yn0(h:`aaT):∃c,(`aAA n `Rm []).lookup x=`fu:=by
 have q:=`aM2 `Rm n [] `Rq;exact Option.isSome_iff_exists.mp q
def P90{CX:CXT}{P:`ak}{w:`O}{K:`x}{mg:`a6}{base:`D}{N ps:`h}{qual:Str}{scope:`cR}{f:`e}{cd:`B}{A:`cf}{outer:`eS}{s s1:`u}{H:Hp}{E:XK}{us:`J}{vs:`V}
  (S:`aM3) (hd:`gF) (e0:`ajg) (hl:`cz=`aJ) (r:`tM)
  (x:InCallC s `U (bindL `aM4 `Rg `yg) (`aM5) (bindC `aM4 `Rg `yg) s1) :
  Inv (`aM6) [] `MT H s1:=by
 have U:`aJ<=`Rp:=by have:=C7 `Ej S.pre;apply `a3 `d0;lia
 let#[h1,tk,rfl,hk]:=x.done;have J:∀b:`e,b∉(`aM6).ex:=λb z=>`aM7
 refine#[#[e0.mod,S.kind,rfl,rfl,`gT,λy z c h1 h2=>?_,λy hy=>?_,λy c _ h=>?_,λ_=>hd,Around.frames_deeper e0.frames,`aM8,`aM9,e0.bs,e0.bsz,λb _ _=>J b,`aM9,e0.funs,e0.frf],
  rfl,e0.bare,`Qw hk,#[_,x.toInCall.ns,λi y v h1 h2 h3=>?_],λy c h=>#[_,x.cell y c h],`aM' `bL,λy c h=>?_,λp hp=>`rt (p∈([]:`aC)) hp `aS,e0.hok.kept hk,?_]
 ·exact name_of_addr x.apart (L4 h1) (L4 h2)
 ·have hy:`M0=`kX∨`M0=`ng:=hy
  rcases hy with hy|hy
  ·exact Yn0 hy
  ·exact `L rfl (S.nofree _ (L4 hy))
 ·exact `aM!
 ·have hi:i<`cz:=by
   unfold start at h2
   by_cases hi:i<`cz
   ·exact hi
   ·rw[`ajq] at h2
    rw[`qn] at h2;split at h2<;>cases h2
  have ha:`ajo:=by
   unfold start at h2;rw[`Rr,`df] at h2;cases e:vs[i]? with
   | none=>rw[e] at h2;cases h2
   | some a=>rw[e] at h2;cases h2;rfl
  let#[u,hu,rv]:=`qo ha;have hp:ps[i]?=`ee:=by
   rw[← S.pre,`Rs `j];exact h1
  have O:ps.Nodup:=`cd S.pre (S.nd.sublist (List.take_sublist _ _))
  refine#[u,rv,?_];rcases S.par y (C9 hp) with k|k
  ·exact `n #[k,b90 O hp hu k]
  ·let#[c,e]:=Yn0 (n:=`u') k
   refine `q #[`n k,c,e,?_];have q:=x.cell y c e;rw[ad0 O hp hu (by show `M0≠_;rw[k];decide)] at q;exact q
 ·exact `aM' (`aM!)
 ·unfold start
  show _=`Rp;rw[`Y,`P,`qp];lia
def Ti0{CX:CXT}{P:`ak}{w:`O}{K:`x}{mg:`a6}{base:`D}{k:Nat}{f:`e}{name qual:Str}{params:Arguments}{body:`b7}{scope:`cR}{dV kV doc pm cdv ct oc:`B}{an od:`bt}
  {osl:`j2} {N ps:`h} {sp:Sp} (lk:`Rt `aM?) (hcd:`ajr) (S:`aM3)
  (len:`ajf)
  (hbody:∀(A:`cf) (outer:`eS) (s:`u) (H:Hp) (vs:`V) (Q:VK) (E:XK),`_q `eG f->`Lw ->
   ∃t,PSs `ajs `eM t/\`aNa) :
  `lH P w K mg `au CX `ef f `aM? ps sp:=by
 refine#[len,λA outer s H args us vs Q E hr e0 hb r U=>?_];have hl:=len _ _ _ _ U;have KX:`p9:=e0.mod.kin.keeps `aNb
 have lim:s.heap.NoLimit:=e0.mod.nolimit.keeps `aNb
 have O:∀y∈`Kf us,`aAS∨(`v_ y.1=`kX/\`sm ((`aM5).lookup y.1)):=λhq38 hy=>by
  let#[n,v]:=hq38
  rcases S.par n (B90 hy).1 with q|q
  ·exact `nJ
  ·exact `q #[q,`aM2 _ _ _ (`nJ)]
 refine codeAny_call_function hr.depth (KX _ _ lk) rfl S.co S.gen rfl (W.codeRec_of KX hcd) (hb _ _ _ _ ?_);refine wpAny_newFunctionEnv_cells S.kind O λenv he s1 x=>?_
 subst he;refine#[lim.keeps x.toInCall.keep,codeAny_func ?_];let#[t,ht,hq]:=hbody A `da s H vs Q E (hr.deeper _) U;have I:Inv `ajs [] `MT H s1:=P90 S hr.hd e0 hl r x;refine D0 (ht [] s1 `MT H _ I hq) (λfl s' hs=>?_) λe s' hs=>hs
 skip;have fin:∀{σ':St} {H':Hp} {v:V} {u:`B},Inv `ajs [] σ' H' s'->`gv->`sM->`aMx :=
  λ{σ' H' v u} J rv q=>#[v,H',J.os,J.bare,J.base,J.hok,rv,q]
 cases fl with
 | ret u =>
  let#[v,σ',H',J,rv,q]:=hs;done;exact fin J rv q
 | next =>
  let#[σ',H',J,q]:=hs;done;exact fin (v:=V.non) (u:=`mT) J rfl q
 | brk =>
  let#[_,_,_,q]:=hs;done;exact `fW q
 | cont =>
  let#[_,_,_,q]:=hs;done;exact `fW q
section
variable{p:Pos}{t:TA}{id T:`bJ}
def tCB(r:`kv)(t:TA):TE:=`bu t λvs H1=>r vs H1 Q
def ou0(hc:`aNc)(hg:`i1)(hm:`nL)(hv:`aNd)(ha:`ql)(hn:`nM)(hdb:`aO)
  (he:`dB) (hpl:`eU):`aNe:=by
 apply `bm;apply `aNf;exact n50 `aNg he hpl
def nu0(hc:`ajt)(hg:`i1)(hm:`nL)(hv:`Ru)(ha:`ql)(hn:`nM)(hdb:`aO)
  (he:`dB) (hpl:`eU):`aNe:=by
 apply `bm;apply `aNf;exact P7 `aNg he hpl
universe zz
universe L2
variable{r:`aJ_}{X:L2.Cx}{ta tb te tv td ty:L2.TE}{CX:L2.CXT}{sp:L2.Sp}
namespace HT
open PyProof.Rows
section
variable{w:`O}{s:`u}
def Iu0{t b:`e}{ws:`J}{Q:`as}(ht:`DO `aB t `st)(hb:`DO `aB b `Rv)(hv:vs≠[])
  (h1:ws=[]->Q `pC s) (h2:ws≠[]->Q `jT (`e4 s (`h_ (`h6 `fH `aNh))))
  (hsz:`cz+`F4<=`W):`a! (`BW .Add `pC `Nl) s:=by
 skip;apply `ade (id ht);let#[#[a1,Y,data2,Z],J,U,n2,O]:=id hb;simp only at hc hd U O;subst hc hd U O;have e:`st++`Rv=`aNh:=`a_
 by_cases hw:ws=[]
 ·done;exact u4 `tV `aju C00 C10 C20 C30 (C40 _ _)
   (tuple_addW1 t b `st `Rv n n2 dd Y sl Z `ajv (by simp[hw])) #[ho,J,h1 hw]
 ·done;refine u4 `tV `aju C00 C10 C20 C30 (C40 _ _)
   (tuple_addW2 t b `st `Rv n n2 dd Y sl Z `ajv `axB (`gs `b5 `b5 hsz)) #[ho,J,?_]
  rw[e];exact h2 hw
def sIx(n d:Nat):`aNi
 | `f=>d
 | `bQ=>`Rw
def Fr0(n d:Nat)(hd:d<=n)(o:`aE):sIx n d o<=n:=by
 cases o with
 | none=>exact hd
 | some v =>
  show (`Rw)<=n
  by_cases hv:v<0
  ·rw[`Q hv];lia
  ·rw[`ag hv];exact nb0 _ _
def Vw0(v:Int)(n d:Nat):`aNj=(`aq (sIx n d `vm)):=by
 show `aNj=(`aq (`Rw))
 by_cases hv:v<0
 ·simp only[`Q hv];lia
 ·simp only[`ag hv];lia
def Tz0(lo hi:`aE)(n:Nat):`aNk=(`Rx,`aNl):=by
 have h1:¬(`CC<0):=`G
 unfold Builtin.Slice.sliceAdjust;apply `ny h1;refine Prod.ext ?_ ?_
 ·cases lo with
  | none=>rfl
  | some v=>exact Vw0 v n 0
 ·cases hi with
  | none=>rfl
  | some v=>exact Vw0 v n n
def Sn0(i j:Nat):`ajw `r2 `b9 1=j - i:=by
 unfold Builtin.Slice.slicePlaces;have h1:`aAL:=`G
 simp only[h1,`il,Int.ediv_one];split<;>lia
def d10{v:`B}{o:`aE}{Q:`aE->`e1}(p:`Ch v o)(h:Q o s):`a! (Builtin.Slice.slicePartIndex v) s:=by
 cases p with
 | none=>exact `aNm h
 | int i t=>exact slicePart_int h
def om0{sl:`e}{hi:`aE}{n:Nat}{Q:Int×Int×Nat->`e1}(hs:`Ry)(pl:`Rz)(pu:`RA)
  (h:Q (`Rx,1,`aAD - `axA) s):`a! (Builtin.Slice.sliceApplied `MU (`cj `cl)) s:=by
 let#[os,O,U,J]:=id hs;unfold Builtin.Slice.sliceApplied Builtin.Slice.sliceFields;refine A0 (`ajx vl (`ajx vu (`ajx `aj `KH)));refine A0 (`aNm ?_);show `dc (`w ((`CC==0)=`d) _ _) s;rw[`dY];refine A0 (d10 pl (A0 (d10 pu (`Qf))));show `dc (match `aNk with|(lo,hi)=>`cj (lo,`CC,`ajw lo hi 1)) s;rw[Tz0 lo hi n];show `dc (`cj (`Rx,`CC,`ajw `Rx `aNl 1)) s;rw[Sn0];exact A1 h
def My0(xs:`a1)(i k:Nat):(`h7 ((`cn k).filterMap `aNn))=(`h7 ((xs.toList.drop i).take k)):=by
 have e:(`aNn)=`aNo:=by
  funext m
  have:`aAE=i+m:=`G
  rw[`E]
 rw[e];have:=pick_run xs i k;apply `a3 List.filterMap_map;have e2:((λx=>xs[x]?) ∘ λx=>i+x)=`aNo:=rfl
 apply `a3 e2;rw[`E]
def hf0{t sl:`e}{items:`a1}{hi:`aE}{Q:`as}(ht:`aNp)(hs:`Ry)(pl:`Rz)(pu:`RA)
  (hw:¬(`aNq))
  (h:Q `jT (`e4 s (`h_ (`mW `fH `aNr))))
  (hsz:`gk<=`W):`aNs:=by
 have J:sizeOk (`aNr):=by
  show (`aAF).toArray.size<=`W;rw[`b5,`d0,`le,`QT];omega
 have hj:`aal<=`gk:=Fr0 _ _ `bL hi;let#[os,Y,Z,a1]:=id hs;have U:`aNt := #[os,Y,Z];unfold getItem
 apply `F5
 first|refine `Qf|try fail
 refine `aNu;refine A0 (j0 (name:=`aNv) `tp b6
  `aNw)
 apply `aNx;refine `aNy;apply `j6 L8 U;rw[`P!];refine `aNz;have O:¬(`ae4):=by
  intro q;rw[`bg,`bg] at q;have q1:`ax5=0:=`RB q.1.1;have q2:`aam=`gk:=`RB q.2;exact hw #[`dF,`dF]
 apply `aNA;rw[`ag O,My0]
 first
  | exact `aNB
  | exact `acJ (A0 `aNC)
  | exact A0 (`acJ `aNC)
  | exact A0 (`aNB)
universe zz
universe HT
namespace L2
open Spec PyProof.Rows
abbrev TO:=`w8 `aND
def PO(X:Cx)(e:`r6)(t:TO):Prop :=
 ∀(pins:`aC) (s:`u) (σ:St) (H:Hp) (Q:`aND),`A->`sj ->
  `cs (evalPart e `M) (λu s'=>∃o H',`nK/\`Ch u o/\Q o H')
def Hg0:TO:=λ_ H Q=>Q `f H
def Cn0(t:TE):TO:=`bu t λx H1=>∃i,`aiQ/\Q (`rX) H1
section
variable{lo hi:`r6}{tl th:TO}
def Ib0:PO X `f Hg0:=by
 apply `bm;rw[`aNE];exact A1 #[`f,H,I,`aj,h]
def Is0(h:`gD):PO X (`c e) (Cn0 te):=by
 apply `ahZ;rw[evalPart_some];refine thn `ah_ λu s1 hq39=>?_;skip;apply `gC hq39
 let#[i,rfl,q]:=q1;apply `ajy;done;exact#[`rX,H1,I1,`g i t,q]
def SlR(X:Cx)(r:`tW):Prop :=
 ∀(pins:`aC) (s:`u) (σ:St) (H:Hp) (x:V) (v vl vu:`B) (lo hi:`aE) (sl:`e) (Q:VK),`A->`lE->`Ry->`Rz->`RA->`aNF ->
  ∃T id,`aNG/\`r7 v T/\`cs (`py v `MU) `fQ
def SlR.or{r r':`tW}(h:SlR X r)(h':SlR X r'):SlR X (`RC (`aNF∨r' x lo hi H Q)):=by
 intro pins s σ H x v vl vu lo hi sl Q I rx hs pl pu q;apply `Q7
 ·exact `aNH h
 ·exact `aNH h'
def tSl(r:`tW)(te:TE)(tl th:TO):TE:=`bu te (`tQ tl λl H2=>th σ H2 λu H3=>r x l u H3 Q)
def Mr0{r:`tW}(hr:SlR X r)(he:`gD)(hl:PO X lo tl)(hu:PO X hi th):PE X `aNI (tSl r te tl th):=by
 apply `bm;refine `RD (thn `lA λv s1 hq40=>?_);apply `gC hq40;refine `aNJ (thn `aNK λvl s2 hq41=>?_);let#[l,H2,I2,pl,q2]:=hq41;refine thn `aNL λvu s3 hq42=>?_;let#[u,H3,I3,pu,q3]:=hq42;rw[`aNE];refine `jm;have I4:`a8 H3 `ajz:=I3.kept (t':=s3.toks) `_T
 let#[T,id,hT,ht,hg]:=hr `s `ajz σ H3 x v vl vu l u `w! Q I4 r1 `aNM pl pu q3;show `qc (`aNN e `aD5 v (`aNO)) `fQ `ajz;exact `ajA (ops:=[`aNO,v]) ht hT hg (by with_unfolding_all rfl)
def j60(xs:`V)(lo hi:`aE):`V:=`aAI `jq
def g70(xs:`V)(lo hi:`aE):(`y `MV)<=`_:=by
 unfold j60;rw[`d0,`le];omega
def At0(K:`x):`tW:=λx lo hi H Q=>∃a xs,`eu/\`qe /\
 ¬`aNP/\`nP `eN H (`aNQ)
def Fl0:SlR X (At0 X.K):=by
 apply `RE;skip;apply `aNR;cases rx;apply `aNS;apply `aNT
 done;refine#[`eC,_,b6.lookup,`tp,?_];refine HT.hf0 ht hs pl pu (`RF) ?_ (`l J hz);rw[J];refine`ajB `aNQ `ajC;exact#[`aNU,_,`aNV,`ajD]
def Ko0(K:`x):R2:=λx y H Q=>∃a b xs ys,`eu/\`F6/\`qe/\`aNW/\`ajE/\`Nf /\
 (ys=[]->Q `b' H)/\(ys≠[]->`nP `eN H (`ajF))
def Vals.nil_iff(r:`es):us=[]↔`yG:=by
 cases r with
 | nil=>simp
 | cons _ _=>simp
def I20:`ajG Ko0:=by
 apply `fk;skip;let#[a,b,xs,ys,rfl,rfl,ha,hb,hx,hz,q1,q2]:=h;cases rx;cases ry;apply `aNX;let#[J,r2,p2,_]:=`mO hb;done;refine HT.Iu0 p1 p2 (λz=>hx (`aNY z)) (λz=>(`hd `a? (q1 (r2.nil_iff.mp z)))) (`j1) (by rw[← `pq,← `m5];exact hz);refine`ajB `ajF (q2 (λw=>z (r2.nil_iff.mpr w)) _ `Ly);exact#[`aNZ,_,`RG,`ajD]
universe zz
def ixN(n:Nat)(i:Int):`RH:=`aN_
def atI{α:Type}(xs:`bd)(i:Int):`P3:=`aN0
def Jt0{i:Int}(h:ixN n i=`RI):seqIndex? i n=`RI/\j<n/\`acM/\i<n:=by
 unfold ixN at h
 by_cases h0:0<=i
 ·rw[`ajH] at h
  by_cases h1:i<n
  ·rw[`RJ] at h
   have e:`fN=j:=A3 h;exact#[by rw[`aN1 h0 h1,e],`G,`G,h1]
  ·rw[`RK] at h;cases h
 ·rw[`RL] at h
  by_cases h1:`acM
  ·rw[`RJ] at h
   have e:`aAJ=j:=A3 h;exact#[by rw[`aN2 `j h1,e],`G,h1,`G]
  ·rw[`RK] at h;cases h
def dh0{xs:`bd}{i:Int}{v:α}(h:`DP=`bQ):∃j,seqIndex? i `_=`RI/\`MW=`bQ/\j<`_/\-`sI<=i/\`tX:=by
 unfold atI at h;cases e:`aAK with
 | none=>rw[e] at h;cases h
 | some j =>
  rw[e] at h;let#[h1,h2,h3,h4]:=Jt0 e;exact#[j,h1,h,h2,h3,h4]
def mw0(b:`I):Prop:=`aCk b
def IxR(X:Cx)(r:R2):Prop :=
 ∀(value slice:`I) (pins:`aC) (s:`u) (σ:St) (H:Hp) (x y:V) (v u:`B) (Q:VK),`A->`lE->`f0->`O8 ->
  `RM `tY `m v u=`ab' [v,u] (`py v u)->`cs (`aNN `he `tY v u) `fQ
def MtR(X:Cx)(id:`bJ)(r:`iJ):Prop :=
 ∀(pins:`aC) (s:`u) (σ:St) (H:Hp) (x:V) (xs:`V) (v:`B) (us:`J) (Q:VK),`A->`lE->`es->r x xs H Q ->
  `aN3
section
variable{a:`I}
def IxR.or{r r':R2}(h:`ajI)(h':IxR X r'):IxR X `aLG:=by
 intro value slice pins s σ H x y v u Q I rx ry q hs;apply `Q7
 ·exact `aN4 h
 ·exact `aN4 h'
def S80{r:R2}(hr:`ajI)(ha:`lz)(hb:`yu)(hs:mw0 b):PE X `F7 `Q4:=by
 apply `bm;exact `RD (Lx0 ha hb I h λv u s2 x y H2 I2 rx ry q=>hr a b `s s2 σ H2 x y v u Q I2 rx ry q (hs _ _))
def Eq0(K:`x):R2:=`d5 (`aN5 `RN)
def G90(K:`x):R2:=`d5 (`aN5 `ajJ)
def Gh0:R2:=`d5 (∃z i c,x=`oN/\y=`bw/\`w?/\`aN6=`fu/\Q (`xc) H)
def U80:IxR X (Eq0 X.K):=by
 apply `ajK;skip;apply `aN7;cases rx;apply `ajL;apply `RO;apply `ajM;let#[w,ew,J]:=`qo h2;have hl:=`cb;have hn:=mn0;apply `aN8
 by_cases h0:0<=i
 ·have hj:`fN=j:=by
   rw[`aN1 h0 h5] at h1;exact A3 h1
  done;exact item_listR `nS h0 `j `aN9 fin hs
 ·have hj:(i+(`jE:Int)).toNat=j:=by
   rw[`aN2 `j h4] at h1;rw[`b5,← hl];exact A3 h1
  done;exact `aN' (x:=w) `aN! `ajN
   (wpAny_getItem_list_neg (Q:=`aN?) `nS `j `ajO `j `aN9 `aOa) hs
def Xt0:IxR X (G90 X.K):=by
 apply `ajK;skip;apply `aN7;cases rx;apply `ajL;apply `RP;apply `ajM;let#[w,ew,J]:=`qo h2;have hl:=`cb;have hn:=mn0;apply `aN8;done;exact `aN' (x:=w) pl.typeIs slot_tuple_getitem.lookup
  (getItem_tuple (j:=j) (Q:=`aN?) pl `j `j (`ajP hl h1) (`br ew) `aOa) hs
def Fx0:IxR X Gh0:=by
 apply `ajK;skip;let#[z,i,c,rfl,rfl,hz,he,q]:=h;apply `cv;apply `cU;apply `ajM;have hl:z.cps.toList.length=`ZF:=`fd Str.length
 rw[hl] at h1 h4 h5;have hn:=mn0;done;exact `ajA (c5 s z t) slot_str_getitem.lookup (getItem_str (c:=c) (by
  have e1:`ao (i < `aOb)=`m:=`ajQ;have e2:`ao (i ≥ 2 ^ 63)=`m:=`ajQ;rw[e1,e2,`Np]) (by rw[h1];simpa using h2) (`nf `xc)) hs
def rIx(K:`x):R2:=`d5 (`F8 Eq0∨`F8 G90∨Gh0 x y H Q)
theorem Dn0:IxR X (rIx X.K):=U80.or (Xt0.or Fx0)
def Xz0(lo hi:`aE)(n:Nat):(`ajR).1=(`aq (`kF n 0 lo))/\(`ajR).2.1=(`aq (`kF n n hi))/\(`ajR).2.2=1:=by
 refine`yH ?_
 ·cases lo with
  | none=>simp[`sx,`kF]
  | some i =>
   apply `aOc
   by_cases h:i<0
   ·simp only[h,`il]<;>lia
   ·simp only[h,`hp]<;>lia
 ·cases hi with
  | none=>simp[`sx,`kF]
  | some i =>
   apply `aOc
   by_cases h:i<0
   ·simp only[h,`il]<;>lia
   ·simp only[h,`hp]<;>lia
def ap0(its:`J)(lo hi:`aE):slicePick `b0 lo hi `f=(`h7 ((its.drop (`aOd)).take (`kF `pD `pD hi - `aOd))):=by
 let#[h1,h2,h3]:=Xz0 lo hi `jE;unfold slicePick;rw[h1,h2,h3];simp only[sliceRange_one,pick_run,`b5]<;>rfl
def Am0(K:`x):`tW:=`RC (∃a xs,`eu/\`sU/\`nP `eN H (`aOe))
def Je0:SlR X (Am0 X.K):=by
 apply `RE;skip;let#[a,xs,rfl,hx,q]:=h;cases rx;let#[its,r,ht,hz]:=`jb hx;have J:=`cb;done;refine#[`e2,_,`ajN,`aOf,?_];refine r50 ht.isList hs pl pu `aj `aS ?_ `ajO;rw[ap0,← J];refine`ajB `aOe `ajC;exact#[`aNU,_,0,`aNV,`gl]
def tm0:`aiV
 | `v=>`d
 | `b6=>`d
 | `cV=>`d
 | `cc=>`d
 | _=>`m
def eqV:V->`aiV
 | `v,y=>`ajS
 | .bl a,y=>`ajT
 | `F9,y=>`ajU
 | `jU,y=>`ajV
 | _,_=>`m
def Fq0{s:`u}{y x:V}{v:`B}(ry:`f0)(rx:`lE)(fy:tm0 y=`d)(fx:`ajW):`wD A s u v (`acN):=by
 cases y with
 | non =>
  cases ry;cases x with
  | non=>cases rx;exact o3 _
  | bl b=>cases rx;exact `aOg b
  | int b=>apply `cv;exact A50 b t
  | str b=>apply `cv;exact A60 b t
  | _=>apply `RQ
 | bl a =>
  cases ry;cases x with
  | non=>cases rx;exact `aOh a
  | bl b=>cases rx;exact `aOi a b
  | int b=>apply `cv;exact `aOj a b t
  | str b=>apply `cv;exact `aOk a b t
  | _=>apply `RQ
 | int a =>
  apply `cU;cases x with
  | non=>cases rx;exact A70 a t'
  | bl b=>cases rx;exact `aOl a t' b
  | int b=>apply `cv;exact A80 a t' b t
  | str b=>apply `cv;exact r8 a t' b t
  | _=>apply `RQ
 | str a =>
  apply `cU;cases x with
  | non=>cases rx;exact A90 a t'
  | bl b=>cases rx;exact `aOm a t' b
  | int b=>apply `cv;exact r9 a t' b t
  | str b=>apply `cv;exact B00 a t' b t
  | _=>apply `RQ
 | _=>exact `rt `A0 fy B7
def eqU(x:V)(u:`B):`C:=match u with
 | `aj=>eqV `v x
 | `e' b=>eqV `lg x
 | `g i _=>eqV `d_ x
 | `t z _=>eqV `tb x
 | _=>`m
def Qa0{x y:V}(r:`f0)(f:tm0 y=`d):eqU x u=`acN:=by
 cases y with
 | non=>cases r;rfl
 | bl b=>cases r;rfl
 | int i=>apply `j7;rfl
 | str z=>apply `j7;rfl
 | _=>exact `rt `A0 f B7
theorem mr0{x:V}:∀{xs:`V} {us:`J},`es->`RR->us.any `O?=`aOn
 | _,_,`R,_=>rfl
 | y::xs,u::us,`nG,f=>by
  rw[`nT,`bg] at f;rw[`qq,`qq,Qa0 r f.1,mr0 t f.2]
theorem tq0{s:`u}{x:V}{v:`B}(rx:`lE)(fx:`ajW):∀{xs:`V} {us:`J},`es->`RR->∀u∈us,`wD A s u v (eqU x u)
 | _,_,`R,_=>λu hu=>by cases hu
 | y::xs,u::us,`nG,f=>λu' hu=>by
  rw[`nT,`bg] at f;rcases `cy hu with rfl|hu
  ·rw[Qa0 r f.1];exact Fq0 r rx f.1 fx
  ·exact tq0 rx fx t f.2 u' hu
def inV(x:V)(xs:`V):`C:=`aOn
def rIn(K:`x)(neg:`C):R2:=`d5 (∃p xs,y=`gU/\(`RN∨`ajJ)/\`ajW/\`RR/\`to (`w neg (!inV x xs) (inV x xs)))
def a90:`fD .In (rIn X.K `m):=by
 apply `fk;skip;apply `aOo;cases ry;apply `RS
 ·apply `RO
  done;refine `RT SeqAt.in_listAt `nS;apply `RU;exact q
 ·apply `RP
  done;refine `RT SeqAt.in_tupleAt pl;apply `RU;exact q
def Y20:`fD `yx (rIn X.K `d):=by
 apply `fk;skip;apply `aOo;cases ry;apply `RS
 ·apply `RO
  done;refine `RT SeqAt.notIn_listAt `nS;apply `RU;exact q
 ·apply `RP
  done;refine `RT SeqAt.notIn_tupleAt pl;apply `RU;exact q
def jd0:`fK X `ajX (`iv (`RV `ae5 `ae6 `aOp)):=by
 apply `nN;skip;let#[p,ys,rfl,hq,q]:=h;apply `RW;cases rx;have hn:=mn0;apply `RS
 ·apply `ajY
  have J:=`pZ;done;exact Calls.call_len_list `nS `RX `aOq
 ·apply `ajZ
  have J:=`pZ;done;exact len_tuple pl `RX `aOq
def Xc0:`fK X `ajX (`iv `aOr):=by
 apply `nN;skip;let#[z,rfl,hz,q]:=h;apply `ai1;have hn:=mn0;done;exact len_str `j (`nf `acO)
def CallR.or{f:`B}{r':`kv}(h:`fK X f r)(h':`fK X f r'):`fK X f (`iv (`Q1∨r' xs H Q)):=by
 intro pins s σ H xs us Q I rs q;apply `Q7
 ·exact `aOs h
 ·exact `aOs h'
def oy0:`fK X `Do (`iv (`RV `ae5 `ae6 `aOt)):=by
 apply `nN;skip;let#[p,ys,rfl,hq,q]:=h;apply `RW;cases rx;have fin:∀(its:`J),`aOu->`RY->∀(h':`D) (c':Nat),(∀b o',`rl=`Lq->`vs=`Lq) ->
   `aj_=`c (`xZ `b0 c')->`sW `jT `kE:=λits r' hz h' c' kp e =>
  #[`ml,_,`tT (t':=`cp) kp `bL (show `xm _ _ `rL from #[hz,its,c',r',e]),rfl,`ajC]
 apply `RS
 ·apply `ajY
  have J:=`pZ;let#[o,ho,hc,n,hd]:=`nS;done;exact `aOv `dI
 ·apply `ajZ
  have J:=`pZ;let#[o,ho,hc,n,hd]:=pl;done;exact `aOv `nU
def zu0:`fK X `NP `aOw:=by
 apply `nN;skip;let#[p,ys,rfl,h]:=h;apply `RW;cases rx;rcases h with⟨hq,q⟩|⟨hq,q⟩
 ·apply `ajY
  have J:=`pZ;done;refine call_tuple_list `nS (λh' kp=>?_) `RX;have I1:`DI:=I.kept (t':=`cp) kp;have I2:`a8 (upd H `DQ `Lh) ((`e4 s (`aj0 (`h6 `fH `b0)))) :=
   `MS (t':=`cp) (`v5) `bL (show `iB `cD X.w _ _ _ `Lh from #[hz,its,r',`ajD])
  exact#[`aOx,_,I2,rfl,q _ (`O7)]
 ·apply `ajZ
  done;exact call_tuple_same pl (`hd `gU q)
def tyV(K:`x)(T:`bJ)(x:V)(H:Hp):Prop:=match x with
 | `cc=>T = `j9
 | `cV=>T = `j8
 | `gU=>(T = `e2/\∃xs,`RN)∨(T = `eC/\∃o,`bH p=`ay/\`Qp/\`Qq) ∨
   (T = `K8/\((∃kvs,`afv)∨∃kvs,H p=`aBm))∨(T = "set"/\∃S n,H p=`c (.set S n))
 | _=>`bW
def Qc0{σ:St}{s:`u}{T:`bJ}{x:V}{v:`B}(I:`A)(r:`lE)(ty:tyV X.K T x H) :
  `r7 v T/\∀a,`M5->∃ob,`J8=`Qv/\`aOy:=by
 skip;cases x with
 | str z =>
  apply `j7;cases (show T = `j9 from ty);done;exact#[c5 s z t,λ_ e=>nomatch e]
 | int i =>
  apply `j7;cases (show T = `j8 from ty);done;exact#[j3 s i t,λ_ e=>nomatch e]
 | ref p =>
  cases r;rcases ty with⟨rfl,xs,hq⟩|⟨rfl,o,hk,hc,hd⟩|⟨rfl,hk⟩|⟨rfl,S,n,hk⟩
  ·let#[its,_,pl,_]:=`v7
   done;refine#[`aN!,λa e=>?_];skip;cases e;let#[o,n,e,c,hd,_]:=pl;done;exact#[o,e,hd]
  ·done;refine#[#[o,`fM p o hk,hc],λa e=>?_]
   cases e;exact#[o,`fM _ o hk,hd]
  ·have z:∃o,`dn p=`ay/\`aOz:=by
    rcases hk with⟨kvs,hk⟩|⟨kvs,hk⟩
    ·skip;apply `aOA
     done;exact`aOB
    ·skip;apply `aOA
     done;exact`aOB
   let#[o,e,ex]:=z;done;apply `aOC;cases e2;exact`aOD
  ·let#[o,_,_,_,e,ex,_]:=`aAM
   done;apply `aOC;cases e2;exact`aOD
 | _=>done;exact `fW ty
def Av0(K:`x)(T:`bJ)(r:`iJ)(to:TE):TE:=`bu to λx H1=>`aOE/\r x [] H1 Q
def tBM(K:`x)(T:`bJ)(r:`iJ)(to:TE)(t:TA):TE:=`bu to λx H1=>`aOE/\t σ H1 λxs H2=>r x xs H2 Q
variable{to:TE}{t:TA}{T id:`bJ}{r:`iJ}
def Q70(pa:`aOF)(slot:`aOG)(hty:`aj1)(hm:`aj2)(ho:`aib)
  (hbase:`aj3) (hline:`gG):PE X (`tt `aj4 []) (Av0 X.K T r to):=by
 apply `bm;refine wpAny_Call_method0_late `gH `iK (thn `FP λv s1 hq43=>?_);skip;let#[x,H1,I1,r1,ty,q1]:=hq43;let#[h1,h2]:=Qc0 I1 r1 ty;done;exact`aOH (C80 rfl (PySem.evalArgs_none (hm `s s1 σ H1 x [] v [] Q I1 r1 `R q1)))
def pe0(pa:`aOF)(slot:`aOG)(hty:`aj1)(hm:`aj2)(ho:`aib)(ha:`ql)
  (hbase:`aj3)
  (hfew:`F ((`Zv `Y4
  &&`KR `aj5)=`d) Aa)
  (hline:`gG) (hs:`dB) (hplain:`F (`aOI=`m) Aa) :
  PE X (`tt `aj4 `gX) (tBM X.K T r to t):=by
 apply `bm;refine wpAny_Call_method_late `gH hfew `iK rfl (thn `FP λv s1 hq44=>?_);skip;let#[x,H1,I1,r1,ty,q1]:=hq44;let#[h1,h2]:=Qc0 I1 r1 ty;done;refine`aOH ?_;have hA:=ha `kA `s s1 σ H1 _ I1 q1;rw[hs] at hA ⊢;refine C80 (by show (`m||`aOI)=`m;rw[`qr]<;>rfl) (C90 ?_);exact thn hA λus s2 #[vs,H2,I2,r2,q2]=>hm `s s2 σ H2 x vs v us Q I2 r1 r2 q2
universe zz
def MtM(X:Cx)(id:`bJ)(r:`iJ):Prop :=
 ∀(pins:`aC) (s:`u) (σ:St) (H:Hp) (x:V) (xs:`V) (v:`B) (us:`J) (Q:VK),`A->`lE->`es->r x xs H Q ->
  `aN3
def Vals.one:∀{x:V} {us:`J},`aLN->`aLO:=by
 intro x us h
 cases h with
 | cons r t=>cases t;exact`ayo
def Vals.two:∀{x y:V} {us:`J},`bO [x,y] us->∃u v,us=[u,v]/\`jP/\`ea y v:=by
 intro x y us h
 cases h with
 | cons r t=>cases t with
  | cons q t=>cases t;exact`lI r q
theorem Vals.zero:∀{us:`J},`bO [] us->us=[]
 | _,`R=>rfl
def Vals.dropLast(h:`es):`bO `aaZ us.dropLast:=by
 induction h with
 | nil=>exact `R
 | cons r t ih =>
  cases t with
  | nil=>exact `R
  | cons q t'=>exact `Fv
def Vals.reverse(h:`es):`bO `RZ us.reverse:=by
 induction h with
 | nil=>exact `R
 | cons r t ih=>rw[`fl,`fl];exact `aOJ ih (`aa r `R)
theorem Vals.rep(h:`es):∀k:Nat,`bO `aOK (`k3 k us)
 | 0=>`R
 | k+1=>by
  rw[`eV,`eV,`iL,`iL];exact `aOJ h (Vals.rep h k)
def Tu0(l:`bd):l.eraseIdx (`cP - 1)=l.dropLast:=by
 induction l with
 | nil=>rfl
 | cons a r ih =>
  cases r with
  | nil=>rfl
  | cons b r =>
   have e:`aOL - 1=(`aOM - 1)+1:=by
    have h1:`aOL=`cb+2:=rfl;have h2:`aOM=`cb+1:=rfl;lia
   rw[e,List.eraseIdx_cons_succ,ih]
   all_goals rfl
theorem foldl_rep(its:`J):∀(k:Nat) (acc:`J),
  List.foldl (λx1 x2=>x1++x2) `aON (`cr k `b0)=(`h7 (acc++`aOO))
 | 0,acc=>`a_
 | k+1,acc=>by
  have e:`aON++`b0=(`h7 `aj6):=`a_
  have e2:(`aj6)++`aOO=acc++(`k3 `ef its):=by
   rw[`eV,`iL,`ca]
  rw[← e2,← foldl_rep its k (`aj6),← e,`eV,List.foldl_cons]
section
variable{σ:St}{s:`u}{l b:`e}{ys zs:`V}
def Inv.lset{its its':`J}{n:Nat}{f:`a1->`a1}{t':Nat}(I:`A)(hH:`R_)
  (e:`aOP) (hf:f `b0=its'.toArray) (hv:`bO ys its') (hz:`RY) :
  `a8 (upd H l `rL) ((`hR (`s? l (`sb f)) t')):=by
 have q:=PySem.IsL.update e f;rw[hf] at q;refine `ai' (x:=l) (e:=l) (`l hH `m3) `dI (λb' u hb hu=>(E6 `aB (`sb f) (A9 hb)).trans hu) `j' ?_;exact#[hz,its',_,hv,q]
theorem Inv.lnew{its:`J}{t':Nat}(I:`A)(hv:`aOu)(hz:`RY) :
  `a8 (upd H `U `rL) ((`hR (`h_ (`h6 `h0 `b0)) t')) :=
 `tT `aj7 `bL #[hz,its,0,hv,`gl]
theorem Inv.fresh(I:`A):H `U=`f:=`_m
def Inv.lstM(I:`A)(hH:`R_):`ag6 (`_=`pD/\`aOP):=by
 let#[z,its,n,r,e]:=`bR l _ hH;exact#[z,its,n,r,`cb,e]
def Li0(h:`yI):`R0 n=`m:=by
 apply `aOQ;exact `ajQ
universe zz
def Io0:`iJ:=`aOR [y] (`_<`W/\Q `v (upd H l (`o (xs++[y]))))
def nq0:MtM X `aOS Io0:=by
 apply `F';skip;let#[l,xs,y,rfl,rfl,hH,hz,q]:=h;cases rx;apply `R1;apply `aj8;done;refine Q1 F.slot_list_append `aj9 F.entry_list_append (F.args_list_append_2 _ _) (PySem.list_append l `b0 n u `xo) #[e,?_];refine`aOT [u] (`aa ru `R);apply `mQ;lia
def Ar0:`iJ:=`aOR [] (xs[`_ - 1]?=`ee/\Q y (upd H l `aj'))
def Qv0:MtM X "list.pop" Ar0:=by
 apply `F';skip;let#[l,xs,y,rfl,rfl,hH,hy,q]:=h;cases rx;have J:=rv.zero;subst J;apply `aj8;let#[u,hu,ru]:=`qo hy;have O:`b0[`jE - 1]?=`bf:=by
  show `b0[`pD - 1]?=`bf;rw[← `aOU,← hl];exact hu
 done;refine Q1 F.slot_list_pop `aj9 F.entry_list_pop (F.args_list_pop_1 _) (MeetsSeq.list_pop_last l `b0 n u O `xo) #[e,?_];refine#[y,_,I.lset (its':=its.dropLast) hH e ?_ r.dropLast ?_,ru,q]
 ·show its.toArray.eraseIdxIfInBounds (`jE - 1)=its.dropLast.toArray
  rw[`b5,List.eraseIdxIfInBounds_toArray,Tu0]
 ·rw[List.length_dropLast]
  lia
def len_rep(xs:`bd)(k:Nat):(`aaa `aAN)=k*`_:=by
 induction k with
 | zero=>simp
 | succ k ih=>rw[`eV,`iL,`Y,ih,Nat.succ_mul,Nat.add_comm]
universe L2
namespace Att
open PySem.W PySem.Calls PyProof.Rows
def ew0{P:`acR}{h:`D}:∀(ns:`S) (vs:`J),WellAll P h vs (`oA WData.int)->`F!:=by
 intro ns
 induction ns with
 | nil =>
  intro vs w;rw[`nl] at w;cases w;exact `R
 | cons n ns ih =>
  intro vs w;rw[`ab] at w;cases w with
  | cons a b =>
   cases a;exact `aa _ _ (ih _ b)
def Ov0{l:`aj!}(hn:`R2){P:`acR}{h:`D}{args:`af WData}{vals:`J}
  (hpre:l.row.toRowW.claim.pre args=`d) (hwl:WellAll P h vals args) :
  ∃a vs ns,vals=[`rH]/\args=[WData.list (`oA WData.int)]/\`i2=`aAO/\`F!/\`R3:=by
 skip;have O:WShape.hasAll [] args [.list `g]=`d:=(`aOV).1;have hc:l.pre.holds [] { args:=args }=`d:=(`aOV).2;let#[d,r,rfl,h1,h2]:=hasAllW_cons O;obtain rfl:=hasAllW_nil h2;let#[xs,rfl,h3]:=hasW_list h1;let#[ns,rfl]:=items_int h3;have J:`R3:=by
  unfold OpenLaw.pre at hc;have h4:(WTm.not (.lt (.lit `mf) (.len (.arg 0)))).holds [] { args:=[.list (`oA `g)] }=`d:=by
   have h4:=(holds_andW hc).1;rw[hn] at h4;exact h4
  have h5:=condW_of h4 (w_not (w_lt w_lit (w_len_list (w_arg rfl))));rw[`P] at h5;refine w20 λq=>?_
  have q':`cl<((`gh:Nat):Int):=`dF
  first
   | (rw[`bU q'] at h5;exact `L h5 `r)
   | (simp at h5;omega)
 cases hwl with
 | cons w1 w2 =>
  cases w2;cases w1 with
  | list ho hall=>done;exact#[_,_,ns,rfl,rfl,ho,ew0 ns _ hall,J]
theorem Pi0(l:`aj!)(args:`af WData):l.row.toRowW.claim.post args `ER args=`d :=
 postW_of (r:=`aOW) (X:=`aOX)
  (show WShape.has [] `ER `e'=`d by first|rfl|decide|simp[WShape.has,WShape.arms,WShape.armsAll])
  (show (WTm.eq .res (.lit `ER)).value [] { args:=args,res:=`c `ER,after:=args }=`c (`e' `aOX) from w_eq_bool (w_res rfl) w_lit) rfl
def V10{l:`aj!}{n:Nat}{q:`ak}{loose:`h}{XP:`Ff}{YP:`Fg}{d:DefRec}
  (hn:`R2) (hdf:`aj?)
  (call:∀(w:`O) (s₀ s₁:`u) (mg mb:`a6) (fa:`e) (o:Obj) (pm cd doc:`B) (a:`e) (vs:`J) (ns:`S),
   Ground q loose [] XP w s₀ mg mb `oZ->YP w `oZ ->
   `MZ fa=`ay->`pi=`cC (docDef `aa_ d.params d.body d.scope pm cd doc)->s₁.heap.CodeRec cd `aa_->`aka ->
   `aOY->`F!->`R3->`aOZ ->
   `aAP (`AT `bE w)) :
  `aAQ WalkO:=by
 intro w s₀ s₁ mg mb G Y fa o pm cd doc dV kV ho hd a3 hD a2 hg args vals as Z a4 a6 a1 a5;skip;obtain rfl:dV=`aj:=Dflts.none hD hdf;obtain rfl:kV=`aj:=Dflts.noKw hD;let#[a,vs,ns,rfl,rfl,O,J,U]:=Ov0 hn Z a1;done;refine enter_call (K2 (`dQ w s₀ `eT mg mb fa o pm cd doc a vs ns G Y ho (fd_plain hd) a3 a2 O J U hg) `yJ);let#[rfl,h2,h3,h4]:=hq;exact#[`n #[`J6,`J6,[],rfl,`j_,`J6,Pi0 l _,λ_=>#[`aBI,λ_ hm=>(nomatch hm)]],h2,h3,h4]
universe Att
namespace L2
open Spec PyProof.Rows
theorem cy0:∀{vs:`J} {ns:`S},`F!->`bO `CX vs
 | _,_,`R=>`R
 | _,_,`aa n t h=>`aa `R4 (cy0 h)
def Only(H:Hp):Prop:=∀b,`dw∨∃o xs,H b=`LF
def Mx0{P:`ak}{w:`O}{K:`x}{mg mb:`a6}{CX:CXT}{k:Nat}{fa a:`e}{fd:`fY}{x:Str}{sp:Sp}{s₁:`u}{vs:`J}{ns:`S}
  (KX:K.In `oZ) (hns:`akb `gf mg) (hb:`akb `ahu mb) (hbb:`aI?) (hlim:s₁.heap.NoLimit) (hg:`aOZ)
  (ha:`aOY) (hi:`F!) (hl:`aL_) (hr:`akc)
  (F:∀base:`D,`aht->`Qx->`lH P w K mg `au CX k fa fd [x] sp) (hbind:`akd)
  (hsp:∀H:Hp,Only H->`ake->sp `en H `akf `vF)
  (hCX:∀H e s',CX [] H `eT `yK e s'->`bW) :
  `aO_:=by
 have rv:=cy0 hi;have a1:=hi.length;have U:∀H:Hp,Only H->`ake->HOk P w H `oZ->(∀b,`akg->b=a)->(H a≠`f->`bH a=`f) ->
   `aO_:=by
  intro H hO hS hok hA hK;have J:∀{b:`e} {o:Obj},`MZ b=`ay->`dw->`qs `F?:=λe n=>Mj0 e n
  have a2:∀{b:`e} {o:Obj} {es:`AU DictEntry} {ep:Nat},`MZ b=`ay->`aO0->`dw:=λ{b o es ep} e d=>by
   cases q:H b with
   | none=>rfl
   | some u =>
    have e':b=a:=`aO1;subst e';rw[ha] at e;cases e;have d':Data.seq `st _=Data.dict es ep:=d;cases d'
  have O:∀{b:`e} {m:`a6},`akb b m->(`F?).Ns b m:=λ{b m} #[o,es,ep,e,d,r]=>#[o,es,ep,J e (a2 e d),d,r]
  have Y:K.In (`F?):=λb o e=>J (KX b o e) (by
   cases q:H b with
   | none=>rfl
   | some u =>
    have e':b=a:=`aO1;subst e';rw[hK (`acQ)] at e;cases e)
  have hM:Mod K mg (`F?):=#[Y,O hns,#[mb,O hb,hbb],let #[mc,h1,h2]:=hlim;#[mc,O h1,h2]];have e0:Env0 P w K mg (`F?) `LB [] `eT H:=#[rfl,hM,`kD (G40 e),K0 (Rf0 _ _),`m3,λb hb=>`rt `acI hb `aS,hok,.of_eq hg];refine K2 ((F _ Y (O hns)).run `LB [] `eT H `aO2 `en `en _ _ hr e0 (hbind `eT `b') `akh (hsp H hO hS)) λr s' h=>?_
  skip;cases r with
  | error e=>done;exact(hCX H e s' h).elim
  | ok fl =>
   cases fl with
   | next=>done;exact `fW h
   | brk=>done;exact `fW h
   | cont=>done;exact `fW h
   | ret u =>
    let#[v,H',os,bare,un,Z,r',q]:=h;have q':v=`jn:=q;subst q';obtain rfl:u=`R5:=r';done;refine#[rfl,OldK.of_keep `aO3,os,bare];skip;cases q:H b with
    | none=>done;exact un.keep b o e q (by intro z;exact `aM7) `aS
    | some u =>
     rcases hO b with z|⟨ob,xs,z⟩
     ·rw[q] at z;cases z
     ·have z2:=un.frzs b ob _ z
      let#[e1,_]:=hok b _ z;let#[e2,_]:=Z b _ z2;rw[e] at e1;cases e1;done;exact e2
 cases hk:`bH a with
 | some o =>
  have e:=KX a o hk;rw[ha] at e;cases e;refine U (`yg) (λ_=>`mh) (`q #[_,`st,_,hk,rfl,rfl,rfl,`gs `b5 a1 hl,`aKE]) (λb u z=>by have z':(`f:`tG)=`bf:=z;cases z') (λb z=>`aO4) λz=>`aO4
 | none =>
  refine U (λb=>`aW (b=a) (.frz `abY (`o `CX))) (λb=>?_) (`n (`q #[`abY,`bl])) (λb u z=>?_) (`Nk) λ_=>hk
  ·apply `nI
   ·exact `q #[_,_,`fm]
   ·exact `n (`ev)
  ·apply `nI
   ·have z':=(`fm).symm.trans z
    cases z';subst hb;exact#[ha,`l `P hl,vs,_,rv,ha]
   ·have z':=(`ev).symm.trans z
    cases z'
  ·apply `nI
   ·exact hb
   ·exact `L (`ev) z
def Hr0{l:`aki}{n k:Nat}{q:`ak}{loose:`h}{XP:`Ff}{YP:`Fg}{d:DefRec}{K:`aO5}{CX:`O->CXT}{sp:`O->Sp}{x:Str}
  (hn:`R2) (hn2:`yI) (hdf:`aj?) (hr:`akc)
  (hY:`aO6)
  (F:∀(w:`O) (mg:`a6) (fa:`e) (h:`D),`M_ h->`Fn->`aka ->
   ∃fd:`fY,(`akd) /\
    `aO7 (CX w) w)
  (hsp:`aO8 (Only H->`aO9 w))
  (hCX:∀(w:`O) (H:Hp) (s:`u) (e:`B) (s':`u),CX w [] H s `yK e s'->`bW) :
  `aO':=by
 refine Att.V10 hn hdf λw s₀ s₁ mg mb fa o pm cd doc a vs ns G Y ho hd a1 Z U O J hg=>?_
 have KX:=hY w _ Y;let#[fd,hb,hF]:=F w mg fa _ KX G.T.g Z;exact Mx0 KX G.T.g G.T.b G.T.builtins G.T.nolimit hg U O (C0 J hn2) hr hF hb (λH hO hS=>hsp w H a ns J hO hS) λH e s'=>hCX w H `eT e s'
def U5(s:`a4):Arguments:=match s with
 | `akj a _ _=>a
 | _=>{ posonlyargs:=[],args:=[],vararg:=`f,kwonlyargs:=[],kw_defaults:=[],kwarg:=`f,defaults:=[] }
def X8(s:`a4):`b7:=match s with
 | `akj _ b _=>b
 | _=>[]
def o4(s:`a4):`cR:=match s with
 | `akj _ _ sc=>sc
 | _=>{ kind:=`sK,names:=[],isGenerator:=`m,isCoroutine:=`m }
abbrev CX0:CXT:=λ_ _ _ _ _ _=>`bW
abbrev E0:XK:=`vF
theorem no0:og0 CX0 X E0:=λ_ _ _ _ _ _ _ h=>`kT
structure Fun(K:`x)(x qual:Str)(st:`a4)(f:`e)(fd:`fY):Prop where
 ex:∃(oc:`B) (od:`bt) (kV doc pm:`B) (an:`bt) (cdv ct:`B) (osl:`j2),
  fd=`R6/\`Rt fd/\`ajr
 kp:`Rb
section
variable{P:`ak}{w:`O}
def Fun.ok{st:`a4}{f:`e}{k:Nat}(F:`aO!)(S:`yL)(len:`ajf)
  (hbody:∀(cdv:`B) (A:`cf) (outer:`eS) (s:`u) (H:Hp) (vs:`V) (Q:VK) (E:XK),`_q `rU f->`Lw ->
   ∃t,PSs (`Me CX0 N f).nox `R7 t/\`aNa):`R8 `ef ps sp:=by
 skip;let#[oc,od,kV,doc,pm,an,cdv,ct,U,rfl,lk,O]:=F.ex;done;refine Ti0 lk O S len λA outer s H vs Q E hr J=>?_
 let#[t,h,q]:=hbody cdv A `da s H vs Q E hr J;exact#[t,h.nox,q]
def Fun.binds{st:`a4}{f:`e}{ps:`h}(F:`aO!)
  (h:∀(kV doc pm:`B) (an:`bt) (cdv ct:`B) (us:`J),`aMC (`R6)):`BY:=by
 skip;let#[oc,od,kV,doc,pm,an,cdv,ct,O,rfl,lk,J]:=F.ex;done;exact .all (h kV doc pm an cdv ct)
theorem J8{st:`a4}{f:`e}{osl:`j2}{kV:`B}(l:`Rt (`R6))
  (c:`ajr) (k:`Rb):Fun K x `je st f (`R6):=#[#[oc,od,kV,doc,pm,an,cdv,ct,osl,rfl,l,c],k]
universe zz
theorem wc0{k:Nat}(hr:`F3):`Ga:=N3 (Nat.add_le_add_left (`av:1<=64) _) `R9
structure Same(H H':Hp):Prop where
 old:`aO?
 nf:∀b o xs,`aPa
instance{H H':Hp}:`fn `bb `aO?:=#[Same.old]
theorem Same.refl(H:Hp):`c1 H H:=#[λ_ _ h=>h,λ_ _ _ h=>h]
theorem Same.trans{H1:Hp}(a:`c1 H H1)(b:`R'):`c1 H H2:=#[λc o h=>b c o (a c o h),λc o xs h=>a.nf c o xs (b.nf c o xs h)]
def Same.free(e:`bb){l:`e}(h:H' l=`aPb):H l=`aPb:=by
 cases q:H l with
 | none=>rfl
 | some o =>
  rw[e l o q] at h;cases h
def Its(x:Str):It:=#[λi _=>i<`Gb,λi H v H'=>H'=H/\∃c,`akk=`fu/\v=`xc,λi _=>`Gb<=i]
theorem Y70{P:`ak}{w:`O}{K:`x}{tg:`I}(it:`e)(T:`bJ)(hT:T = `aPc∨T = `aPd)(x:Str)(t:Tok) :
  `QX (Its x) (h.IsStrIter it T x t i) where
 mem:=`a_
 obj:=λi h st b hb=>by
  apply `FG
  subst e;apply `aix;apply `aiy
 keep:=λi h h' st k=>by
  let#[o,e,r]:=st;exact#[o,`aAk,r]
 item:=by
  apply `lC;skip;apply `lD;have U:i<`Gb:=hg;have hx:`akk=`c x.cps[i]:=by simp[U]
  apply `qh;have fin:∀h',h'.IsStrIter it T x t `fE->`DG it ->
    ∃u,(`c (`L? `aPe `cp))=`bf/\`aD `cI X.A `air (λ_ s2=>∃x_1 H',`ais/\`ea x_1 u/\(Its x).yld i H x_1 H'/\s2.heap.IsStrIter it T x t `fE/\∀b∈[it],`oQ) E `R!:=by
   intro h' J sb;have I1:`a8 H `R!:=`aiE `aeZ f0 f1 f3 f4 f5;apply `aiC;refine`qj (Zd0 (s:=`R!) (n:=T) e c d (`aw1 hT) #[`t `aPe,H,I1,`ad,#[rfl,_,hx,rfl],J,`aiF])
  rcases hT with rfl|rfl
  ·done;exact wpAny_pyNext_ascii_item st hx `aPf
  ·done;exact wpAny_pyNext_wide_item st hx `aPf
 done:=by
  apply `lC;skip;apply `lD;have O:`Gb<=i:=hg;have hx:`akk=`f:=by simp[O]
  apply `qh;rcases hT with rfl|rfl
  ·done;exact wpAny_pyNext_ascii_end `lB st hx `FS
  ·done;exact wpAny_pyNext_wide_end `lB st hx `FS
 self:=λ_ _ _ _ _ st h=>by
  rcases hT with rfl|rfl
  ·exact wpAny_pyIter_striter_ascii st h
  ·exact wpAny_pyIter_striter_wide st h
def Aw0(te:TE):TI:=`FT te λv H1=>∃x,`R?/\R (Its x) H1
def Dk0(he:`gD):PI X tg e (Aw0 te):=by
 apply `FU;refine thn `lA λv s1 hq45=>?_;skip;let#[y,H1,I1,r1,q1]:=hq45
 let#[x,rfl,q]:=q1;apply `ajy;have fp:∀(o:Obj),∀b∈`akl,`Kv H1:=λo b hb=>by
  have e:b=`kJ:=`vQ
  subst e;apply `FV
 cases ha:x.cps.all (·<128) with
 | true =>
  done;exact `aPg wpAny_pyIter_ascii `aPc `dI
 | false =>
  done;exact `aPg wpAny_pyIter_wide `aPd `nU
def V3(X:Cx)(scope:`cR)(cl:`tZ)(N':`h)(s:`u)(H:Hp)(ex:`aY):Cx :=
 { X with N:=N',s₀:=s,H₀:=H,env:=compEnvC `eG cl `U `M,outer:=`g5,ex:=ex,fn:=λ_=>`m,pn:=[],xe:=`oJ }
structure CompOk(sc scope:`cR)(N N':`h)(n:Nat)(caps:`k):Prop where
 kind:`aPh
 nocell:∀y∈`hm,`aPi
 loc:∀y∈`hm,`aPj
 free:∀y∈`hm,`aPk
 nd:N'.Nodup
 len:`aPl
 cap:∀k∈`cn `xa,`aPm
def zg0(n:Nat)(caps:`k)(σ:St):St:=`cr n `f++`aPn
def Qn0(n:Nat)(caps:`k)(σ:St):`aPo=n+`xa:=`fd zg0
theorem ob0{env:Env}:∀(names:`aPp),(∀x∈`lJ,`aPq)->∀acc:`tZ,
  ∃cl:`tZ,(`D? `lJ acc (λ(x:`aAU) (cs:`tZ)=>if (x.2==`ky)=`d then do let a ← cellOf env x.1;`cj (`M2 ((x.1,a)::cs)) else `cj (`M2 cs)):Sem (`tZ))=`cj cl /\
   (∀y c,`akm->`M1 y=`fu∨`aPr)/\(∀x∈`lJ,`akn)/\(∀y c,`aPr->∃c',`LD y=`c c')
 | [],_,acc=>#[acc,rfl,λ_ _ h=>`q h,(λ_ h=>nomatch h),λ_ c h=>#[c,h]]
 | `ako,h,acc=>by
  skip;cases hk:(`abZ) with
  | true =>
   have hk':k=`ky:=`br hk
   let#[c,hc]:=h (n,k) A8 hk';let#[cl,e,h1,h2,h3]:=ob0 r (`t_) ((n,c)::acc);done;refine#[cl,?_,`aPs,`aPt,`aPs]
   ·rw[`adw]
    simp only[hk,`il,cellOf,hc,pure_bind];exact e
   ·rcases h1 y d hy with z|z
    ·exact `fG
    ·rw[`gI] at z
     cases q:(y==n) with
     | true =>
      rw[q] at z;cases z;have:y=n:=`aiI
      subst this;exact `n hc
     | false =>
      rw[q] at z;exact `q z
   ·apply `lK
    ·exact h3 n c (`fd `gI)
    ·exact h2 x hx hf
   ·by_cases q:y=n
    ·subst q
     exact h3 y c (`fd `gI)
    ·refine h3 y d ?_
     have:(y==n)=`m:=`aiI
     rw[`gI,`E];exact hy
  | false =>
   let#[cl,e,h1,h2,h3]:=ob0 r (`t_) acc;done;refine#[cl,?_,h1,`aPt,h3]
   ·rw[`adw]
    simp only[hk,`s',`hp,pure_bind];exact e
   ·apply `lK
    ·have:k=`ky:=hf
     rw[`E] at hk;exact `L hk `r
    ·exact h2 x hx hf
def nm0{env:Env}(h:∀x∈`hm,`aPq) :
  ∃cl:`tZ,closureFor `eG env=`cj cl/\(∀y c,`akm->`M1 y=`fu)/\∀x∈`hm,`akn:=by
 let#[cl,e,h1,h2,_]:=ob0 `hm h [];refine#[cl,?_,λy c hy=>(h1 y c hy).elim id `h',h2];simp only[closureFor];rw[← bind_pure (`D? _ _ _)] at e
 first
  | exact e
  | (refine Eq.trans ?_ e;rfl)
theorem rm0{env:Env}:∀(names:`aPp) (x:Str),
  (`CK `akp).lookup x =
   (names.lookup x).map λk=>`akq
 | [],_=>rfl
 | `ako,x=>by
  have ih:=@rm0 env r x;have l1:`iF x ((`ako).map `akp) =
    `iF x ((`w `aPu (n,`CY) (n,k))::r.map `akp):=rfl
  rw[l1,`gI (as:=r)]
  by_cases hc:`aPu
  ·rw[`akr,`gI]
   cases hx:x==n with
   | true =>
    have e:x=n:=`aPv
    subst e;show `c `CY=`c (`akq);rw[`akr]
   | false=>exact ih
  ·rw[`yM,`gI]
   cases hx:x==n with
   | true =>
    have e:x=n:=`aPv
    subst e;show `ff=`c (`akq);rw[`yM]
   | false=>exact ih
section
variable{w:`O}{R:`j3}{s:`u}
def X20{elt target iter:`I}{ifs:`bM}{scope:`cR}{pos:Pos}{it acc:`B}{env:Env}(I:`aks)
  (turn:∀n s,I n s->`aD `dd A (`Co it) (λr s₁=>match r with
   | `f=>R `aPw `eT
   | `bQ=>`aD `dd A (`aDX `Pb it v) (λ_ s₁'=>`aD `dd A (`ig `Pb env v) (λ_ s₂ =>
     `aD `dd A (`aPx (`L' c env (`bV c env))) (λok s₃ =>
      if ok=`d then `aD `dd A (`bV elt env) (λx s₄ =>
       `aD `dd A (`dQ (`co `aOS) [acc,x]) (λ_ s₅=>∃m,m<n/\I m s₅) `qt s₄) `qt s₃
      else ∃m,m<n/\I m s₃) `qt s₂) `qt s₁') `qt `eT) `qt s)
  (n:Nat) (h:I n s) :
  `oX (.compLoop `aPy 0 it acc env) s:=by
 refine codeAny_loop rfl I (λn s hI=>?_) n h;show `aD _ A ((compTurn `aPy 0 it acc env).onRaise (λx=>do `Gc x env;theTreesLotGoes x)) _ _ s;refine wpAny_noted ?_;rw[compTurn_list];refine `lw Y3 (D0 (turn n s hI) (λr s₁ h₁=>?_) `aPz);cases r with
 | none=>exact A1 h₁
 | some v =>
  refine `Gd h₁ λ_ s₁' J=>?_;refine `Gd J λ_ s₂ h₂=>`Gd h₂ λok s₃ h₃=>?_;cases ok with
  | false=>exact A1 #[rfl,h₃]
  | true =>
   exact A0 (`Gd h₃ λx s₄ h₄=>`Gd h₄ λ_ s₅ h₅=>A1 (A1 #[rfl,h₅]))
universe zz
def PF(X:Cx)(ifs:`bM)(t:TT):Prop :=
 ∀(pins:`aC) (s:`u) (σ:St) (H:Hp) (Q:`FI),`A->`sj ->
  `cs (`aPx (`L' c `M (`bV c `M))) `ahU
theorem Fu0:PF X [] λ_ H Q=>Q `d H:=`tN (wpAny_tests_nil #[H,I,h])
theorem Ge0{c:`I}{t:TT}(h:PT X c t):PF X [c] t:=λpins s σ H Q I q=>wpAny_tests_one (`b2 h Q q)
def Wk(σ σ':St):Prop:=`ahK/\∀(j:Nat) (v:V),`akt->σ'[j]?=`oY
def Zq0(n:Nat)(caps:`k)(wi:TI)(g:TG)(tt:TT)(te:TE):TE:=fun σ H Q=>wi σ H λJ H1=>∀D,H1 D=`f ->
 ∃W:`Sa,(`aPA H1)/\∀i m ys H2,`aku ->
  `aPB∨(J.go i H2/\∀x H3,`aPC->g x `fR H3 fun σ4 H4=>`aPD/\tt σ4 H4 λb H5 =>
   `aPE)
section
variable{wi:TI}{g:TG}{tt:TT}
def Bt0(X:Cx)(pins:`aC)(H:Hp)(C:`e):Prop :=
 H C=`f/\C≠`gb/\`pj<=C/\(`L9 C)/\∀p∈`vK,p.1≠C
def b40{pins:`aC}{σ:St}{H2:Hp}{s2:`u}{it:`e}{fp:`aY}{tn:`aio}{J:It}{cl:`tZ}{Q:VK}{RR:`B->`e->`j3}{E:`as}
  (hc:`ed) (hsc:`mA) (ok:`qu)
  (hcl1:∀y c,`akm->`aJb) (hcl2:∀x∈`hm,`akn)
  (hg:∀s H ex,`aAX) (ht:∀s H ex,`aAY) (he:∀s H ex,`aAZ)
  (I2:`aLm) (T:`aKQ) (st2:`aKR) (f2:∀b∈fp,`Kv H2)
  (q:∀D,H2 D=`f->∃W:`Sa,(`aPA H2)/\∀i m ys H2,`aku ->
   `aPB∨(J.go i H2/\∀x H3,`aPC->g x `fR H3 fun σ4 H4=>`aPD/\tt σ4 H4 λb H5 =>
    `aPE))
  (hend:∀(D C:`e) (H':Hp) (s':`u) (m:`a6),`nK->Bt0 X `s H' C->s'.heap.Ns C m->Q `tq H'->RR `tq C `aPw s') :
  `aD `cI X.A (`akv) (λacc s₃=>`aD `cI X.A (newFunctionEnv `eG `aeX cl [] X.env.qual `f `aj (`c `M)) (λcenv s₄ =>
   `p' `cI X.A (.compStart `pl 0 `tn acc { cenv with scope:=`awU }) (RR acc cenv.locals) s₄) E s₃) E s2:=by
 refine M1 (wpAny_newFunctionEnv ok.nocell (by intro y hy;simp at hy) (λh₁ Z Y=>?_) `DH);dsimp only at Z Y ⊢;obtain⟨D,hD⟩:∃D,D=`Ge:=`ad;have I3:`a8 (upd H2 `Ge `hS) `aPF:=I2.lnew (its:=[]) (t':=`acW) `R `lj;have e0:H2 `Ge=`f:=I2.fresh;let#[W,#[m0,w0],c0]:=q `Ge e0;generalize hs3:(`aPF:`u)=s3 at *;have a8:`aAV=s3.heap:=`Sb
 have h9:`acW=s3.toks:=`Sb
 rw[a8] at Z Y ⊢;generalize hH3:upd H2 `Ge (`_z [])=H3 at *;rw[← hD] at c0 hH3 e0 ⊢;have old:∀b o,`aPG->`akw:=`kD (`Sc b o `aia (`rN))
 have c3:∀b o,s2.heap.get? b=`ay->`aPG:=`kD (`cd a8 `rN)
 have e9:∀b∈fp,b<`w!:=λb hb=>by
  apply `aPH;exact A7 (c3 b o e)
 have g3:∀b∈fp,b≠D:=λb hb z=>by
  apply `aPH;rw[z,hD] at e;exact `L `CU `aPI
 obtain⟨X',O⟩:∃X',X'=`aPJ:=`ad;have okX:X'.Ok:=by
  subst O;refine#[I3.ok.mod,`DH,I3.ok.glob,I3.ok.blt,`gT,λx y c h1 h2=>I3.ok.inj x y c (hcl1 x c h1) (hcl1 y c h2),`j!,λx c h _=>`L h (by simp[V3]),I3.ok.hd,I3.ok.frames,`mh,
   λb hb=>#[`aPK,`aPL],`kD (I3.bs b o e),C0 I3.ok.bsz I3.sz,λb o e hb=>?_,λb hb hf=>?_,I3.stack,I3.stkFree]
  ·have a4:(`DS=`kX)∨(`DS=`ng):=hx
   have q2:=rm0 (env:=`M) `hm x;have q3:`aPM:=q2
   cases e:`v_ x with
   | none =>
    rw[q3,e] at a4;rcases a4 with z|z<;>cases z
   | some k =>
    have hk:k=`ky:=by
     rw[q3,e] at a4;have nc:=ok.nocell (x,k) (L4 e);cases k<;>first
      | rfl
      | exact `L rfl nc
      | (rcases a4 with z|z<;>simp at z)
    subst hk;exact hcl2 `akx (L4 e) rfl
  ·rcases `aPN with z|z
   ·exact I3.ok.noex b o e z
   ·exact `qa (A7 (I3.ok.bs b o e).1) z
  ·apply `aPO
   ·exact`aky z
   ·exact(`m2).2.2.1 z
 have I4:Inv X' [] `fR H3 `aPP:=by
  refine#[okX,?_,?_,?_,?_,`x_,?_,`x_,`gz,(`Pc (I3.hok.kept old)),?_]
  ·subst O;rfl
  ·exact I3.bare
  ·subst O;exact `Qw old
  ·subst O
   refine#[_,Z,`ahG];skip;have hi:n<=i:=by
    by_cases hi:i<n
    ·unfold zg0 at e2
     rw[`Rr,`qn,`Q hi] at e2;cases e2
    ·lia
   obtain⟨k,rfl⟩:∃k,i=n+k:=#[i - n,`G];have hk:k<`xa:=by
    have:=(`ds e1).1;have e5:(`aPJ).N.length=n+`xa:=ok.len;lia
   let#[c1,c2]:=ok.cap k (`lh hk);have e8:`acS=`c6:=e1;unfold zg0 at e2;rw[`aPQ,`qp,`aPR,`df] at e2;obtain⟨j,hj⟩:∃j,`ZO=`RI:=#[caps[k],by simp[hk]];rw[hj] at e2 c1;have h8:X.N[j]?=`c6:=by rw[← e8,c1];rfl
   have a3:`acT=`bQ:=A3 e2;have f3:`akt:=by
    cases q:`wh with
    | none=>rw[q] at a3;cases a3
    | some o=>rw[q] at a3;rw[show o=`bQ from a3]
   rw[e8] at c2;have U:`v_ x=`ng:=`br c2
   have b3:=ok.free `akx (L4 U) rfl;let#[m,hn,hl]:=I3.loc;let#[u,ru,l]:=hl j x v h8 f3 (by
    rcases b3 with z|z
    ·exact `q (`n `aPS)
    ·apply `j? `aPS)
   done;refine#[u,ru,`q `yN]
   ·have q3:`aPM:=rm0 `hm x
    rw[U] at q3;show `DS=_∨`DS=_;rw[q3]
    by_cases hcc:(`aao==`aao&&`aD7&&`aD8)=`d
    ·left;simp only[`k2,`Q hcc]
    ·right;simp only[`k2,`ag hcc]
   ·skip;let#[c',e6]:=hcl2 `akx (L4 U) rfl
    rcases l with⟨f6,_⟩|⟨_,c,g4,c4⟩
    ·have b2:`JT:=f6
     rw[hsc] at b2;done;rcases b3 with z|z<;>(rw[b2] at z;cases z)
    ·have:=hcl1 x c' e6
     apply `a3 g4;cases `E;let#[o,ho,hd]:=c4;done;exact#[_,e6,o,old _ o ho,hd]
  ·apply `aPT
   let#[v,o,ho,hd]:=I3.cell x c (hcl1 x c e');exact#[v,o,old _ o ho,hd]
  ·subst O;exact I3.hok.fresh `bL
  ·apply `aPT
   exact I3.freeC x c (hcl1 x c e')
  ·subst O;exact `aPU
  ·subst O
   show _=`aAT;rw[Qn0,ok.len]
 have a7:X'.calm=`d:=`Pc hc
 have a2:`aLi (ox0 X' [] H' b):=λ{H'} hn b hb=>by
  subst O;refine#[hn b hb,`aPK,λhf=>?_,`n hb,`aPL,λp hp=>`aPU];apply `aPO
  ·exact`aky z
  ·exact(`m2).2.2.1 z
 have g7:∀b∈fp,H3 b=`f:=λb hb=>by rw[← hH3,j4 (g3 b hb)];exact(`m2).1
 have d1:tn 0 h₁:=`aiM st2 (old b o (c3 b o e))
 have loop:∀s4:`u,s4=`aPP ->
   `p' `cI X.A (.compLoop `pl 0 `tn `tq X'.env) (RR `tq `w!) s4:=by
  rintro s4 rfl;refine X20 (λk s'=>∃i ys H',Inv X' [] `fR H' s'/\`aLj/\`Q0 k ys) ?_ m0 #[0,[],H3,I4,d1,g7,w0];rintro k s5 ⟨i,ys,H5,I5,c8,e7,w5⟩;have eP:X'.prog=`cD:=`Gf
  have ew:X'.w=X.w:=`Gf
  have eK:X'.K=X.K:=`Gf
  have eA:X'.A=X.A:=`Gf
  rcases c0 i k ys H5 w5 with⟨stop,qe⟩|⟨go,step⟩
  ·have T':=T.done X' eP ew eK a7 i [] s5 `fR H5 `qt I5 (a2 e7) c8 stop
   rw[eA] at T';refine thn T' λr s6 hq46=>?_;let#[hr,I6]:=hq46
   subst hr;have f7:Un (`yp) fp H3 H5 s3.heap s6.heap:=`Sd I6.base
   have g6:s6.os=s3.os:=`Sd I6.os
   have f1:`ww H5 s6.heap:=`Sd I6.hok
   have IX:`a8 H5 s6:=I3.call' g6 f7 f1 I6.bare λb hb=>#[`aPN,`aky,`aAW,(`m2).2.2.2.2.2]
   let#[m6,h3,_]:=I6.loc;have f5:s6.heap.Ns `w! m6:=`Pc h3
   refine hend D `w! H5 s6 m6 IX #[`Sd I6.free,C8 I3.lt,I3.sz,`aim,`ain] f5 qe
   ·let#[v,qc]:=I3.cell x c e
    exact `qa qc.lt `aPV
   ·exact `qa (A7 (I3.pin p hp).1) `aPV
  ·have T':=T.item X' eP ew eK a7 i [] s5 `fR H5 `qt I5 (a2 e7) c8 go
   rw[eA] at T';refine thn T' λr s6 hq47=>?_;let#[u,hr,h6]:=hq47
   subst hr;refine thn h6 λ_ s7 hq48=>?_;skip;let#[x,H7,I7,r7,y7,b1,g5]:=hq48
   have f8:=I7.pinned (a2 g5) (`ES _ _ b1);have e4:=hg s3 H3 fp;have d3:=ht s3 H3 fp;have d2:=he s3 H3 fp;rw[← O] at e4 d3 d2;have g1:=e4 _ s7 `fR H7 x u _ f8 r7 (step x H7 y7);rw[eP,ew,eA] at g1;have a5:X'.xe=`oJ:=`Gf
   rw[a5] at g1;done;refine thn g1 λ_ s8 hq49=>?_;let#[σ8,H8,I8,a6,q8]:=hq49
   have t1:=d3 _ s8 σ8 H8 _ I8 q8;rw[eP,ew,eA,a5] at t1;refine thn t1 λb s9 hq50=>?_;let#[H9,I9,q9]:=hq50
   have back:∀{σa:St} {Ha:Hp} {sa:`u} {b0:`V} {ma:Nat},Inv X' ([]++i00 fp s7.heap) σa Ha sa->σa.length=`aPo->(∀(j:Nat) v,`fR[j]?=`oY->σa[j]?=`oY)->W `fE ma b0 Ha ->
     ∃i ys H',Inv X' [] `fR H' sa/\tn i sa.heap/\`Q0 ma ys:=λ{σa Ha sa b0 ma} Ia hl hw wa=>by
    refine#[i+1,b0,Ha,(Ia.weak hl.symm hw).unpinned,`aiM b1 (`aPW).1,`js,wa];let#[o,e,d]:=`ES _ _ b1 b hb;exact(`aPW).2.1
   cases b with
   | false =>
    rw[`qf];rw[`qf] at q9;let#[m',hm,w9]:=q9;exact#[m',hm,back I9 a6.1 a6.2 w9]
   | true =>
    rw[`bl];rw[`bl] at q9;have e1:=d2 _ s9 σ8 H9 _ I9 q9;rw[eP,ew,eA,a5] at e1;refine thn e1 λv f9 hq51=>?_;skip;let#[y,h4,g9,h0,f4,f0,m',hm,h5]:=hq51
    have a1:=nq0 (X:=X') _ f9 σ8 h4 `tq [y] `tq [v] (λ_ H'=>W `fE m' (ys++[y]) H') g9 rfl (`aa h0 `R) #[D,ys,y,rfl,rfl,f4,f0,h5];rw[eP,ew,eA,a5] at a1;done;refine thn a1 λ_ j1 hq52=>?_;let#[_,i0,h7,_,g8]:=hq52
    exact#[m',hm,back h7 a6.1 a6.2 g8]
 subst O;exact codeAny_compStart_list (loop _ (`Sb)) (T.self X.A 0 _ _ _ d1 (loop _ (`Sb)))
def dx0(hc:`ed)(hsc:`mA)(ok:`qu)(hi:`aiJ)
  (hg:`aPX) (ht:`aPY) (he:`aPZ)
  (hs:`fj) :
  PE X `pl (Zq0 n `dt wi g tt te):=by
 apply `bm;let#[cl,O,Y,U]:=nm0 (env:=`M) (scope:=`eG) λx hx hf=>`ahP x.1 (by
  rcases ok.free x hx hf with z|z
  ·apply `aP_
  ·apply `aP0)
 rw[eval_ListComp];refine w30 (use:=`f) rfl hs O `DH ok.loc (`QQ `FW λa2 s2 h2=>?_);skip;apply `aP1;done;refine `aP2 Q `f `fQ;intro D C H' s' m IX as hn qe;refine#[m,hn,λh' sb=>#[`T D,H',`aP3 IX.turned s'.toks `aeZ,rfl,qe]]
def fe0{py spos:Pos}(hN:`et)(hiN:X.N[i]?=`ee)(hy:`awj)(hc:`ed)(hsc:`mA)(ok:`qu)(hi:`aiJ)
  (hg:`aPX) (ht:`aPY) (he:`aPZ)
  (hsw:`akz)
  (hs:`fj)
  (hf:`ka) :
  PS X `aBe (`lr (Zq0 n `dt wi g tt te σ H `aP4)):=by
 apply `iC;let#[cl,O,Y,U]:=nm0 (env:=`M) (scope:=`eG) λx hx hf=>`ahP x.1 (by
  rcases ok.free x hx hf with z|z
  ·apply `aP_
  ·apply `aP0)
 rw[exec_Assign_Name_used _ _ _ _ hsw];refine A0 (Y3 `P');show `aD _ X.A (do let _ ← comprehension `pl `eG `M _ (`akv) `m (`bV iter `M) (`akA)) _ _ s;refine A0 (D0 (w30 (use:=`akA) (Q:=`aP5) rfl hs O `DH ok.loc
  (`QQ `FW λa6 s2 h2=>?_)) (λ_ s' hq=>A1 (A1 hq)) `ahJ)
 skip;apply `aP1;done;refine `aP2 `aP4 (`akA) (`aP5);intro Da C H' s' m IX as hn qe;show `aD _ X.A (`ig `J7 `M (`T Da)) _ _ _;refine `aKC (bz0 IX hN hiN hy (v:=`T Da) rfl (λa2 a4 hq53=>?_) hf);let#[a,sb,ha]:=hq53;have a5:C≠a:=by
  rcases ha with z|z
  ·rw[z];exact as.2.1
  ·exact A9 (`aP6 y a z)
 refine#[m,hn.sameBut sb a5,λh' a3=>#[_,H',`aP3 a4.turned a2.toks (`kI ((a3.2 b hb).trans e)),qe]]
universe zz
universe L2
namespace DL
open Spec PyProof.Rows
inductive D where
 | non|bl (b:`C)|int (i:Int)|str (x:Str)|tup (ds:`i)|lst (ds:`i)|dct (ks:Sum (`akB) (`af (`akB))) (ds:`i)|fn (ks:`akB) (ds:`i)
 deriving Inhabited
variable{l items ns ds:`Lb}{q:`acX}{d0 b' n':DL.D}{bg:`aP7}
@[simp] def unl:D->D
 | `z [_,d]=>d
 | d=>d
@[simp] def isL:`d9
 | `Gg=>`d
 | _=>`m
inductive Sl where
 | un|sh (d:D)|ow (d:D)
 | ex (c:Str) (n:`aE)
variable{s1:DL.Sl}
abbrev Ds:=`af Sl
inductive Res where
 | nx (δ:Ds)|rt (d:D)|bk (δ:Ds)|ct (δ:Ds)|rf (d:D)
variable{f:`aP8}{g ge gb:`aP9}{gt:`aP'}{δ' δ1 δ2:`sZ}{gi gA:`aP!}
abbrev GE:=`cW
abbrev GB:=`hB
variable{g0 go g1:DL.GE}
abbrev GA:=`f1
abbrev GS:=`kb
@[simp] def asB:D->`rq
 | `f?=>`pm
 | _=>`f
variable{G Gh:DL.GS}
@[simp] def asI:D->`aE
 | `bw=>`rX
 | _=>`f
@[simp] def gv(i:Nat):GE:=fun δ=>match `b4 with
 | `ac6=>`a9
 | _=>`f
@[simp] def gc(d:D):GE:=λ_=>`a9
@[simp] def o2(ga gb:GE)(f:`a7):GE:=`Gh λx=>`akC λy=>f x y
@[simp] def ob(g:GE):GB:=`gJ asB
@[simp] def zw0(g:GB):GB:=`yO (!·)
@[simp] def yb0(gt gu:GB):GB:=`xb `wE (`w `nh (gu δ) `bI)
@[simp] def G5(gt gu:GB):GB:=`xb `wE (`w `nh `eK (gu δ))
@[simp] def m10(ga gb:GE):GE:=`xb `aP? (`w `nh `fL `nV)
@[simp] def orG(ga gb:GE):GE:=`xb `aP? (`w `nh `j0 `fL)
@[simp] def Nm0(ga:GE):GE:=`xb (ob ga δ).map (.bl (!t))
@[simp] def v8:GA:=`aQa
@[simp] def z7(g:GE)(gA:GA):GA:=`gJ λd=>(`eb).map λds=>`aI
@[simp] def yp0(gA:GA):GE:=`Gi λds=>`w `t0 `Se `f
@[simp] def W0(gA:GA):GE:=`Gi λds=>`w `t0 `t1 `f
@[simp] def oA(gA:GA)(f:`N):GE:=`Gi f
@[simp] def yq0(f:`d9)(g:GE):GE:=`yO λd=>.bl (f d)
@[simp] def Q0(d:D):`dE:=match d with
 | `bw=>`sO (-i)
 | _=>`f
@[simp] def unG(f:`AV)(g:GE):GE:=`gJ f
@[simp] def u5(G1 G2:GS):GS:=fun δ=>match `fc with
 | `eL=>`v'
 | r=>r
@[simp] def t7:GS:=`aQb
@[simp] def Y4(g:GE):GS:=`yO .rt
@[simp] def gN(i:Nat):`be:=λd δ=>`c `Sf
@[simp] def b8(f:`be)(g:GE):GS:=`gJ λd=>(`wB).map .nx
@[simp] def ifD(gt:GB)(Ga Gb:GS):GS:=`aQc
def yu0(f:`be)(G:GS):`i->`kb
 | [],δ=>`s0
 | `aI,δ=>match `aQd G with
  | `eL=>`aQe
  | `akD=>`aQe
  | `akE=>`eL
  | r=>r
@[simp] def qx0(gi:GA)(f:`be)(G:GS):GS:=fun δ=>`yP λitems=>`akF
@[simp] def Zk0:`Gj
 | `eh=>`ov
 | _=>`f
@[simp] def Kg0:`Gj
 | `dm=>`ov
 | _=>`f
def signs(x:Str):`i:=x.cps.toList.map `aQf
@[simp] def Vq0:`Gj
 | `c9=>`c (`kc x)
 | _=>`f
@[simp] def m20(g:GE):GA:=`gJ Zk0
@[simp] def tupI(g:GE):GA:=`gJ Kg0
@[simp] def gj0(g:GE):GA:=`gJ Vq0
def yn0(lo hi:Int):`i:=(`cn `w9).map λk=>`g (lo+(k:Nat))
@[simp] def Sg0(ds:`i):`u6:=match ds with
 | [`jj]=>`aW (-(`gE)<=j/\j<`gE) (yn0 0 j)
 | _=>`f
@[simp] def ti0(gA:GA):GA:=`Gi Sg0
@[simp] def noT:GB:=λ_=>`eK
@[simp] def iw0:`Sg->Sl
 | `ac6=>`fA
 | _=>.un
@[simp] def y90(n:Nat)(caps:`k)(δ:Ds):Ds:=`aQg++`aQh
def xw0(f:`be)(gt:GB)(ge:GE)(δ:Ds):`akG
 | []=>`s_
 | `aI=>match `wB with
  | `f=>`f
  | `CZ=>match `Gk with
   | `f=>`f
   | `bI=>`aQi
   | `eK=>match `M3 with
    | `f=>`f
    | `ee=>(`aQi).map λr=>y::r
@[simp] def O7(n:Nat)(caps:`k)(gi:GA)(f:`be)(gt:GB)(ge:GE):GE :=
 fun δ=>`yP λitems=>`w `t2 (`aQj `o) `f
@[simp] def S5(N:`h)(ds:`i):Ds:=ds.map .sh++`akH `bX
@[simp] def isInt:`d9
 | `cV=>`d|`b6=>`d|_=>`m
@[simp] def isStr:`d9
 | `cc=>`d|_=>`m
@[simp] def isBool:`d9
 | `b6=>`d|_=>`m
@[simp] def isTup:`d9
 | `Gg=>`d|_=>`m
@[simp] def ii(f:Int->Int->`dE):`a7
 | `bw,`jj=>f i j
 | _,_=>`f
@[simp] def zo0:`a7:=`kd (`c (`g `ML))
@[simp] def m9:`a7:=`kd (`w `Q5 `aQk `f)
@[simp] def m7:`a7:=`kd (`w (0<j) `akI `f)
@[simp] def py0:`a7:=`kd (`w `aiT (`c (`aAr)) `f)
@[simp] def ltD:`a7:=`kd (`nW (i<j))
@[simp] def leD:`a7:=`kd (`c (`ayz))
@[simp] def gtD:`a7:=`kd (`nW (j<i))
@[simp] def geD:`a7:=`kd (`c (`ayA))
@[simp] def eqS(x y:D):`rq:=match x with
 | `v=>(match y with|`v=>`eK|`cV=>`bI|`b6=>`bI|`cc=>`bI|_=>`f)
 | `bw=>(match y with|`v=>`bI|`jj=>`akJ|`cc=>`bI|_=>`f)
 | .bl i=>(match y with|`v=>`bI|.bl j=>`akJ|`cc=>`bI|_=>`f)
 | `t i=>(match y with|`v=>`bI|`cV=>`bI|`b6=>`bI|`t j=>`akJ|_=>`f)
 | _=>`f
@[simp] def eqD(x y:D):`dE:=`aQl .bl
@[simp] def neD(x y:D):`dE:=`aQl λb=>.bl (!b)
@[simp] def Cj0:`d9
 | `v=>`d|_=>`m
@[simp] def t60(x y:D):`dE:=match y with
 | `v=>`Eu (Cj0 x)
 | _=>`f
def ixN(n:Nat)(i:Int):`RH:=`aN_
def atI{α:Type}(xs:`bd)(i:Int):`P3:=`aN0
@[simp] def ixD:`a7
 | `c4,`bw=>`DP
 | `fz,`bw=>`DP
 | `oN,`bw=>`w `w? ((`aN6).map `aQf) `f
 | _,_=>`f
def sIx(n d:Nat):`aNi
 | `f=>d
 | `bQ=>`Rw
def cutD(xs:`i)(lo hi:`aE):`i:=(`jq (`akK)).take (`aQm - `akK)
abbrev GO:=`yQ
@[simp] def V0:GO:=λ_=>`hb
@[simp] def someO(g:GE):GO:=`gJ λd=>(asI d).map `c
@[simp] def V5:`N
 | `MX=>`w `w? (`c (`acO)) `f
 | `yR=>`aQn
 | [`fz]=>`aQn
 | _=>`f
def fa0:`i->`aH (`h)
 | []=>`s_
 | `xU::ds=>(fa0 ds).map λr=>b::r
 | _=>`f
@[simp] def Zi0(d:D)(ds:`i):`dE:=match d,ds with
 | `t sep,`yR=>(fa0 xs).bind λys=>`w `aQo (`c `aQp) `f
 | _,_=>`f
@[simp] def kb0(g:GE)(gA:GA):GE:=`gJ λd=>`t3 λds=>Zi0 d ds
@[simp] def we0:`N
 | `Gl=>`Se
 | [`dm]=>`Se
 | _=>`f
theorem oa0{gt:GB}{ge:GE}{δ:Ds}(p:`d9)(h:D->D):∀{items:`i},(∀d∈`b?,∃δ',`akL/\`Gk=`c (p d)/\(p d=`d->`aQq)) ->
  `aQr=`c ((items.filter p).map h)
 | [],_=>rfl
 | `aI,H=>by
  let#[δ',e1,e2,e3]:=H d A8;have ih:=oa0 p h λd hd=>H d (A6 _ hd)
  unfold xw0;rw[e1];dsimp only;rw[e2];cases hp:p d with
  | false =>
   dsimp only;rw[List.filter_cons_of_neg (`akM)];exact ih
  | true =>
   dsimp only;rw[e3 hp,ih,List.filter_cons_of_pos hp];rfl
def ud0{gt:GB}{ge:GE}{δ:Ds}(h:D->D)(H:∀d∈`b?,∃δ',`akL/\`Gk=`eK/\`aQq):`aQr=`c (items.map h):=by
 have:=oa0 (f:=f) (gt:=gt) (ge:=ge) (δ:=δ) (`ajp) h (items:=`b?) λd hd=>by
  let#[δ',a,b,c]:=H d hd;exact#[δ',a,b,λ_=>c]
 apply `a3 (List.filter_eq_self.mpr `aS);exact `E
theorem strs_map(h:α->Str):∀l:`bd,`aQs=`c (`dM h)
 | []=>rfl
 | a::l=>by
  show (`aQs).map (λr=>h a::r)=_;rw[strs_map h l];rfl
theorem pz0(P:Nat->Ds->Prop):∀(items:`i) (i:Nat) (δ:Ds),(∀j d δ,`b?[j]?=`a9->P (i+j) δ->∃δ1 δ2,`aQt/\`aQu/\P (i+j+1) δ2)->P i δ ->
  ∃δ',`akF=`eL/\P (i+`dp) δ'
 | [],i,δ,_,h=>#[δ,rfl,h]
 | `aI,i,δ,H,h=>by
  skip;let#[δ1,δ2,e1,e2,h2]:=H 0 d δ rfl h;let#[δ',e3,h3]:=pz0 P ds `fE δ2 (λj d δ hj hp=>by
   have q:i+`t4=i+1+j:=`G
   let#[a,b,c,d',e]:=H `t4 d δ (`Gm) (`l q hp);exact#[a,b,c,d',by rw[q] at e;exact e]) h2
  have q:i+`Sh=i+1+`bX:=`p4
  done;refine#[δ',?_,`l q h3];unfold yu0;rw[e1];simp only[`p,e2];exact e3
def Gq0{G1 G2:GS}{δ:Ds}(h:`akN):`Si=`v':=`akO
def d9{G1 G2:GS}{δ:Ds}{d:D}(h:`fc=`sG):`Si=`sG:=`akO
def U0{g:GE}{δ:Ds}{d:D}(h:`iM):Y4 g δ=`sG:=by unfold Y4;rw[h];rfl
def X5{g:GE}{δ:Ds}{d:D}(h:`iM):b8 `adc g δ=`ar `Sf:=by unfold b8;rw[h];rfl
def O5{g:GB}{Ga Gb:GS}{δ:Ds}(h:`Sj):`aQv=Ga δ:=`aQw
def W5{g:GB}{Ga Gb:GS}{δ:Ds}(h:`Sk):`aQv=`DT:=`aQw
def u40{gi:GA}{gt:GB}{ge:GE}{δ:Ds}{out:`i}(h1:`Sl)(h2:`t2)(h3:`acY=`c out):`aQx=`c (`o out):=by
 unfold O7;rw[h1];show (`w `t2 (`aQj `jN) `f)=_;rw[`akP,h3];rfl
def qm0{gi:GA}{δ:Ds}{r:`A2}(h1:`Sl)(h2:`akF=r):qx0 gi f G δ=r:=by
 unfold qx0;rw[h1];exact h2
def cons_of{g:GE}{gA:GA}{δ:Ds}{d:D}(h1:`iM)(h2:`ke):z7 g gA δ=`c `jy:=by unfold z7;rw[h1,h2];rfl
def Z0{gA:GA}{δ:Ds}{f:`N}(h:`ke):oA gA f δ=f ds:=by unfold oA;rw[h];rfl
def o6{ga gb:GE}{δ:Ds}{x y:D}{f:`a7}(h1:`ei=`c6)(h2:`fL=`ee):`aQy=f x y:=by unfold o2;rw[h1,h2];rfl
def J70{g:GE}{gA:GA}{δ:Ds}{x:D}(h1:`az=`c6)(h2:`ke):kb0 g gA δ=Zi0 x ds:=by unfold kb0;rw[h1,h2];rfl
def vy0{xs:`bd}{i:Int}(h0:0<=i)(h1:`tX)(d:α):`DP=`c (`Sm `fN d):=by
 unfold atI ixN;rw[`ajH,`RJ];show xs[`fN]?=_;have:`fN<`_:=`dF
 simp[`ch,`E]
universe DL
variable{f:`aP8}{l items ns ds:`Lb}{g ge gb:`aP9}{s1:DL.Sl}{q:`acX}{gt:`aP'}{G Gh:DL.GS}{δ' δ1 δ2:`sZ}{gi gA:`aP!}{d0 b' n':DL.D}{g0 go g1:DL.GE}{bg:`aP7}
namespace DL
open Spec PyProof.Rows L2
abbrev BS:=`f2
abbrev St:=L2.St
variable{B B' B₀:DL.BS}
structure NB(o:`tG):Prop where
 ne:o≠`f
 nf:∀ob u,o=`aha->∃xs,u=`c4
 nt:∀xs,o≠`jB
instance{o:`tG}:`fn (NB o) (o=`f->`bW):=#[λh e=>h.ne e]
def NB.of{o:`tG}{u:HO}(h:o=`bf)(n:∀ob u',u≠`ays)(t:∀xs,u≠`fz):NB o:=by
 subst h;exact#[`aQz,λob u' z=>`L `Sn (n ob u'),λxs z=>t xs `Sn]
def NB.keep(q:`Gn)(h:`oO):NB (H' a):=by
 cases e:H a with
 | none=>exact `L e h.ne
 | some o=>rw[q o e,← e];exact h
theorem NB.same(q:`bb)(h:`oO):NB (H' a):=h.keep λo e=>q a o e
def SqT'(K:`x)(H:Hp)(B:BS)(a:`e)(xs:`V):Prop:=`s1/\H a=`jB
def SqL'(K:`x)(H:Hp)(B:BS)(a:`e)(xs:`V):Prop:=(`aQA)∨`bW
theorem SqT'.to(h:`M4):`qe:=`n (`n h.2)
theorem SqL'.at(h:`DU):`aQA:=`kT id `fW
theorem SqL'.to(h:`DU):`sU:=`n h.at.2
def Gr(H H':Hp)(B B':BS):Prop:=∀b o,`xg->H b=`ay->¬B' b/\H' b=`ay
theorem SqT'.mono(g:`eW)(h:`M4):SqT' K H' B' a xs:=`aQB
def SqL'.mono(g:`eW)(h:`DU):SqL' K H' B' a xs:=by
 obtain⟨n,h|⟨o,h⟩⟩:=h.at
 ·exact `n #[(`So).1,`n (`So).2]
 ·exact `n #[(`So).1,`q #[o,(`So).2]]
theorem Gr.same(s:`bb):`aQC:=λb o n h=>#[n,s b o h]
theorem Gr.less(h:`Go):Gr H H B B':=λb o n e=>#[λz=>n (h b z),e]
abbrev KS:=Sum (`hO) (`af (`hO))
def dOb:KS->`V->HO
 | `B3,xs=>`Sp
 | `Gp,xs=>`akQ
def dLn:KS->Nat
 | `B3=>`jc
 | `Gp=>`jc
def Dz0(fd:`fY)(x y:Str)(c cd:`e):Prop :=
 ∃p1 p2 p3,fd.body=.expr (`mK (`bo x p1) (`bo y p2) p3)/\fd.scope.isCoroutine=`m/\fd.scope.isGenerator=`m/\fd.scope.kind=`sK/\`aQD y=`mm/\`aQD x=`ng /\
  (∀z∈fd.scope.names,z.2≠`vb)/\fd.closure=[(x,c)]/\fd.code=`T cd/\fd.globals=`gf/\`av'/\`av?/\`aws /\
  ∀u:`B,`akR fd `aa0=`cj [(y,u)]
def rk(n:Nat):`hO:=`abu λ(i:Nat)=>`ph `r2
def TelO(K:`x)(H:Hp)(B:BS)(p:`e)(kvs:`hw):Prop:=(¬B p/\`afv)∨∃xs,SqL' K H B p xs/\kvs=(rk `_).zip xs
def TelO.mono{p:`e}(g:`eW)(h:`aQE):TelO K H' B' p kvs:=by
 rcases h with h|⟨xs,h,e⟩
 ·exact `n (`aQB)
 ·exact `q #[xs,h.mono g,e]
def FnAtH(K:`x)(H:Hp)(B:BS)(f:`e)(kvs:`hw):Prop :=
 ∃(oF oC oK:Obj) (fd:`fY) (c cd p:`e) (x y:Str),(¬B f/\`Qr f oF f)/\(oF.cls=`vC/\oF.data=`cC fd/\Dz0 fd x y c cd)/\(¬B c/\`Qr c oC c)/\oC.data=`vb `adp /\
  (¬B cd/\`Qr cd oK cd)/\(∃vs t,oK.data=`By/\`DC=`c (`t fd.qualname t))/\`aQE
def FnAtH.mono{f:`e}(g:`eW)(h:FnAtH K H B f kvs):FnAtH K H' B' f kvs:=by
 skip;let#[oF,oC,oK,fd,c,cd,p,x,y,#[b1,h1],a,#[b2,h2],e,#[b3,h3],q,h4]:=h;done;exact#[oF,oC,oK,fd,c,cd,p,x,y,g _ _ b1 h1,a,g _ _ b2 h2,e,g _ _ b3 h3,q,h4.mono g]
mutual
def Rp(K:`x)(H:Hp)(B:BS):D->V->Prop
 | `v,v=>`xT
 | `f?,v=>v=`f?
 | `bw,v=>`Gq
 | `c9,v=>`R?
 | `dm,v=>`aQF
 | `eh,v=>`aQG
 | `lL,v=>`aQH
 | `t5,v=>`aQI
def Rps(K:`x)(H:Hp)(B:BS):`aQJ
 | [],xs=>`yG
 | `aI,xs=>`aQK
end
mutual
theorem Rp.mono(g:`eW):`Gr `aQL
 | `v,_,h=>`Sq
 | `b6,_,h=>`Sq
 | `cV,_,h=>`Sq
 | `cc,_,h=>`Sq
 | `dm,_,h=>by
  apply `Cl;apply `Sr;exact`aQM
 | `eh,_,h=>by
  apply `Cl;apply `Sr;exact`aQM
 | `lL,_,h=>by
  apply `Cl;skip;let#[a,xs,e,n,q,l,r]:=h;done;exact#[a,xs,e,(g _ _ n q).1,(g _ _ n q).2,l,`ac1]
 | `t5,_,h=>by
  apply `Cl;let#[a,xs,e,q,l,r]:=h;exact#[a,xs,e,`ac0,l,`ac1]
theorem Rps.mono(g:`eW):`lM `akS
 | [],_,h=>by unfold Rps at h ⊢;exact h
 | `aI,_,h=>by
  unfold Rps at h ⊢;apply `Gs;exact#[x,r,e,`aa2 g h1,`aap g h2]
end
def Q9:`i0 `v=(`xT):=`Ss
def V1{b:`C}:`i0 `lg=(v=`f?):=`Ss
def Y0{i:Int}:`i0 `d_=(`Gq):=`Ss
def R4:`i0 `pA=(`R?):=`Ss
def N5:`i0 `o?=`aQF:=`St
def Q3:`i0 `vx=`aQG:=`St
def pr0{ks:KS}:`i0 (`lL)=`aQH:=`St
def R80:`i0 (`t5)=`aQI:=`St
theorem d20:`i0 (`Gt)=`pE `s1 (`wR `Sp/\`acZ):=pr0
theorem cd0{ks:`af (`hO)}:`i0 (`dk (`Gp) ds)=`pE `s1 (`wR `akQ/\`acZ):=pr0
def c7:`rf []=(`yG):=by unfold Rps;rfl
def j6{d:D}:`rf `jy=`aQK:=by conv=>lhs;unfold Rps
theorem Rps.length:`lM (`bB->`_=`bX)
 | [],_,h=>by rw[c7] at h;subst h;rfl
 | `aI,_,h=>by
  rw[j6] at h;let#[x,r,rfl,_,h2]:=h;simp[Rps.length h2]
theorem Rps.get:∀{ds:`i} {xs:`V} {i:Nat} {d:D},`bB->ds[i]?=`a9->∃x,`nc/\`DV
 | [],_,_,_,_,e=>`Qm
 | `aI,_,0,d',h,e=>by
  rw[j6] at h;let#[x,r,rfl,h1,_]:=h;simp at e;subst e;exact`Su
 | `aI,_,i+1,d',h,e=>by
  skip;rw[j6] at h;let#[x,r,rfl,_,h2]:=h;let#[y,e1,e2]:=Rps.get (i:=i) h2 `Fu;done;exact#[y,`aQN,e2]
theorem Rps.snoc:∀{ds:`i} {xs:`V} {d:D} {x:V},`bB->`DV->`lN (ds++[d]) (`akT)
 | [],_,_,_,h,r=>by
  rw[c7] at h;subst h;rw[`kV,`kV,j6];exact`Gu _ r
 | `aI,_,_,_,h,r=>by
  rw[j6] at h;apply `Sv;rw[`ib,`ib,j6];exact#[y,_,rfl,h1,`s8 h2 r]
theorem Rps.append:∀{ds es:`i} {xs ys:`V},`bB->`aQO->`lN (ds++es) `Lz
 | [],_,_,_,h,r=>`aQP r
 | `aI,_,_,_,h,r=>by
  rw[j6] at h;apply `Sv;rw[`ib,`ib,j6];exact#[y,_,rfl,h1,Rps.append h2 r]
theorem Rps.drop:`aQQ (`lN (`adS n) `ag4)
 | _,_,0,h=>h
 | [],_,n+1,h=>by rw[c7] at h;subst h;simpa [c7]
 | `aI,_,n+1,h=>by
  rw[j6] at h;apply `Sv
  simpa using Rps.drop n h2
theorem Rps.take:`aQQ (`lN (ds.take n) `Fw)
 | _,_,0,h=>`akU
 | [],_,n+1,h=>`akV
 | `aI,_,n+1,h=>by
  rw[j6] at h;apply `Sv;rw[`aQR,`aQR,j6];exact#[y,_,rfl,h1,Rps.take n h2]
theorem Rps.same(s:`bb)(h:`bB):`BX H' xs:=`aap `xd h
theorem Rp.same{d:D}(s:`bb)(h:`db):`ab_:=`aa2 `xd h
def RpO(K:`x)(H:Hp)(B:BS)(d:D)(a:`e):Prop:=match d with
 | `eh=>∃xs,H a=`Kg/\`bB
 | `lL=>∃xs,`aA3
 | _=>`bW
def RpO.same{d:D}(s:`bb)(h:`kf):RpO K H' B d a:=by
 apply `Sw
 ·apply `qv;exact#[xs,`akW,`Sx]
 ·apply `akX;exact#[xs,`akW,l,`Sx]
def RpO.rp{d:D}(l:`Go)(n:¬B' a)(h:`kf):Rp K H B' d `b':=by
 apply `Sw
 ·apply `qv
  rw[Q3];exact#[a,xs,rfl,`n #[n,`tR],`dq (`ju l)]
 ·let#[xs,e,q,r]:=h
  rw[pr0];exact#[a,xs,rfl,n,e,q,`dq (`ju l)]
def RpO.live{d:D}(h:`kf):`oO:=by
 apply `Sw
 ·apply `qv;apply `aQS
 ·let#[xs,e,q,r]:=h;refine .of e (λ_ _ z=>?_) λ_ z=>?_<;>(unfold dOb at z;split at z<;>cases z)
def RpX(K:`x)(H:Hp)(B:BS)(ks vs:`i)(a:`e):Prop:=∃(ts:`k)(xs:`V),ks=[]/\`wR (.dX (ts.zip xs))/\ts.length=`_/\`rf vs
def xx0:`i->`RH
 | [`c9,`bw]=>`w (x = "@") (`c `fN) `f
 | _=>`f
mutual
def RpN(K:`x)(H:Hp)(B:BS)(as:`aY):D->V->Prop
 | `v,v=>`xT
 | `f?,v=>v=`f?
 | `bw,v=>`Gq
 | `c9,v=>`R?
 | `dm,v=>`aQT
 | d,v=>`db
def RpNs(K:`x)(H:Hp)(B:BS)(as:`aY):`aQJ
 | [],xs=>`yG
 | `aI,xs=>`aQU
end
mutual
theorem RpN.mono(g:`eW)(l:`aQV):`Gr (`lO->RpN K H' B' as' d v)
 | `v,_,h=>`Sy
 | `b6,_,h=>`Sy
 | `cV,_,h=>`Sy
 | `cc,_,h=>`Sy
 | `dm,_,h=>by
  apply `_V;skip;rcases h with⟨k,a,e,q,r⟩|⟨n,a,xs,e,q,r⟩
  ·done;exact `n #[k,a,e,l k a q,r]
  ·done;exact `q #[n,a,xs,e,`ac0,`akY g l r]
 | `eh,_,h=>`akZ
 | `lL,_,h=>`akZ
 | `t5,_,h=>`akZ
theorem RpNs.mono(g:`eW)(l:`aQV):`lM (`im->RpNs K H' B' as' ds xs)
 | [],_,h=>by unfold RpNs at h ⊢;exact h
 | `aI,_,h=>by
  unfold RpNs at h ⊢;apply `Gs;exact#[x,r,e,RpN.mono g l h1,`akY g l h2]
end
theorem p80{F G:`ly}(h:`ag?):`aQW
 | _,_,`R=>`R
 | _,_,`nG=>`aa (h _ _ r) (p80 h t)
def NodeOk(K:`x)(H:Hp)(B:BS)(as:`aY)(n:D)(so:`dW):Prop:=match n with
 | `eh=>∃xs,`ak_/\`im
 | `Gt=>∃xs,so=`Sp/\`wi/\`im
 | `aQX=>`aQY
 | _=>`bW
def NodeOk.mono(g:`eW){n:D}(h:`Sz):`lP K H' B' as n so:=by
 unfold NodeOk at h ⊢;split at h
 ·apply `qv;exact#[xs,e,`ak0]
 ·apply `akX;exact#[xs,e,l,`ak0]
 ·skip;let#[C,dx,ns,xs,e,f,l,c,q,r]:=h;done;exact#[C,dx,ns,xs,e,f,l,c,q,`ak0]
 ·exact `kT
structure RpW(K:`x)(H:Hp)(B:BS)(ns:`i)(a:`e)(as:`aY)(sos:`Gv):Prop where
 hd:`aQZ
 nd:`qw
 at':`aB?
 own:∀b∈as,b=a∨(`xg/\`K9)
 len:`SA
 all:`b! (`lP K H B as) ns sos
 ins:`aQ_
def RpD(K:`x)(H:Hp)(B:BS)(ns:`i)(a:`e):Prop:=∃as sos,`f3
def RpD.mono(s:`Gn)(g:`eW)(h:`ac5):RpD K H' B' ns a:=by
 let#[as,sos,h]:=h;exact#[as,sos,h.hd,h.nd,s _ `yS,`afx λz=>g b _ z.1 z.2,`nX,`ak1 `xW,h.ins]
def RpD.live(h:`ac5):`oO:=by
 let#[as,sos,h]:=h;exact .of `yS `aQ0 λ_ z=>nomatch z
def RpG(K:`x)(H:Hp)(B:BS)(d:D)(a:`e):Prop:=match d with
 | `z es=>`aQ1
 | d=>`kf
def RpO.toG{d:D}(h:`kf):`nY:=by
 cases d with
 | tup es=>apply `ak2
 | _=>exact h
def RpG.toO{d:D}(n:`Ld)(h:`nY):`kf:=by
 cases d with
 | tup es=>cases n
 | _=>exact h
def RpG.same{d:D}(s:`bb)(h:`nY):RpG K H' B d a:=by
 cases d with
 | tup es=>apply `ak3;exact`aQ2
 | _=>exact(RpO.same s `SB).toG
def RpG.live{d:D}(h:`nY):`oO:=by
 cases d with
 | tup es=>apply `ak3;exact `t6
 | _=>exact RpO.live `SB
def RpO.plain{d:D}(h:`kf):`ak4:=by
 intro o ys z;cases d with
 | lst ds=>apply `qv;rw[e] at z;cases z
 | dct ks ds =>
  apply `qv;rw[e] at z;unfold dOb at z;split at z<;>cases z
 | _=>apply `ak2
def RpG.plain{d:D}(h:`nY):`ak4:=by
 skip;cases d with
 | tup es=>let#[x,ns,e,as,sos,r]:=h;done;intro o xs z;rw[r.at'] at z;cases z
 | _=>done;exact RpO.plain `SB
def RpL(K:`x)(H:Hp)(B:BS)(d:D)(a:`e):Prop:=match d with
 | `z es=>(∃d',es=[`ry,d']/\`JJ d')∨(∃ks vs,es=[`o ks,`Bv]/\RpX K H B ks vs a)∨`aQ1
 | d=>`kf
def RpO.toL{d:D}(h:`kf):`nj:=by
 cases d with
 | tup es=>apply `ak2
 | _=>exact h
def RpL.toO{d:D}(n:`Ld)(h:`nj):`kf:=by
 cases d with
 | tup es=>cases n
 | _=>exact h
def RpG.toL{d:D}(h:`nY):`nj:=by
 cases d with
 | tup es=>apply `j? h
 | _=>exact h
def RpL.same{d:D}(s:`bb)(h:`nj):`aQ3:=by
 skip;cases d with
 | tup es =>
  apply `ak5
  ·done;exact `n #[d',q,`Sx]
  ·done;exact `aQ4 `akW `Sx
  ·done;apply `j? `aQ2
 | _=>done;exact(RpO.same s `Gw).toL
def RpL.live{d:D}(h:`nj):`oO:=by
 skip;cases d with
 | tup es =>
  apply `ak5
  ·done;exact `t6
  ·done;apply `aQS
  ·done;exact `t6
 | _=>done;exact RpO.live `Gw
def RpL.plain{d:D}(h:`nj):`ak4:=by
 skip;cases d with
 | tup es =>
  rcases h with⟨d',q,r⟩|⟨ks,vs,q,ts,xs,q1,e,q2,r⟩|⟨x,ns,_,as,sos,r⟩
  ·done;exact r.plain
  ·done;intro o ys z;rw[e] at z;cases z
  ·done;intro o xs z;rw[r.at'] at z;cases z
 | _=>done;exact RpO.plain `Gw
def lf0(a C:`e)(od:`bt):`oV:=λh=>∃oe,`i2=`CQ/\`Fp=`eB/\(∀dx,`SC->`aaN=`r?)/\∃vs,`ye
def K90(H:Hp)(B:BS)(od:`bt):`ak6
 | `f=>True
 | `v4=>∃dx,`SC/\¬B dx/\H dx=`c `x0
def XcR(K:`x)(H:Hp)(B:BS)(c:Str)(n:`aE)(a:`e):Prop:=∃C od,`s1/\`aQ5/\`jF/\`aQ6
def XcR.mono{n:`aE}(g:`eW)(h:`ak7):XcR K H' B' c n a:=by
 let#[C,od,h1,h2,h3,h4]:=h;refine#[C,od,(`aQ7).1,(`aQ7).2,h3,?_];cases n with
 | none=>trivial
 | some n=>let#[dx,e,q1,q2]:=h4;exact#[dx,e,(`aQ8).1,(`aQ8).2]
def SlR(K:`x)(H:Hp)(B:BS)(o:`eo):Sl->Prop
 | .un=>True
 | `fA=>∃v,o=`bQ/\`db
 | `vn=>∃a,o=`oT/\`aQ9
 | `o9=>∃a,o=`oT/\`ak7
theorem Pd.get{F:`ly}:∀{l:`bd} {m:`tI} {i:Nat} {b:β},`sL->`ak8->∃a,`Gx/\`Dj
 | _,_,_,_,`R,e=>`Qm
 | _,_,0,_,`ag1,e=>`ag2
 | _,_,i+1,b,`yk,e=>by
  let#[u,h1,h2]:=`o0 (i:=i) (b:=b) t `Fu;exact`ag3
def Pd.imp{F G:`ly}(h:`ag?):`aQW:=by
 intro l m p
 induction p with
 | nil=>exact `R
 | cons r t ih=>exact `aa (h _ _ r) ih
theorem Pd.set{F:`ly}{a:α}{b:β}(r:`Dj):∀{l:`bd} {m:`tI} (i:Nat),`sL->`b! F (`ak9) `aQ'
 | _,_,_,`R=>`R
 | _,_,0,`yk=>`nG
 | _,_,i+1,`aa q t=>`aa q (`Gy r i t)
theorem Pd.len{F:`ly}:`ac2 (`sL->`cP=`ij)
 | _,_,`R=>rfl
 | _,_,`yk=>`fd (`sn t)
def Pd.app{F:`ly}:∀{l l':`bd} {m m':`tI},`sL->`b! F l' m'->`b! F (l++l') (m++m'):=by
 intro l l' m m' p s
 induction p with
 | nil=>exact s
 | cons r t ih=>exact `Fv
structure Env(K:`x)(H:Hp)(B:BS)(σ:St)(δ:Ds):Prop where
 all:`aQ!
 bad:`vh
 own:∀(i j:Nat) (a:`e) (ds es:D),`aA'->`la=`aQ?->`jL->`wh=`A1->i=j
section
variable{σ σ':St}{δ:Ds}
def SlR.same{o:`eo}{s:Sl}(q:`bb)(h:`SD):SlR K H' B o s:=by
 cases s with
 | un=>trivial
 | sh d=>apply `gK;exact#[v,e,`KO q]
 | ow d=>let#[a,e,b,r]:=h;exact#[a,e,b,`KO q]
 | ex c n=>let#[a,e,r]:=h;exact#[a,e,`dq (`ZG q)]
theorem Env.same(q:`bb)(e:`bn):`kr H' δ :=
 #[`xX (λ_ _ h=>`SE q) `lb,(λa b=>(`m4 a b).same q),`s4]
theorem Env.free(e:`bn){p:`e}(h:`eN):¬B p:=λz=>`m4 p z h
def Env.get(e:`bn){d:D}(h:`aRa):∃v,`FC/\`db:=by
 let#[o,h1,v,rfl,r]:=`aRb;exact#[v,h1,r]
def Env.set(e:`bn)(i:Nat){d:D}(r:`db):Env K H B `DF `Sf:=by
 refine`ak' `aRc `afe;have hj:j≠i:=by
  rintro rfl
  by_cases hl:j<`mY
  ·rw[`yT] at h1;cases h1
  ·rw[`Gz] at h1;cases h1
 have hk:k≠i:=by
  rintro rfl
  by_cases hl:k<`mY
  ·rw[`yT] at h2;cases h2
  ·rw[`Gz] at h2;cases h2
 rw[`qb] at h1 h3;rw[`aRd] at h2 h4;apply `SF
universe zz
theorem W8{p:`e}{o:HO}(h:`eN)(hz:`aRe:=by intro _ _ z;cases z):`c1 H `ak!:=#[λb u e=>`l (j4 (T4 e h)) e,λb ob xs e=>by
 apply `iN p
 ·subst z
  rw[d8] at e;exact `L (A3 e) (hz ob xs)
 ·rw[j4 z] at e;exact e]
def tD(K:`x)(B:BS)(δ:Ds)(g:`cW):TE:=`cA (∃d,`bn/\`iM/\`t7)
structure PD(X:Cx)(e:`I)(g:`cW):Prop where
 mk::go:`aRf
instance{X:Cx}{e:`I}{g:`cW}:`fn `cX `aRf:=#[PD.go]
def tDT(K:`x)(B:BS)(δ:Ds)(g:`hB):TT:=`cA (∃b,`bn/\`az=`pm/\∀H',`bb->Q b H')
structure PTD(X:Cx)(e:`I)(g:`hB):Prop where
 mk::go:`aRg
instance{X:Cx}{e:`I}{g:`hB}:`fn (PTD X e g) `aRg:=#[PTD.go]
structure PWD(X:Cx)(e:`I)(g:`hB):Prop where
 mk::go:`aRh
instance{X:Cx}{e:`I}{g:`hB}:`fn (PWD X e g) `aRh:=#[PWD.go]
def tDA(K:`x)(B:BS)(δ:Ds)(g:`f1):TA:=`cA (∃ds,`bn/\`az=`ov/\∀vs H',`bb->`BX H' vs->`ahT)
structure PDA(X:Cx)(es:`bM)(g:`f1):Prop where
 mk::go:`aRi
instance{X:Cx}{es:`bM}{g:`f1}:`fn (PDA X es g) `aRi:=#[PDA.go]
def Yq0{d:D}{b:`C}(h:asB d=`pm):d=`f?:=by
 apply `C1 d asB
 subst h;rfl
def Op2(K:`x)(r:R2)(f:`a7):Prop:=∀(H:Hp) (B:BS) (x y:V) (dx dy d:D) (Q:VK),`nZ->`ak?->`aRj->f dx dy=`a9->(`t7)->`O8
def FnR(K:`x)(r:`kv)(f:`N):Prop:=∀(H:Hp) (B:BS) (xs:`V) (ds:`i) (d:D) (Q:VK),`nZ->`bB->`SG->(`t7)->`Q1
section
variable{a c:`I}{ga:`cW}{gu:`hB}{rest:`bM}
theorem _root_.L2.PE.imp{t t':TE}(h:PE X e t)(q:`SH):PE X e t':=`aRk
theorem _root_.L2.PT.imp{t t':TT}(h:PT X e t)(q:`SH):PT X e t':=`aRk
theorem _root_.L2.PW.imp{t t':TT}(h:PW X e t)(q:`SH):PW X e t':=λw pins s σ H Q I z=>h w `s s σ H Q I `ac8
theorem _root_.L2.PA.imp{t t':TA}(h:`yB)(q:`SH):PA X es t':=λp pins s σ H Q I z=>h p `s s σ H Q I `ac8
def Ce0{δ:Ds}{d:D}(h:gv i δ=`a9):`aRa:=by
 unfold gv at h;split at h
 ·cases h;assumption
 ·cases h
theorem z8(i:Nat)(hN:`dg)(hv:`d')(hd:`aO)
  (hcd:`dA):PD X `k' (gv i):=.mk λB δ=>`aRl fun σ H Q hq54=>by
 apply `bi hq54
 let#[v,e,r]:=en.get (Ce0 h);exact#[v,e,k v H `v9 r]
theorem v9{i:Int}:PD X `aJ3 (gc `d_):=`eX Dr0.imp fun σ H Q hq55=>by apply `bi hq55;cases h;exact `D4
theorem K9{i:`C}:PD X (`w7 (`e' i)) (gc (.bl i)):=`eX Bl0.imp fun σ H Q hq56=>by apply `bi hq56;cases h;exact `adf
theorem zj0:PD X (`w7 `aj) `iz:=`eX Pp0.imp fun σ H Q hq57=>by apply `bi hq57;cases h;exact `g7 `pY
theorem j9:PD X `aJ4 (gc `pA):=`eX Fv0.imp fun σ H Q hq58=>by apply `bi hq58;cases h;exact `SI
theorem dz0(hm:∃t,`oB=`aRm)(hg:`fo)(hd:`aO):PD X `k' (gc `Mj):=.mk λB δ=>by
 let#[t,hm]:=hm;exact(`afu `o5 `R4).imp fun σ H Q hq59=>by apply `bi hq59;cases h;exact `SI
theorem y50{i:Int}(hm:∃t,`oB=`c `wQ)(hg:`fo)(hd:`aO):PD X `k' (gc `d_):=.mk λB δ=>by
 let#[t,hm]:=hm;exact(`afu `bw `R4).imp fun σ H Q hq60=>by apply `bi hq60;cases h;exact `D4
def d30{r:R2}{f:`a7}(hf:Op2 K r f){δ:Ds}{σ:St}{Q:VK}(h:`gq tD K `GA):tOp r (`GB ga) (`GB gb) σ H Q:=by
 skip;apply `yU;unfold o2 at h;cases e1:`ei with
 | none=>rw[e1] at h;cases h
 | some x =>
  cases e2:`fL with
  | none=>apply `cY;cases h
  | some y =>
   apply `cY;done;apply `yV;exact hf H2 B v1 v2 x y d Q `ala `GC r2 h λv H' s r=>k v H' (`JU s) r
theorem k90{op:`Q3}{r:R2}{f:`a7}(ho:`aLn)(hf:`GD)(ha:`cZ)(hb:`dS):PD X `aLo `GA:=`eX (Kd0 ho `bv `f4).imp `alb
theorem qi0{op:`gB}{r:R2}{f:`a7}(ho:`yy)(hf:`GD)(ha:`cZ)(hb:`dS)(hm:`yW):PD X `qd `GA :=
 `eX (Uv0 ho `bv `f4 hm).imp `alb
theorem Dx0{r:R2}{f:`a7}(ho:`ajI)(hf:`GD)(ha:`cZ)(hb:`dS)(hs:`SJ):PD X `F7 `GA :=
 `eX (S80 ho `bv `f4 hs).imp `alb
theorem n6{op:`gB}{r:R2}{f:`a7}(ho:`yy)(hf:`GD)(ha:`cZ)(hb:`dS)(hm:`yW):PTD X `qd (ob `GA) :=
 .mk λB δ=>(mk0 ho `bv `f4 hm).imp fun σ H Q hq61=>by
  apply `qx hq61
  unfold ob at h;cases e:`aQy with
  | none=>rw[e] at h;cases h
  | some d =>
   rw[e] at h;cases Yq0 h;exact d30 hf `aRn
theorem G7(h:`cX)(he:`ah0):PTD X e (ob g) :=
 .mk λB δ=>(O80 `dx he).imp fun σ H Q hq62=>by
  apply `qx hq62
  unfold ob at h;cases e:`az with
  | none=>rw[e] at h;cases h
  | some d =>
   rw[e] at h;cases Yq0 h;exact`aRn
theorem pq0(h:`GE):PTD X `FN (zw0 gt) :=
 .mk λB δ=>(Q20 `dx).imp fun σ H Q hq63=>by
  apply `qx hq63
  unfold zw0 at h;cases e:`g2 with
  | none=>rw[e] at h;cases h
  | some b =>
   rw[e] at h;cases h;exact#[b,en,e,λH' s=>`M8]
theorem lt0(h:`GE):PWD X `ah1 gt:=`eX Um0 `dx
theorem ri0(h:`GE):PWD X `ah2 gt:=`eX P40 `dx
theorem m90(ha:`GE)(hb:PWD X `yr gu):PWD X `ys (yb0 gt gu) :=
 .mk λB δ=>(P00 `bv `f4).imp fun σ H Q hq64=>by
  apply `qx hq64
  unfold yb0 at h;cases e:`g2 with
  | none=>rw[e] at h;cases h
  | some b =>
   rw[e] at h;refine`aRo;cases b with
   | true=>apply `aRp
   | false =>
    simp at h;subst h;rw[`qf];exact `M8
theorem te0(ha:`GE)(hb:PWD X `FL gu):PWD X `FM (G5 gt gu) :=
 .mk λB δ=>(Kr0 `bv `f4).imp fun σ H Q hq65=>by
  apply `qx hq65
  unfold G5 at h;cases e:`g2 with
  | none=>rw[e] at h;cases h
  | some b =>
   rw[e] at h;refine`aRo;cases b with
   | false=>apply `aRp
   | true =>
    simp at h;subst h;rw[`bl];exact `M8
theorem PWD.pt(h:PWD X e gt):PTD X e gt:=.mk λB δ=>(`Y3).pt
theorem eh0{op}(h:PD X a g):PD X `ah3 g:=`eX Ql0 `dx
theorem Zz0(ha:`cZ)(hb:PD X `yr gb):PD X `ys (m10 ga gb) :=
 .mk λB δ=>(Rh0 `bv `f4).imp fun σ H Q hq66=>by
  apply `bi hq66
  unfold m10 ob at h;cases e:`ei with
  | none=>rw[e] at h;cases h
  | some x =>
   rw[e] at h;apply `alc;cases x with
   | bl c =>
    rw[V1] at r;refine`aRq;cases c with
    | true=>apply `aRr
    | false =>
     simp[asB] at h;rw[`qf];exact `ald
   | _=>simp[asB] at h
theorem Bg0(ha:`cZ)(hb:PD X `FL gb):PD X `FM (orG ga gb) :=
 .mk λB δ=>(Bo0 `bv `f4).imp fun σ H Q hq67=>by
  apply `bi hq67
  unfold orG ob at h;cases e:`ei with
  | none=>rw[e] at h;cases h
  | some x =>
   rw[e] at h;apply `alc;cases x with
   | bl c =>
    rw[V1] at r;refine`aRq;cases c with
    | false=>apply `aRr
    | true =>
     simp[asB] at h;rw[`bl];exact `ald
   | _=>simp[asB] at h
theorem Db0(ha:`cZ):PD X `FN (Nm0 ga) :=
 .mk λB δ=>(Dj0 `bv).imp fun σ H Q hq68=>by
  apply `bi hq68
  unfold Nm0 ob at h;cases e:`ei with
  | none=>rw[e] at h;cases h
  | some x =>
   rw[e] at h;apply `alc;cases x with
   | bl c =>
    rw[V1] at r;simp[asB] at h;exact#[c,r,`ald]
   | _=>simp[asB] at h
theorem u6:PDA X [] v8:=`eX zy0.imp fun σ H Q hq69=>by let#[ds,en,h,k]:=hq69;cases h;exact k [] H `v9 (`lQ)
theorem v6(ha:`cX)(hr:`yX)(hs:`dB):PDA X `gX (z7 g gA) :=
 .mk λB δ=>(O2 `bv (hr B δ) hs).imp fun σ H Q hq70=>by
  skip;let#[ds,en,h,k]:=hq70
  unfold z7 at h;cases e1:`az with
  | none=>rw[e1] at h;cases h
  | some d =>
   cases e2:`eb with
   | none=>apply `cY;cases h
   | some es' =>
    apply `cY;cases h;done;refine`SK d #[es',`ic,e2,λvs H2 s2 r2=>k _ H2 `lc ?_];rw[j6];exact#[v,vs,rfl,`r5,r2]
theorem xm0{x1}(h:`yX):PD X (`Rf es) (yp0 gA) :=
 .mk λB δ=>(Yr0 `dx).imp fun σ H Q hq71=>by
  apply `bi hq71
  unfold yp0 at h;cases e1:`eb with
  | none=>rw[e1] at h;cases h
  | some ds =>
   rw[e1] at h
   by_cases hl:`t0
   ·apply `ale
    cases h;apply `aRs;rw[N5];exact#[p,vs,rfl,#[(`ic).free hp,d8],`JQ `gu]
   ·apply `alf
    cases h
theorem yk0(h:`yX):PD X `aje (W0 gA) :=
 .mk λB δ=>`aRt fun σ H Q hq72=>by
  apply `bi hq72
  unfold W0 at h;cases e1:`eb with
  | none=>rw[e1] at h;cases h
  | some ds =>
   rw[e1] at h
   by_cases hl:`t0
   ·apply `ale
    cases h;apply `aRs;rw[Q3];exact#[p,vs,rfl,`n #[(`ic).free hp,`alg],`JQ `gu]
   ·apply `alf
    cases h
def Yp0{f:`N}(hf:FnR K r f){δ:Ds}{σ:St}{Q:VK}(h:`gq tD K `Ki):tCB r (tDA K B δ gA) σ H Q:=by
 apply `yU;unfold oA at h;cases e1:`eb with
 | none=>rw[e1] at h;cases h
 | some ds =>
  rw[e1] at h;exact#[ds,en,e1,`Mc (hf H1 B vs ds d Q `alh r1 h `aRu)]
theorem tp0{id:`bJ}{p:Pos}{f:`N}(hc:`aNc)(hf:`SL)(hm:`nL)(hv:`aNd)(ha:`lR)(hg:`fo)
  (hn:`nM) (hdb:`aO) (he:`dB) (hpl:`eU) :
  `GF:=`eX (`SM ou0 hc `bv).imp `ali
theorem w90{T:`bJ}{p:Pos}{f:`N}(hc:`ajt)(hf:`SL)(hm:`nL)(hv:`Ru)(ha:`lR)(hg:`fo)
  (hn:`nM) (hdb:`aO) (he:`dB) (hpl:`eU) :
  `GF:=`eX (`SM nu0 hc `bv).imp `ali
def spD(K:`x)(f:`N):Sp:=`aRv `t7
theorem Ix0{k:Nat}{p:Pos}{f:`N}(F:`J_ CX0 fa (spD X.K f))(hr:`nQ)(hm:`oB=`Kk)(hk:`vT X.K `Kl=`d)(hb:`aRw)
  (ha:`lR) (hg:`fo) (hdb:`aO) (he:`dB) (hpl:`eU) :
  `GF:=.mk λB δ=>(`GG hr hk `bv).imp fun σ H Q h=>by
 apply `yU;unfold oA at h;cases e1:`eb with
 | none=>rw[e1] at h;cases h
 | some ds =>
  rw[e1] at h;refine`aRx;show spD X.K f `NN H1 Q E0;rw[`cg];exact#[B,ds,d,`alh,r1,h,`aRu]
universe zz
universe DL
variable{B B' B₀:DL.BS}
namespace DL
open Spec PyProof.Rows L2
structure EnvS(K:`x)(H₀:Hp)(B₀:BS)(H:Hp)(σ:St)(δ:Ds):Prop where
 same:`SN
 ex:∃B:BS,`aRy/\`aRz/\`bn
 fr:`aRA
 b0:`alj
def Ey0(K:`x)(H₀:Hp)(B₀:BS)(D:Ends):Res->Prop
 | `Bl=>`aRB
 | .rt d=>∀v H,`SN->Rp K H `ac d v->D.rt v H
 | .bk δ=>∀σ H,`ct->D.bk σ H
 | .ct δ=>∀σ H,`ct->D.ct σ H
 | .rf d=>∀p H,`alk->`SN->RpL K H (λa=>`oz∨a=p) d p->D.rt `kZ H
def tDS(K:`x)(H₀:Hp)(B₀:BS)(δ:Ds)(G:`kb):TS:=`SO `ct Ey0 K
structure PSD(X:Cx)(st:`a4)(G:`kb):Prop where
 mk::go:`aRC
instance{X:Cx}{st:`a4}{G:`kb}:`fn `SP `aRC:=#[PSD.go]
structure PSsD(X:Cx)(st:`b7)(G:`kb):Prop where
 mk::go:`aRD
instance{X:Cx}{st:`b7}{G:`kb}:`fn (PSsD X st G) `aRD:=#[PSsD.go]
section
variable{σ:St}{δ:Ds}
theorem EnvS.grow(e:`ct)(s:`bb):`hJ K H' δ:=#[`all s,let #[B,b1,b2,en]:=e.ex;(`tr (`fs s)),e.fr,e.b0]
universe zz
structure Wr(idx:`k)(σ σ':St)(δ δ':Ds):Prop where
 len:`ahK
 oth:∀j,j∉idx->σ'[j]?=`wh/\`ZD=`la
 own:∀j∈idx,∀ds,`ZD≠`Md
def tDG(K:`x)(idx:`k)(f:`be)(B:BS)(d:D)(δ:Ds):TG:=`rO (∃δ',`db/\`bn/\`akL/\∀σ',`aRE->Env K H B σ' δ'->Q σ' H)
structure PGD(X:Cx)(tg:`I)(idx:`k)(f:`be):Prop where
 mk::go:`aRF
instance{X:Cx}{tg:`I}{idx:`k}{f:`be}:`fn `GH `aRF:=#[PGD.go]
theorem _root_.L2.PG.imp{t t':TG}(h:PG X tg t)(q:∀v σ H Q,t' v σ H Q->t v σ H Q):PG X tg t':=λpins s σ H v u Q I r z=>h `s s σ H v u Q I r (q v σ H Q z)
def Zv0{σ:St}{δ:Ds}{d:D}:Wr [i] σ `DF δ `Sf:=by
 refine#[`a_,`alm,λj hj ds h=>?_]
 ·have:j≠i:=`Gm
  rw[`aRG,`aRG];exact`k!
 ·have:j=i:=`Gm
  subst this
  by_cases hl:j<`mY
  ·rw[`yT] at h;cases h
  ·rw[`Gz] at h;cases h
theorem o9(i:Nat){pos:Pos}(hN:`et)(hi:`dg)(hx:`aln)
  (hf:`tL):PGD X `k' [i] `adc:=.mk λB d δ=>(`SQ).imp λv σ H Q hq73=>by
 let#[δ',r,en,e,k]:=hq73
 cases e;exact k _ Zv0 (en.set i r)
section
variable{st:`a4}{G G1 G2 Ga Gb:`kb}{c:`I}{as bs body:`b7}
theorem u9:PSsD X [] t7:=.mk λH₀ B₀ δ pins s σ H D I hq74=>by
 apply `hC hq74
 cases e;apply `SR
theorem v7(h1:PSD X st G1)(h2:PSsD X `aV G2):`SS PSsD u5:=.mk λH₀ B₀ δ pins s σ H D I hq75=>by
 skip;apply `hC hq75
 unfold u5 at e;cases e1:`fc with
 | none=>rw[e1] at e;cases e
 | some r1 =>
  rw[e1] at e;cases r1 with
  | nx δ'=>done;exact Q8 `aEg (h2 `ae `ac δ') `s s σ H D I `aER
  | rt d=>cases e;done;apply `ST
  | bk δ'=>cases e;done;apply `ST
  | ct δ'=>cases e;done;apply `ST
  | rf d=>cases e;done;apply `ST
theorem Z3(h:`cX):`GI Y4 g:=.mk λH₀ B₀ δ pins s σ H D I hq76=>by
 skip;apply `aX hq76
 unfold Y4 at e1;apply `aZ;cases e2:`az with
 | none=>apply `am;cases e1
 | some d =>
  apply `am;cases e1;done;exact `t8 `dx (`GJ (`ET (k v H' (`NE s') (`dq (`ju b1)))))
def EnvS.wr{σ σ':St}{δ:Ds}(e:`ct)(b1:`mM)(b2:`mN)(s:`bb)(w:`aRE)(en:Env K H' B σ' δ'):`aRH:=by
 refine#[`all s,(`tr en),`aEi,e.b0]
 by_cases hi:i∈idx
 ·exact `L h1 (w.own i hi ds)
 ·rw[(`t9 i hi).2] at h1
  rw[(`t9 i hi).1] at h2;exact `aRI
theorem Z4(h:`cX)(hg:`GH)(hs:`aih)(hw:`aii)
  (h1:`aij):PSD X `aik (b8 f g):=.mk λH₀ B₀ δ pins s σ H D I hq77=>by
 skip;apply `aX hq77
 unfold b8 at e1;apply `aZ;cases e2:`az with
 | none=>apply `am;cases e1
 | some d =>
  apply `am;apply `fp;cases e3:`wB with
  | none=>apply `b8;cases e1
  | some δ' =>
   apply `b8;cases e1;done;exact `aRJ (hg B d δ) (`ET #[δ',r,`alo,e3,`aRK H' en.wr s'])
theorem W6(hc:`SU)(ha:`aRL)(hb:`aRM):`SV PSD ifD:=.mk λH₀ B₀ δ pins s σ H D I hq78=>by
 skip;apply `aX hq78
 unfold ifD at e1;apply `aZ;cases e2:`g2 with
 | none=>apply `am;cases e1
 | some t =>
  apply `am;done;refine `aRN (ha `ae `ac δ) (hb `ae `ac δ);cases t with
  | true=>apply `SW
  | false=>apply `SW
structure ItD(K:`x)(B:BS)(J:It)(items:`i)(H₁:Hp):Prop where
 go:∀i H,`alp->`GK->`aiq
 yld:∀i H x H',`alp->`ait->`GK->`bb/\∃d,`b?[i]?=`a9/\∀B':BS,Gr H₁ H' B B'->(∀a,B' a->`oO)->Rp K H' B' d x
 stop:∀i H,`alp->`dp<=i->`aiu
def tDI(K:`x)(B:BS)(δ:Ds)(g:`f1):TI:=fun σ H R=>∃items,`bn/\`az=`KN/\∀J H',`bb->ItD K B J `b? H'->R J H'
structure PID(X:Cx)(tg e:`I)(g:`f1):Prop where
 mk::go:`aRO
instance{X:Cx}{tg e:`I}{g:`f1}:`fn (PID X tg e g) `aRO:=#[PID.go]
theorem _root_.L2.PI.imp{t t':TI}(h:PI X tg e t)(q:∀σ H R,t' σ H R->t σ H R):PI X tg e t':=λpins s σ H R I z=>`b2 h R (q σ H R z)
theorem ol0(h:`cX):`alq m20:=.mk λB δ=>`GL (Uc0 `dx) fun σ H R hq79=>by
 apply `GM hq79
 unfold m20 at e1;cases e2:`az with
 | none=>apply `am;cases e1
 | some d =>
  apply `am;cases d<;>simp[Zk0] at e1
  subst e1;apply `alr;rw[Q3] at r;apply `als;apply `aRP
  ·have:`tX:=`Pd
   apply `alt
  ·let#[e3,y]:=y
   apply `alu;have:=`alv;apply `a3 e4;cases `E;subst e3;apply `alw
  ·apply `alx
theorem ik0(h:`cX):`alq tupI:=.mk λB δ=>`GL (Fo0 `dx) fun σ H R hq80=>by
 apply `GM hq80
 unfold tupI at e1;cases e2:`az with
 | none=>apply `am;cases e1
 | some d =>
  apply `am;cases d<;>simp[Kg0] at e1
  subst e1;apply `alr;rw[N5] at r;apply `als;apply `aRP
  ·have:`tX:=`Pd
   apply `alt
  ·let#[e3,y]:=y
   apply `alu;have:=`alv;apply `a3 e4;cases `E;subst e3;apply `alw
  ·apply `alx
def cv0(x:Str):(`y (`kc x))=`Gb:=`fd `kc
theorem Vu0(h:`cX):`alq gj0:=.mk λB δ=>`GL (Dk0 `dx) fun σ H R hq81=>by
 apply `GM hq81
 unfold gj0 at e1;cases e2:`az with
 | none=>apply `am;cases e1
 | some d =>
  apply `am;cases d<;>simp[Vq0] at e1
  subst e1;apply `alr;rw[R4] at r;refine#[_,r,`aEh]
  ·rw[cv0] at hi;exact hi
  ·let#[e3,c,hc,rfl]:=y
   subst e3;refine#[`JR,`xc,?_,λB' gB _=>`axh];unfold signs;rw[`df,`aOU,hc];rfl
  ·rw[cv0] at hi;exact hi
def f00(lo hi:Int):(`y (yn0 lo hi))=`w9:=`fd yn0
def He0(lo hi:Int):ItD K B (Itr lo `w9) (yn0 lo hi) H:=by
 refine`ab0
 ·rw[f00] at hi;exact hi
 ·let#[e3,rfl]:=y
  rw[f00] at hi;subst e3;exact#[`JR,`aiw,by simp[yn0,hi],λB' gB _=>`JW]
 ·rw[f00] at hi;exact hi
open T in
theorem uv0{a:`I}{p:Pos}(hm:`aLc)(ha:`aRQ)(hg:`F (`aLb) Aa)(hs:`QZ):PID X tg `aLe (ti0 gA) :=
 .mk λB δ=>`GL (Ow0 hg hm `bv hs) fun σ H R hq82=>by
 apply `GM hq82
 unfold ti0 at e1;cases e2:`eb with
 | none=>apply `am;cases e1
 | some ds =>
  apply `am;apply `fp;unfold Sg0 at e1;split at e1
  ·split at e1
   ·rename_i j hj
    cases e1;apply `aRR;rw[j6] at r;apply `SX;rw[c7] at r2;subst r2;rw[Y0] at r1;subst r1;refine#[j,rfl,hj.1,hj.2,k _ H' s' ?_];have:=He0 (K:=X.K) (B:=B) (H:=H') 0 j;apply `a3 Int.sub_zero;exact `E
   ·cases e1
  ·cases e1
def EnvS.lower{H₁:Hp}{σ:St}{δ:Ds}(e:`hf K H₁ `ac H σ δ)(s:`aRS)(b0:`alj):`ct:=by
 apply `aly;exact#[`aEb e.same,#[B,b1,`aRT,en],λi ds a h1 h2=>`ac! (`aRI),b0]
open Classical in
theorem pi0(hp:`FQ)(hc:`ed)(hi:`iO)(hg:`GH)(hb:`aRU)
  (hs:`fj):PSD X `aiK (qx0 gi f G):=.mk λH₀ B₀ δ pins s σ H D I hq83=>by
 apply `aX hq83
 unfold qx0 at e1;apply `aZ;cases e2:`Bz with
 | none=>apply `am;cases e1
 | some items =>
  apply `am;apply `fp;apply `aRV
  apply `aRW `aRX `aRY
  apply `aRZ;apply `aR_
  apply `aR0
  apply `aR1
  apply `aR2
  have a3:`c1 Hh H1:=#[λb o h=>by
   by_cases z:`B4
   ·rw[`aR3] at h;cases h
   ·rw[U] at h
    have h':`aR4:=h;rw[`n_] at h';exact h',λb o xs h=>by
   by_cases z:`B4
   ·apply `aR5
    apply `aR6;cases h0
   ·rw[U]
    show (`M')=_;rw[`n_];exact h]
  have hS:`aR7:=#[λb o h=>by
   have h1:=`aR8
   by_cases z:B b
   ·rcases b2 b z with q|q
    ·rw[a4 b q];exact h1
    ·rw[h] at q;cases q
   ·rw[Y b z];exact h1,`aR9]
  have Z:=`kB;have start:`aR':=by
   apply `aR!
   ·by_cases q:`oz
    ·exact `nJ
    ·exact `aR?
   ·have hn:=`aSa
    have nb:¬`oz:=λz=>`nk a z hn
    apply `aSb;rw[h2] at e3;cases e3;cases e4;exact a1 a hB nb
   ·rw[a4 a z]
    exact `aSc
  obtain⟨W,hW⟩:∃W:`aLg,∀i m σ H,W i m σ H↔`aSd yu0:=`alz;refine#[W,#[_,`t' #[rfl,`b3,δ,`fC,e1]],?_];intro i m σi Hi w0;let#[hm,c0,δi,O,ei]:=`alA;clear w0;subst hm;apply `aSe
  by_cases hlt:`GK
  ·refine `aSf yu0 #[`SY,`G,`t' #[rfl,hlt,δn,en',e']]
   apply `aSg;apply `aSh;have a6:`aSi:=rd B' (λb o n h=>by
    have h':Hh b=`ay:=`ae9
    apply `aSj;rcases c2 b z with q|q
    ·exact n (b1 b q)
    ·rw[h'] at q;cases q) env0.bad
   have a5:=`aSk
   replace O:=O.grow sm
   have a2:`aSl:=by
    apply `SZ;congr 1;rw[`S_] at hd;exact A3 hd
   rw[a2] at ei;unfold yu0 at ei;cases e3:f d δi with
   | none=>rw[e3] at ei;cases ei
   | some δ2 =>
    rw[e3] at ei;simp only[`p] at ei;apply `aSm;apply `aSn;cases e4:G δ2 with
    | none=>rw[e4] at ei;cases ei
    | some rb =>
     rw[e4] at ei;apply `aSo;cases rb with
     | nx δn=>apply `S0
     | ct δn=>apply `S0
     | bk δn =>
      cases ei;apply `aSp
     | rt d' =>
      cases ei;apply `aSq
     | rf d' =>
      cases ei;apply `aSr
  ·have e:i=`dp:=`G
   subst e;apply `aSs;rw[`yY] at ei;cases ei;exact `aSt
structure PFD(X:Cx)(ifs:`bM)(g:`hB):Prop where
 mk::go:`aSu
instance{X:Cx}{ifs:`bM}{g:`hB}:`fn (PFD X ifs g) `aSu:=#[PFD.go]
theorem u10:PFD X [] noT:=.mk λB δ pins s σ H Q I hq84=>by
 let#[b,en,e,k]:=hq84
 cases e;exact `b2 Fu0 Q (`S1)
theorem Vv0(h:`SU):PFD X [c] gt:=`eX Ge0 `dx
def Yk0{σ:St}(h:j<n):`fR[j]?=`hb:=by
 unfold zg0;rw[`hc `ia,`qn,`bS]
theorem o40:`qy (`b! `M7 (`cr n (`f:`eo)) (`aSv))
 | 0=>`R
 | n+1=>`aa `m3 (o40 n)
theorem Wk0{σ:St}{δ:Ds}(en:`bn):∀caps:`k,`b! `M7 (`aPn) (`aQh)
 | []=>`R
 | j::`dt=>by
  refine `aa ?_ (Wk0 en `dt);show SlR K H B `acT (iw0 `la);cases h:`la with
  | none=>trivial
  | some sl =>
   cases sl with
   | un=>trivial
   | ow ds=>trivial
   | ex c n=>trivial
   | sh d =>
    let#[v,e,r]:=en.get h;rw[e];exact`aRc
def N30{o:`Sg}{ds:D}(h:iw0 o=`_n):`bW:=by
 cases o with
 | none=>cases h
 | some s=>cases s<;>cases h
def tu0{δ:Ds}{ds:D}(h:`kY[i]?=`Md):`bW:=by
 unfold y90 at h
 by_cases hi:i<n
 ·rw[`Rr,`qn,`Q hi] at h
  cases h
 ·rw[`ajq,`df] at h
  cases q:`dt[i - (`y `aSv)]? with
  | none=>rw[q] at h;cases h
  | some j =>
   rw[q] at h;exact N30 (A3 h)
theorem Env.comp{σ:St}{δ:Ds}(en:`bn)(n:Nat)(caps:`k):Env K H B `fR `kY :=
 #[`yZ (o40 n) (Wk0 en `dt),`GN,`alB]
def SlR.gr{o:`eo}{s:Sl}(g:`eW)(no:∀ds,s≠`_n)(h:`SD):SlR K H' B' o s:=by
 cases s with
 | un=>trivial
 | sh d=>apply `gK;apply `GO
 | ow ds=>exact `L rfl (no ds)
 | ex c n=>let#[a,e,r]:=h;exact#[a,e,`xW]
def Pd.impG(g:`eW):∀{σ:St} {δ:Ds},(`aSw)->`aQ!->`b! (SlR K H' B') σ δ:=by
 intro σ δ no p
 induction p with
 | nil=>exact `R
 | cons r t ih=>exact `aa (r.gr g λds z=>no 0 ds (`GP z)) (ih λi ds z=>no `fE ds `aSx)
def tDF(K:`x)(B:BS)(δ:Ds)(g:`cW):TE:=`cA (∃d,`bn/\`iM/\`aSy)
structure PDF(X:Cx)(e:`I)(g:`cW):Prop where
 mk::go:`aSz
instance{X:Cx}{e:`I}{g:`cW}:`fn `y_ `aSz:=#[PDF.go]
def tD.toF{δ:Ds}{σ:St}{Q:VK}(h:`gq tD K g):`gq tDF K g:=by
 let#[d,en,e,k]:=h;exact#[d,en,e,λp H' hp s r=>k _ H' s (r.rp (λa z=>`fG) (en.free hp))]
theorem PDF.pd(h:`y_):`cX:=`eX (`Y3).imp fun σ H Q z=>z.toF
def jg0{K:`x}{B:BS}{δ:Ds}{σ:St}{H:Hp}{Q:VK}{caps:`k}{gi:`f1}{f:`be}{gt:`hB}{ge:`cW}(hidx:∀j∈idx,j<n)
  (h:`gq tDF K `M?) :
  Zq0 n `dt (tDI K B δ gi) `aSA (`cA (∃B δ,`gq tDT K gt)) (`cA (∃B δ,`gq tD K ge)) σ H Q:=by
 apply `yU;unfold O7 at h;cases e1:`Bz with
 | none=>rw[e1] at h;cases h
 | some items =>
  rw[e1] at h;apply `eY
  by_cases hsz:`t2
  ·rw[`Q hsz] at h
   cases e2:`acY with
   | none=>rw[e2] at h;cases h
   | some out =>
    rw[e2] at h;cases h;refine#[`b?,en,e1,`aSB];skip;have Y:=`ic;have a8:¬B L:=Y.free hL;obtain⟨Bp,O⟩:∃Bp:BS,Bp=`aSC:=`ad
    have a6:Bp L:=`l O `vl
    have b0:∀a,B a->Bp a:=λa z=>`l O `fG
    have a2:∀a,Bp a->`aBc:=λa z=>by rw[O] at z;exact z
    have gr:∀{H2:Hp},`R'->`aSD:=λ{H2} s2 b o nb hb=>#[(λz=>by
     rcases a2 b z with q|q
     ·exact nb q
     ·subst q;rw[hL] at hb;cases hb),s2 b o hb]
    obtain⟨W,hW⟩:∃W:`Sa,∀i m ys H2,`aku↔m=`dp - i/\`aSE/\`aSF/\`R'/\`cq<=i/\∃pre rest,out=pre++`aV/\`aSG/\`CD `kY (`mF i)=`c `aV:=`alz;done;refine#[W,#[_,`t' #[rfl,`b3,d8,W8 hL,`gT,[],out,rfl,`lQ,e2]],?_];intro i m ys H2 w0;skip;let#[hm,b2,hD,s2,b1,pre,rest,ho,rp,ec]:=`alA;clear w0;subst hm;have U:Env K H2 Bp `fR `kY:=by
     refine#[`aSH Y.comp,`jR,`alB];rcases a2 a z with q|q
     ·exact(Y.same s2).bad a q
     ·subst q;rw[hD];exact .of rfl `aQ0 λ_ z=>nomatch z
    by_cases hlt:`GK
    ·done;refine `q #[it.go i H2 `S2 hlt,`aSI]
     let#[sm,dx,a1,rx]:=`adb i H2 x H3 `S2 y hlt;have a3:`aSJ:=rx Bp (gr (`Kc sm)) U.bad
     replace U:=U.same sm
     replace s2:=`Kc sm
     replace hD:=sm _ _ hD
     replace rp:=`S3 sm
     have Z:`mF i=dx::`M!:=by
      apply `SZ;congr 1;rw[`S_] at a1;exact A3 a1
     rw[Z] at ec;unfold xw0 at ec;cases e3:f dx `kY with
     | none=>rw[e3] at ec;cases ec
     | some δ' =>
      rw[e3] at ec;dsimp only at ec;refine#[Bp,dx,`Jz,δ',a3,U,e3,`aSK λj v z=>?_]
      ·by_cases hj:j∈idx
       ·rw[Yk0 (hidx j hj)] at z;cases z
       ·rw[(`t9 j hj).1];exact z
      ·cases e4:`Gk with
       | none=>rw[e4] at ec;cases ec
       | some t =>
        rw[e4] at ec;refine#[Bp,δ',t,en4,e4,`aSL];cases t with
        | false =>
         rw[`qf];exact#[`SY,`G,`t' #[rfl,hlt,s5 _ _ hD,`Kc s5,`G,pre,`aV,ho,`S3 s5,ec]]
        | true =>
         rw[`bl];dsimp only at ec;cases e5:`M3 with
         | none=>rw[e5] at ec;cases ec
         | some yd =>
          rw[e5] at ec;dsimp only at ec;cases e6:`CD `kY (`M!) with
          | none=>rw[e6] at ec;cases ec
          | some rest' =>
           rw[e6] at ec;cases ec;refine#[Bp,δ',yd,`aSM,e5,λv H6 s6 r6=>?_];have a5:`aSN:=s6 _ _ (s5 _ _ hD);have g6:`aSO:=λb o nb hb=>#[nb,by
            rw[j4 (λz=>nb (`l z a6))];exact hb]
           refine#[a5,`G,`SY,`G,`t' #[rfl,hlt,d8,#[λb o hb=>?_,λb ob zs hb=>?_],`Zu,pre++[yd],rest',`gn ho,?_,e6]]
           ·have a7:b≠L:=λz=>by rw[z,hL] at hb;cases hb
            rw[j4 a7];exact s6 _ _ (s5 _ _ (s2 _ _ hb))
           ·apply `iN L
            ·rw[z,d8] at hb;cases hb
            ·rw[j4 z] at hb
             exact s2.nf _ _ _ (s5.nf _ _ _ (s6.nf _ _ _ hb))
           ·exact(`s8 ((`S3 s5).same s6) r6).mono g6
    ·have e:i=`dp:=`G
     subst e;done;refine `n #[`ae' _ H2 `S2 `bL,?_];rw[`yY] at ec;have a4:`aSP:=A3 ec;subst a4;rw[`cg] at ho;subst ho;refine k L H2 (`s5 hL) `lc #[ys,hD,?_];rw[O] at rp;exact rp
  ·rw[`ag hsz] at h;cases h
theorem W40{sc scope:`cR}{elt iter:`I}{ifs:`bM}{N':`h}{n:Nat}{caps:`k}{gi:`f1}{idx:`k}{f:`be}{ge:`cW}
  (hc:`ed) (hsc:`mA) (ok:`qu) (hidx:∀j∈idx,j<n) (hi:`iO)
  (hg:`kg) (ht:`y0) (he:`t!)
  (hs:`fj) :
  `aSQ:=.mk λB δ =>
 (dx0 hc hsc ok `ae8 (g:=`xf) (tt:=`alC) (te:=`alD)
  `GQ
  `aSR
  `alE hs).imp fun σ H Q h=>jg0 hidx h
theorem Ja0{sc scope:`cR}{elt iter:`I}{ifs:`bM}{N':`h}{n:Nat}{caps:`k}{gi:`f1}{idx:`k}{f:`be}{ge:`cW}
  (hc:`ed) (hsc:`mA) (ok:`qu) (hidx:∀j∈idx,j<n) (hi:`iO)
  (hg:`kg) (ht:`y0) (he:`t!)
  (hs:`fj) :
  `aSS:=(`alF W40 ok).pd
theorem Vf0(i:Nat){y:Str}{py spos:Pos}{sc scope:`cR}{elt iter:`I}{ifs:`bM}{N':`h}{n:Nat}{caps:`k}{gi:`f1}{idx:`k}{f:`be}{ge:`cW}
  (hN:`et) (hc:`ed) (hsc:`mA) (ok:`qu) (hidx:∀j∈idx,j<n) (hi:`iO)
  (hg:`kg) (ht:`y0) (he:`t!)
  (hiN:`n0) (hy:`lS)
  (hsw:`akz)
  (hs:`fj)
  (hf:`ka) :
  `aST:=.mk λH₀ B₀ δ pins s σ H D I hq85=>by
 skip;apply `aX hq85
 unfold b8 at e1;apply `aZ;cases e2:`aQx with
 | none=>apply `am;cases e1
 | some d =>
  apply `am;cases e1;done;refine fe0 (i:=i) hN hiN hy hc hsc ok `ae8 (g:=`xf) (tt:=`alC) (te:=`alD)
   `GQ
   `aSR
   `alE hsw hs hf `s s σ H D I (jg0 hidx (tD.toF (`GJ (`Mf (k _ H' (en.wr b1 b2 s' Zv0 ((`alo).set i r')))))))
universe zz
theorem tw0{N:`h}:∀{ds:`i} {vs:`V},`S4->`b! `M7 (`k_ `c) (ds.map `lm)
 | [],_,h=>`aQP `R
 | `aI,_,h=>by
  rw[j6] at h;apply `GR;exact `aa `Su (tw0 (N:=N) h2)
def ty0{es:D}(h:`Bd[i]?=`aQ?):`bW:=by
 unfold S5 at h
 by_cases hi:i<`bX
 ·rw[`Rr,`df] at h
  cases q:ds[i]? with
  | none=>rw[q] at h;cases h
  | some d=>rw[q] at h;cases h
 ·rw[`ajq,`qn] at h
  apply `S5
section
variable{P:`ak}{w:`O}
def okD{st:`a4}{k:Nat}{f:`N}{G:`kb}(F:`y1)(S:`yL)
  (body:`alG)
  (hf:∀ds d,`SG->`bX=`aJ/\`aSU) :
  `Z `ef ps (spD K f):=by
 apply `S6
 ·skip;apply `aSV;done;rw[`cb];exact(`GS).1
 ·skip;apply `aSW;done;apply `aSX
  skip;have en:`alH:=by
   apply `aSY;unfold L2.start S5;rw[`cb];exact `aSZ
  rcases (`GS).2 with e|⟨rfl,δ,e⟩|⟨e,hn⟩
  ·done;exact`aS_
  ·done;exact#[_,en,e,`sP (q `v H' `Pq `pY)]
  ·done;exact#[_,en,e,`Pe (q _ H' s' ((r'.toO hn).rp (λa z=>`fG) (λz=>hb p z hp)))]
def spN(K:`x)(f:`N):Sp:=`aRv `aSy
def okN{st:`a4}{k:Nat}{f:`N}{G:`kb}(F:`y1)(S:`yL)
  (body:`alG)
  (hf:∀ds d,`SG->`bX=`aJ/\`ae?) :
  `Z `ef ps (spN K f):=by
 apply `S6
 ·skip;apply `aSV;done;rw[`cb];exact(`GS).1
 ·skip;apply `aSW;done;apply `aSX
  have en:`alH:=by
   apply `aSY;unfold L2.start S5;rw[`cb];exact `aSZ
  exact#[_,en,(`GS).2.1,`Pe (q p H' hp s' (r'.toO (`GS).2.2))]
universe zz
universe DL
namespace L2
open Spec PyProof.Rows
theorem Wu0:∀{ys:`h} {us:`J},`aS0->StrsAre us ys
 | [],_,r=>`aS1
 | y::ys,_,r=>by
  rw[`ab] at r;cases r with
  | cons r1 r2 =>
   let#[t,e]:=r1;subst e;exact `aa y t (Wu0 r2)
def Jm0:MtR X "str.join" (λx xs H Q=>∃(sep:Str) (p:`e) (ys:`h),x=`t sep/\`EQ/\SqL X.K H p `DY/\`aQo/\Q `aQp H):=by
 apply `aS2;skip;let#[sep,p,ys,rfl,rfl,hq,hz,q]:=h;apply `cv;let#[u,rfl,ru]:=rs.one;cases ru;let#[its,rv,pl,_]:=`v7;done;exact join_list `nS (`br (Wu0 rv)) hz `aS3
def part_of{o:`aE}(p:`Ch u o):∃l:`aH (Int×Tok),u=partValue l/\`dM `eE=o:=by
 cases p with
 | none=>exact#[`f,rfl,rfl]
 | int i t=>exact#[`c (i,t),rfl,rfl]
def Ga0:SlR X (`RC (∃z,x=`oN/\`w?/\Q `aS4 H)):=by
 apply `RE;skip;let#[z,rfl,hz,q]:=h;apply `cv;let#[l,rfl,rfl]:=part_of pl;let#[u,rfl,rfl]:=part_of pu;done;refine#[`j9,_,F.slot_str_getitem.lookup,c5 _ _ _,wpAny_getItem_str_slice (l:=l) (u:=u) (st:=`f) ?_ rfl (post_val_or_str #[C0 (Txt.slice_le z _ _) hz,`aS3])];let#[o,h1,h2,h3]:=hs;exact#[o,h1,h2,h3]
universe L2
namespace DL
open Spec PyProof.Rows L2
def tyD:D->`bJ
 | `v => "NoneType"|`b6 => `y2|`cV => `j8|`cc => `j9|`Gg => `eC|`eR => `e2|`qz => `K8|`qA => `vB
def okT(T:`bJ)(f:`d9):Prop:=∀(K:`x) (d:D),W.kitOne K (`bx (tyD d)) `kS=`c (f d)
theorem Iz0:okT `j8 isInt:=`S7
theorem T90:okT `j9 isStr:=`S7
theorem Yi0:okT `y2 isBool:=`S7
theorem nr0:okT `eC isTup:=`S7
section
def Nh0{T:`bJ}{f:`d9}(hT:okT T f):`fK X `Fm (`iv (∃B d x,xs=[x,.ty T]/\`S8/\`to (f d))):=by
 intro pins s σ H xs us Q I rs h;skip;let#[B,d,x,rfl,r,q]:=h;let#[u,c,rfl,ru,rc]:=rs.two;obtain rfl:c=`k7 T:=rc;have fin:∀tk,`sW (`e' (f d)) ((`A4 tk)):=λtk=>#[`b6,H,I.tok tk,rfl,q]
 have e:=hT X.K d;cases d with
 | non=>rw[Q9] at r;subst r;cases (`EU (u=`mT));done;exact `pX W.kitx_none `mP
 | bl y=>rw[V1] at r;subst r;cases (`EU (u=`Cj y));done;exact `pX W.kitx_bool `mP
 | int i=>rw[Y0] at r;subst r;let#[t,rfl]:=(`EU `O');done;exact `pX W.kitx_int `mP
 | str y=>rw[R4] at r;subst r;let#[t,rfl]:=(`EU (∃t,u=`L? y t));done;exact `pX W.kitx_str `mP
 | tup ds =>
  rw[N5] at r;apply `alI;apply `S9;let#[its,_,p,_]:=`mO `n1;let#[o,h1,h2,_]:=p;done;exact `pX W.kitx_tuple `aS5
 | lst ds =>
  rw[Q3] at r;apply `alI;apply `S9;let#[its,_,p,_]:=`jb `n1;let#[o,n,h1,h2,_]:=p;done;exact `pX W.kitx_list `aS5
 | dct ks ds =>
  rw[pr0] at r;let#[a,xs,rfl,_,hq,_]:=r;apply `S9;cases ks with
  | inl ks =>
   let#[_,_,vs,_,p]:=(`aS6 `Sp);let#[o,es,ep,h1,h2,_]:=p;done;apply `aS7
  | inr ks =>
   let#[_,_,vs,_,o,es,ep,h1,h2,_]:=(`aS6 `akQ);done;apply `aS7
 | fn ks ds =>
  rw[R80] at r;apply `alI;apply `S9;let#[oF,_,_,_,_,_,_,_,_,#[_,h1],#[h2,_],_]:=hq;done;exact `pX KfT.kit #[oF,(`bR a _ h1).1,h2]
theorem ss0{T:`bJ}{f:`d9}{Tn:Str}{p p2 pos:Pos}(hT:okT T f)(hb:`mw Tn=`c `kS)(hm:`alJ)(hmT:`cm Tn=`f)(h:`cX)(hg:`alK)(hgT:`hg Tn)
  (hn:`Nr Tn) (hd:`sl Tn)
  (he:`gm [e,`LH] (`rh::`alL)) (he2:`Jr `alL (`h9 (`LH)))
  (hpl:`kt (`o4 `alL)) :
  PD X (`dl `alM [e,`LH]) (yq0 f g) :=
 .mk λB δ=>(ou0 (Nh0 hT) hg hm PyProof.Rows.boot_isinstance (O2 `dx (O2 (Id0 (v:=.ty T) hgT hmT hb rfl hn hd) zy0 he2) he) `r `r he hpl).imp fun σ H Q hq86=>by
  apply `bi hq86
  unfold yq0 at h;cases e1:`az with
  | none=>rw[e1] at h;cases h
  | some x =>
   rw[e1] at h;cases h;exact`SK x #[B,x,v,rfl,r1,k _ H1 s1 `wj]
open T in
def fo0{C:`aiO}[∀i j,`lT (C i j)]{g:`Q2}{g':`aS8}(hg:`aS9):Op2 K (rI C g) (`kd (`aW (C i j) (g' i j))):=by
 apply `iP;apply `aS'
 rename_i i j;split at h
 ·cases h
  rw[Y0] at rx ry;subst rx ry;exact#[i,j,rfl,rfl,`u2,`aS!]
 ·cases h
open T in
def js0{g:`Q2}{g':`aS8}(hg:`aS9):`GT g (`kd (`c (g' i j))):=by
 apply `iP;apply `aS'
 rename_i i j;rw[Y0] at rx ry;subst rx ry;exact#[i,j,rfl,rfl,`aS!]
instance decDiv(i j:Int):`lT (Nt0 i j):=inferInstanceAs (`lT (`Q5))
instance decPow(i j:Int):`lT (M70 i j):=inferInstanceAs (`lT (`aiT))
variable{a:`I}{ga:`cW}
theorem zn0(ha:`cZ)(hb:`dS):`lU (`sV .Sub) zo0:=k90 Gg0 (js0 (g':=`aLw) `alN) ha hb
theorem W7(ha:`cZ)(hb:`dS):`lU (`sV .FloorDiv) m9:=`alO Hs0 Nt0 `aLz
theorem Z6(ha:`cZ)(hb:`dS):`lU (`sV .Mod) m7:=`alO Gp0 (λ_ j=>0<j) `aLA
theorem ql0(ha:`cZ)(hb:`dS):`lU (`sV .Pow) py0:=`alO Dg0 M70 `aLB
universe zz
universe DL
namespace L2
open Spec PyProof.Rows
def J30(K:`x):R2:=`d5 (∃l b xs zs,`alP/\`F6/\`JP l/\`aS?/\`aTa/\`nP `eN H `S')
def Vm0:`ajG J30:=by
 apply `fk;skip;apply `aTb;cases rx;cases ry;let#[its,r,p1,z1]:=`jb hH;apply `aTc;apply `aTd;let#[#[a3,Z,data2,a2],Y,U,n2,O]:=`S!;simp only at hc hd U O;subst hc hd U O;have e:`b0++`alQ=(`h7 (its++J)):=`a_
 have a1:`aTe:=by
  rw[`b5,`b5,← `cb,← `m5];exact hz
 done;refine u4 `tV #[_,Y,rfl] noFill_list_add seq_list_add PySem.F.slot_list_add PySem.F.entry_list_add (PySem.F.args_list_add_2 _ _) (list_addW l b `b0 `alQ n n2 dd Z sl a2 a1) #[ho,Y,?_];rw[e];exact`aTf (`Lx r2) (`aNZ)
universe L2
namespace DL
open Spec PyProof.Rows L2
section
variable{a:`I}{p:Pos}{ga:`cW}
theorem bk0(hb:`vh){p:`e}(h:`eN):¬B p:=λz=>hb p z h
def mv0{p:`e}(hb:`vh)(h:`eN)(r:`bB):Rp K (upd H p `kw) B `vx `kZ:=by
 rw[Q3];exact#[p,xs,rfl,`n #[bk0 hb h,`alg],`aTg]
def dt0{p:`e}(hb:`vh)(h:`eN)(r:`bB):Rp K (upd H p `u9) B `o? `kZ:=by
 rw[N5];exact#[p,xs,rfl,#[bk0 hb h,d8],`aTg]
theorem vx0:`GT `aiY ltD:=`S? `aiY
theorem Wg0:`GT `aiZ leD:=`S? `aiZ
theorem qk0:`GT `ai_ gtD:=`S? `ai_
theorem Dm0:`GT `ai0 geD:=`S? `ai0
def Op0{x y:V}{dx dy:D}{b:`C}(rx:`ak?)(ry:`aRj)(h:`alR=`pm):`aiW/\`MM=b:=by
 cases dx<;>cases dy<;>simp only[eqS] at h<;>try cases h
 all_goals
  simp only[Q9,V1,Y0,R4] at rx ry;subst rx ry;refine`P?;simp
def Z8:Op2 K rEq eqD:=by
 apply `iP;unfold eqD at h;cases e:`alR with
 | none=>rw[e] at h;cases h
 | some b =>
  rw[e] at h;cases h;let#[h1,h2]:=Op0 rx ry e;exact`aTh
def sb0:Op2 K rNe neD:=by
 apply `iP;unfold neD at h;cases e:`alR with
 | none=>rw[e] at h;cases h
 | some b =>
  rw[e] at h;cases h;let#[h1,h2]:=Op0 rx ry e;exact`aTh
def ps0:Op2 K `aLD t60:=by
 apply `iP;apply `aTi
 subst hy;cases h;rw[Q9] at ry;refine`aTj;rw[V1];apply `aTk
 all_goals first
  | (subst rx;rfl)
  | apply `aTl
theorem Ou0(xs:`bd)(i:Int):`alS=DL.atI xs i:=rfl
def m70(n d:Nat)(o:`aE):`kF n d o=sIx n d o:=`O4 o
def U00{i:Int}{d:D}(r:`bB)(h:DL.atI ds i=`a9):∃v,`alS=`bQ/\`db:=by
 rw[Ou0];unfold DL.atI at h ⊢;rw[`cb];cases e:DL.ixN `bX i with
 | none=>rw[e] at h;cases h
 | some j =>
  rw[e] at h;exact `qo h
def El0:Op2 K (rIx K) ixD:=by
 apply `iP;cases dx<;>cases dy<;>simp only[ixD] at h<;>try cases h
 ·split at h
  ·rename_i hz
   rw[R4] at rx;rw[Y0] at ry;subst rx ry;let#[c,hc,rfl]:=u8.mp h;apply `j? #[_,_,c,rfl,rfl,hz,hc,`SI]
  ·cases h
 ·skip;rw[N5] at rx
  rw[Y0] at ry;subst ry;apply `Ta rx;let#[v,hv,rv]:=U00 r h;done;exact `q (`aTm)
 ·skip;rw[Q3] at rx
  rw[Y0] at ry;subst ry;apply `Ta rx;let#[v,hv,rv]:=U00 r h;done;exact `aTm
theorem Y6(ha:`cZ)(hb:`dS)(hs:`SJ):`lU `F7 ixD:=Dx0 Dn0 El0 ha hb hs
structure PDO(X:Cx)(e:`r6)(g:`yQ):Prop where
 mk::go:`aTn
instance{X:Cx}{e:`r6}{g:`yQ}:`fn (PDO X e g) `aTn:=#[PDO.go]
theorem R9:PDO X `f V0:=.mk λB δ pins s σ H Q I hq87=>by
 let#[o,en,h,k]:=hq87
 cases h;exact `b2 Ib0 Q (`S1)
theorem U4(h:`cX):PDO X (`c e) (`eI g):=.mk λB δ pins s σ H Q I hq88=>by
 let#[o,en,hq,k]:=hq88
 unfold someO at hq;cases e1:`az with
 | none=>rw[e1] at hq;cases hq
 | some d =>
  rw[e1] at hq;cases d<;>simp[asI] at hq
  subst hq;exact Is0 `dx `s s σ H Q I #[_,en,e1,`ET #[_,`aTo,k H' s']]
def Ut0(r:`bB)(lo hi:`aE):`lN (cutD ds lo hi) (`MV):=by
 unfold cutD j60;rw[`cb,m70,m70];exact(r.drop _).take _
def w80{d:D}(h:`rf [d]):∃v,xs=[v]/\`db:=by
 rw[j6] at h;apply `GR;rw[c7] at h2;subst h2;exact`Su
def Du0:FnR K (`iv ((`aOr)∨`RV `alT `alU `aOp)) V5:=by
 apply `y3;unfold V5 at h;split at h
 ·split at h
  ·cases h
   apply `kh;rw[R4] at r1;subst r1;exact `n #[_,rfl,`u2,`D4]
  ·cases h
 ·skip;cases h
  apply `kh;rw[Q3] at r1;apply `y4;done;exact `q #[a,ys,rfl,`alV,`aTp]
 ·skip;cases h
  apply `kh;rw[N5] at r1;apply `y4;done;exact `q #[a,ys,rfl,`alW,`aTp]
 ·cases h
theorem J5(hm:`aTq)(ha:`GU)(hg:`aTr)(he:`f5)(hpl:`ki) :
  PD X `aTs (oA gA V5):=tp0 (Xc0.or jd0) Du0 hm c6 ha hg `r `r he hpl
theorem W30:∀{ds:`i} {xs:`V} {bs:`h},`bB->fa0 ds=`c bs->xs=bs.map `CF
 | [],_,_,r,h=>by
  cases h;rw[c7] at r;exact r
 | `aI,_,bs,r,h=>by
  rw[j6] at r;apply `SX;cases d<;>simp only[fa0] at h<;>try cases h
  let#[t',e,rfl]:=u8.mp h;rw[R4] at r1;rw[r1,W30 r2 e];rfl
theorem Uu0{apos cpos:Pos}(ho:`alX)(ha:`GU)(hbase:`wA "join")
  (hfew:`F ((`qB
  &&`Tb)=`d) Aa)
  (hline:`gG) (hs:`f5) (hplain:`n2) :
  PD X (`n3 o "join" [e]) (kb0 g gA):=.mk λB δ =>
 (`aTt F.slot_str_join F.type_str_join Jm0).imp fun σ H Q hq89=>by
  skip;apply `bi hq89
  unfold kb0 at h;cases e1:`az with
  | none=>rw[e1] at h;cases h
  | some x =>
   cases e2:`eb with
   | none=>apply `cY;cases h
   | some ds =>
    apply `cY;apply `eY;unfold Zi0 at h;split at h
    ·cases e3:fa0 _ with
     | none=>rw[e3] at h;cases h
     | some ys =>
      rw[e3] at h;apply `eY;split at h
      ·cases h
       done;apply `alY;rw[R4] at r1;subst r1;refine`aTu;skip;let#[w,rfl,r3]:=w80 r2;rw[Q3] at r3;let#[a,zs,rfl,q,rr]:=r3;have:=W30 rr e3;subst this;done;exact#[_,a,ys,rfl,rfl,`gr,`u2,k _ H2 `lc `KQ]
      ·cases h
    ·cases h
def oh0:FnR K (`iv (∃p ys,`EQ/\((`alT/\`aD6)∨(`alU/\Q `kZ H)))) we0:=by
 apply `y3;unfold we0 at h;split at h
 ·skip;cases h
  apply `kh;rw[Q3] at r1;apply `y4;done;exact#[a,ys,rfl,`n #[`gr,`aBv dt0]]
 ·skip;cases h
  apply `kh;have J:=r1;rw[N5] at r1;apply `y4;done;exact#[a,ys,rfl,`q #[`gr,k _ H `v9 J]]
 ·cases h
universe zz
section
variable{a:`I}{p:Pos}{ga:`cW}
theorem ye0(h:`cZ):PD X (`Z' .USub a pos) (unG Q0 ga):=.mk λB δ=>(Bv0 Fj0 `dx).imp fun σ H Q hq90=>by
 apply `bi hq90
 unfold unG at h;cases e1:`ei with
 | none=>rw[e1] at h;cases h
 | some x =>
  rw[e1] at h;apply `C1 x Q0
  subst h;exact#[_,en,e1,`DX #[_,`aTo,k _ H' s `BH]]
def FnD(P:`ak)(w:`O)(K:`x)(mg:`a6)(base:`D)(x:Str)(k:Nat)(ps:`h)(f:`N):Prop :=
 `alZ (`Z k ps (spD K f))
def J1{k:Nat}{f:`N}(C:`aTv)(hr:`qC)(hk:k<=m)(ha:`lR)(hg:`fo)(hdb:`aO)
  (he:`dB) (hpl:`eU):`GF:=by
 apply `Tc;exact Ix0 F `iQ hm kp hb ha hg hdb he hpl
theorem dd0{sc scope:`cR}{elt iter tg:`I}{ifs:`bM}{N N':`h}{n:Nat}{caps:`k}{gi:`f1}{idx:`k}{f:`be}{gt:`hB}{ge:`cW}
  (ok:`t?) (hidx:∀j∈idx,j<n) (hi:`iO)
  (hg:`kg) (ht:`y0) (he:`t!)
  (hc:`iR) (hsc:`y5) (hN:`y6) (hs:`fj) :
  `aSS:=`alF Ja0 `y7
theorem go0(i:Nat){y:Str}{py spos:Pos}{sc scope:`cR}{elt iter tg:`I}{ifs:`bM}{N N':`h}{n:Nat}{caps:`k}{gi:`f1}{idx:`k}{f:`be}{gt:`hB}{ge:`cW}
  (hnd:`QM) (ok:`t?) (hidx:∀j∈idx,j<n) (hi:`iO)
  (hg:`kg) (ht:`y0) (he:`t!)
  (hc:`iR) (hsc:`y5) (hN:`y6)
  (hiN:`n0) (hy:`lS)
  (hsw:`akz)
  (hs:`fj)
  (hf:`ka) :
  `aST:=Vf0 i (hN▸hnd) hc hsc `y7 hidx hi hg ht he hiN hy hsw hs hf
universe zz
universe DL
namespace DL
open Spec PyProof.Rows
@[simp] def fz:D->Sl
 | `z [`eR,`eR]=>.un
 | `z (`cc::_)=>.un
 | `z [`cV,`Gg]=>.un
 | d=>.sh (unl d)
@[simp] def rs0:Sl->Sl
 | `vn=>fz d
 | s=>s
@[simp] def frz(δ:Ds):Ds:=δ.map rs0
@[simp] def flat:`d9
 | `v=>`d|`b6=>`d|`cV=>`d|`cc=>`d|_=>`m
@[simp] def s70(g:GE):GE:=fun δ=>`al_ λd=>`w `n4 `a9 `f
@[simp] def dm0(g:GB):GB:=`aTw
@[simp] def cp0(g:GE):GE:=`aTw
@[simp] def frzAt(i:Nat)(δ:Ds):Ds:=match `b4 with
 | `c s=>`el i `al0
 | `f=>δ
@[simp] def Lw0(i:Nat)(G:GS):GS:=fun δ=>G (frzAt i δ)
@[simp] def yj0(i:Nat)(g:GE):GS:=`yO λd=>.nx `s3
abbrev GX:=Ds->`aTx
@[simp] def W9(g:GE):GX:=`yO λd=>(d,δ)
variable{gx:DL.GX}
@[simp] def y40(gx:GX)(ft:`be):GS:=`ih `y8 ((ft r.1 r.2).map .nx)
@[simp] def Z5(gx:GX):GS:=`ih `GV (.nx r.2)
@[simp] def owL(i:Nat)(δ:Ds):`u6:=match `b4 with
 | `aTy=>`ov
 | _=>`f
@[simp] def w00(i:Nat)(g:GE):GX:=fun δ=>`al1 λds=>`lV λd=>`w (`bX<`W) (`c (`v,`aTz)) `f
@[simp] def u60(i:Nat)(g:GE):GX:=fun δ=>`al1 λds=>`lV λd=>match d with
 | `mR=>`w (`bX+`ho<=`W) (`c (`v,`aTA)) `f
 | _=>`f
@[simp] def ot0(i:Nat):GX:=fun δ=>`al1 λds=>(`aTB).map λd=>(d,`aTC)
abbrev za0:=`aa1
@[simp] def wf0:D->`aH za0
 | `bw=>`c (`n i)
 | `c9=>`c (`p!)
 | _=>`f
def ow0:`i->`aTD
 | []=>`s_
 | `aI=>`Td λk=>`Er `Te k
@[simp] def op0:D->`aTD
 | `dm=>`Te
 | _=>`f
def ta0{κ:Type}[`n5]:`n6->`i->κ->`dE
 | `lW,`aI,q=>`w (k=q) `a9 `al2
 | _,_,_=>`f
def xi0{κ:Type}[`n5](ks:`n6)(k:κ):`C:=ks.any λq=>`ao (q=k)
def wt0{κ:Type}[`n5](ks:`n6)(k:κ):`n6:=`w (`D_=`d) ks (ks++[k])
def wu0{κ:Type}[`n5](ks:`n6)(ds:`i)(q:κ)(v:D):`i:=`w (`ua=`d) (`aTE (`ayU)) (ds++[v])
@[simp] def dj0(i:Nat)(δ:Ds):`aH (`aTF):=match `b4 with
 | `nm (`Gt)=>`c (ks,ds)
 | _=>`f
@[simp] def putAt(i:Nat)(g:GE):`be:=λv δ=>`aTG λr=>`lV λd=>`Td λk =>
 `aW (r.1.length<`W) (`cO (`dk (`n (wt0 r.1 k)) (wu0 r.1 r.2 k v)))
@[simp] def nc0:`a7
 | `lL,d=>match ks with
  | `B3=>`Td `aTH
  | `Gp=>(op0 d).bind `aTH
 | _,_=>`f
@[simp] def um0(neg:`C):`a7
 | d,`lL=>match ks with
  | `B3=>(wf0 d).map `aTI
  | `Gp=>(op0 d).map `aTI
 | _,_=>`f
def R6(gt:GB)(G:GS):Nat->`kb
 | 0,_=>`f
 | n+1,δ=>match `g2 with
  | `bI=>`s0
  | `eK=>match G δ with
   | `eL=>`al3
   | `akD=>`al3
   | `akE=>`eL
   | r=>r
  | `f=>`f
@[simp] def gv0(i j:Nat):`be
 | `z [a,b],δ=>`c ((`el i (`y9)).set j (.sh b))
 | _,_=>`f
mutual
def deq:D->`d9
 | `v,y=>`ajS
 | .bl a,y=>`ajT
 | `F9,y=>`ajU
 | `jU,y=>`ajV
 | `fz,y=>(match y with|`Kw=>`Tf|_=>`m)
 | `c4,y=>(match y with|`vt=>`Tf|_=>`m)
 | _,_=>`m
def xy0:`i->`wa
 | [],[]=>`d
 | `nO,y::ys=>`ub&&`Tf
 | _,_=>`m
end
mutual
def lean:D->Nat->`C
 | `qz,_=>`m
 | `qA,_=>`m
 | `fz,n+1=>`al4
 | `c4,n+1=>`al4
 | `Gg,0=>`m
 | `eR,0=>`m
 | _,_=>`d
def leans:`i->Nat->`C
 | [],_=>`d
 | `nO,n=>`e6 x n&&`al4
end
@[simp] def jp0(x y:D):`dE:=`aW `al5 (.bl (`ub))
@[simp] def dv0(x y:D):`dE:=`aW `al5 (.bl (!`ub))
@[simp] def eqF:D->`d9
 | `v,y=>`ajS
 | .bl a,y=>`ajT
 | `F9,y=>`ajU
 | `jU,y=>`ajV
 | _,_=>`m
@[simp] def yr0(neg:`C):`a7
 | x,`vt=>`aTJ
 | x,`Kw=>`aTJ
 | _,_=>`f
@[simp] def intOfD:`N
 | [`bw]=>`N0
 | [`xS]=>`c (`ae0)
 | _=>`f
@[simp] def wa0:`N
 | `Gl=>`t1
 | [`dm]=>`t1
 | _=>`f
def mkF(n:Nat)(N:`h)(G:GS)(ds:`i):`dE:=if `qD then (match `pw with
 | `sG=>`a9
 | `sN=>`aTK
 | `c (.nx _)=>`ah5
 | _=>`f) else `f
def J3{d:D}(h:`aTL):`qD/\`aSU:=by
 unfold mkF at h;split at h
 ·rename_i hl
  refine`al6;split at h
  ·rename_i e;cases h;exact `tR
  ·rename_i e
   split at h
   ·cases h
   ·rename_i hn
    cases h;apply `j? `aTM
  ·rename_i e;cases h;exact `q (`n #[rfl,_,e])
  ·cases h
 ·cases h
def mkN(n:Nat)(N:`h)(G:GS)(ds:`i):`dE:=if `qD then (match `pw with
 | `sN=>`aTK
 | _=>`f) else `f
def us0{d:D}(h:`aTN):`qD/\`ae?:=by
 unfold mkN at h;split at h
 ·rename_i hl
  refine`al6;split at h
  ·rename_i e
   split at h
   ·cases h
   ·rename_i hn
    cases h;exact`aTM
  ·cases h
 ·cases h
def N6{d:D}(hl:`qD)(h:`ax7)(hn:`F (`Ld) Aa):`aTN:=by
 unfold mkN;rw[`pn,h];simp only[];rw[hn];rfl
@[simp] def M7(g:GE):GS:=`yO .rf
@[simp] def lq0(i:Nat):GS:=fun δ=>match `b4 with
 | `px=>`sN
 | _=>`f
def S7{G1 G2:GS}{δ:Ds}{d:D}(h:`fc=`sN):`Si=`sN:=`akO
def z00{g:GE}{δ:Ds}{d:D}(h:`iM):M7 g δ=`sN:=by unfold M7;rw[h];rfl
def V9{d:D}(hl:`qD)(h:`aEm):`aTL:=by
 unfold mkF;rw[`pn,h]
theorem o5{G1 G2:GS}{δ:Ds}{r:`A2}(h:`akN)(k:`Tg):`Si=r:=(Gq0 h).trans k
@[simp] def m8:`a7
 | `bw,`jj=>`c (`MK)
 | `c9,`o5=>`aW (`wG+`Ny<=`W) (`t (x++y))
 | `c4,`vt=>`aTO
 | `fz,`Kw=>`w `Nf (`c (`ajF)) `f
 | _,_=>`f
@[simp] def S8:`a7
 | `bw,`jj=>`aTP
 | _,_=>`f
@[simp] def slA(d:D)(lo hi:`aE):`dE:=match d with
 | `oN=>`w `w? (`c `aS4) `f
 | `c4=>`ns `al7
 | `fz=>`c (`z (`al7))
 | _=>`f
@[simp] def U7(g:GE)(gl gh:GO):GE:=`gJ λd=>`aTQ λl=>`aTR λh=>slA d l h
universe DL
variable{gx:DL.GX}
namespace Dep
open Spec PyProof.Rows
section
variable{w:`O}{K:Type}[`JK K]{knd:`aTS}{s:`u}{d:`e}{xs:`aTT}{k:K}{v:`B}{Q:`d8}
def At(knd:`aTS)(h:`D)(d:`e)(xs:`aTT):Prop :=
 `aIR (`f! d=`ay) knd ((∀x∈xs,knd.is h x.1 x.2.1)/\`aIS)
def At.old{h:`D}(x:At knd h d xs):h.DictOfH knd d xs:=by skip;let#[o,es,ep,a,b,c,e,f,g,_]:=x;done;exact#[o,es,ep,a,b,c,e,f,g]
def put(hu:knd.room A)(hkey:`aTU)(hm:`aTV)
  (hQ:`aTW) (hsz:`p?) :
  `a! (`aTX) s:=by
 skip;let#[o,es,ep,ho,hc,hd,he,J,hn,hp]:=hm;done;unfold dictSet
 apply `F5
 apply `fZ knd.pyHash hu hkey;unfold dictSetHashed
 apply `F5
 refine A0 (wpAny_dictFind_heap (s:=`al8) hu hkey ho hd he J hn ?_ ?_)
 ·intro U
  have O:=atKey_none_of_get U;have Y:k∉`MH `eE:=not_mem_keys_of_get U;refine A0 (Y1 (wpAny_updateDictKeys (hz:=by have e:=size_of_entries he;lia) (s:=`al8) ho hd (hQ _ ?_ `al9)));rw[storedH_new O];refine#[_,_,ep+1,D6 _ ho (`aTY (`aTZ)),hc.mapDictKeys _,`aTZ,by simp[he,`al'],`j!,?_,`akM]
  ·rcases `dL hx with hx|hx
   ·exact `al! (J x hx)
   ·rw[`fr hx];exact `al! hkey
  ·rw[`a2,`Th]
   exact#[hn,`a_,λx hx y hy e=>Y (by rw[`ab,`nl,`aT_] at hy;have e2:x=k:=e.trans hy;rw[← e2];exact hx)]
 ·intro j p hj
  have Z:=atKey_of_get hn hj;refine `lw Y1 (wpAny_updateDict (s:=`al8) ho hd (v0 (hQ _ ?_ `al9)));rw[storedH_old Z];refine#[_,_,ep,D6 _ ho (`aTY (`aT0)),hc.mapDict _,`aT0,?_,`j!,?_,`akM]
  ·have:=modify_map_putAt (`al' knd) (λe:DictEntry=>{ e with val:=v }) k v (`al?) hn hj
   rw[← he] at this;let#[l]:=es
   apply `EB
  ·apply `ama
   unfold putAt;split<;>exact `al! (J y hy)
  ·rw[keys_map_putAt];exact hn
def set(hu:knd.room `fS)(hkey:`aTU)(hm:`aTV)
  (hQ:`aTW) (hsz:`p?) :
  `a! (`Lv (`T d) `b' v) s:=by
 have ty:=hm.old.typeIs;unfold setItem
 apply `F5
 apply `fZ C50 ty `r;refine A0 (j0 (name:=`Dq `aT1) ty `aT2 (P3 `aT2 ty entry_dict_setitem ?_ (args_dict_setitem _ _ _)));show `dc (Builtin.Dict.notOrdered `aT1 #[[`T d,`a?,v],[]]>>=_) s;apply `j6 wpAny_notOrdered_dict ty;show `dc (`aTX>>=_) s;exact A0 (put hu hkey hm (λh' O J=>A1 #[`aj,rfl,A1 (hQ h' O J)]) hsz)
universe zz
universe Dep
namespace L2
open Spec PyProof.Rows
section
variable[`n5]
def wp0(kvs:`hA)(k:κ):`eo:=`D1 (kvs.find? `_X)
def putK(kvs:`hA)(k:κ)(v:V):`hA :=
 if `Ti=`d then `Ph (λkv=>`w `Le (kv.1,v) kv) else kvs++[(k,v)]
def oj0{p:κ×V}{r:`hA}{k:κ}(e:p.1=k):`aT3=`w4:=`aT4
def o90{p:κ×V}{r:`hA}{k:κ}(e:¬p.1=k):`aT3=wp0 r k:=`aT4
theorem Yw0(k:κ):∀kvs:`hA,`Ti=(`mS).isSome
 | []=>rfl
 | p::r=>by
  rw[`qq]
  apply `GW
  ·simp only[oj0 e,`bU e,Bool.true_or,Option.isSome_some]
  ·rw[o90 e,`bG e,Bool.false_or];exact Yw0 k r
def q90(kvs:`hA)(k:κ)(v:V):`ayP<=`kC+1:=by
 unfold putK;split
 ·rw[`P];lia
 ·rw[`Y,`X,`mz];lia
def RelO.isSome_eq{o:`eo}{u:`gS}(r:RelO o u):`GX=u.isSome:=by
 cases o with
 | none=>cases u with
  | none=>rfl
  | some _=>apply `Q!
 | some _=>cases u with
  | none=>apply `Q!
  | some _=>rfl
def KV.val{kvs:`hA}{vs:`yl}(r:`qE)(k:κ):RelO `Tj (`aT5):=by
 unfold KV at r
 induction r with
 | nil=>exact `mP
 | @cons p q ps qs h t ih =>
  apply `amb
  apply `GW
  ·have e':q.1=k:=`adk
   have b:`aT6=`c q.2:=`aT7
   rw[oj0 e,b];exact h2
  ·have e':¬q.1=k:=`adl
   have b:`aT6=`Ng qs k:=`aT7
   rw[o90 e,b];exact ih
def KV.any{kvs:`hA}{vs:`yl}(r:`qE)(k:κ):`Ti=`aT8:=by
 unfold KV at r
 induction r with
 | nil=>rfl
 | cons h t ih=>rw[`qq,`qq,ih,h.1]
def KV.repl{kvs:`hA}{vs:`yl}(r:`qE)(k:κ){y:V}(ry:`f0) :
  KV `aT9 (`k_ λkv=>`w `Le (kv.1,u) kv):=by
 unfold KV at r ⊢
 induction r with
 | nil=>exact `R
 | @cons p q ps qs h t ih =>
  rw[`ab,`ab];refine `aT';apply `amb
  apply `GW
  ·rw[`f6,`aT!];exact#[h1,ry]
  ·rw[`eZ,`aT?];exact`aUa
def KV.put{kvs:`hA}{vs:`yl}(r:`qE)(k:κ){y:V}(ry:`f0):KV (`Lf y) (stored vs k u):=by
 unfold putK stored;rw[r.any k]
 by_cases e:(`aT8)=`d
 ·rw[`f6,`f6];exact `aUb
 ·rw[`eZ,`eZ];exact `aUc r #[rfl,ry]
theorem KV.length{kvs:`hA}{vs:`yl}(r:`qE):`kC=`cz:=`ag0 r
universe zz
def ke0{P:`ak}{w:`O}{k:Key}(r:`aUd):(ze0 P w).is k u=`d:=by
 cases k with
 | inl i=>apply `aL5;subst e;exact Wv0 P w i t
 | inr x=>apply `aL6;subst e;exact V00 P w x t
theorem b60{P:`ak}{w:`O}:∀{ks:`hO} {us:`J},`bO (`Nh) us->ItemsAre `Di ks us
 | [],_,r=>`aS1
 | `lW,_,r=>by
  rw[`ab] at r;cases r with
  | cons h t=>exact `aa (ke0 h) (b60 t)
abbrev KT(H:Hp):`lx->`tH->Prop:=`b! λp q=>`aIQ
def KT.val{kvs:`lx}{xs:`tH}(r:`y')(k:`hO):RelO `Tj (`aUe):=by
 induction r with
 | nil=>exact `mP
 | @cons p q ps qs h t ih =>
  let#[h1,_,h2]:=h
  apply `GW
  ·have e':q.1=k:=`adk
   have b:`aUf=`c q.2:=`aUg
   rw[oj0 e,b];exact h2
  ·have e':¬q.1=k:=`adl
   have b:`aUf=atKey qs k:=`aUg
   rw[o90 e,b];exact ih
def KT.repl{kvs:`lx}{xs:`tH}(r:`y')(k:`hO){y:V}(ry:`f0) :
  KT H `aT9 (`MH (`E5 k u)):=by
 induction r with
 | nil=>exact `R
 | @cons p q ps qs h t ih =>
  rw[`ab,`ab];refine `aT';let#[h1,h2,h3]:=h;unfold putAt
  apply `GW
  ·rw[`f6,`aT!];exact#[h1,h2,ry]
  ·rw[`eZ,`aT?];exact#[h1,h2,h3]
def KT.put{kvs:`lx}{xs:`tH}(r:`y')(k:`hO){b:`e}{y:V}(hb:`GY)(ry:`f0) :
  KT H (`Lf y) (storedH xs k b u):=by
 have e:`Ti=`aUh:=by
  rw[Yw0,(r.val k).isSome_eq,`amc]
 unfold putK storedH;rw[e]
 by_cases q:`aUh=`d
 ·rw[`Rc,`Rc];exact `aUb
 ·rw[`F1,`F1];exact `aUc r #[rfl,hb,ry]
theorem KT.keeps{kvs:`lx}{xs:`tH}(r:`y')(ht:∀b ys,H b=`adH->H' b=`adH):KT H' kvs xs :=
 `aI0 r λ_ _ z=>`aI1
section
variable{P:`ak}{w:`O}{h:`D}
theorem Kw0{u:HO}(ok:`f_)(e:Rd H a u):`aI5:=e.ok ok
theorem h70(ok:`f_)(e:`amd):`ag9 :=
 show `wv `La from Kw0 ok e
theorem Zl0(ok:`f_)(e:`GZ):`ag9:=h70 ok (`tR)
def jv0(ok:`f_)(e:H a=`c `aUi):`aUj h ks a:=by
 skip;let#[_,its,r,o,h1,h2,n,h3,_]:=(show `wv `aUi from ok a _ e);done;exact#[o,`b0,n,h1,h2,h3,`br (b60 r)]
def O00{kvs:`lx}(ok:`f_)(e:`Tk):`wt/\`wu /\
  ∃xs,`y'/\Dep.At `ag' h a xs:=by
 skip;let#[z,y,xs,r,o,es,ep,h1,h2,h3,h4,h5,h6]:=(show `wv `_Y from Kw0 ok e);done;refine#[z,y,xs,r,o,es,ep,h1,h2,h3,h4,`j!,h5,h6];have all:∀{l:`lx} {m:`tH},KT H l m->∀x∈m,`aUj h x.1 x.2.1:=by
  intro l m q
  induction q with
  | nil=>intro x hx;exact nomatch hx
  | @cons p q ps qs hq t ih =>
   intro x hx;rcases `Zl with e|hx
   ·subst e
    exact jv0 ok (`cd hq.1 hq.2.1)
   ·exact ih x hx
 exact all r x hx
def ey0{kvs:`lx}(ok:`f_)(e:`Tk):`wt/\`wu /\
  ∃xs,`y'/\h.DictOfH `ag' a xs:=by
 let#[z,y,xs,r,d]:=O00 ok e;exact#[z,y,xs,r,d.old]
universe zz
def DGet(H:Hp)(a:`e)(y:V)(r:`eo):Prop :=
 (∃kvs k,`amd/\y=kV k/\r=`mS)∨∃kvs k b,`Tk/\`F6/\`GY/\r=`mS
def DPut(H:Hp)(a:`e)(y v:V)(H':Hp):Prop :=
 (∃kvs k,`GZ/\y=kV k/\`G_/\H'=`ame) ∨
 ∃kvs k b,`aUk/\`F6/\`GY/\`G_/\H'=upd H a (.dT (`aa6))
theorem DGet.k{k:Key}(e:`GZ):DGet H a `adm `Tj:=`n #[kvs,k,`tR,rfl,rfl]
theorem DGet.t{b:`e}{kvs:`lx}{k:`hO}(e:`aUk)(eb:`GY):DGet H a `Nl `Tj:=`q #[kvs,k,b,`tR,rfl,eb,rfl]
theorem DPut.k{k:Key}(e:`GZ)(hl:`G_):DPut H a `adm v (`ame):=`n #[kvs,k,e,rfl,hl,rfl]
section
variable{σ:St}{s:`u}{y:V}{r:`B}{o:`eo}
def Inv.big(I:`A):`JV<`U:=by
 have h:`gf<`U:=(`aDU).lt;exact E7 `r h
def Pa0(hu:`Ga)(I:`A)(g:DGet H a y `vm)(ry:`f0)(h:`aUl v) :
  `dP `cI (`py `b' u):=by
 skip;apply `amf
 ·subst ey
  apply `amg;let#[w',hw,J]:=`ae1 (v:=v) (o:=`aT5) `aUm;done;exact wpAny_getItem_of `G0 `amh hw (`aUn)
 ·subst ey
  apply `Tl;apply `ami;let#[w',hw,J]:=`ae1 (v:=v) (o:=`aUe) `aUm;let#[p,hp,O]:=u8.mp hw;done;refine wpAny_getItem_heap `Tm `Tn dd hp ?_;rw[O];exact `aUn
def z31(hu:`Ga)(I:`A)(g:`amj)(ry:`f0)(h:∀s',`MO->Q (`e' `GX) s') :
  `dP `cI (`QO .In u `b'):=by
 skip;apply `amf
 ·subst ey
  apply `amg;done;refine wpAny_in_of `G0 hd `amh ?_;rw[← `To,← l];exact `Tp
 ·subst ey
  apply `Tl;apply `ami;done;refine wpAny_in_heap `Tm `Tn hd dd ?_;have q:=`To;rw[`amc] at q;rw[← q,← l];exact `Tp
def Hb0(hu:`Ga)(I:`A)(g:`amj)(ry:`f0)(h:∀s',`MO->Q (`e' (!`GX)) s') :
  `dP `cI (`QO `yx u `b'):=by
 skip;apply `amf
 ·subst ey
  apply `amg;done;refine wpAny_notIn_of `G0 hd `amh ?_;rw[← `To,← l];exact `Tp
 ·subst ey
  apply `Tl;apply `ami;done;refine wpAny_notIn_heap `Tm `Tn hd dd ?_;have q:=`To;rw[`amc] at q;rw[← q,← l];exact `Tp
theorem ig0{t':Nat}{ob:HO}(I:`A)(mu:Mut (H a))(hs:`aJO)(he:`amk)(new:`xm `aUo a ob) :
  `a8 `aUo `pk :=
 `ai' (x:=a) (e:=a) mu `dI (λb q hb z=>`yi b hb z) he new
theorem Y60{P:`ak}{w:`O}{H':Hp}{vs:`aml}(z:`wt)(hd:`wu)(rel:`qE)(dd:h'.DictOf `Di a vs) :
  `iB P w H' h' a `La:=#[z,hd,vs,rel,dd]
def Qf0{Q:`d8}(hu:`Ga)(I:`A)(g:DPut H a y v H')(ry:`f0)(rv:`ea v r)(h:∀s',`nK->`FH) :
  `dP `cI (`Lv `b' u r):=by
 skip;rcases g with⟨kvs,k,e,ey,l,eH⟩|⟨kvs,k,b,e,ey,eb,l,eH⟩
 ·subst ey eH
  apply `aUp;apply `aUq
  apply `amm
  done;refine wpAny_setItem_pairs (hsz:=hz) `G0 dd `aUr
  have he:`amk:=`amn
  exact `aUs
 ·subst ey eH
  apply `Tl;let#[z,hd,xs,rel,dd]:=O00 `bR (`tR);have hz:`p?:=`cd (`ag0 rel) z
  apply `amm
  done;refine Dep.set `Tm `Tn dd (`aUr) hz;skip;let#[q,es,ep,hq,h2,h3,h4,_,h5]:=J;done;refine ig0 I `Ni hs `ayQ #[hl,hd,_,(rel.put k eb rv).keeps λc ys ec=>?_,q,es,ep,hq,h2,h3,h4,h5];rw[j4 (Ca0 ec e `h')];exact ec
universe zz
def Se0(i:`I):Prop:=∀ov iv,`RM i `m ov iv=`ab' [ov,iv] (`py ov iv)
def Ho0{prog:`ak}{w:`O}{A:`cf}{E:`as}{s:`u}{env:Env}{value slice:`I}{pos:Pos}{T id:`bJ}{Q:`as}
  (hl:`aNG) (hs:Se0 `tY)
  (h:`yA (`bV `he env) (λo s₁=>`aD `dd A (`bV `tY env) (λi s₂=>s₂.TypeIs o T/\`a! (`py o i) s₂) E `eT)) :
  `a! (`bV (`mK `he `tY pos) env) s:=by
 refine `RD (D0 h (λo s₁ h₁=>D0 h₁ (λi s₂ h₂=>?_) `tF) `tF);let#[hT,h₂]:=h₂;unfold subscriptTail;refine `o!;rw[getitemInPython_of_ne hT.not_modules];apply `fZ E4 hT hl;have fin:`aD `dd A (`RM `tY `m o i) (λr s₃=>`a! (letTemporaryGo `he o r>>=λ_=>`cj r) s₃) E s₂:=by
  rw[hs o i];exact wpAny_operating (D0 h₂ (λr s₃ h₃=>A0 (wpAny_letTemporaryGo (A1 h₃))) `tF)
 first
  | exact `aUt
  | exact A0 (`aUt)
  | exact A0 fin
def V30{σ:St}{s:`u}{y:V}{o:`eo}(I:`A)(g:`amj):`aUu := by
 skip;rcases g with⟨kvs,k,e,_,_⟩|⟨kvs,k,b,e,_,_,_⟩
 ·let#[_,_,vs,_,dd]:=`aa7
  done;exact `Nj
 ·let#[_,_,xs,_,dd]:=`aa8
  done;exact `Nj
def Cm0(td ty:TE):TE:=`bu td (`tQ ty λy H2=>∃a v,`eu/\DGet H2 a y `vm/\Q v H2)
def z11(ty td:TE):TE:=`bu ty λy H1=>`aUv `GX
def Jo0(ty td:TE):TE:=`bu ty λy H1=>`aUv (!`GX)
section
variable{i:`I}
def Vk0(hu:`lX)(ho:`Tq)(hi:`amo)(hs:Se0 i):PE X `aic (Cm0 td ty):=by
 apply `bm;refine Ho0 PySem.F.slot_dict_getitem.lookup hs (thn `FP λu s1 hq91=>?_);let#[x,H1,I1,rx,q1]:=hq91;refine thn `aKF λiv s2 hq92=>?_;skip;let#[y,H2,I2,ry,a,v,ex,g,q2]:=hq92;subst ex;apply `qk;done;exact#[V30 I2 g,Pa0 hu I2 g ry λw' s3 I3 J=>#[v,H2,I3,J,q2]]
def Fz0(hu:`lX)(hi:`amo)(ho:`Tq):PC X .In i o (z11 ty td):=by
 apply `bm;refine thn `FW λiv s1 hq93=>?_;let#[y,H1,I1,ry,q1]:=hq93;refine thn `aUw λu s2 hq94=>?_;skip;let#[x,H2,I2,rx,a,ov,ex,g,q2]:=hq94
 subst ex;apply `qk;done;exact `aUx z31 ov.isSome
def Px0(hu:`lX)(hi:`amo)(ho:`Tq):PC X `yx i o (Jo0 ty td):=by
 apply `bm;refine thn `FW λiv s1 hq95=>?_;let#[y,H1,I1,ry,q1]:=hq95;refine thn `aUw λu s2 hq96=>?_;skip;let#[x,H2,I2,rx,a,ov,ex,g,q2]:=hq96
 subst ex;apply `qk;done;exact `aUx Hb0 (!ov.isSome)
universe zz
theorem X60{P:`ak}{w:`O}(h:`D)(hb:`JV<`dO):`iB P w H (h.push `_M) `dO (`y!) :=
 #[`b3,`pI (A9 (B4 hb)),[],`R,Heap.DictOf.new h]
def Ev0:TE:=λ_ H Q=>`nP `eN H (`y!)
theorem M00:PE X `aUy Ev0:=λpins s σ H Q I h =>
 wpAny_Dict_empty #[`ml,_,`tT (a:=`U) (o:=`y!) (t':=`cp) `aj7 `bL (X60 `aB I.big),rfl,h _ `Ly]
def ec0:`G1->`w8 `aUz
 | [],_,H,Q=>Q [] H
 | (tk,tv)::r,σ,H,Q=>tk σ H (`tQ tv λy H2=>ec0 r σ H2 λps H3=>Q ((x,y)::ps) H3)
abbrev VV:`nn->`aUA->Prop:=`b! λp q=>`ea p.1 q.1/\`aIK
def PPs(X:Cx)(pos:Pos)(keys:`G2)(values:`bM)(trs:`G1):Prop :=
 ∀(pins:`aC) (s:`u) (σ:St) (H:Hp) (Q:`aUz),`A->`aUB ->
  `cs (evalPairs (pairTrees keys values `M pos)) (λvs s'=>∃ps H',`nK/\VV ps vs/\Q ps H')
theorem Hj0:PPs X pos [] [] []:=`amp (pairTrees_nil_walk `aMr)
theorem Mv0{k v:`I}{ks:`G2}{vs:`bM}{tk:TE}{trs:`G1}(hk:PE X k tk)(hv:PE X v tv)(hr:PPs X pos ks vs trs) :
  PPs X pos (`ff::ks) (v::vs) ((tk,tv)::trs):=λpins s σ H Q I h =>
 pairTrees_cons_walk (thn (`b2 hk _ h) λu s1 #[x,H1,I1,rx,q1]=>thn (`nb hv _) λw2 s2 #[y,H2,I2,ry,q2] =>
  thn (`O! hr σ) λws s3 #[ps,H3,I3,rel,q3]=>#[(x,y)::ps,H3,I3,`aa #[rx,ry] rel,q3])
def qq0(kvs more:`hw):`hw:=more.foldl (λacc kv=>putK acc kv.1 kv.2) kvs
def KV.merge:∀{more:`hw} {rs:`aml} {kvs:`hw} {vs:`aml},KV more rs->`qE->KV (`aUC) (merged vs rs):=by
 intro more rs kvs vs r;unfold KV at r
 induction r generalizing kvs vs with
 | nil=>intro q;exact q
 | @cons p q ps qs h t ih =>
  intro r0;have e:KV `amq (stored vs q.1 q.2):=by
   have:=r0.put p.1 h.2;rw[← h.1];exact `E
  exact ih e
theorem km0:∀(more kvs:`hw),(`y `aUC)<=`kC+more.length
 | [],kvs=>`ek (`kC<=`kC+0)
 | p::r,kvs=>by
  have h1:=km0 r `amq;have h2:=q90 kvs p.1 p.2;show (`y (qq0 `amq r))<=_;rw[`X];lia
theorem fi0{P:`ak}{w:`O}:∀{kvs:`hw} {ws:`aUA},VV (`Ph `amr) ws->∃rs,Carries `Di ws rs/\KV kvs rs
 | [],_,r=>by rw[`nl] at r;cases r;exact#[[],`mP,`R]
 | p::kvs,_,r=>by
  rw[`ab] at r;cases r with
  | @cons a b as bs h t =>
   let#[rs,c,q]:=fi0 (P:=P) (w:=w) t;let#[b1,b2]:=b;exact#[(p.1,b2)::rs,#[ke0 h.1,rfl,c],`aa #[rfl,h.2] q]
def Ae0(trs:`G1):TE:=`cA (∀p,`eN->ec0 trs σ (upd H p (`y!)) λps H2=>H2 p=`c (`y!)/\∃kvs:`hw,ps=`Ph (`amr)/\`kC<=15/\Q `kZ (upd H2 p (.dK (qq0 [] kvs))))
def Jf0{keys:`G2}{values:`bM}{trs:`G1}(h:PPs X pos keys values trs)(hall:`aUD)(hl:`Tr=values.length)(h0:keys≠[])
  (h15:`Tr<=15):PE X (.Dict keys values pos) (Ae0 trs):=by
 intro pins s σ H Q I q;have hn:=`ss (A2 `U);have I1:=`tT (a:=`U) (o:=`y!) (h':=`Qh) (t':=`cp) `aj7 `bL (X60 `aB I.big);refine wpAny_Dict_walk (knd:=`aUE) hall hl h0 h15 (thn (h `s _ σ _ _ I1 (q _ hn)) λws s2 hq97=>?_);skip;let#[ps,H2,I2,rel,e,kvs,ep,lk,q2]:=hq97;subst ep;let#[rs,c,rk]:=fi0 (P:=`cD) (w:=X.w) rel;let#[z,hd,O,r0,dd]:=Zl0 I2.hok e;cases r0;done;refine#[rs,c,dd,λh' J hs=>#[`ml,_,?_,rfl,q2]];have hz:(`y (qq0 [] kvs))<=`W:=by
  have h1:=km0 kvs [];rw[`mz] at h1;rw[`yh];lia
 have he:∃q,`aj_=`f':=`amn
 exact ig0 I2 `Ni hs he (Y60 hz hd (rk.merge `R) J)
structure M2(X:Cx)(o:`I)(m:Str)(apos:Pos)(e f:`I)(cpos:Pos):Prop where
 base:`w' o m `M `aid=`oC
 few:(`aUF
 &&`aUG)=`d
 line:`awc
 trees:`aUH
def IsD(H:Hp)(a:`e):Prop:=(∃kvs,`amd)∨∃kvs,`Tk
def Ek0{σ:St}{s:`u}(I:`A)(d:IsD H a) :
  `aUu/\(∀b,`rH=`vR->∃ob,`rl=`Qv/\`aOy)/\`wu:=by
 rcases d with⟨kvs,e⟩|⟨kvs,e⟩
 ·let#[_,hd,vs,_,dd]:=`aa7
  refine`aUI;skip;cases q;apply `aUJ;done;exact`aUK
 ·let#[_,hd,xs,_,dd]:=`aa8
  refine`aUI;skip;cases q;apply `aUJ;done;exact`aUK
universe L2
namespace DL
open Spec PyProof.Rows L2
section
variable{σ σ':St}{δ:Ds}
theorem Gr.fresh{p:`e}{o:HO}(h:`eN):Gr H `ak! B `wS:=λb u n e=>by
 have hb:b≠p:=T4 e h;exact#[λz=>`eq n hb,`l (j4 hb) e]
theorem Gr.own{o:HO}(h:B a):Gr H `hn B B:=λb u n e=>#[n,`l (j4 (λz=>n (`l z h))) e]
def RpO.mono{d:D}(s:`Gn)(g:`eW)(h:`kf):RpO K H' B' d a:=by
 apply `Sw
 ·apply `qv;exact#[xs,s _ e,`xW]
 ·apply `akX;exact#[xs,s _ e,l,`xW]
def RpG.mono{d:D}(s:`Gn)(g:`eW)(h:`nY):RpG K H' B' d a:=by
 cases d with
 | tup es=>apply `ak3;exact`aUL
 | _=>exact(RpO.mono s g `SB).toG
def RpL.mono{d:D}(s:`Gn)(g:`eW)(h:`nj):RpL K H' B' d a:=by
 skip;cases d with
 | tup es =>
  apply `ak5
  ·done;exact `n #[d',q,`ams s g r]
  ·done;exact `aQ4 (s _ e) `xW
  ·done;apply `j? `aUL
 | _=>done;exact(RpO.mono s g `Gw).toL
theorem Pd.get'{F:`ly}:∀{l:`bd} {m:`tI} {i:Nat} {a:α},`sL->`Gx->∃b,`ak8/\`Dj
 | _,_,_,_,`R,e=>`Qm
 | _,_,0,_,`ag1,e=>`ag2
 | _,_,i+1,a,`yk,e=>by
  let#[u,h1,h2]:=`xp (i:=i) (a:=a) t `Fu;exact`ag3
def Pd.impI{F G:`ly}:`ac2 ((∀(i:Nat) a b,`Gx->`ak8->`ayr)->`aA6):=by
 intro l m h p
 induction p with
 | nil=>exact `R
 | cons r t ih=>exact `aa (h 0 _ _ rfl rfl r) (ih λi a b e1 e2=>h `fE a b (`aQN) (`br e2))
theorem oc0:∀{l:`bd} {i:Nat} {a:α},`Gx->`ak9=l
 | [],_,_,h=>`iG
 | x::l,0,a,h=>by simp at h;subst h;rfl
 | x::l,i+1,a,h=>by rw[List.set_cons_succ,oc0 `ia]
def Pd.setR{F:`ly}{a:α}{b:β}(r:`Dj){l:`bd}{m:`tI}(e:`Gx)(h:`sL):`b! F l `aQ':=by
 have:=`Gy r i h
 rwa [oc0 e] at this
def get_set{l:`bd}{a b:α}(h:(`ak9)[j]?=`pm):(i=j/\a=b/\j<`cP)∨(i≠j/\l[j]?=`pm):=by
 by_cases e:i=j
 ·subst e
  by_cases hl:i<`cP
  ·rw[`yT] at h
   exact `n #[rfl,A3 h,hl]
  ·rw[`Gz] at h;cases h
 ·rw[`mt e] at h
  exact `q #[e,h]
theorem Env.len(e:`bn):`wx=`mY:=`sn `lb
def Env.at(e:`bn){d:D}(h:`azE):∃a,`jL/\`aQ9:=by
 let#[o,h1,a,rfl,hb,r]:=`aRb;exact#[a,h1,hb,r]
def Env.mut(e:`bn){d:D}{o:HO}(hi:`G3)(hs:`jL)(r:RpL K `hn B d a):`aUM:=by
 apply `aUN;rw[hs] at h1;cases h1;refine`aUO
 ·
  have h0:`amt `hn B:=`xX (λo' s h=>by
   cases s with
   | un=>exact `amu
   | ex c n=>apply `gK;exact `aUP
   | sh d=>apply `gK;exact `aUP
   | ow d =>
    apply `Ts
    apply `iN a
    ·subst z;apply `amv
    ·exact `n #[b,e,O,`dq (λo h=>`l (j4 z) h) `pF]) `lb
  apply `aUQ;apply `aUR;apply `aUS
  ·exact h
  ·skip;apply `amw
   ·cases e3;done;exact`Pi
   ·done;apply `aUT
 ·by_cases z':b=a
  ·subst z';exact `t6
  ·rw[j4 z'];exact `amx
 ·have q1:`aUU:=by
   skip;apply `Tt
   ·done;exact`Tu
   ·done;exact`Tv
  have q2:`aUV:=by
   skip;apply `aUW
   ·done;exact`Tu
   ·done;exact`Tv
  let#[d1,q1]:=q1;let#[d2,q2]:=q2;exact `aUX
def EnvS.mut(en:`ct)(s:`bb)(b1:`mM)(b2:`mN){d:D}{o:HO}(hi:`G3)(hs:`jL)
  (env:`kr `aUY `s3):`hJ K `aUY `s3:=by
 have h0:=`aUZ;have J:i<`mY:=`O6;apply `aU_
 ·apply `aU0
  rw[`G4];exact s _ _ `aU1
 ·apply `iN a
  ·apply `aU2
   rw[hs] at e1;cases e1;rw[z] at h;exact `aU3
  ·rw[j4 z] at h
   exact `amy b ob xs (s.nf b ob xs h)
 ·skip;apply `Tt
  ·rw[hs] at h2;cases h2;done;exact h0
  ·done;exact `aU4
def EnvS.take(en:`ct)(b1:`mM)(b2:`mN)(e:`bn)(i:Nat){d:D}{p:`e}(hp:`eN)(s:`bb)
  (r:`aBb):`aU5:=by
 apply `aU6
 have J:`alk:=`amz;have live:`aU7:=λ{j d' b} h1 h2=>by
  apply `aU8;rw[h2] at q1;cases q1;apply `aU9
 apply `aU'
 ·apply `Tw
  ·exact `ac'
  ·exact `q J
 ·refine `aU! r.toL
  cases sl with
  | un=>trivial
  | ex c n=>apply `gK;apply `GO
  | sh d=>apply `gK;apply `GO
  | ow d=>apply `Ts;apply `aU?
 ·apply `Tw
  ·exact`aVa
  ·exact `t6
 ·skip;apply `Tx
  ·apply `Ty
   ·done;rfl
   ·apply `aVb
    ·cases e3
     apply `G5;done;exact `aVc
    ·done;exact `Tz
  ·apply `Ty
   ·apply `aVd
    ·cases e4
     rw[`qF] at h3;done;exact `aVe
    ·done;exact `aVf
   ·rw[`qF] at h3
    apply `G5;done;apply `SF
 ·skip;apply `Tx
  ·apply `aVg
   ·cases e3;done;exact J
   ·done;exact `Tz
  ·rw[`qF] at h2
   done;apply `amA
def Zj0{d e:D}(h:`amB=.ow e):`bW:=by
 unfold DL.fz at h;apply `S5
def dy0{s:Sl}{e:D}(h:rs0 s=.ow e):`bW:=by
 cases s with
 | ow d=>exact Zj0 h
 | un=>cases h
 | sh d=>cases h
 | ex c n=>cases h
def RpL.fz{d:D}(l:`Go)(n:¬B' a)(h:`nj):SlR K H B' (`oT) (`amB):=by
 skip;cases d with
 | tup es =>
  rcases h with⟨d',rfl,r⟩|⟨ks,vs,rfl,_⟩|⟨x,ns,rfl,_⟩
  ·cases d' with
   | tup es=>done;trivial
   | _=>done;exact`qj (RpO.rp l n (RpG.toO rfl r))
  ·done;trivial
  ·done;trivial
 | _=>done;exact`qj (RpO.rp l n `Gw)
def Env.frz(e:`bn):`aVh `adq `aVi:=by
 refine#[`aVj,`KS,`jR,?_,λa z=>`m4 a z.1,`aVk]
 ·by_cases q:`adq
  ·exact `q q
  ·exact `amC
 ·have:`b! (λo s=>SlR K H (`aVj) o `al0) σ δ:=`Pj (λi o s e1 e2 h=>by
   cases s with
   | un=>trivial
   | ex c n=>apply `gK;exact`TA
   | sh d=>apply `gK;exact`TA
   | ow d =>
    let#[a,rfl,hb,r]:=h;exact r.fz (`KS) λz=>z.2 #[i,d,e2,e1]) `lb
  have mp:∀{l:St} {m:Ds} {F:`eo->Sl->Prop},`b! (λo s=>F o `al0) l m->`b! F l (m.map rs0):=by
   intro l m F h
   induction h with
   | nil=>exact `R
   | cons r t ih=>exact `Fv
  exact mp `E
 ·unfold DL.frz at h1
  rw[`df] at h1;cases q:`b4 with
  | none=>rw[q] at h1;cases h1
  | some s=>rw[q] at h1;exact`aVl
def EnvS.frz(en:`ct):`hJ K H `aVi:=by
 skip;apply `aZ;let#[B',c1,c2,J]:=env.frz;done;refine#[`fs,`aVm,λi ds a h1 _=>?_,`nk]
 ·skip;rcases `aVn with q|⟨i,d,q1,q2⟩
  ·done;exact q
  ·done;apply `aVo
 ·unfold DL.frz at h1
  rw[`df] at h1;cases q:`b4 with
  | none=>rw[q] at h1;cases h1
  | some s=>rw[q] at h1;exact`aVl
def Env.frzAt(e:`bn)(i:Nat):`aVh (∃(d:D),`ax') (DL.frzAt i δ):=by
 unfold DL.frzAt;cases h:`b4 with
 | none=>apply `TB
 | some s =>
  cases s with
  | un=>dsimp only [rs0];rw[oc0 h];apply `TB
  | ex c n=>dsimp only [rs0];rw[oc0 h];apply `TB
  | sh d=>dsimp only [rs0];rw[oc0 h];apply `TB
  | ow d =>
   let#[a,h1,hb,r]:=e.at h;refine#[`aVp,λb z=>z.1,`Nk,?_,λb z=>`m4 b z.1,λj k b ds es U O h3 h4=>?_]
   ·by_cases q:b=a
    ·subst q;exact `q #[d,rfl,h1]
    ·exact `amC
   ·have h0:`amt H (`aVp):=`xX (λo' s h=>by
     cases s with
     | un=>exact `amu
     | ex c n=>apply `gK;exact `n `TA
     | sh d=>apply `gK;exact `n `TA
     | ow d =>
      let#[b,e,Y,r]:=h
      apply `iN a
      ·subst z;apply `amv
      ·exact `n #[b,e,#[Y,z],`dq `amD (`ju `KS)]) `lb
    have h2:=`afc (i:=i) (b:=`amB) (`n (r.fz (λb z=>z.1) λz=>z.2 rfl)) h1 h0;refine `Pj (λj o' s e1 e2 hh=>?_) h2;rcases hh with hh|⟨d',rfl,rfl⟩
    ·exact hh
    ·apply `amw
     ·exact(Zj0 e3).elim
     ·exact `L (`s4 i j a d d' h e3 h1 e1) J
   ·rcases `ji U with⟨_,q,_⟩|⟨_,q1⟩
    ·exact`aVq
    ·rcases `ji O with⟨_,q,_⟩|⟨_,q2⟩
     ·exact`aVq
     ·exact `s4 j k b ds es q1 q2 h3 h4
def EnvS.frzAt(en:`ct)(i:Nat):`hJ K H (DL.frzAt i δ):=by
 skip;apply `aZ;let#[B',c1,c2,J]:=env.frzAt i;done;refine#[`fs,`aVm,`aff,`nk]
 ·rcases `aVn with q|⟨d,q1,q2⟩
  ·exact q
  ·apply `aVo
 ·skip;unfold DL.frzAt at h1
  cases q:`b4 with
  | none=>rw[q] at h1;done;apply `amA
  | some s =>
   rw[q] at h1;rcases `Cm with⟨rfl,q',_⟩|⟨_,q1⟩
   ·done;exact(dy0 q').elim
   ·done;exact `s2 j ds a q1 h2
def ro0{d:D}(h:`n4)(r:`db):`ac_:=by
 apply `amE
 ·rw[Q9] at r ⊢;exact r
 ·rw[V1] at r ⊢;exact r
 ·rw[Y0] at r ⊢;exact r
 ·rw[R4] at r ⊢;exact r
universe zz
section
variable{st:`a4}{g:GE}{gt:GB}
theorem Xd0(h:`cX):PD X e (s70 g):=.mk λB δ pins s σ H Q I hq98=>by
 skip;let#[d,en,hq,k]:=hq98
 apply `TC;unfold s70 at hq;cases e1:`wC with
 | none=>rw[e1] at hq;cases hq
 | some x =>
  rw[e1] at hq
  by_cases hf:`aBi
  ·apply `TD `uc
   cases hq;done;exact `aVr (ro0 hf r)
  ·apply `TD `TE
   cases hq
theorem Ui0(h:PTD X e gt):PTD X e (dm0 gt):=.mk λB δ pins s σ H Q I hq99=>by
 skip;let#[d,en,hq,k]:=hq99
 apply `TC;done;exact h B' `Br `s s σ H Q I #[d,J,hq,k]
theorem Lo0(i:Nat)(h:`SP):PSD X st (Lw0 i G):=.mk λH₀ B₀ δ pins s σ H D I #[r,en,hq,k]=>h `ae `ac _ `s s σ H D I #[r,en.frzAt i,hq,k]
theorem M80(h:`cX):`GI Y4 (cp0 g):=.mk λH₀ B₀ δ pins s σ H D I #[r,en,hq,k] =>
 `aVs Z3
theorem zp0{gA:GA}(h:`yX):PDF X `aje (W0 gA) :=
 .mk λB δ=>`aRt fun σ H Q hq100=>by
  apply `bi hq100
  unfold W0 at h;cases e1:`eb with
  | none=>rw[e1] at h;cases h
  | some ds =>
   rw[e1] at h
   by_cases hl:`t0
   ·apply `ale
    cases h;refine#[ds,en,e1,`Mc #[`aEe,λp hp=>k _ _ `aVt `aEd #[vs,d8,r1.mono `Nv]]]
   ·apply `alf
    cases h
theorem af0:PDF X `aUy `afR:=.mk λB δ=>M00.imp fun σ H Q hq101=>by
 apply `bi hq101
 cases h;exact λp hp=>k p _ hp `gu #[[],d8,rfl,`lQ]
theorem w40(i:Nat){px:Pos}(h:`y_)(hN:`et)(hi:`dg)(hx:`aln)
  (hs:`ayy `TF) (hw:`aaW `TF e)
  (h1:`F (`sw `TF=[`ig `g_ `M]) Aa)
  (hf:`tL):PSD X (`ip `TF e pos) (yj0 i g):=.mk λH₀ B₀ δ pins s σ H D I hq102=>by
 skip;apply `aX hq102
 unfold yj0 at e1;apply `aZ;cases e2:`az with
 | none=>apply `am;cases e1
 | some d =>
  apply `am;cases e1;done;exact `aRJ (`SQ) λp H' hp s' r=>k _ H' (en.take b1 b2 env i hp s' r)
universe zz
universe DL
namespace L2
open Spec PyProof.Rows
open PySem.AutoSeq1 (wpAny_loadPart')
theorem Tw0(p:`e)(xs:`a1)(k:Nat)(q:`e)(ys:`a1)(m:Nat)(dq:`bt)(sq:`j2)(h0:¬(!xs.isEmpty&&`R0 (`vJ+`BI))=`d)(h1:`vJ<=`W)(h2:`vJ+`BI<=`W+1) :
  Meets (Builtin.«list.extend» #[[`gU,`T q],[]]) (λ_ R s=>`dn p=`c (`xZ xs k)/\`dn q=`c { cls:=`h0,dict:=dq,data:=`mX ys m,slots:=sq }/\`m? `mT ((`e4 s (`s? p (`sb λz=>z++ys))))) :=
 .of_wp λprog w A R s h=>by
  skip;let#[hp,g,d,tk,os]:=s;let#[hl,hb,h]:=h;have f1:=AutoSeq1.idx_int;have f2:=AutoSeq1.sub_tuple_tuple;have f3:=AutoSeq1.sub_list_list;have f4:=AutoSeq1.sub_tuple_list;have f5:=AutoSeq1.sub_list_tuple;have J:(xs++ys).size<=`W+1:=`l Array.size_append h2
  done;wp_walk using (N4 hl rfl (hz:=h1) (_hz':=J)),D10 hl,D10 hb
  exact`aVu
def Mh0(K:`x):`iJ:=λx vs H Q=>∃l b xs zs,`alP/\vs=[`vR]/\`R_/\`aS?/\`aTa/\Q `v (upd H l `S')
def ex0:MtM X "list.extend" (Mh0 X.K):=by
 apply `F';skip;apply `aTb;cases rx;apply `R1;cases ru;apply `aj8;apply `aTc;let#[#[a4,Z,data2,a2],a3,Y,n2,U]:=`S!;simp only at Y U;subst Y U;have hl2:=`m5;have a1:`aTe:=`amF
 have O:¬(!`amG&&`R0 (`aBg))=`d:=by
  rw[Li0 a1,`aBt];exact B7
 done;refine Q1 F.slot_list_extend `aj9 F.entry_list_extend (F.args_list_extend_2 _ _)
  (Tw0 l `b0 n b `alQ n2 Z a2 O `xo `j) #[e,a3,?_]
 refine`aOT J r2;rw[`Y];lia
def G60:`aKA:=λo i v H Q=>∃a H',o=`a?/\DPut H a i v H'/\Q H'
def set_dict(hu:`lX):Ez0 X G60:=by
 intro pins s σ H o i v ov iv u Q I ro ri rv h;let#[a,H',rfl,g,q]:=h;cases ro;exact Qf0 hu I g ri rv λs3 I3=>#[H',I3,q]
universe L2
namespace DL
open Spec PyProof.Rows L2
section
variable{σ σ':St}{δ:Ds}
def Rps.dropLast(h:`bB):Rps K H B `aBh `aaZ:=by
 rw[`aVv,`aVv,h.length];exact h.take _
structure EnvV(K:`x)(H₀:Hp)(B₀:BS)(H:Hp)(σ:St)(δ:Ds)(d:D)(v:V):Prop where
 same:`SN
 ex:∃B:BS,`TG `db
 fr:`aRA
 b0:`alj
theorem EnvV.s{d:D}(h:`G6):`ct:=#[`SE,let #[B,b1,b2,e,_]:=h.ex;(`tr e),h.fr,h.b0]
theorem EnvV.mk'{d:D}(h:`ct)(b1:`mM)(b2:`mN)(e:`bn)(r:`db):`G6:=#[`SE,#[B,b1,b2,e,r],h.fr,h.b0]
universe zz
def tX(K:`x)(H₀:Hp)(B₀:BS)(δ:Ds)(gx:GX):TE:=`cA (∃r,`ct/\`e8=`du/\`aVw K r.1)
structure PX(X:Cx)(e:`I)(gx:GX):Prop where
 mk::go:`aVx
instance{X:Cx}{e:`I}{gx:GX}:`fn `qG `aVx:=#[PX.go]
def tTG(K:`x)(H₀:Hp)(B₀:BS)(ft:`be)(d:D)(δ:Ds):TG:=`rO (∃δ',`G6/\ft d δ=`CZ/\∀σ' H',`aRH->Q σ' H')
structure PTG(X:Cx)(tg:`I)(ft:`be):Prop where
 mk::go:`aVy
instance{X:Cx}{tg:`I}{ft:`be}:`fn `aVz `aVy:=#[PTG.go]
section
variable{st:`a4}{g:GE}{gt:GB}
theorem W2(h:`cX):PX X e (W9 g):=.mk λH₀ B₀ δ pins s σ H Q I hq103=>by
 skip;apply `aX hq103
 unfold W9 at e1;apply `aZ;cases e2:`az with
 | none=>apply `am;cases e1
 | some d =>
  apply `am;cases e1;done;exact `G7 h (`GJ (`ET (k v H' (`te `ae7 (`alo) r))))
def Yl0{δ:Ds}(h:`po=`ov):`b4=`aTy:=by
 unfold owL at h;split at h
 ·cases h;assumption
 ·cases h
def Uj0{δ:Ds}{r:`aTF}(h:`Ne=`du):`b4=`nm (`dk (`n r.1) r.2):=by
 unfold dj0 at h;split at h
 ·cases h;assumption
 ·cases h
theorem o30(i:Nat)(h:`cX)(hN:`dg)(hv:`d')(hd:`aO)(hcd:`dA)
  (hbase:`G8 `NK)
  (hfew:`F ((`qB
  &&`TH)=`d) Aa)
  (hline:`gG) (hs:`f5) (hplain:`n2) :
  PX X (`n3 `g_ `NK [e]) (w00 i g):=.mk λH₀ B₀ δ pins s σ H Q I hq104=>by
 skip;apply `aX hq104
 unfold w00 at e1;apply `aZ;cases e2:`po with
 | none=>apply `am;cases e1
 | some ds =>
  cases e3:`az with
  | none=>apply `y?;cases e1
  | some d =>
   apply `y?;apply `fp;split at e1
   ·rename_i hz
    cases e1;have hi:=Yl0 e2;apply `amH;done;refine pe0 Q2 D20 D30 nq0 `kU (O2 `dx zy0 hs) `gH hfew `iK hs `qr `s s σ H Q I
     #[_,J,`amI,d,env,e3,λv H1 s1 r1=>#[a,xs,v,rfl,rfl,`afi,`l `amJ hz,?_]]
    have O:`jC (upd H1 a (`o `Ee)) (`aTz):=`aVA `s8 r1;apply `aVB
   ·cases e1
open T in
theorem Xg0(i:Nat)(h:`cX)(hN:`dg)(hv:`d')(hd:`aO)(hcd:`dA)
  (hbase:`G8 `TI)
  (hfew:`F ((`qB
  &&`TH)=`d) Aa)
  (hline:`gG) (hs:`f5) (hplain:`n2) :
  PX X (`n3 `g_ `TI [e]) (u60 i g):=.mk λH₀ B₀ δ pins s σ H Q I hq105=>by
 apply `aX hq105
 unfold u60 at e1;apply `aZ;cases e2:`po with
 | none=>apply `am;cases e1
 | some ds =>
  cases e3:`az with
  | none=>apply `y?;cases e1
  | some d =>
   apply `y?;apply `fp;cases d<;>try cases e1
   rename_i es;dsimp only at e1;split at e1
   ·rename_i hz
    cases e1;have hi:=Yl0 e2;apply `amH;refine pe0 Q2 x80 x90 ex0 `kU (O2 `dx zy0 hs) `gH hfew `iK hs `qr `s s σ H Q I
     #[_,J,`amI,_,env,e3,`EV]
    rw[Q3] at r1;let#[b,zs,rfl,hq,rz]:=r1;refine#[a,b,xs,zs,rfl,rfl,`afi,`n1,`gs `amJ rz.length hz,?_];have O:`jC (upd H1 a `S') (`aTA):=`aVA Rps.append rz;apply `aVB
   ·cases e1
theorem Qu0(i:Nat)(hN:`dg)(hv:`d')(hd:`aO)(hcd:`dA)
  (hbase:`G8 "pop") (hline:`gG) :
  PX X (`n3 `g_ "pop" []) (ot0 i):=.mk λH₀ B₀ δ pins s σ H Q I hq106=>by
 skip;apply `aX hq106
 unfold ot0 at e1;apply `aZ;cases e2:`po with
 | none=>apply `am;cases e1
 | some ds =>
  apply `am;apply `fp;cases e3:`aTB with
  | none=>apply `b8;cases e1
  | some d =>
   apply `b8;cases e1;have hi:=Yl0 e2;apply `amH;rw[List.getLast?_eq_getElem?] at e3;let#[y,hy,ry]:=rx.get e3;done;refine Q70 Q2 xc0 xe0 Qv0 `kU `gH `iK `s s σ H Q I
    #[_,J,`amI,a,xs,y,rfl,rfl,hx,`l `amJ hy,?_]
   have O:`jC (upd H a `aj') (`aTC):=env.mut hi J #[_,d8,rx.dropLast.mono `pF];exact k _ _ (`te (`EW `ta b1 b2 hi J O) O (ry.mono `pF))
theorem mu0(h:`GH):PTG X tg f:=.mk λH₀ B₀ d δ pins s σ H v u Q I r hq107=>by
 skip;let#[δ',en,e1,k]:=hq107
 apply `amK;done;exact h B d δ `s s σ H v u Q I r #[δ',rv,env,e1,`aRK H en.s.wr `ta]
theorem xo0{ft:`be}(h:`qG)(hg:`aVz)(hs:`aih)(hw:`aii)
  (h1:`aij):PSD X `aik (y40 gx ft):=.mk λH₀ B₀ δ pins s σ H D I hq108=>by
 skip;apply `aX hq108
 unfold y40 at e1;cases e2:`e8 with
 | none=>apply `am;cases e1
 | some q =>
  apply `am;apply `fp;cases e3:ft q.1 q.2 with
  | none=>apply `b8;cases e1
  | some δ' =>
   apply `b8;cases e1;done;exact e80 (h `ae `ac δ) (hg `ae `ac q.1 q.2) hs hw h1 `s s σ H D I (`pf λv H' J=>#[δ',J,e3,fun σ' H'' en''=>k σ' H'' en''])
theorem S6(h:`qG)(hs:`ah9):PSD X `ah' (Z5 gx):=.mk λH₀ B₀ δ pins s σ H D I hq109=>by
 apply `aX hq109
 unfold Z5 at e1;cases e2:`e8 with
 | none=>apply `am;cases e1
 | some q =>
  apply `am;cases e1;exact `TJ (h `ae `ac δ) (`pf λv H' J=>k σ H' J.s)
theorem qo0(n:Nat){c:`I}{body:`b7}(hp:`FQ)(hc:`SU)(hb:`aRU):PSD X `aKJ (R6 gt G n):=.mk λH₀ B₀ δ pins s σ H D I hq110=>by
 apply `aX hq110
 have O:PT X c (`alC):=λpins s σ H Q I #[B,δ,h]=>`G7 hc h
 have U:PSs X `eM (`lr (∃δ,`aRX)):=λpins s σ H D I #[δ,h]=>`aRY
 refine Lv0 hp O U `s s σ H D I #[λm σ H=>∃δ',`hJ X.K H δ'/\`aVC,#[n,δ,en,e1],?_];rintro m σ1 H1 ⟨δ1,J,e2⟩;skip;cases m with
 | zero=>cases e2
 | succ m =>
  unfold R6 at e2;let#[B,b1,b2,env]:=J.ex;cases e3:gt δ1 with
  | none=>rw[e3] at e2;cases e2
  | some t =>
   rw[e3] at e2;done;refine#[B,δ1,t,env,e3,λH2 s2=>?_];cases t with
   | false =>
    rw[`qf];cases e2;exact k σ1 H2 (J.grow s2)
   | true =>
    rw[`bl];dsimp only at e2;refine#[fun σ' H'=>∃δ',`ada `ae δ'/\`aVC,fun σ' H' z=>#[m,b4 m,z],δ1,?_];cases e4:G δ1 with
    | none=>rw[e4] at e2;cases e2
    | some rb =>
     rw[e4] at e2;refine#[rb,J.grow s2,e4,?_];cases rb with
     | nx δn=>apply `aVD
     | ct δn=>apply `aVD
     | bk δn=>cases e2;exact `sP (k σ' H' en')
     | rt d'=>cases e2;exact `Mf (k v H' s' r')
     | rf d'=>cases e2;exact `Pe (k p H' hp s' r')
open T in
theorem W50(i j:Nat){p2 p3:Pos}{kk}(hN:`et)(hij:i≠j)(hc:`iR)(hi:`dg)(hj:`qH)
  (hx:`aln) (hy:`lS)
  (hf:`tL) (hf2:`ka)
  (hs1:`F (`D1 `amL=`ig (`azF) `M::`aVE) Aa) (hs2:`F (`aVE=`ig (`ab2) `M::`sw []) Aa)
  (hn:`F ((`y `amL)=2) Aa) (hst:`aKD `amL) :
  PGD X (`Eb `ayS kk pos) [i,j] (gv0 i j):=.mk λB d δ=>(Dc0 hc (Wr0 (`SQ) (Wr0 (l70 (i:=j) hN hj hy hf2) H90 hs2) hs1) hn hst).imp λv σ H Q hq111=>by
 let#[δ',r,en,e1,k]:=hq111
 unfold gv0 at e1;split at e1
 ·rename_i da db
  cases e1;rw[N5] at r;let#[p,xs,rfl,hq,rs]:=r;rw[j6] at rs;let#[va,t1,rfl,ra,rs]:=rs;rw[j6] at rs;let#[vb,t2,rfl,rb,rs]:=rs;rw[c7] at rs;subst rs;refine#[p,_,rfl,`n1,rfl,va,[vb],rfl,vb,[],rfl,rfl,k _ ?_ ((en.set i ra).set j rb)];refine#[`a_,`ud,λq hq ds h=>?_]
  ·have h1:q≠i:=λz=>hq `amM
   have h2:q≠j:=λz=>hq (`l z (A6 _ A8))
   rw[`aVF,`aVG,`aVF,`aVG];exact`k!
  ·rcases `ji h with⟨rfl,e3,_⟩|⟨n1,e3⟩
   ·cases e3
   ·rcases `ji e3 with⟨rfl,e4,_⟩|⟨n2,e4⟩
    ·cases e4
    ·simp at hq
     rcases hq with z|z
     ·exact n2 `sQ
     ·exact n1 `sQ
 ·cases e1
universe zz
universe DL
namespace HT
open PyProof.Rows
section
variable{w:`O}{s:`u}
def ks0{t sl:`e}{items:`a1}{hi:`aE}{Q:`as}(ht:`aNp)(hs:`Ry)(pl:`Rz)(pu:`RA)
  (hw:`aNq) (h:Q `pC s):`aNs:=by
 let#[os,U,Y,Z]:=id hs;have O:`aNt := #[os,U,Y];unfold getItem
 apply `F5
 first|refine `Qf|try fail
 refine `aNu;refine A0 (j0 (name:=`aNv) `tp b6
  `aNw)
 apply `aNx;refine `aNy;apply `j6 L8 O;rw[`P!];refine `aNz;have J:`ae4:=by
  rw[hw.1,hw.2];simp
 apply `aNA;rw[`Q J];unfold Builtin.Tuple.tupleIsExact;refine A0 (A0 (L8 `tp `KH));rw[`P!];exact A0 (Y1 `acK)
universe zz
universe HT
namespace L2
open Spec PyProof.Rows
def Ci0(K:`x):`tW:=`RC (∃a xs,`eu/\`qe/\`aNP/\Q `b' H)
def Hn0:SlR X (Ci0 X.K):=by
 apply `RE;skip;apply `aNR;cases rx;apply `aNS;apply `aNT
 done;exact#[`eC,_,b6.lookup,`tp,HT.ks0 ht hs pl pu (`RF) (`hd `a? q)]
def Pe0(K:`x):R2:=`d5 (∃a b ys,`eu/\`F6/\SqT K H a []/\`aNW/\Q `Nl H)
def L80:`ajG Pe0:=by
 apply `fk;skip;let#[a,b,ys,rfl,rfl,ha,hb,q]:=h;cases rx;cases ry;apply `aNX;let#[Y,r2,p2,_]:=`mO hb;have e:its=[]:=r1.zero;subst e;apply `ade (id p1);let#[#[a2,Z,data2,a1],U,O,n2,J]:=id p2;simp only at hc hd O J;subst hc hd O J;done;exact u4 `tV `aVH C00 C10 C20 C30 (C40 _ _)
  (tuple_addW0 a b _ Y.toArray n n2 dd Z sl a1 rfl) #[ho,U,(`hd `vR q)]
universe L2
namespace DL
open Spec PyProof.Rows L2
mutual
theorem lr0:∀(d:D) (n:Nat),`ue->deq d d=`d
 | `v,_,_=>by unfold deq;rfl
 | `f?,_,_=>`amN
 | `oE,_,_=>`amN
 | `xU,_,_=>`amN
 | `dm,0,h=>by apply `D2;cases h
 | `dm,n+1,h=>`aVI
 | `eh,0,h=>by apply `D2;cases h
 | `eh,n+1,h=>`aVI
 | `qz,n,h=>by apply `D2;cases h
 | `qA,n,h=>by apply `D2;cases h
theorem jn0:∀(ds:`i) (n:Nat),`za->xy0 ds ds=`d
 | [],_,_=>by unfold xy0;rfl
 | `aI,n,h=>by
  unfold leans at h;apply `qI;unfold xy0;rw[lr0 d n h.1,jn0 ds n h.2];rfl
end
theorem s90:∀ds es:`i,`aa!=((`cn (`aVJ)).all (`amO)&&`aVK)
 | [],[]=>`amP
 | [],`dC=>`amP
 | `dC,[]=>`amP
 | `aI,e::es=>by
  unfold xy0;rw[s90 ds es];have h1:min `Sh `aj5=`aVJ+1:=by simp only[`X];lia
  rw[h1,`aVL,`nT,`amQ];have h2:(`Sh==`aj5)=(`aVK):=by
   rw[`yw];simp
  rw[h2,Bool.and_assoc];rfl
theorem qd0:∀{ds:`i} {n j:Nat} {d:D},`za->ds[j]?=`a9->`ue
 | [],_,_,_,_,h=>`iG
 | `aI,n,0,_,h,e=>by
  unfold leans at h;apply `qI;simp at e;subst e;exact h.1
 | `aI,n,j+1,_,h,e=>by
  unfold leans at h;apply `qI;exact qd0 (j:=j) h.2 `Fu
section
variable{σ:St}{s:`u}
inductive V6 (X:Cx) (s:`u) (H:Hp) (B:BS):Nat->D->V->`ads
 | non (n:Nat):`BG `v `v `aj
 | bl (n:Nat) (b:`C):`BG `lg `lg `Fl
 | int (n:Nat) (i:Int) (t:Tok):`BG `d_ `d_ `wQ
 | str (n:Nat) (z:Str) (t:Tok):`BG `tb `tb (`t z t)
 | tup (n:Nat) (ds:`i) (a:`e) (xs:`V) (its:`J) (l:`za) (q:SqT' X.K H B a xs) (r:`TK) (v:`yn) (p:`aAm):`aVM `o?
 | lst (n:Nat) (ds:`i) (a:`e) (xs:`V) (its:`J) (l:`za) (q:SqL' X.K H B a xs) (r:`TK) (v:`yn) (p:`J0 a `b0):`aVM `vx
def view(I:`A){d:D}{x:V}(l:`ue)(h:`S8)(r:`jP):`D3:=by
 skip;cases d with
 | non=>rw[Q9] at h;subst h;cases r;done;exact `v _
 | bl b=>rw[V1] at h;subst h;cases r;done;exact .bl _ b
 | int i=>rw[Y0] at h;subst h;apply `j7;done;exact `g _ i t
 | str z=>rw[R4] at h;subst h;apply `j7;done;exact `t _ z t
 | tup ds =>
  rw[N5] at h;let#[a,xs,rfl,q,rr]:=h;let#[its,rv,p,_]:=`mO `gr;cases n with
  | zero=>apply `zb;cases l
  | succ m=>apply `zb;cases r;done;exact `z m ds a xs its l q rr rv p
 | lst ds =>
  rw[Q3] at h;let#[a,xs,rfl,q,rr]:=h;let#[its,rv,p,_]:=`jb `gr;cases n with
  | zero=>apply `zb;cases l
  | succ m=>apply `zb;cases r;done;exact `o m ds a xs its l q rr rv `QY
 | dct a b=>apply `zb;cases l
 | fn a b=>apply `zb;cases l
def Wf0(I:`A){es:`i}{its:`J}(ih:`aVN)(l:`za)(l':`aVO)(r:`TK)(r':Rps X.K H B' es xs)(v:`yn):ds=es:=by
 refine n9 (`C_ `cb `pZ) `aVP
 skip;let#[x,ex,rx]:=`qo (B6 h1);let#[y,ey,ry]:=r'.get (B6 h2);rw[ex] at ey;cases ey;let#[u,_,ru]:=v.get ex;done;exact ih (view I (qd0 l (B6 h1)) rx ru) (view I (qd0 l' (B6 h2)) ry ru)
def V6.inj(I:`A):`aVN:=by
 induction n with
 | zero =>
  intro m d e x u h h';cases h<;>cases h'<;>rfl
 | succ n ih =>
  intro m d e x u h h';cases h with
  | tup _ ds a xs its l q r v p =>
   cases h' with
   | tup _ es _ ys _ l' q' r' _ _ =>
    have:=`aK5 `gr q'.to;subst this;rw[`aVQ]
   | lst _ es _ ys _ _ _ _ _ p'=>exact `L rfl (xf0 p' p)
  | lst _ ds a xs its l q r v p =>
   cases h' with
   | lst _ es _ ys _ l' q' r' _ _ =>
    have:=`aAl `gr q'.to;subst this;rw[`aVQ]
   | tup _ es _ ys _ _ _ _ _ p'=>exact `L rfl (xf0 p p')
  | _=>cases h'<;>rfl
theorem in1_units:A.in1.units=`mL+1:=rfl
def ly0{es:`i}{ys:`V}{ws:`J}{A:`cf}(ld:`za)(le:`aVO)(r1:`TK)(r2:Rps X.K H B' es ys)(v1:`es)(v2:`bO ys ws)
  (ih:∀d e x y u w,`ue->`aVR->`S8->`aVS->`jP->`amR->`amS) :
  ∀j (h1:j<us.toArray.size) (h2:j<ws.toArray.size),`wD A s `aVT `aVU (`awB):=by
 intro j h1 h2;skip;have l1:j<`bX:=by rw[← `pq,`amT];simpa using h1
 have l2:j<`ho:=by rw[← `m5,`amU];simpa using h2
 let#[x,ex,rx]:=r1.get (B6 l1);let#[y,ey,ry]:=r2.get (B6 l2);let#[u,eu,ru]:=v1.get ex;let#[w,ew,J]:=v2.get ey;have hu:`aVT=u:=by
  have:us[j]?=`bf:=eu;simp at h1;apply `a3 (`jt h1)
  simpa using `_5
 have hw:`aVU=w:=by
  have:ws[j]?=`c w:=ew;simp at h2;apply `a3 (`jt h2)
  simpa using `_5
 done;rw[hu,hw];have e1:`azG=ds[j]:=by simp[`ch,l1]
 have e2:`azH=es[j]:=by simp[`ch,l2]
 rw[e1,e2];exact ih _ _ _ _ _ _ (qd0 ld (B6 l1)) (qd0 le (B6 l2)) rx ry ru J
def V6.step(I:`A){d e:D}{x y:V}{w:`B}(hu:`mL<`oy)(ih:∀k,n=k+1->∀{m:Nat} {d e:D} {x y:V} {u w:`B},V6 X s H B k d x u->`TL->`aa9 `wD `fS)(h:`D3)(h':`TL):`amS:=by
 cases h with
 | tup k ds a xs its l q r v p =>
  cases h' with
  | tup k' es a' ys its' l' q' r' v' p' =>
   by_cases hab:a=a'
   ·subst hab
    rw[← `aVV `z `z,lr0 `o? `ef l];exact .same _
   ·refine `aVW
    have:=`amV B10 `aVX;show `amW;rw[s90]
    simpa [← v.length,← `aEx,`cb,`pZ] using `E
  | _=>show `aVY;first|apply `H (SeqAt.EqAt.tuple_none p hu)|apply `H (SeqAt.EqAt.tuple_bool _ p hu)|apply `H (`iS SeqAt.EqAt.tuple_int)|apply `H (`iS SeqAt.EqAt.tuple_str)|apply `H (`zc SeqAt.EqAt.tuple_list)
 | lst k ds a xs its l q r v p =>
  cases h' with
  | lst k' es a' ys its' l' q' r' v' p' =>
   by_cases hab:a=a'
   ·subst hab
    rw[← `aVV `o `o,lr0 `vx `ef l];exact .same _
   ·refine `aVW
    apply `amX
    apply `amY
    show `amW;rw[s90]
    by_cases hl:`bX=`ho
    ·have:=`amZ `aVZ `aVX
     apply `a3 s1;rw[hl] at this ⊢
     apply `EB
    ·have:=`aV_
     apply `aV0;exact `E
  | _=>show `aVY;first|apply `H (SeqAt.EqAt.list_none p hu)|apply `H (SeqAt.EqAt.list_bool _ p hu)|apply `H (`iS SeqAt.EqAt.list_int)|apply `H (`iS SeqAt.EqAt.list_str)|apply `H (`zc SeqAt.EqAt.list_tuple)
 | _=>cases h'<;>dsimp only [deq]<;>first|apply `H (o3 _)|apply `H (`aOi _ _)|apply `H (A80 _ _ _ _)|apply `H (B00 _ _ _ _)|apply `H (`aOj _ _ _)|apply `H (`aOl _ _ _)|apply `H (`aOg _)|apply `H (A50 _ _)|apply `H (A60 _ _)|apply `H (`aOh _)|apply `H (`aOk _ _ _)|apply `H (A70 _ _)|apply `H (r8 _ _ _ _)|apply `H (A90 _ _)|apply `H (`aOm _ _ _)|apply `H (r9 _ _ _ _)|apply `H (SeqAt.EqAt.none_list `n7 hu)|apply `H (`zd SeqAt.EqAt.bool_list)|apply `H (`iT SeqAt.EqAt.int_list)|apply `H (`iT SeqAt.EqAt.str_list)|apply `H (SeqAt.EqAt.none_tuple `n7 hu)|apply `H (`zd SeqAt.EqAt.bool_tuple)|apply `H (`iT SeqAt.EqAt.int_tuple)|apply `H (`iT SeqAt.EqAt.str_tuple)
def V6.eq(I:`A):∀{m:Nat} {d e:D} {x y:V} {u w:`B} {A:`cf},`am_->`D3->`TL->`amS:=by
 induction n with
 | zero=>exact λhu=>V6.step I `j λk z=>nomatch z
 | succ n ih =>
  intro m d e x y u w A hu;refine V6.step I `j λk z=>?_
  cases z;exact ih `aEy
universe zz
universe DL
namespace DL
open Spec PyProof.Rows L2
section
variable{σ:St}{s:`u}
def V6.rc(I:`A){d e:D}{x y:V}{w:`B}(hn:`am_)(h:`D3)(h':`TL):`aV1:=by
 have hu:`mL<`oy:=`G
 cases h with
 | tup k ds a xs its l q r v p =>
  cases h' with
  | tup k' es a' ys its' l' q' r' v' p' =>
   apply `aV2
   apply `amX
   apply `amY
   have q1:=`amV B10 J;have q2:=`amV SeqAt.RcNeAt.tuples J;rw[s1,s2,← s90] at q1 q2;exact`G9
  | _=>show `aV3;constructor<;>first|apply `H (SeqAt.RcAt.tuple_none p hu)|apply `H (SeqAt.RcAt.tuple_bool _ p hu)|apply `H (`iS SeqAt.RcAt.tuple_int)|apply `H (`iS SeqAt.RcAt.tuple_str)|apply `H (`zc SeqAt.RcAt.tuple_list)|apply `H (SeqAt.RcNeAt.tuple_none p hu)|apply `H (SeqAt.RcNeAt.tuple_bool _ p hu)|apply `H (`iS SeqAt.RcNeAt.tuple_int)|apply `H (`iS SeqAt.RcNeAt.tuple_str)|apply `H (`zc SeqAt.RcNeAt.tuple_list)
 | lst k ds a xs its l q r v p =>
  cases h' with
  | lst k' es a' ys its' l' q' r' v' p' =>
   apply `aV2
   apply `amX
   apply `amY
   show `amW/\`Mg A s _ _ (!`aa!);rw[s90]
   by_cases hl:`bX=`ho
   ·have q1:=`amZ `aVZ J
    have q2:=`amZ SeqAt.RcNeAt.lists J;rw[s1] at q1 q2;rw[hl] at q1 q2 ⊢;simp only[`ZY,`P8,Bool.and_true];exact`G9
   ·have q1:=`aV_
    have q2:=SeqAt.RcNeAt.lists_lengths (A:=A) p p' `aBs hu;apply `aV0;exact`G9
  | _=>show `aV3;constructor<;>first|apply `H (SeqAt.RcAt.list_none p hu)|apply `H (SeqAt.RcAt.list_bool _ p hu)|apply `H (`iS SeqAt.RcAt.list_int)|apply `H (`iS SeqAt.RcAt.list_str)|apply `H (`zc SeqAt.RcAt.list_tuple)|apply `H (SeqAt.RcNeAt.list_none p hu)|apply `H (SeqAt.RcNeAt.list_bool _ p hu)|apply `H (`iS SeqAt.RcNeAt.list_int)|apply `H (`iS SeqAt.RcNeAt.list_str)|apply `H (`zc SeqAt.RcNeAt.list_tuple)
 | _=>cases h'<;>dsimp only [deq]<;>(try change _/\`aBu)<;>(try change _/\`Mg A s _ _ `m)<;>constructor<;>first|apply `H SeqAt.RcAt.none_none|apply `H (SeqAt.RcAt.bool_bool _ _)|apply `H (SeqAt.RcAt.int_int _ _ _ _)|apply `H (SeqAt.RcAt.str_str _ _ _ _)|apply `H (SeqAt.RcAt.bool_int _ _ _)|apply `H (SeqAt.RcAt.int_bool _ _ _)|apply `H (SeqAt.RcAt.none_bool _)|apply `H (SeqAt.RcAt.none_int _ _)|apply `H (SeqAt.RcAt.none_str _ _)|apply `H (SeqAt.RcAt.bool_none _)|apply `H (SeqAt.RcAt.bool_str _ _ _)|apply `H (SeqAt.RcAt.int_none _ _)|apply `H (SeqAt.RcAt.int_str _ _ _ _)|apply `H (SeqAt.RcAt.str_none _ _)|apply `H (SeqAt.RcAt.str_bool _ _ _)|apply `H (SeqAt.RcAt.str_int _ _ _ _)|apply `H (SeqAt.RcAt.none_list `n7 hu)|apply `H (`zd SeqAt.RcAt.bool_list)|apply `H (`iT SeqAt.RcAt.int_list)|apply `H (`iT SeqAt.RcAt.str_list)|apply `H (SeqAt.RcAt.none_tuple `n7 hu)|apply `H (`zd SeqAt.RcAt.bool_tuple)|apply `H (`iT SeqAt.RcAt.int_tuple)|apply `H (`iT SeqAt.RcAt.str_tuple)|apply `H SeqAt.RcNeAt.none_none|apply `H (SeqAt.RcNeAt.bool_bool _ _)|apply `H (SeqAt.RcNeAt.int_int _ _ _ _)|apply `H (SeqAt.RcNeAt.str_str _ _ _ _)|apply `H (SeqAt.RcNeAt.bool_int _ _ _)|apply `H (SeqAt.RcNeAt.int_bool _ _ _)|apply `H (SeqAt.RcNeAt.none_bool _)|apply `H (SeqAt.RcNeAt.none_int _ _)|apply `H (SeqAt.RcNeAt.none_str _ _)|apply `H (SeqAt.RcNeAt.bool_none _)|apply `H (SeqAt.RcNeAt.bool_str _ _ _)|apply `H (SeqAt.RcNeAt.int_none _ _)|apply `H (SeqAt.RcNeAt.int_str _ _ _ _)|apply `H (SeqAt.RcNeAt.str_none _ _)|apply `H (SeqAt.RcNeAt.str_bool _ _ _)|apply `H (SeqAt.RcNeAt.str_int _ _ _ _)|apply `H (SeqAt.RcNeAt.none_list `n7 hu)|apply `H (`zd SeqAt.RcNeAt.bool_list)|apply `H (`iT SeqAt.RcNeAt.int_list)|apply `H (`iT SeqAt.RcNeAt.str_list)|apply `H (SeqAt.RcNeAt.none_tuple `n7 hu)|apply `H (`zd SeqAt.RcNeAt.bool_tuple)|apply `H (`iT SeqAt.RcNeAt.int_tuple)|apply `H (`iT SeqAt.RcNeAt.str_tuple)
theorem Qg0(I:`A)(n m:Nat)(d e:D)(x y:V)(u w:`B)(A:`cf)(hu:`am_)(ld:`ue)(le:`aVR)(hx:`S8)(hy:`aVS)(rx:`jP)(ry:`amR) :
  `aV1:=V6.rc I hu (view I ld hx rx) (view I le hy ry)
universe zz
section
variable{a:`I}{p:Pos}{ga:`cW}
def Td0(K:`x)(neg:`C):R2:=`d5 (∃B B' dx dy,`ak?/\Rp K H B' dy y/\`xG dx/\`xG dy/\`to (xor neg (deq dx dy)))
def Qt0(hu:`aV4):`fD .Eq (Td0 X.K `m):=by
 apply `fk;skip;apply `aV5;done;exact(`aV6).1 _ _ _ _ (`hd `b6 (by rw[`xj] at q;exact q))
def Gt0(hu:`aV4):`fD .NotEq (Td0 X.K `d):=by
 apply `fk;skip;apply `aV5;done;exact(`aV6).2 _ _ _ _ (`hd `b6 (by rw[`TM] at q;exact q))
def Uq0:Op2 K (Td0 K `m) jp0:=by
 apply `iP;unfold jp0 at h;split at h
 ·rename_i hl
  cases h;exact`aV7 (`g7 (by rw[V1,`xj]))
 ·cases h
def J60:Op2 K (Td0 K `d) dv0:=by
 apply `iP;unfold dv0 at h;split at h
 ·rename_i hl
  cases h;exact`aV7 (`g7 (by rw[V1,`TM]))
 ·cases h
def No0:Op2 K (`d5 (rI0 (`aLv) x y H Q∨(`aLM)∨`F8 J30∨`F8 Ko0∨`F8 Pe0)) m8:=by
 apply `iP;cases dx<;>cases dy<;>simp only[m8] at h<;>try cases h
 ·rw[Y0] at rx ry
  subst rx ry;exact `n #[_,_,rfl,rfl,`D4]
 ·split at h
  ·cases h
   rw[R4] at rx ry;subst rx ry;exact `q (`n #[_,_,rfl,rfl,`u2,`SI])
  ·cases h
 ·split at h
  ·skip;rename_i hz
   cases h;have O:=ry;have U:=rx;rw[N5] at rx ry;apply `am0;apply `aV8
   by_cases he:`yG
   ·subst he
    have e:`aV9=`aV9:=rfl;have hn:=`pq;simp at hn;have J:=`am1;subst J;done;exact `ze (`q #[a,b,ys,rfl,rfl,q1.to,q2.to,`g7 (`l `kV O)])
   ·done;refine `ze (`n #[a,b,xs,ys,rfl,rfl,q1.to,q2.to,he,`am2,`j1,λz p hp=>k _ _ `gu (dt0 hb hp (`RG))])
    subst z;have hn:=`m5;simp at hn;have J:=`am1;subst J;exact `g7 (`l `cg U)
  ·cases h
 ·split at h
  ·skip;rename_i hz
   cases h;rw[Q3] at rx ry;apply `am0;apply `aV8;done;apply `j? (`n #[a,b,xs,ys,rfl,rfl,q1.to,q2.to,`am2,`xV `gu (mv0 hb hp (`RG))])
  ·cases h
theorem b7(ha:`cZ)(hb:`dS):`lU `aV' m8:=k90 (Fy0.or (Ty0.or (Vm0.or (I20.or L80)))) No0 ha hb
theorem Vr0(h:`bB):∀k:Nat,Rps K H B (`k3 k ds) `aOK
 | 0=>`akU
 | k+1=>by
  rw[`eV,`eV,`iL,`iL];exact h.append (Vr0 h k)
instance decMul(i j:Int):`lT (CMul i j):=inferInstanceAs (`lT (`adi))
theorem M9(ha:`cZ)(hb:`dS):`lU `aV! S8:=k90 Gd0 ((show (`kd `aTP)=S8 from by funext x y;cases x<;>cases y<;>rfl)▸fo0 (C:=CMul) (g':=`aLy) `alN) ha hb
def Oy0{xs:`i}{hi:`aE}(h:`akK=0/\`aQm=`_):`al7=xs:=by
 unfold cutD;rw[h.1,h.2];simp
open T in
theorem T8{lo hi:`r6}{gl gh:`yQ}{p2:Pos}(he:`cX)(hl:`aV?)(hh:`aWa) :
  PD X `aNI (U7 g gl gh):=.mk λB δ =>
 (Mr0 (Ga0.or (Je0.or (Fl0.or Hn0))) (he B δ) (hl B δ) (hh B δ)).imp fun σ H Q hq112=>by
  apply `bi hq112
  unfold U7 at h;cases e1:`az with
  | none=>rw[e1] at h;cases h
  | some x =>
   cases e2:`D0 with
   | none=>apply `cY;cases h
   | some l =>
    cases e3:`xi with
    | none=>rw[e1,e2,e3] at h;cases h
    | some u =>
     rw[e1,e2,e3] at h;apply `eY;refine`SK x (`aWb `aa3 ?_);have S:=`uf;have r3:=(`r5).same s3;have hb:=(`am3).bad;cases x<;>simp only[slA] at h<;>try cases h
     ·split at h
      ·cases h
       rw[R4] at r3;exact `n #[_,r3,`u2,k _ H3 S `KQ]
      ·cases h
     ·have r4:=r3
      rw[N5] at r3;apply `Ta r3;rename_i dxs
      by_cases hw:sIx `TN 0 l=0/\sIx `TN `TN u=`TN
      ·refine `ze #[a,xs,rfl,`gr,`aWc,k _ _ S ?_]
       rw[Oy0 hw];exact r4
      ·apply `j? (`n #[a,xs,rfl,`gr,`aWc,`xV (S.trans `gu) (dt0 hb hp `aWd)])
     ·rw[Q3] at r3
      apply `Ta r3;exact `q (`n #[a,xs,rfl,`gr,`xV (S.trans `gu) (mv0 hb hp `aWd)])
def Fh0:FnR K `aLP intOfD:=by
 apply `y3;unfold intOfD at h;split at h
 ·cases h
  apply `kh;rw[Y0] at r1;subst r1;exact `n `aWe
 ·cases h
  apply `kh;rw[V1] at r1;subst r1;exact `q `aWe
 ·cases h
def Tb0:FnR K (`iv (`RV `alT `alU `aOt)) wa0:=by
 apply `y3;unfold wa0 at h;split at h
 ·skip;cases h
  apply `kh;rw[Q3] at r1;apply `y4;done;exact#[a,ys,rfl,`alV,`aWf]
 ·skip;cases h
  apply `kh;rw[N5] at r1;apply `y4;done;exact#[a,ys,rfl,`alW,`aWf]
 ·cases h
universe zz
universe DL
namespace DL
open Spec PyProof.Rows
@[simp] def qt0:`a7
 | `c4,`vt=>`aTO
 | _,_=>`f
def wg0{gA:GA}{δ:Ds}(h:`ke)(hl:`t0):yp0 gA δ=`Se:=by
 unfold yp0;rw[h,`p,`pn]
def Eg0{gA:GA}{δ:Ds}(h:`ke)(hl:`t0):W0 gA δ=`t1:=by
 unfold W0;rw[h,`p,`pn]
def Jd0{n:Int}{d:D}(h:d∈`zf):∃k:Nat,`dV<n/\d=`g3:=by
 let#[k,hk,rfl]:=`dH h;have:=`BD hk;exact#[k,`G,by rw[`TO]]
def G10(f:D->α)(n:Int):(`zf).map f=`aWg λ(k:Nat)=>f `u4:=by
 unfold yn0;rw[`cu];have:n - 0=n:=`G
 rw[`E];refine c9 λk _=>?_
 show f (`g (0+`dV))=_;rw[`TO]
def re0(n:Int):(`y `zf)=`s6:=by unfold yn0;simp
def U30{n:Int}{d:D}(h:(`zf)[j]?=`a9):j<`s6/\d=`gg:=by
 have hj:j<`s6:=by
  have:=`am4
  rwa [re0] at this
 refine#[hj,?_];unfold yn0 at h;rw[`df,List.getElem?_range (`Gm)] at h;have:=A3 h;rw[← `E];show `bZ (0+`b9)=_;rw[`TO]
def Mi0{gt:GB}{ge:GE}{δ:Ds}{n:Int}(h:Nat->D)(H:∀k:Nat,`dV<n->∃δ',gN 0 `u4 δ=`CZ/\`Gk=`eK/\`M3=`c (h k)) :
  xw0 `dy gt ge δ (`zf)=`c (`aWg h):=by
 rw[ud0 (`TP `jj (h `jz)) (λd hd=>by
  let#[k,hk,rfl]:=Jd0 hd;exact H k hk),G10]
 rfl
universe DL
namespace DL
open Spec PyProof.Rows L2
section
variable{a:`I}{p:Pos}{ga:`cW}
theorem ci0(ha:`cZ)(hb:`dS):PDF X `aV' (o2 ga gb qt0):=.mk λB δ=>(Kd0 Vm0 `bv `f4).imp fun σ H Q hq113=>by
 skip;apply `bi hq113
 unfold o2 at h;cases e1:`ei with
 | none=>rw[e1] at h;cases h
 | some x =>
  cases e2:`fL with
  | none=>apply `cY;cases h
  | some y =>
   apply `cY;apply `eY;done;apply `yV;cases x<;>cases y<;>simp only[qt0] at h<;>try cases h
   split at h
   ·skip;rename_i hz
    cases h;have r1:=`r5;rw[Q3] at r1 r2;let#[a,xs,rfl,q1,r1]:=r1;let#[b,ys,rfl,q2,r2]:=r2;done;exact#[a,b,xs,ys,rfl,rfl,q1.to,q2.to,`am2,λp hp=>k p _ (`aWh hp) (`JU `gu) #[_,d8,(`RG).mono `Nv]]
   ·cases h
theorem Y40(hm:`nL)(hv:`v6=`ayT)(ha:`cX)(hg:`fo)
  (hn:`nM) (hdb:`aO) (he:`f5) (hpl:`ki) :
  PDF X `aWi (oA `xC wa0):=.mk λB δ=>(`SM nu0 oy0 (O2 `bv zy0 he)).imp fun σ H Q hq114=>by
 apply `bi hq114
 unfold oA z7 v8 at h;cases e1:`az with
 | none=>rw[e1] at h;cases h
 | some x =>
  rw[e1] at h;simp only[`p,`k2] at h;refine#[x,en,e1,`EV];cases x<;>simp only[wa0] at h<;>try cases h
  ·rw[N5] at r1
   apply `aWj;exact#[q,xs,rfl,`q `n1,`aWk]
  ·rw[Q3] at r1
   apply `aWj;exact#[q,xs,rfl,`n `n1,`aWk]
universe zz
section
variable{p:Pos}
def FnN(P:`ak)(w:`O)(K:`x)(mg:`a6)(base:`D)(x:Str)(k:Nat)(ps:`h)(f:`N):Prop :=
 `alZ (`Z k ps (spN K f))
def pv0{k:Nat}{f:`N}(C:`aWl)(hr:`qC)(hk:k<=m)(ha:`lR)(hg:`fo)(hdb:`aO)
  (he:`dB) (hpl:`eU):PDF X `o_ `Ki:=by
 apply `Tc;exact .mk λB δ=>(`GG `iQ kp `bv).imp fun σ H Q h=>by
  apply `yU;unfold oA at h;cases e1:`eb with
  | none=>rw[e1] at h;cases h
  | some ds =>
   rw[e1] at h;refine`aRx;show spN X.K f `NN H1 Q E0;rw[`cg];exact#[B,ds,d,`alh,r1,h,λp H' hp s r=>k p H' `aVt (`oD s) r]
theorem tf0{k:Nat}{f:`N}(C:`aWl)(hr:`qC)(hk:k<=m)(ha:`lR)(hg:`fo)(hdb:`aO)
  (he:`dB) (hpl:`eU):`GF:=(pv0 C hr hk ha hg hdb he hpl).pd
theorem G6(h:`y_):`GI M7 g:=.mk λH₀ B₀ δ pins s σ H D I hq115=>by
 skip;apply `aX hq115
 unfold M7 at e1;apply `aZ;cases e2:`az with
 | none=>apply `am;cases e1
 | some d =>
  apply `am;cases e1;done;exact `t8 `dx (`GJ λp H' hp s' r=>k p H' (`amz) (`NE s') (`dq `amD (`ju λa z=>z.imp (b1 a) id)).toL)
open T in
theorem l90(i:Nat){px:Pos}(hN:`dg)(hv:`d')(hd:`aO)(hcd:`dA) :
  PSD X (`Zt (`c `g_) pos) (lq0 i):=.mk λH₀ B₀ δ pins s σ H D I hq116=>by
 apply `aX hq116
 unfold lq0 at e1;apply `aZ;split at e1
 ·rename_i d hi
  let#[a,hs,hb,ro]:=`pp;cases e1;exact `t8 `kU #[_,hs,k a H (`s2 i d a hi hs) `fs (ro.mono `amD (`ju λb z=>`eq (b1 b) λq=>`l q hb))]
 ·cases e1
universe zz
universe DL
namespace DL
@[simp] def Te0:`N
 | `aWm=>`c (`z `aWn)
 | _=>`f
@[simp] def rl0:`N
 | `Gl=>`c (`o ds.reverse)
 | _=>`f
def n70(ds:`i):`i:=(`cn `bX).map λ(k:Nat)=>`z [`g3,ds.getD k `v]
def Wj0:`akG
 | `Gl=>`c (n70 ds)
 | _=>`f
def fl0(gA:GA):GA:=`Gi Wj0
mutual
def tree:`d9
 | `eR=>`m
 | `qz=>`m
 | `qA=>`m
 | `dm=>`am5
 | _=>`d
def trees:`wa
 | []=>`d
 | `aI=>tree d&&`am5
end
def kx0(g:GE):GE:=fun δ=>`al_ λd=>`w `am6 `a9 `f
def da0{g:GE}{δ:Ds}{d:D}(h:`wC=`a9)(ht:`am6):kx0 g δ=`a9:=by
 unfold kx0;rw[h,`p,`am7]
def q70(g:GE)(gA:GA)(f:`zg):GE:=`gJ λd=>`t3 λds=>f d ds
def Iw0{g:GE}{gA:GA}{f:`zg}{δ:Ds}{d:D}(h1:`iM)(h2:`ke):q70 g gA f δ=f d ds:=by
 unfold q70;rw[h1,h2];rfl
def rd0:`zg
 | `jU,[`xU]=>`c `aEJ
 | _,_=>`f
def mi0{gA:GA}{δ:Ds}{n:Int}(h:`eb=`c `TQ)(h1:-(`gE)<=n)(h2:n<`gE):ti0 gA δ=`c (`zf):=by
 unfold ti0;rw[h,`p];simp only[Sg0];rw[`Q `aUa]
universe DL
namespace RevL
open Spec PyProof.Rows
def Th0:`k? `TR "__len__"=`TS:=`yd
def Mg0:`k? `TR `ab6=`cj (`c (`co "list_reverseiterator.__length_hint__")):=`yd
def Ik0:`agv `TR `TR=`agV:=by rw[`agU];kernel_rfl
section
variable{w:`O}{s:`u}{R:`j3}
variable{wr:`aY}{G:`aWo}{P:`aWp}{St:`aks}
def Hv0(W:`aWq)(hT:`am8)(C:`e)(res:`B)(c0:Nat)(st:St 0 s)(hC:C∉fp)(hI:I∈fp)
  (gC:`dn C=`aWr)
  (hR:`aWs (`m? res s')) (hn:`yI) :
  `aD `dd `fS (`D5 `bh `LJ res)
   `Fq `Fr s:=by
 have ne:C≠I:=λe=>hC (e▸hI)
 apply `am9;refine A0 (L8 `TT (by
  have q1:`zh `bh `LJ=`m:=by simp[`zh,ne]
  have q2:(`aWt==`k7 `e2)=`m:=`av
  have q3:(`aWt==`k7 `eC)=`m:=`av
  simp only[q1,q2,q3,`Np,`s',`hp];refine A0 (W.self 0 _ _ _ st (A0 (D3 (by
   apply `am';refine A0 (E4 `TT Th0 (by
    show `hv (`aED (`fw I) `aEE>>=_) _;apply `fZ E4 `TT Mg0;apply `fZ B20 `TT Ik0;rw[`dY];dsimp only;rw[`Q `dj,`dY];refine `jm;rw[`ag `dj];refine A1 #[d4 PySem.F.plain_extend_loop _,?_];exact codeAny_extend_loopS W hn _ hC _ n 0 _ _ _ rfl `lj st gC (ItemsOf.nil P) λs' acc' c' m e J=>hR s' acc' c' m e J))))))))
def Mo0(W:`aWq)(hT:`am8)(C:`e)(st:St 0 s)(hC:C∉fp)(hI:I∈fp)
  (gC:`dn C=`TU)
  (hR:`aWs (`m? `aj s')) (hn:`yI) :
  `aD `dd `fS (`aWu #[[`eB,`T I],[]])
   `Fq `Fr s:=by
 show `hv (do let old ← `aWv `bh;`aWw `bh `TV;`aWx;`aWy) s;refine A0 (by
  apply `aWz;refine A0 (i8 gC rfl (A1 (by
   show `hv (`G' C `TV>>=λ_=>`aWA>>=λ_=>`aWy) s;have g2:=D6 `NV gC rfl;have oth:`tc C (`fF->`qs (`s? C `NV)):=`am!
   refine A0 (N4 gC rfl (A0 (`aWB (Hv0 W hT C `aj _ (`aWC λb hb o e=>`G! (λh=>hC (h▸hb))) hC hI g2 (λs' acc' c' m e J=>?_) hn))));exact hR s' acc' c' (Moved.trans W.gtrans ((Moved.refl W.grefl).then_heap `bL λb o hb e=>`G! (λh=>hb (h▸A8))) m) e J))))
universe zz
section
variable{w:`O}{s:`u}
variable{wr:`aY}{G:`aWo}{P:`aWp}{St:`aks}
def aj0{Q:`as}(W:`aBy A.in1.in1)(hT:`am8)(st:St 0 s)(hfp:∀b∈fp,b<`U)(hI:I∈fp)
  (hQ:∀s' acc' c',Moved (`U::wr) G `aWD s' ->
   `aBz `U=`aBA->`aWE->Q `jT s') (hn:`yI) :
  `a! (`dQ `Do [`T I]) s:=by
 have hC:`U ∉fp:=λz=>E1 _ (hfp _ z)
 refine `aWF (ob=`ml/\s1=`aWD) λob s1 h1=>?_
 let#[rfl,rfl]:=h1;have gC:(`aBB).get? `U=`TU:=`gl;exact#[`aWG,A51 _ _,Mo0 W hT _ (`aWC λb _ o e=>`rN) hC hI gC (λs' acc' c' m e J=>#[rfl,hQ s' acc' c' m e J]) hn]
def Z10{l:`e}{its:`a1}{Q:`as}(hh:`gF)(hl:`J0 l its)(hz:`acx)
  (h:∀(h':`D) (tk c:Nat) (a:`e),`FD->`g1 a=`c (`xZ `am? c)->`ana->Q `b' `s9) :
  `yA (`dQ (`bx `pe) [`Ci]) `aWH:=by
 refine call_reversed_list hl ?_;let#[ol,gl,_,_]:=id hl;have U:l<`U:=A7 gl;have Z:A.in1.in1.handled=`f:=`TW
 have Wk:=(Walks.listRev (prog:=prog) (w:=w) Z `U l (B4 U) its).toS;refine aj0 Wk (λi s x=>x.2.1.typeIs) #[`b3,#[_,`gl,rfl,by
  show `aK7 ⟨`Ci,`qg (`TX)⟩=_;have z:`TX - `wK=`TX:=`dF
  rw[z]],hl.push _] `QI `aS (λs' J c' m e O=>?_) hz
 ·show b<`anb
  rw[`TY];apply `aWI;rcases hb with rfl|rfl
  ·exact b4 _
  ·exact A61 U
 ·skip;let#[h',g',d',a1,Y]:=s'
  obtain rfl:g'=`yo:=m.gens;obtain rfl:d'=`QH:=m.drawn;obtain rfl:Y=s.os:=m.os;have ea:J=`am?:=by
   apply Array.ext
   ·rw[O.1,Array.size_reverse]
   ·intro i h1 h2
    have q:its[`KT - 1 - i]?=`c J[i]:=O.2 i J[i] (d5 h1);have hi:i<`KT:=`cd O.1 h1
    rw[Array.getElem?_eq_getElem `c?] at q;rw[Array.getElem_reverse];exact(A3 q).symm
  subst ea;have a2:(`h_ (revObj l (`TX))).objs.size=`u':=B70 ..;done;refine h h' a1 c' _ ?_ e λb o eb=>?_
  ·show `U<=`anb
   rw[`TY];exact m3 _
  ·have lb:=A7 eb
   refine m.heap b o ?_ (B0 _ (B0 _ eb));simp only[`pr,`C4,`C5,not_or];refine#[?_,B4 lb];show b≠`anb;rw[`TY];exact B4 (A61 lb)
universe zz
universe RevL
namespace DL
open Spec PyProof.Rows L2
theorem Rps.reverse:`lM (`bB->Rps K H B ds.reverse `RZ)
 | [],_,h=>`akV
 | `aI,_,h=>by
  rw[j6] at h;apply `GR;rw[`fl,`fl];exact `s8 (Rps.reverse h2) h1
section
variable{p:Pos}
def Wy0:`s! `pe `pe:=`ba
def Jk0:`anc:=`ba
def Hy0(hc:`ed)(hl:`and)(hs:`aWJ)(he:`gD)(hgl:`ane)(hgs:`aWK)
  (e1:`aWL) (e2:`f5)
  (h1:`ki) (h2:`aWM) :
  PE X `aWN (`bu te λv H'=>∃q xs,v=`T q/\SqL X.K H' q xs/\`abX H' H' (`o `RZ)):=by
 apply `bm;refine L3 (tg0 I hgl hl Jk0 ?_ `r `r);refine `aWO;rw[e1];show `dc (`FJ (`aBC::`Jw)) s;refine P8 ?_;refine L3 (tg0 I hgs hs Wy0 ?_ `r `r);refine P7 ?_ e2 h2;rw[e2];show `dc (`FJ (`rh::`aBD)) s;refine P8 (thn `lA λu s1 hq117=>?_);skip;let#[v,H1,I1,r1,q,xs,ev,hq,k]:=hq117;done;refine b5 ?_;subst ev;obtain rfl:u=`fw q:=r1;let#[its,rv,pl,hz]:=`aiG hq;have J:=`FO;refine thn (RevL.Z10 (I1.ok.hd hc) `nS (`ajP J hz) (Q:=`awa) (E:=`h4) λh' tk c a ha ga hk=>?_) `aWP
 have hf:H1 a=`f:=`_k ha;refine#[`a?,_,`MS (a:=a) (o:=`o `RZ) (t':=tk) hk ha ?_,rfl,k a hf];exact#[`l `jW hz,`am?,c,rv.reverse,`gn ga]
theorem li0(hl:`and)(hs:`aWJ)(he:`cX)(hc:`iR)(hgl:`ane)(hgs:`aWK)
  (e1:`aWL) (e2:`f5)
  (h1:`ki) (h2:`aWM) :
  PDF X `aWN (oA `xC rl0):=.mk λB δ =>
 (Hy0 hc hl hs (he B δ) hgl hgs e1 e2 h1 h2).imp fun σ H Q hq118=>by
  apply `bi hq118
  unfold oA z7 v8 at h;cases e3:`az with
  | none=>rw[e3] at h;cases h
  | some x =>
   rw[e3] at h;simp only[`p,`k2] at h;cases x<;>simp only[rl0] at h<;>try cases h
   refine#[_,en,e3,λv H1 s1 r=>?_];rw[Q3] at r;let#[q,xs,rfl,hq,rr]:=r;exact#[q,xs,rfl,`n1,`aBw rr.reverse.mono]
universe zz
theorem va0[`n5]:∀{ks:`n6} {ds:`i} {xs:`V} {q:κ},`bB->(∀d,`al2=`a9->∃x,`aWQ=`c6/\`DV)/\(`wi->(`aWQ).isSome=`ua)
 | [],ds,xs,q,h=>by
  refine#[λd e=>?_,`anf]
  ·unfold ta0 at e;cases e
  ·rfl
 | `lW,[],xs,q,h=>by
  rw[c7] at h;subst h;refine#[λd e=>?_,`j1]
  ·unfold ta0 at e;cases e
  ·simp at z
 | `lW,`aI,xs,q,h=>by
  skip;rw[j6] at h;apply `GR;let#[i1,i2]:=va0 (ks:=ks) (q:=q) h2
  by_cases e:k=q
  ·subst e
   done;refine#[`aWR,`anf]
   ·unfold ta0 at e'
    rw[`bl] at e';cases e';exact#[x,oj0 rfl,h1]
   ·rw[`d!,oj0 rfl]
    unfold xi0;simp
  ·done;refine#[`aWR,`j1]
   ·unfold ta0 at e'
    rw[`eZ] at e';rw[`d!,o90 e];exact i1 d' e'
   ·rw[`d!,o90 e,i2 `aSx]
    unfold xi0;simp[e]
theorem T60[`n5]:∀{ks:`n6} {xs:`V} {q:κ},`wi->((`ZW).any λkv=>`ao (kv.1=q))=`ua
 | [],_,_,_=>rfl
 | `lW,[],_,h=>`iG
 | `lW,`nO,q,h=>by
  rw[`d!,`qq,T60 `ia];rfl
def dr0[`n5]{ks:`n6}{q:κ}(h:`wi):∃ys,putK `Ck q v=`aWS/\(`y `adt)=`cq/\(`ua=`d->ys=`ang)/\(`ua=`m->ys=`Z0):=by
 unfold putK wt0;rw[T60 h];cases hk:`ua with
 | true =>
  rw[`bl,`bl];refine#[`ang,?_,by simp[h],`j_,λz=>by cases z];clear hk
  induction ks generalizing xs with
  | nil=>rfl
  | cons k ks ih =>
   cases xs with
   | nil=>simp at h
   | cons x xs =>
    rw[`d!,`ab,`ab,`d!,ih `ia]
    by_cases e:k=q<;>simp[e]
 | false =>
  rw[`lY,`lY];refine#[`Z0,?_,by simp[h],`aQz,`j_];rw[List.zip_append h];rfl
theorem k40[`n5]{q:κ}{d:D}(hv:`db):∀{ks:`n6} {ds:`i} {xs:`V},`bB->`lN (`aTE λp=>`w (p.1=q) d p.2) (`ang)
 | [],_,_,_=>`akU
 | `lW,[],xs,h=>`akV
 | `lW,d'::ds,xs,h=>by
  rw[j6] at h;apply `GR;rw[`d!,`d!,`ab,`ab,j6];refine`lI ?_ (k40 hv h2)
  by_cases e:k=q
  ·simp only[e,`il];exact hv
  ·apply `ny e;exact h1
section
variable{a:`I}{p:Pos}{ga:`cW}
def ng0{d:D}{k:za0}(h:wf0 d=`ff)(r:`db):v=kV k:=by
 apply `C1 d wf0
 ·subst h;rw[Y0] at r;subst r;rfl
 ·subst h;rw[R4] at r;subst r;rfl
theorem e60:∀{ds:`i} {ks:`gw} {xs:`V},`Te=`c ks->`bB->xs=`Nh
 | [],ks,xs,h,r=>by cases h;rw[c7] at r;exact r
 | `aI,ks,xs,h,r=>by
  skip;unfold ow0 at h;rw[j6] at r;apply `anh;cases e1:wf0 d with
  | none=>rw[e1] at h;cases h
  | some k =>
   cases e2:`Te with
   | none=>apply `cY;cases h
   | some l =>
    apply `cY;cases h;done;rw[ng0 e1 h1,e60 e2 h2];rfl
def Yh0{d:D}{k:`gw}(h:op0 d=`ff)(r:`db):∃b,v=`vR/\`GY:=by
 cases d<;>simp only[op0] at h<;>try cases h
 rw[N5] at r;let#[a,xs,rfl,q,rr]:=r;exact#[a,rfl,`cd (e60 h rr) q.2]
open T in
theorem U40(hu:`lX)(ha:`cZ)(hb:`dS)(hs:`aWT):`lU `F7 nc0:=.mk λB δ=>(Vk0 hu `bv `f4 hs).imp fun σ H Q hq119=>by
 apply `bi hq119
 unfold o2 at h;cases e1:`ei with
 | none=>rw[e1] at h;cases h
 | some x =>
  cases e2:`fL with
  | none=>apply `cY;cases h
  | some y =>
   apply `cY;apply `eY;apply `yV;cases x<;>simp only[nc0] at h<;>try cases h
   rename_i ks ds;have r1:=`r5;cases ks with
   | inl ks =>
    apply `zi;cases e3:wf0 y with
    | none=>rw[e3] at h;cases h
    | some q =>
     rw[e3] at h;apply `eY;rw[d20] at r1;apply `aWU;apply `aWV;have:=ng0 e3 r2;subst this;exact#[p,v,rfl,`cd hv `ani,`aWW]
   | inr ks =>
    apply `zi;cases e3:op0 y with
    | none=>rw[e3] at h;cases h
    | some q =>
     rw[e3] at h;apply `eY;rw[cd0] at r1;apply `aWU;apply `aWV;let#[b,rfl,hb]:=Yh0 e3 r2;exact#[p,v,rfl,`cd hv `anj,`aWW]
open T in
theorem H70(hu:`lX)(ha:`cZ)(hb:`dS)(hm:`F (`J5 .In b=`m) Ak):PTD X (`Zk .In) (ob (o2 ga gb `aFA)):=.mk λB δ=>(Dl0 (Fz0 hu `bv `f4) hm).imp fun σ H Q hq120=>by
 apply `qx hq120
 unfold ob o2 at h;cases e1:`ei with
 | none=>rw[e1] at h;cases h
 | some x =>
  cases e2:`fL with
  | none=>apply `cY;cases h
  | some y =>
   apply `cY;apply `eY;apply `yV;apply `aWX
   rename_i ks ds;cases ks with
   | inl ks =>
    apply `zi;cases e3:wf0 x with
    | none=>rw[e3] at h;cases h
    | some q =>
     rw[e3] at h;apply `aWY;cases h;rw[d20] at r2;apply `TZ;have:=ng0 e3 r1;subst this;refine#[p,_,rfl,`ani,_,rfl,?_];rw[`T_];exact `aWZ
   | inr ks =>
    apply `zi;cases e3:op0 x with
    | none=>rw[e3] at h;cases h
    | some q =>
     rw[e3] at h;apply `aWY;cases h;rw[cd0] at r2;apply `TZ;let#[b,rfl,hb]:=Yh0 e3 `GC;refine#[p,_,rfl,`anj,_,rfl,?_];rw[`T_];exact `aWZ
theorem ii0(i:Nat)(hu:`lX)(h:`cX)(hN:`dg)(hv:`d')(hd:`aO)(hcd:`dA)
  (ha:`F (∀v,`aW_=(do
   let ov ← `aW0
   let iv ← `aW1
   `aie
   `aif
   `aig)) Ad):PTG X `adu (`E5 i g):=.mk λH₀ B₀ d δ pins s σ H v u Q I r hq121=>by
 skip;let#[δ',en,e1,k]:=hq121
 unfold putAt at e1;apply `amK;cases e2:`Ne with
 | none=>apply `am;cases e1
 | some pr =>
  cases e3:`az with
  | none=>apply `y?;cases e1
  | some dk =>
   apply `y?;apply `fp;cases e4:`NF with
   | none=>rw[e4] at e1;cases e1
   | some q =>
    rw[e4] at e1;apply `fp;split at e1
    ·rename_i hz
     cases e1;have hi:=Uj0 e2;let#[a,J,hb,xs,hx,hl,rx]:=`pp;have hl:`ank=`_:=hl;done;apply `aW2;have:=ng0 e4 r1;subst this;apply `aW3;apply `aW4;have rr:Rps X.K H1 B `aa? ys:=by
      unfold wu0;cases hk:`T0 with
      | true=>rw[`bl,U hk];exact `aW5
      | false=>rw[`lY,Y hk];exact `aW6
     rw[hy];have O:`jC (upd H1 a `aW7) (`anl):=`anm hi J `aW8;apply `aW9
    ·cases e1
universe zz
universe DL
namespace DL
open Spec PyProof.Rows L2
section
variable{a:`I}{p:Pos}{ga:`cW}
theorem gk0{sc scope:`cR}{elt iter tg:`I}{ifs:`bM}{N N':`h}{n:Nat}{caps:`k}{gi:`f1}{idx:`k}{f:`be}{gt:`hB}{ge:`cW}
  (ok:`t?) (hidx:∀j∈idx,j<n) (hi:`iO)
  (hg:`kg) (ht:`y0) (he:`t!)
  (hc:`iR) (hsc:`y5) (hN:`y6) (hs:`fj) :
  `aSQ:=`alF W40 `y7
def Qb0{d:D}(h:`n4)(r:`db):tm0 v=`d/\∀e u,`c8 e=`d->Rp K H B e u->eqV v u=eqF d e:=by
 apply `amE
 ·rw[Q9] at r;subst r
  apply `T1;apply `T2
 ·rw[V1] at r;subst r
  apply `T1;apply `T2
 ·rw[Y0] at r;subst r
  apply `T1;apply `T2
 ·rw[R4] at r;subst r
  apply `T1;apply `T2
theorem Od0{d:D}(h:`n4)(r:`db):`lM (`ann=`d->`bB->`RR/\inV v xs=ds.any λy=>eqF y d)
 | [],_,_,rs=>by rw[c7] at rs;subst rs;exact`k!
 | e::ds,_,ha,rs=>by
  skip;rw[j6] at rs;let#[x,t,rfl,r1,r2]:=rs;rw[`nT,`bg] at ha;let#[i1,i2]:=Od0 h r ha.2 r2;let#[f1,f2]:=Qb0 ha.1 r1;done;refine#[by rw[`nT,f1,i1];rfl,?_];unfold inV at i2 ⊢;rw[`qq,`qq,f2 d v h r,i2]
def ja0(neg:`C):Op2 K (rIn K neg) (yr0 neg):=by
 apply `iP;have J:∀(ds:`i) (xs:`V),`bB->`c8 dx=`d/\`ann=`d->d=`adh (ds.any λy=>eqF y dx)->∀p,y=`gU->(`RN∨`ajJ)->rIn K neg x y H Q:=by
  intro ds xs rs hf hd p hp hq;let#[f1,f2]:=Od0 hf.1 rx hf.2 rs;refine#[p,xs,hp,hq,(Qb0 hf.1 rx).1,f1,`Nb];rw[hd,V1,f2];cases neg<;>simp
 cases dy<;>simp only[yr0] at h<;>try cases h
 ·split at h
  ·rename_i hf
   have hd:=`ano;rw[N5] at ry;let#[p,xs,e,q,rs]:=ry;exact J _ xs rs hf hd p e (`alW)
  ·cases h
 ·split at h
  ·rename_i hf
   have hd:=`ano;rw[Q3] at ry;let#[p,xs,e,q,rs]:=ry;exact J _ xs rs hf hd p e (`alV)
  ·cases h
universe zz
universe DL
namespace ZipL
open Spec PyProof.Rows
abbrev IsZ(h:`D)(z TI TO a:`e)(f:`C):Prop :=
 `f! z=`c { cls:=`bx `hU,dict:=`f,data:=`mD ⟨`qg a,`e' f,`acq,`T TI,`T TO⟩,slots:=⟨⟩ }
section
variable{w:`O}{s:`u}
def alive{o:Obj}{Q:`agQ->`e1}(ho:`Cp)(h:Q (`ay) s):`a! (`aW' a) s:=by
 have h':Q (`J8) s:=`l ho h
 exact λ_ _ _=>h'
def Yb0{TI TO:`e}{f:`C}{Q:`agu}(hz:`G?)(ha:`Ha)
  (hQ:∀h',`anp->`DG z->Q `m `kE):`a! (`aBG) s:=by
 unfold Builtin.SmallTypes.ownedTupleIsFree;refine A0 (`Pk (`qg a));show `dc (`aW' ((a:Int).toNat)>>=_) _;rw[`c7];apply `j6 alive ha;simp only[Option.isNone_some,`s',`hp];refine A0 (`Pk (`e' f));cases f with
 | true =>
  rw[`ag (show ¬((`R5 != `R5)=`d) from B7)];exact A1 (hQ _ hz (Heap.SameBut.refl _ _))
 | false =>
  rw[`Q (`bj ((`Cj `m != `R5)=`d))];exact A0 (wpAny_setField_rec hz `aS λh3 O J=>A1 (hQ h3 O J))
def Mu0{TI TO a:`e}{f:`C}{oa:Obj}{k1 k2:Nat}{xs ys:`a1}{x y:`B}{Q:`as}(D:`kj)
  (hz:`G?) (ha:`Ha) (hTI:`T3)
  (h1:`T4) (h2:`T5) (hl1:`zj) (hl2:`zk) (hx:`Nn=`c6) (hy:ys[k2]?=`ee)
  (hQ:∀h',`anp->`aW!->`aW?->`anq->`aXa ->
   `T6->Q `jT `kE) :
  `yA `aXb (λfin s'=>∃v,fin=`mJ (`jO v)/\Q v s'):=by
 apply `aXc;apply `aXd;apply `aXe;apply `aXf;refine `aXg;show `aXh;refine A0 (Yb0 hz ha λh₁ a3 J=>?_);apply `ny `s';refine `o!;apply `aXi;refine `T7;show `aXj;refine A0 (D50 `anr `ans hx λh₂ a4 O=>`jm);refine `jm;refine `T7;show `aXk;refine A0 (D50 `aXl `aXm hy λh₄ a1 Y=>`jm);refine A1 `KH;refine A0 (wpAny_newTuple (hsz:=`ZN) ?_);have U:`aXn=`U:=by rw[Y.1,O.1,J.1]
 have a2:`Km h₄ `d:=`Sc _ _ D.i2z.symm (`EY _ _ D.i1z.symm a3);have Z:∀c o,c≠z->`ab4->`ab5->`dn c=`ay->h₄.get? c=`ay:=λc o c1 c3 c4 e=>`Sc _ _ c4 (`ant `EY e)
 refine A1 #[_,rfl,?_];show Q (`T `aXn) _;have hq:=hQ (h₄.push (`h6 `fH ⟨x,y⟩)) (B0 _ a2) ((a4.extBut `Sc D.i12).at `aXo) (a1.at `aXo)
  (`cd U `gl) (by rw[`TY,U]) λc o c1 c3 c4 e=>B0 _ (Z c o c1 c3 c4 e)
 rw[U];exact hq
def I70{TI TO a:`e}{f:`C}{oa:Obj}{k1 k2:Nat}{xs ys:`a1}{Q:`tD}(hh:`gF)(D:`kj)
  (hz:`G?) (ha:`Ha) (hTI:`T3)
  (h1:`T4) (h2:`T5) (hl1:`zj) (hl2:`zk) (hend:`aXp)
  (hE:∀h' e,`T6->(∃o,`g1 e=`ay/\`ou=`bx `aXq)->E `hr `kE) :
  `a! `aXb s:=by
 apply `aXc;apply `aXd;apply `aXe;apply `aXf;refine `aXg;show `aXh;refine A0 (Yb0 hz ha λh₁ Y J=>?_);apply `ny `s';refine `o!;apply `aXi;refine `T7;show `aXj;cases hx:`Nn with
 | none =>
  refine A0 (`aXr hh `anr `ans hx λh₂ e O he=>?_);exact hE h₂ e (λc o c1 c3 _ x=>`ant O x) he
 | some x =>
  have hy:ys[k2]?=`f:=by rcases hend with h|h;rw[hx] at h;cases h;exact h
  refine A0 (D50 `anr `ans hx λh₂ Z O=>`jm);refine `jm;refine `T7;show `aXk;refine A0 (`aXr hh `aXl `aXm hy λh₄ e U he=>?_);exact hE h₄ e (λc o c1 c3 c4 x=>U _ _ c4 (`ant `EY x)) he
def R60{TI TO a:`e}{f:`C}{oa:Obj}{k1 k2:Nat}{xs ys:`a1}{x y:`B}{Q:`p7}(D:`kj)
  (hz:`G?) (ha:`Ha) (hTI:`T3)
  (h1:`T4) (h2:`T5) (hl1:`zj) (hl2:`zk) (hx:`Nn=`c6) (hy:ys[k2]?=`ee)
  (hQ:∀h',`anp->`aW!->`aW?->`anq->`aXa ->
   `T6->`aXs) :
  `T8:=by
 have hT:`Hb := `anu;unfold pyNext;exact A0 (`aXt (j0 (name:=`aXu) hT x0
  (P3 x0 hT `aXv
   (Mu0 D hz ha hTI h1 h2 hl1 hl2 hx hy λh' a1 a3 a4 a5 a6 a7=>A1 (hQ h' a1 a3 a4 a5 a6 a7)) `aXw)))
def du0{TI TO a:`e}{f:`C}{oa:Obj}{k1 k2:Nat}{xs ys:`a1}{Q:`p7}(hh:`gF)(D:`kj)
  (hz:`G?) (ha:`Ha) (hTI:`T3)
  (h1:`T4) (h2:`T5) (hl1:`zj) (hl2:`zk) (hend:`aXp)
  (hQ:∀h',`T6->`aXx):`T8:=by
 have hT:`Hb := `anu;unfold pyNext;refine A0 (`aXt (j0 (name:=`aXu) hT x0
  (P3 x0 hT `aXv (I70 hh D hz ha hTI h1 h2 hl1 hl2 hend λh' e hk he=>?_) `aXw)))
 let#[o,ho,hc]:=he;refine A0 (B20 (T := `aXq) (b:=`d) #[o,ho,hc] isSubtype_stop ?_);exact A1 (hQ _ hk)
universe zz
structure ZSt(h:`D)(z TI TO i1 i2 l1 l2 S:`e)(xs ys:`a1)(i:Nat):Prop where
 own:(i=0/\IsZip h z TI TO `aj/\∃p q,`v! h TO p q)∨∃a f oa,`Km h f/\`i2=`c oa/\a≠z/\a≠i1/\a≠i2/\a≠S
 hTI:`v! h TI `_1 `_2
 h1:`acz i1 l1 i
 h2:`acz i2 l2 i
 hl1:h.IsList l1 xs
 hl2:h.IsList l2 ys
structure ZLow(z TI TO i1 i2 l1 l2 S:`e):Prop where
 z:z<S
 TI:TI<S
 TO:TO<S
 i1:i1<S
 i2:i2<S
 l1:l1<S
 l2:l2<S
structure ZG(xs ys:`a1)(S:`e)(h:`D)(as:`aY):Prop where
 rise:as.Pairwise (·<·)
 above:∀a∈as,S<a
 pairs:∀(j:Nat) (a:`e),`aEG->∃x y,`MW=`c6/\`aEF/\`v! h a x y
section
variable{w:`O}{s:`u}{TI TO S:`e}{xs:`a1}{h:`D}
def ZG.there(g:`aXy)(ha:a∈as):a<`dO:=by
 let#[j,hj]:=d6.mp ha;let#[_,_,_,_,e]:=`aXz;exact `fx
def ZSt.keep(x:`aXA)(L:`T9)(hk:`tc S `Qb):`CG h' i:=by
 refine#[?_,hk _ _ (B4 L.TI) x.hTI,`T' x.h1.at L.i1,`T' x.h2.at L.i2,`T' x.hl1.at L.l1,`T' x.hl2.at L.l2];skip;rcases x.own with⟨e,hz,p,q,hp⟩|⟨a,f,oa,hz,ha,n1,n2,n3,n4⟩
 ·done;exact `n #[e,`aXB,p,q,hk _ _ (B4 L.TO) hp]
 ·done;exact `q #[a,f,oa,`aXB,hk _ _ n4 ha,n1,n2,n3,n4]
def Ad0{x y:`B}{Q:`p7}(D:`kj)(st:`aXC)(hS:S<`U)(hx:`nc)(hy:`No=`ee)
  (hQ:∀h',`CG h' `fE->`anq->`aXD->`aXs) :
  `T8:=by
 skip;let#[o1,e1,_]:=id st.h1;let#[o2,e2,_]:=id st.h2;apply `aXE
 ·done;refine wpAny_pyNext_zip_item D hz `zl hp st.h1 st.h2 `T! `T? hx hy λh' a1 a2 a3 a4 a5 a6 hk=>hQ h' #[`q #[_,`m,_,a1,a5,C8 (A7 hz),C8 (A7 e1),C8 (A7 e2),C8 hS],hk _ _ D.TIz D.TITO D.TIi1 D.TIi2 `zl,a3,a4,
   st.hl1.at λo e=>hk _ o D.l1z D.l1TO D.l1i1 D.l1i2 e,st.hl2.at λo e=>hk _ o D.l2z D.l2TO `afj D.l2i2 e] a5 hk
 ·done;refine R60 D hz ha `zl st.h1 st.h2 `T! `T? hx hy λh' a1 a3 a4 a5 a6 hk=>hQ h' #[`q #[a,`d,oa,a1,hk _ _ n1 n2 n3 ha,n1,n2,n3,n4],hk _ _ D.TIz D.TIi1 D.TIi2 `zl,a3,a4,
   st.hl1.at λo e=>hk _ o D.l1z D.l1i1 D.l1i2 e,st.hl2.at λo e=>hk _ o D.l2z `afj D.l2i2 e] a5 `aXF
def Bh0{Q:`p7}(hh:`gF)(D:`kj)(st:`aXC)(hend:`aXG)
  (hQ:∀h',`aXD->`aXx):`T8:=by
 skip;apply `aXE
 ·done;exact wpAny_pyNext_zip_end hh D hz `zl hp st.h1 st.h2 `T! `T? hend hQ
 ·done;exact du0 hh D hz ha `zl st.h1 st.h2 `T! `T? hend λh' hk=>hQ h' `aXF
universe zz
section
variable{w:`O}{s:`u}{R:`j3}{TI TO S lo:`e}{xs:`a1}{h₁:`D}
def Km0(hh:`gF)(D:`kj)(L:`T9)(hlo:`Hc)(hn:`ug)(res:`B)
  (hR:∀h' tk acc c as,(∀b o,b<lo->`akw->`rZ)->`aXH->`Hd->`aXI ->
   `aXJ) :
  ∀(k i:Nat) (h:`D) (tk c:Nat) (acc:`a1) (as:`aY),`Bo - i=k->i<=`Bo->`aXA->(∀b o,b<lo->`akw->`oW) ->
   `f! S=`ayW->`ady->`hX=i->`aXy ->
   `oX `aXK `anv:=by
 have b3:=hlo.1;have b2:lo<S:=`anw;have lk:`aXL (b<lo):=λh h' hk b o hb e =>
  hk b o (`Ua hlo.1) (`Ua hlo.2.1) (`Ua hlo.2.2.1) (`Ua hlo.2.2.2) e
 have Y:`aXL (S<=b):=λh h' hk b o hb e =>
  hk b o (`FR L.z) (`FR L.TO) (`FR L.i1) (`FR L.i2) e
 intro k
 induction k with
 | zero =>
  apply `aXM;have b0:`aXG:=by
   rcases `aXN `vJ `BI with q|q
   ·exact `n (Ac1 `j)
   ·exact `q (Ac1 `j)
  refine `aXO;rw[`He k8 _];apply `aXP;refine A0 (Bh0 (s:=`anv) (A:=`fS) hh D a3 b0 λh' he=>?_);refine A1 (hR h' tk acc c as (λb o h1 e=>lk h h' he b o h1 `aXQ) (Y h h' he S _ `bL hS) `j #[hG.rise,`LK,`aXR] O);let#[x,y,e1,e2,e3]:=`aXS;exact#[x,y,e1,e2,Y h h' he a _ (H0 (`LK a (C9 hj))) e3]
 | succ k ih =>
  apply `aXM;have a2:i<`Bo:=`G
  have a5:i<`vJ:=B8 a2 (Nat.min_le_left ..);have a6:i<`BI:=B8 a2 (nb0 ..);have a7:acc.size=i:=by rw[← `QT,O,`P,U]
  have a1:S<`dO:=A7 hS;refine `aXO;rw[`He k8 _];apply `aXP;refine A0 (Ad0 (s:=`anv) D a3 a1 (d5 a5) (d5 a6) λh' b1 ht Z=>?_);dsimp only at ht Z ⊢;have a8:=Y h h' Z S _ `bL hS;have up:`tc S (`rZ->`qs (h'.update S (`sb `aXT))):=`am!
  show `hv (`G' S `aXT>>=_) _;refine `o!;refine N4 a8 rfl (A1 #[`anx,ih `fE _ tk _ (`aXU) `aXV `j a2 (b1.keep L up)
   (λb o h1 e=>up b o (B4 (E7 h1 b2)) (lk h h' Z b o h1 `aXQ)) (D6 _ a8 rfl) (by rw[Array.toList_push,O,`a2];rfl) (`gx `Y U) #[?_,?_,?_]]) (`cx a7) (by show (`aXU).size<=`W+1;rw[Array.size_push,a7];lia)
  ·refine List.pairwise_append.mpr #[hG.rise,List.pairwise_singleton _ _,λa ha b hb=>?_]
   rw[`fr hb];exact hG.there ha
  ·intro a ha
   rcases `dL ha with ha|ha
   ·exact `any
   ·rw[`fr ha];exact a1
  ·intro j b hj
   rcases Nat.lt_trichotomy j `hX with h1|h1|h1
   ·rw[`hc h1] at hj
    let#[x',y',e1,e2,e3]:=hG.pairs j b hj;have hb:=`LK b (C9 hj);exact#[x',y',e1,e2,up b _ (C8 hb) (Y h h' Z b _ (H0 hb) e3)]
   ·subst h1
    have hb:`dO=b:=`Gm
    subst hb;exact#[_,_,`l U (d5 a5),`l U (d5 a6),up _ _ (C8 a1) ht]
   ·have a4:`aXV[j]?=`f:=`Z! `Oe
    rw[a4] at hj;cases hj
universe zz
def ek0:`k? `xt "__len__"=`TS:=`yd
def gh0:`k? `xt `ab6=`TS:=`yd
section
variable{w:`O}{s:`u}{TI TO lo:`e}{xs:`a1}
def Gj0(xs ys:`a1)(lo:`e)(s:`u)(h':`D)(as:`aY):Prop :=
 `aXW/\`Hd/\ZG xs ys `U h' as
def Vg0{Q:`J->`e1}(hh:`gF)(D:`kj)(hlo:`Hc)
  (st:`aXX) (hn:`ug) (L:`aXY)
  (hT:`Hb) (hI:`Ub)
  (hQ:∀h' tk as,`aXZ->`aX_->Q (`r!) `s9):`a! (collect `g9) s:=by
 have U:`U≠z:=C8 L.z;apply `anz;unfold collect;refine A0 (wpAny_runValue (P1 F.entry_proto_collect ?_));rw[`He F.plain_proto_collect _];show `hv (`akv>>=λl=>`DK (`co "list.__iadd__" #[[l,`ro],[]])) s;refine A0 (M1 ?_);refine A1 #[d4 `aX0 _,P1 F.entry_list_iadd ?_];rw[`He `aX0 _];have O:(`adB).get? `U=`c `Lg:=`gl;have Z:=B0 `Lg hI;have J:Shared.TypeIs `aX1 `g9 `hU := #[_,Z,rfl];show `hv (`D5 `jT `g9 `jT) _;apply `am9;apply `j6 L8 J;have h1:`zh `jT `g9=`m:=by simp[`zh,U]
 apply `aX2
 apply `aX3
 apply `aX4;refine A0 (`aX5 (s:=`aX1) Z ?_);refine `_3;apply `am';apply `fZ E4 J ek0;apply `aX6;apply `fZ E4 J gh0;refine `jm;show `aD _ `fS (`aX7>>=λ_=>`aX8 `jT>>=λ_ =>
  `DK (`co `aEB #[[`ml,`ro,`ml],[]])) _ _ _
 refine A0 (Y1 ?_);refine `o!;show `hv (`aX9 `U `U) _;apply `fZ N4 O rfl;have a1:=D6 `Uc O rfl;refine N4 a1 rfl ?_;have a3:=D6 `Ud a1 rfl;have oth:∀b o,b≠`U->`fF ->
   `qs (((`adB).update `U `Uc).update `U `Ud) :=
  `kI (`C2 (`C2 (`rN)))
 refine A1 #[`anx,Km0 (s:=s) (lo:=lo) (h₁:=`aB) hh D L hlo hn _ (λh' tk a4 c as hk Y hl hG a2=>?_) _ 0 _ `cp _ ⟨⟩ [] rfl `lj
  ((st _ U (C8 L.i1) (C8 L.i2)).keep L oth) (`kI (`G! `aia)) a3 rfl rfl `aX']
 show `aD _ A (load `U>>=_) _ _ _;apply `j6 wpAny_load Y;refine `jm;have:=hQ h' tk as #[hk,hl,hG] (A7 Y);rw[← a2] at this;exact `E
universe zz
section
variable{w:`O}{s:`u}{TI TO lo:`e}{xs:`a1}
def ji0{Q₁:`as}(hh:`gF)(D:`kj)(hlo:`Hc)
  (st:`aXX) (hn:`ug) (L:`aXY)
  (hT:`Hb) (hI:`Ub)
  (h:∀h' tk as,`aXZ->`aX_->Q₁ (`aOx) (`hR (`aj0 `aX!) tk)) :
  `p' `dd A (`lv (`co `anA) `anB) (wants Q₁ E) s:=by
 refine `aIa;show `hv (do `Fj `anA `anB;`DK (`co `anA `anB)) s;refine A0 (wpAny_of_eq (F.newCall_tuple_1 _) (A1 #[d4 `aX? _,P1 F.entry_tuple_new ?_]));rw[`He `aX? _];have Y:=sub_tuple_self;have U:=init_tuple_lookup;have Z:=madeHere_tuple;have O:A.in1.handled=`f:=`TW
 wp_walk using L8 hT,Vg0 (lo:=lo) O D hlo st hn L hT hI
 intro h' tk as hz J;show `dc (`aYa `Nq>>=λv=>ret v) _;unfold Builtin.Tuple.tupleExact;refine A0 (M1 ?_ (by show (`r!).toArray.size<=`W;rw[`b5,`P,hz.2.1];exact hn));exact A1 (h h' tk as hz J)
def Qp0{Q:`as}(hh:`gF)(hl1:`zj)(hl2:`zk)(hn:`ug)
  (h:∀(h':`D) (tk:Nat) (as:`aY) (t:`e),`ana->`Hd->(∀a∈as,`FD/\a<t)->`qw->`U<=t ->
   `aYb->`g1 t=`c `aX!->`aYc) :
  `yA `aYd (λv s1=>`a! (`dQ `NP [v]) s1):=by
 apply `aYe
 apply `aYf
 refine call_zip_2 hl1 hl2 λh1 hz hTI a4 U Z a3 hk=>?_
 have O:`aYg:=`aYh
 have J:`aYi:=`aYj
 have H:`aYk:=λk hk=>`l a3 (Ai1 hk _)
 refine D40 (Q₁:=λobj s₁=>s₁.TypeIs obj `eC/\Q obj `eT) F.called_tuple (F.typeCall_tuple_1 _) F.entry_object_init
  (ji0 (lo:=`U) (xs:=xs) (ys:=ys) (`TW) (`aYl a1 a2) `aYm (λS n1 n2 n3=>#[`n #[rfl,hz,_,_,a4],hTI,U,Z,O,J]) hn
   `aYn
   `anu #[_,hz] λh' tk as ze Y=>#[#[_,`gl,rfl],?_]) λobj s₁ h₁=>?_
 ·let#[k1,k2,g]:=ze
  refine h (`aj0 _) tk as `DQ (`kD (B0 _ (k1 b o `CU (hk b o e)))) k2 (λa ha=>#[?_,g.there ha]) (g.rise.imp λh=>B4 h) ?_ (`aXR) (`gl)
  ·exact H0 (E7 `xl (g.above a ha))
  ·exact H0 (E7 `xl Y)
  ·let#[x,y,e1,e2,e3]:=`aXz
   exact#[x,y,e1,e2,B0 _ e3]
 ·exact#[h₁.1,F.args_object_init_2 obj _,object_init_meets F.called_tuple.init.lookup F.called_tuple.made `r prog w `fS _ `eT #[h₁.1,rfl,h₁.2]]
universe zz
universe ZipL
namespace L2
open Spec PyProof.Rows
def u70(H:Hp):`uh->Hp
 | []=>H
 | p::l=>upd `D6 p.1 p.2
theorem o70{b:`e}:∀{l:`uh},(∀p∈l,p.1≠b)->`adD=H b
 | [],_=>rfl
 | p::l,h=>by
  show `aYo=_;rw[j4 (A9 (h p A8)),o70 `aYp]
theorem ns0{b:`e}{u:HO}:∀{l:`uh},`adD=`bf->(∃p∈l,p.1=b/\p.2=u)∨`Qo
 | [],e=>`q e
 | p::l,e=>by
  by_cases h:b=p.1
  ·subst h
   have e':upd `D6 p.1 p.2 p.1=`bf:=e;rw[d8] at e';exact `n #[p,A8,rfl,A3 e']
  ·have e':`aYo=`bf:=e
   rw[j4 h] at e';rcases ns0 e' with⟨q,hq,x⟩|x
   ·exact `n #[q,A6 _ hq,x]
   ·exact `p!
theorem oz0:∀{l:`uh},(`dM `Ns).Nodup->∀p∈l,u70 H l p.1=`w4
 | [],_,p,h=>nomatch h
 | q::l,n,p,h=>by
  rw[`ab,`anC] at n;show upd `D6 q.1 q.2 p.1=_;apply `anD
  ·rw[d8]
  ·rw[j4 (λz=>n.1 (`cd z (S4 h))),oz0 n.2 p h]
section
variable{s:`u}
def Inv.laidL{l:`uh}{t':Nat}(I:`A)(k:`QL)
  (hl:∀p∈l,`aYq/\∃xs,`aYr):`aYs:=by
 have J:`aYt:=λb hb=>o70 λp hp z=>by
  have:=(`Ue).1;apply `a3 z;exact `aYu
 refine I.un #[`ahp,`ahq,`aYv,`ahr,`aYw,
  `aYx,`aYy] `QK
 skip;apply `aYz
 ·let#[_,xs,ex,ok]:=`Ue
  done;rw[ex];exact ok
 ·done;apply `aYA
universe zz
def fr0(X:Cx)(f1 f2:`B)(r:`kv):Prop :=
 ∀(pins:`aC) (s:`u) (σ:St) (H:Hp) (xs:`V) (us:`J) (Q:VK),`A->`es->`Q1 ->
  `cs (`dQ f2 us) (λv s1=>`qc (`dQ f1 [v]) `fQ s1)
section
variable{p:Pos}{x1:Str}{T1 T2:`bJ}{t:TA}
def b70(hc:`aYB)(hg1:Gl X x1)(hg2:Gl X x2)(hm1:`aYC)(hm2:`aYD)(hv1:`aYE)(hv2:`aYF)(ha:`ql)
  (hn1:`aYG) (hd1:`aYH) (hn2:`aYI) (hd2:`aYJ)
  (e1:`aYK) (h1:`ki)
  (he:`dB) (hpl:`aYL) :
  PE X `aYM (tCB r t):=by
 apply `bm;refine L3 (tg0 I hg1 hm1 hv1 ?_ hn1 hd1);refine `aWO;rw[e1];show `dc (`FJ (`aBM::`Jw)) s;refine P8 ?_;refine L3 (tg0 I hg2 hm2 hv2 ?_ hn2 hd2);refine P7 (thn (ha pos2 `s s σ H _ I h) λus s1 hq122=>?_) he hpl;apply `Q_ hq122;exact thn (`aD4) `aWP
universe zz
universe L2
namespace DL
open Spec PyProof.Rows L2
section
variable{p:Pos}{x1:Str}{T1 T2:`bJ}{f:`N}
theorem Rm0(hc:`aYB)(hf:`SL)(hm1:`aYC)(hm2:`aYD)(hv1:`aYE)(hv2:`aYF)(ha:`lR)(hg1:`hg x1)(hg2:`hg x2)
  (hn1:`aYG) (hd1:`aYH) (hn2:`aYI) (hd2:`aYJ)
  (e1:`aYK) (h1:`ki)
  (he:`dB) (hpl:`aYL) :
  PD X `aYM `Ki :=
 `eX (b70 hc hg1 hg2 hm1 hm2 hv1 hv2 `bv hn1 hd1 hn2 hd2 e1 h1 he hpl).imp `ali
universe zz
def zf0:`aY->`nn->`uh
 | `pH,`n8=>(a,`aaq)::`adG
 | _,_=>[]
theorem nk0:∀{as:`aY} {ps:`nn},`hX=`aJ->`aYN=as
 | [],[],_=>rfl
 | [],`dC,h=>`iG
 | `dC,[],h=>`iG
 | `pH,`n8,h=>by
  show a::`aYN=_;rw[nk0 `ia]
theorem i40:∀{as:`aY} {ps:`nn} {q:`ZC},q∈`adG->∃(j:Nat) (p:V×V),as[j]?=`c q.1/\`aYO/\q.2=`aaq
 | [],_,q,h=>`Uf
 | `dC,[],q,h=>`Uf
 | `pH,`n8,q,h=>by
  apply `anD
  ·exact#[0,p,rfl,rfl,rfl]
  ·let#[j,p',h1,h2,h3]:=i40 h
   exact#[j+1,p',`CR,`anE,h3]
def Kj0(K:`x):`kv:=λvs H Q=>∃q1 q2 xs ys,`aYP/\`aYQ/\`aYR /\
 `aYS ((t,`z `B5)::`anF)
theorem jj0:∀as:`aY,`bO `B5 (`r!)
 | []=>`R
 | `pH=>`aa rfl (jj0 as)
def dl0(hc:`iR):fr0 X `NP `xt (Kj0 X.K):=by
 apply `QV;skip;apply `aYT;cases r with
 | cons r1 r =>
  cases r with
  | cons r2 r =>
   cases r;obtain rfl:=r1;obtain rfl:=r2;apply `aYU;apply `aYV;have l1:=`amT;have l2:=`amU;done;refine ZipL.Qp0 `lB `xh `S! (`amF) λh' tk as t hk hl ha U ht hp gt=>?_
   rw[`b5,`b5] at hl;have O:`Ug:=`aYW
   refine#[`A!,_,I.laidL (t':=tk) hk λp J=>?_,rfl,`aYX];rcases `cy J with rfl|J
   ·refine#[ht,_,rfl,?_,`r!,jj0 as,(`aaO gt)]
    rw[`P,hl];lia
   ·skip;apply `aYY
    apply `aYZ;have hz:=Ak1.mp e2;let#[u',g1,g2]:=v1.get hz.1;let#[w',g3,g4]:=v2.get hz.2;have eu:u'=u:=by
     apply `aY_
     apply `a3 f1;exact`Uh
    have ew:w'=w:=by
     apply `aY0
     apply `a3 f2;exact`Uh
    subst eu;subst ew;done;exact#[`aY1,_,e3,`zm,[u',w'],`aY2,`aY3]
theorem jl0:∀{ds es:`i} {xs ys:`V} {as:`aY},`bB->`aQO->`Ug->(∀p∈`anF,`w5=`w4/\¬B p.1) ->
  `lN (`aBx `aY4) `B5
 | [],es,xs,ys,as,r1,r2,hl,h=>by
  rw[c7] at r1;subst r1;simp at hl;subst hl;simp[c7]
 | `aI,[],xs,ys,as,r1,r2,hl,h=>by
  rw[c7] at r2;subst r2;simp at hl;subst hl;simp[c7]
 | `aI,e::es,xs,ys,as,r1,r2,hl,h=>by
  skip;rw[j6] at r1 r2;let#[x,xs',rfl,a1,a2]:=r1;let#[y,J,rfl,b1,b2]:=r2;cases as with
  | nil=>simp at hl
  | cons a as =>
   have h0:=h (a,`Nu) A8;done;rw[`d!,`ab,`ab,j6];refine`lI ?_ (jl0 a2 b2 `Z? λp hp=>h p (A6 _ hp));rw[N5];apply `lZ a [x,y] #[h0.2,h0.1];rw[j6];refine`lI a1 ?_;rw[j6];exact`lI b1 `lQ
theorem Vl0:∀{as:`aY} {zs:`nn} {p:`ZC},p∈zf0 as zs->∃xs,p.2=`fz
 | [],_,_,h=>`Uf
 | `dC,[],_,h=>`Uf
 | `pH,z::zs,p,h=>by
  unfold zf0 at h;apply `anD
  ·exact`ad
  ·exact Vl0 h
def Vn0{t b:`e}{o:HO}{zs:`nn}{ob:Obj}(ho:`aRe)(h:u70 H ((t,o)::zf0 as zs) b=`aY5):H b=`aY5:=by
 skip;rcases ns0 h with⟨p,hp,_,e⟩|h
 ·rcases `cy hp with rfl|hp
  ·done;exact `L e (ho _ _)
  ·let#[ys,e']:=Vl0 hp
   rw[e] at e';cases e'
 ·done;exact h
open T in
def Qd0:FnR K (Kj0 K) Te0:=by
 intro H B xs ds d Q bad r h k;unfold Te0 at h;apply `Ui
 rename_i ds es;rw[j6] at r;let#[x,r',rfl,r1,r]:=r;rw[j6] at r;let#[y,r',rfl,r2,r]:=r;rw[c7] at r;subst r;rw[Q3] at r1 r2;apply `aY6;let#[q2,ws,rfl,s2,t2]:=r2;refine#[q1,q2,us,ws,rfl,s1.to,s2.to,λt as hl O ht ft fa=>?_];have J:(`aY7)=t::as:=`aY8
 have hN:(`aY7).Nodup:=`l J (`Lj #[ht,O])
 have fr:∀p∈(`Nt),`w5=`f:=λp hp=>by
  have:p.1∈t::as:=`aY9
  rcases `cy `E with e|e
  ·rw[e];exact ft
  ·exact fa _ e
 have sm:`c1 H (u70 H (`Nt)):=#[λb u e=>by
  apply `aY';exact e,`aY!]
 have nb:∀p∈(`Nt),¬B p.1:=λp hp z=>bad _ z (fr p hp)
 refine k _ _ sm ?_;rw[N5];refine#[t,`awW,rfl,#[nb _ A8,`aY?],jl0 (t1.same sm) (t2.same sm) hl λp hp=>#[`aZa,nb p (A6 _ hp)]]
universe DL
namespace L2
open Spec PyProof.Rows
section
variable{s:`u}
def Inv.turnedL(I:`A)(hf:∀b∈fp,`MJ)(k:`aZb):`ahH:=by
 have J:`tJ (b∉fp):=λb u e z=>by rw[(hf b z).1] at e;cases e
 refine `QG (g':=`yo) (d':=`QH) (ch:=fp) (λb hb=>#[(`si).2.2.2.1,(`si).2.1,(`si).2.2.2.2.1,(`si).2.2.2.2.2]) (`QJ `anG) (`QJ #[`Fs,`anG]) (λ_ _ _ _ n=>n)
  (λb o hc e=>#[o,`anG]) (`ahJ) (λ_ _ _ e=>e) `aJD `aJE (`QK) `iw
 ·let#[o,es,ep,ho,r]:=hm
  exact#[o,es,ep,k _ o (λz=>(hf _ z).2.1 rfl) ho,r]
 ·apply `aJF
  rcases hc with z|z
  ·rw[z];exact J b u e
  ·exact J c _ z
def Inv.turnedNew{t':Nat}{x y:V}{w:`B}(I:`A)(hf:∀b∈fp,`MJ)(rx:`jP)(ry:`amR)(hlt:∀b∈fp,b<`U)
  (hob:`aj_=`c `aBN) (k:`aZb) :
  `a8 `aZc `pk/\∀b∈fp,`aZd:=by
 have ne:∀b∈fp,b≠`U:=λb hb=>B4 (hlt b hb)
 have fr:∀b∈fp,`aZd:=λb hb=>`EO (j4 (ne b hb)) (`si).1
 have I1:`a8 `aZc `aZe :=
  `tT (`v5) `bL #[`zm,[u,w],`aa rx (`aa ry `R),`ag5]
 refine#[Inv.turnedL (s:=`aZe) (t':=t') (fp:=fp) I1 (λb hb=>#[fr b hb,(`si).2]) λb o hb e=>?_,fr];rcases Heap.get?_push_cases e with⟨rfl,rfl⟩|e
 ·exact hob
 ·exact k b o hb e
universe zz
def Ite(K:`x)(a:`e):It :=
 #[`aKU,
   λi H v H'=>∃t x,v=`A!/\`anH/\H'=upd H t (`z [`C?,x])/\`aKV,
   `aKW]
theorem Po0{P:`ak}{w:`O}{x1}{e:`e}(hei:e≠it):Turn P w K (`Rf elts) (Ite K a) [e,it] e
  (λi h=>(∃old,IsEnum h e it i old)/\`aKX) where
 mem:=`a_
 obj:=λi h st c hc=>by
  skip;let#[#[old,he],#[o1,e1,c1,d1]]:=st;apply `anI;rcases hc with rfl|rfl
  ·done;exact#[_,he,λv z=>nomatch z]
  ·done;exact#[_,e1,λv z=>by rw[d1] at z;cases z]
 keep:=λi h h' st k=>by
  apply `anJ;exact#[#[old,k e `aS _ he],h1.at λo x=>k it `aS o x]
 item:=by
  apply `lC;skip;apply `lD;apply `anJ;apply `aiz;apply `aZf;apply `aiA;done;refine wpAny_pyNext_enum_item he h1 `xh (x:=u) `aiB hei λh' a1 a2 a3 a4 hk=>?_
  refine`qj (wpAny_letOwnedTupleGo_enum (s:=`R!) a1 λJ b1 hs=>?_);have le:=A7 he;let#[o1,e1,_]:=id h1;have l1:=A7 e1;let#[I1,fr]:=I.turnedNew (h':=J) (t':=`vc) (fp:=[e,it]) (x:=`C?) (u:=`g i `cp) hf `ad ru (λc hc=>by
   apply `anI;rcases hc with rfl|rfl<;>assumption) (`yi _ (C8 le) a3) (λc o hc x=>by
   apply `aZg;exact`yi _ hc.1 (hk c o hc.1 hc.2 x))
  exact#[`ml,_,I1,rfl,#[_,x,rfl,`_m,rfl,`aK2],#[#[_,`br b1],a2.at λo y=>`yi it hei.symm y],fr]
 done:=by
  apply `lC;skip;apply `lD;apply `anJ;let#[xs,hq,O]:=hg;apply `aZf;have l1:=`FO;done;refine wpAny_pyNext_enum_end `lB he h1 `xh `qi λh' hk=>#[rfl,I.turnedL (t':=`cp) (fp:=[e,it]) hf λc o hc x=>?_]
  apply `aZg;exact hk c o hc.2 x
 self:=λ_ _ _ _ _ st h=>by
  let#[#[old,he],_]:=st;exact `aZh he h
def Rw0:`s! `pG `pG:=`ba
def Cw0(K:`x)(ta:TA):TI:=`FT ta λvs H1=>∃a,vs=`en/\`aK8/\R (Ite K a) H1
def I40{a:`I}{ta:TA}{p pos:Pos}(hg:`aZi)(hm:`aZj)(ha:`aLd)(hs:`QZ) :
  PI X `aZk `aZl (Cw0 X.K ta):=by
 apply `FU;refine `aLf Rw0 λus s1 hq123=>?_;skip;apply `Q_ hq123;let#[qa,e,#[xs,h1],q]:=q1;subst e;cases r1 with
 | cons r rr =>
  cases rr;obtain rfl:=r;let#[us1,v1,p1,z1]:=`aiG h1;done;refine call_enumerate_list `xh λh' hz J O hk=>?_
  refine `aZh (s:=(`e4 s1 h')) hz ?_;refine#[_,_,_,_,H1,rfl,`KJ (t':=`_P) hk,Po0 (C8 (b4 _)),#[#[_,hz],J],`js,q];apply `aWI;rcases hb with rfl|rfl
  ·exact `aDZ (`adC) (`_k (`adC))
  ·apply `FV
universe L2
namespace DL
open Spec PyProof.Rows L2
section
variable{a:`I}{p:Pos}
def Iq0{t:`e}{x y:V}{d e:D}(hn:¬B t)(ht:H t=`c (`Nu))(r1:`DV)(r2:Rp K H B e y):Rp K H B (`z [d,e]) `pC:=by
 rw[N5];apply `lZ t [x,y] #[hn,ht];rw[j6];refine`lI r1 ?_;rw[j6];exact`lI r2 `lQ
open T in
theorem Nx0(hm:`aZj)(ha:`aRQ)(hg:`F (`aZi) Aa)(hs:`QZ) :
  PID X `aZk `aZl (fl0 gA):=.mk λB δ=>`GL (I40 hg hm `bv hs) fun σ H R hq124=>by
 apply `GM hq124
 unfold fl0 at e1;cases e2:`eb with
 | none=>apply `am;cases e1
 | some ds =>
  apply `am;apply `fp;unfold Wj0 at e1;split at e1<;>try cases e1
  rename_i ds;apply `aRR;rw[j6] at r;let#[x,t,rfl,r1,r]:=r;rw[c7] at r;subst r;rw[Q3] at r1;apply `aY6;have J:(`y (n70 ds))=`Ql:=by unfold n70;simp[t1.length]
  refine#[q1,rfl,#[us,s1.to],k _ H' s' #[`Lc,λi H2 v H3 g2 y hi=>?_,`Lc]]
  ·rw[J] at hi
   exact#[us,us[i],`anK,by simp[hi]]
  ·let#[t,x,rfl,ht,rfl,hx]:=y
   rw[J,t1.length] at hi;let#[x',e4,rx]:=t1.get (i:=i) (B6 hi);have ex:=hx us `anK;rw[e4] at ex;cases ex;refine#[W8 ht,`z [`C?,ds[i]],by unfold n70;simp[hi],λB' gB hb=>?_];exact Iq0 (λz=>hb t z ht) d8 `BH (rx.mono gB)
  ·rw[J] at hi
   exact#[us,`anK,hi]
universe zz
section
mutual
theorem Up0(hB:`aZm):∀(d:D) (v:V),`am6->Rp K H B' d v->`db
 | `v,v,_,r=>`D9 Q9
 | `b6,v,_,r=>`D9 V1
 | `cV,v,_,r=>`D9 Y0
 | `cc,v,_,r=>`D9 R4
 | `eR,v,h,_=>by unfold tree at h;cases h
 | `qz,v,h,_=>by unfold tree at h;cases h
 | `qA,v,h,_=>by unfold tree at h;cases h
 | `dm,v,h,r=>by
  unfold tree at h;rw[N5] at r ⊢;apply `als;refine#[a,xs,rfl,?_,Yy0 hB ds xs h rs];let#[n,q]:=q;refine#[`j1,q];exact(hB a z).elim n λz=>z _ q
theorem Yy0(hB:`aZm):∀(ds:`i) (vs:`V),`am5=`d->Rps K H B' ds vs->`S4
 | [],vs,_,r=>`aZn
 | `aI,vs,h,r=>by
  unfold trees at h;apply `qI;rw[j6] at r ⊢;apply `SX;exact#[x,t,rfl,Up0 hB d x h.1 r1,Yy0 hB ds t h.2 r2]
end
universe zz
theorem Js0{g:GE}(h:`cX):PD X e (kx0 g):=.mk λB δ pins s σ H Q I hq125=>by
 skip;let#[d,en,hq,k]:=hq125
 apply `TC;unfold kx0 at hq;cases e1:`wC with
 | none=>rw[e1] at hq;cases hq
 | some x =>
  rw[e1] at hq
  by_cases hf:tree x=`d
  ·apply `TD `uc
   cases hq;done;refine `aVr (Up0 (`jR) _ _ hf r);skip;rcases c2 a z with q|⟨i,d',h1,h2⟩
   ·done;exact `nJ
   ·let#[o,h3,a',e4,_,ro]:=`o0 `_b h1
    rw[h2] at h3;cases h3;cases e4;done;exact `q λys z=>(ro.live.same s').nt ys z
  ·apply `TD `TE
   cases hq
universe DL
namespace L2
open Spec PyProof.Rows
def Rk0:MtR X "str.startswith" `aZo:=by
 apply `aS2;skip;let#[a,b,rfl,rfl,q]:=h;apply `cv;cases rs with
 | cons r rr =>
  cases rr;let#[u,rfl]:=r;done;exact SC.startswith (`hd `b6 q)
universe L2
namespace DL
open Spec PyProof.Rows L2
section
variable{name:`Pl}{id:`bJ}{r:`iJ}{f:`zg}
def MfR(K:`x)(r:`iJ)(f:`zg):Prop:=∀(H:Hp) (B:BS) (dx:D) (xs:`V) (ds:`i) (d:D) (Q:VK),`nZ->`bB->f dx ds=`a9->(`t7)->∃a,dx=`jU/\r (`jU) xs H Q
theorem Mt0(slot:Slot `j9 `cK id)(hty:`aj1)(hm:`aj2)(hf:MfR X.K r f)(hstr:∀d ds e,f d ds=`c e->`aZp)(ho:`alX)(ha:`GU)(hbase:`aj3)
  (hfew:`F ((`qB
  &&`Tb)=`d) Aa)
  (hline:`gG) (hs:`f5) (hplain:`n2) :
  PD X (`tt `aj4 [e]) (q70 g gA f):=.mk λB δ =>
 (`aTt slot hty hm).imp fun σ H Q hq126=>by
  skip;apply `bi hq126
  unfold q70 at h;cases e1:`az with
  | none=>rw[e1] at h;cases h
  | some x =>
   cases e2:`eb with
   | none=>apply `cY;cases h
   | some ds =>
    apply `cY;apply `eY;let#[a,rfl]:=hstr x ds d h;done;apply `alY;rw[R4] at r1;subst r1;refine`aTu;let#[a',e',q]:=hf H2 B (`jU) vs ds d Q `ala r2 h λv H' s' r'=>k v H' (`JU s') r'
    cases e';exact q
def Hh0{y:`Pl}(r:`rf [`o5]):xs=[`o5]:=by
 rw[j6] at r;apply `SX;rw[c7] at r2;rw[R4] at r1;rw[r1,r2]
def Rp0:MfR K `aZo rd0:=by
 intro H B dx xs ds d Q bad r h k;unfold rd0 at h;apply `Ui
 exact#[_,rfl,_,_,rfl,Hh0 r,`adf]
def R40(d:D)(ds:`i)(e:D)(h:rd0 d ds=`c e):`aZp:=by
 unfold rd0 at h;apply `Ui
 exact`ad
universe zz
@[simp] def l30(ga gb gc:GE)(f f':`a7):GE:=`Gh λx=>`akC λy=>(f x y).bind λt=>(asB t).bind λk=>if k=`d then (gc δ).bind λz=>f' y z else `nV
section
variable{a c:`I}{ga gc:`cW}
def Pl0{r r':R2}{f f':`a7}(hf:Op2 K r f)(hf':Op2 K r' f'){δ:Ds}{σ:St}{Q:VK}(h:`gq tD K `aZq):Q10 r r' (`GB ga) (`GB gb) (`GB gc) σ H Q:=by
 skip;apply `yU;unfold l30 at h;cases e1:`ei with
 | none=>rw[e1] at h;cases h
 | some x =>
  cases e2:`fL with
  | none=>apply `cY;cases h
  | some y =>
   apply `cY;apply `eY;cases e3:f x y with
   | none=>rw[e3] at h;cases h
   | some t =>
    rw[e3] at h;apply `eY;cases e4:asB t with
    | none=>rw[e4] at h;cases h
    | some kb =>
     rw[e4] at h;apply `eY;cases Yq0 e4;done;apply `yV;refine hf H2 B v1 v2 x y _ _ `ala `GC r2 e3 `Uj
     rw[V1] at r3;refine#[kb,r3,?_];cases kb with
     | false =>
      rw[`qf] at h ⊢;cases h;exact k _ H3 (`uf) `wj
     | true =>
      rw[`bl] at h ⊢;cases e5:gc δ with
      | none=>rw[e5] at h;cases h
      | some z =>
       rw[e5] at h;apply `eY;refine#[z,`am3,e5,λv4 H4 s4 r4=>?_];exact hf' H4 B v2 v4 y z d _ ((`am3).same s4).bad ((r2.same s3).same s4) r4 h λv' H5 s5 r5=>k v' H5 (((`uf).trans s4).trans s5) r5
theorem L10{op op':`gB}{r r':R2}{f f':`a7}(ho:`yy)(hf:`GD)(ho':`aLJ)(hf':Op2 X.K r' f')(ha:`cZ)(hb:`dS)(hc:PD X c gc)
  (hm:`aLK):PD X `aLL `aZq :=
 `eX (L40 ho ho' `bv `f4 (hc B δ) hm).imp fun σ H Q h=>Pl0 hf hf' h
open Builtin Builtin.Str Builtin.Int in
theorem Cg0{prog:`ak}{w:`O}{A:`cf}{E:`as}{s:`u}{x:Str}{n:Int}{t u:Tok}{Q:`as}(hr:(`ao (n < `aOb)||`ao (n ≥ 2 ^ 63))=`m)
  (hb:¬n<1->`aZr->¬((`wG:Int) > (`anL)/n)) (hl:¬n<1->`aZr->tooLong (`wG*`s6)=`m)
  (h:(`w (n<1) (Made.str `MN) (`w (`aBO=`d) (Made.val `Qk) (Made.str #[`aZs `s6 x.cps]))).post Q s) :
  `a! (`BW .Mult (`g n u) `Qk) s :=
 PySem.lm_binaryOp_repeat_right (T := `j9) (U := `j8) `r (λs'=>j3 s' n u) (c5 s x t) PySem.F.fills_int_mul PySem.noFill_str_mul Am1 PySem.lm_noRepeat_int PySem.repeat_str PySem.F.slot_int_index.lookup
  (call_gives Am1 (j3 s n u) PySem.F.entry_int_mul (PySem.F.args_int_mul_2 _ _) (PySem.AutoIntG3.int___mul___int_str_0 n u x t)
   #[rfl,c5 _ x t,call_gives PySem.F.slot_str_mul (c5 s x t) PySem.F.entry_str_mul (PySem.F.args_str_mul_2 _ _) (gives_str_mul x n t u hr hb hl) h])
universe zz
universe DL
namespace DL
open Spec PyProof.Rows L2
section
variable{σ:St}{δ:Ds}
def Env.fresh{p:`e}{o:HO}(e:`bn)(hp:`eN)(no:∀ob u,o≠`aaP:=by exact λ_ _ z=>nomatch z)(nt:∀xs,o≠`fz:=by exact λ_ z=>nomatch z):Env K `ak! `wS σ δ:=by
 refine#[`xX (λv s h=>?_) `lb,`jR,`s4]
 ·cases s with
  | un=>trivial
  | ex c n=>let#[u,q,r]:=h;exact`aZt
  | sh d=>let#[u,q,r]:=h;exact`aZt
  | ow d =>
   let#[a,q,hb,r]:=h;exact#[a,q,`n hb,`dq (λo ho=>`l (j4 (T4 ho hp)) ho) `Nv]
 ·rcases z with z|z
  ·have:=`m4 a z
   by_cases q:a=p
   ·rw[q,d8];exact `aZu
   ·rw[j4 q];exact `E
  ·rw[z,d8];exact `aZu
universe zz
def flats(ds:`i):`C:=`ann
def kz0(g:GE):GE:=fun δ=>`al_ λd=>match d with
 | `eh=>`w `zn `t1 `f
 | _=>`f
def Jl0{g:GE}{δ:Ds}(h:`wC=`t1)(hf:`zn):kz0 g δ=`t1:=by
 unfold kz0;rw[h,`p];simp only[];rw[`uc]
section
variable{g:GE}
theorem ue0:`lM (`zn->`akS)
 | [],xs,_,r=>`aZn
 | `aI,xs,h,r=>by
  rw[j6] at r ⊢;let#[x,r',e1,r1,r2]:=r;unfold flats at h;rw[`nT,`bg] at h;exact#[x,r',e1,ro0 h.1 r1,ue0 (ds:=ds) h.2 r2]
theorem Q30(h:`y_):`GI M7 (cp0 g):=.mk λH₀ B₀ δ pins s σ H D I #[r,en,hq,k] =>
 `aVs G6
theorem M10(h:`y_):PDF X e (kz0 g):=.mk λB δ pins s σ H Q I hq127=>by
 skip;let#[d,en,hq,k]:=hq127
 apply `TC;unfold kz0 at hq;let#[x,e1,hq]:=bdS hq;cases x with
  | lst ds =>
   simp only[] at hq
   by_cases hf:`zn
   ·rw[`uc] at hq
    cases hq;done;exact h B' `Br `s s σ H Q I #[_,J,e1,λp H' hp s' r=>k p H' hp s' (by
     let#[xs,e5,r5]:=r;exact#[xs,e5,ue0 hf r5])]
   ·rw[`TE] at hq;cases hq
  | non=>cases hq
  | bl _=>cases hq
  | int _=>cases hq
  | str _=>cases hq
  | tup _=>cases hq
  | dct _ _=>cases hq
  | fn _ _=>cases hq
universe zz
universe DL
namespace L2
def Tbk(ok:`f2)(h:`D)(e:`e)(v:`B):Prop:=∃T oT ts,v=`T T/\T≠e/\ok T/\`f! T=`c oT/\oT.data=`mD ts/\3<ts.size
def Lie(ok:`f2)(h:`D)(C:`B)(od:`bt)(e:`e):Prop:=∃oe vs,`agM/\`Fp=C/\`agN/\`ye/\`Qa/\ok e /\
 ∃v,`DC=`bQ/\(v=`aj∨`anM)
def LieT(ok:`f2)(h:`D)(C:`B)(od:`bt)(e:`e):Prop:=∃oe vs,`agM/\`Fp=C/\`agN/\`ye/\`Qa/\ok e /\
 ∃v,`DC=`bQ/\`anM
def LieT.lie{ok:`f2}{h:`D}{C:`B}{e:`e}(l:`adI h):`aZv:=by
 skip;apply `aZw;done;exact#[oe,vs,h1,h2,h3,h4,h5,h6,v,h7,`q h8]
structure Noted(ok:`f2)(F:`aY)(h h':`D):Prop where
 keep:`p8 (¬ok b->b∉F->`rZ)
 slot:`p8 (¬ok b->`ahl)
 there:`p8 `ahm
section
variable{M:`fh}{s:`u}
def Uw0{base:`D}{ok:`f2}{env:Env}{outer:`eS}{L e:`e}{oe:Obj}{vs:`a1}{head:`B}{hadNext:`C}{Q:`d8}
  (hfr:`anN) (hl:`anO) (hf:`anP) (he:`dn e=`CQ) (hd:`ye) (hsz:`Qa) (oke:ok e)
  (new:`anQ)
  (h:∀h',`anR->LieT ok h' `Fp `aaN e->`Nw) :
  `dP M (do let a ← frameOf env;let pl ← entryPlaceOf L hadNext;let b ← EntryCells.newEntry head a `aj (`qg L) `aj pl;setField `hr 1 b):=by
 have U:e∉`ayX:=λz=>by
  let#[_,o,q,n]:=hl.mem z;rw[he] at q;cases q;exact n vs hd
 refine A0 (wpAny_frameOf_fun hfr hl hf λg sl=>A0 (wpAny_entryPlaceOf λpl hp=>?_));unfold EntryCells.newEntry newFields;refine A0 (M1 ?_ (hp.sizeOk5 _ _ _ _ _));skip;obtain⟨ar,J⟩:∃ar,ar=(`h7 ([head,`wl,`aj,`qg L,`aj]++(`w pl.isEmpty (`cr 6 `mT) pl))):=`ad;have O:3<ar.size:=by rw[J];simp only[`b5,`Y,`X,`mz];lia
 done;rw[← J];have ge:g.get? e=`CQ:=(sl.2.1 e U).trans he;have nT:`Pm≠e:=C8 (A7 ge);have pe:=B0 (h:=g) `aBP ge;have d3:=X2 hd `aEK;have e3:=D6 `anS pe (i7 d3);have t3:=(E6 (`aZx) `anS (A9 nT)).trans (C6 g rfl);refine X1 pe hd hsz `aZy
 ·have oth:∀b o,g.get? b=`ay->`DD->`qs ((`aZx).update e `anS):=λb o q n=>by
   apply `aIe;exact `wg
  refine#[λb o q n1 n2=>oth b o ((sl.2.1 b n2).trans q) `aZz,λb o q n1=>?_,λb o q=>?_]
  ·let#[x,hx]:=sl.2.2 b o q
   exact#[x,oth b _ hx `aZz]
  ·apply `iN e
   ·subst z
    exact#[_,e3]
   ·let#[x,hx]:=sl.2.2 b o q
    exact#[_,oth b _ hx z]
 ·refine#[_,_,e3,`aId,?_,d3,`aZA,oke,`T `Pm,`aZA,`Pm,_,_,rfl,nT,new _ (`l sl.1 `gT),t3,rfl,O]
  let#[c,d,dt,x]:=oe;cases dt<;>rfl
theorem Noted.refl{ok:`f2}{F:`aY}{h:`D}:`sy ok F h h:=#[λb o z _ _=>z,λb o z _=>#[`Fs,z],λb o z=>#[o,z]]
def Uk0{ok:`f2}{C:`B}{e:`e}{f:`bt}{Q:`d8}(lie:`adI `aB)
  (h:∀h',`aZB->`aZC):`dP M (`afl `hr f):=by
 skip;let#[oe,vs,he,rfl,rfl,hd,U,O,v,q,T,oT,ts,rfl,nT,okT,hT,J,q3]:=id lie;done;unfold setFlight;apply `Hf;rw[`Q `aS];refine X1 hT J q3 `aZy
 ·have oth:∀b o,`fF->b≠T->`qs (`s? T (`adJ (`Nx 3 (f.elim `mT λf=>`qg f)))):=λb o z n=>(`aZD).trans z
  refine#[λb o z n _=>`aZE,λb o z n=>#[`Fs,`aZE],λb o z=>?_]
  by_cases w:b=T
  ·subst w
   exact`aZF
  ·exact#[o,oth b o z w]
 ·exact#[oe,vs,(E6 _ _ nT).trans he,rfl,rfl,hd,U,O,_,q,T,_,_,rfl,nT,okT,`aBQ,X2 J _,by simp[q3]]
def flight{ok:`f2}{C:`B}{e:`e}{Q:`d8}(lie:`anT)
  (h:∀h',`aZB->`aZG):`anU:=by
 skip;let#[oe,vs,he,hc,U,hd,J,O,v,q,q2]:=id lie;rcases q2 with rfl|t
 ·done;unfold setFlight
  apply `Hf;rw[`dY];exact A1 (h _ .refl lie)
 ·done;exact Uk0 #[oe,vs,he,hc,U,hd,J,O,v,q,t] λh' n l=>h h' n l.lie
def Br0{base:`D}{ok:`f2}{env:Env}{outer:`eS}{L e:`e}{C:`B}{od:`bt}{Q:`d8}
  (hfr:`anN) (hl:`anO) (hf:`anP) (lie:`anT)
  (new:`anQ)
  (h:∀h',`anR->`aZC) :
  `dP M (`Gc `hr env):=by
 skip;let#[oe,vs,he,rfl,rfl,hd,U,O,v,q,q2]:=id lie;done;unfold noteFrame;simp only[hf];skip;rcases q2 with rfl|⟨T,oT,ts,rfl,nT,okT,hT,J,q3⟩
 ·done;apply `Hf
  rw[`dY];exact Uw0 hfr hl hf he hd U O new h
 ·done;apply `Hf
  rw[`Q `aS];refine A0 (D8 hT J (d5 q3) ?_)
  by_cases hin:(ts[3]==`qg L)=`d
  ·rw[`Q hin]
   exact A1 (h _ .refl #[oe,vs,he,rfl,rfl,hd,U,O,_,q,T,oT,ts,rfl,nT,okT,hT,J,q3])
  rw[`ag hin];refine A0 (X1 hT J q3 ?_);have oth:∀b,b≠T->`aZH b=`rl:=λb n=>`aZD
  have self:∃o',`aZH T=`Lq:=`aZF;have nr:∀b o,`fF->(∀vs,`pi≠`By)->b≠T:=λb o h1 h2 z=>by
   rw[z,hT] at h1;cases h1;exact h2 ts J
  refine Uw0 hfr (hl.of_keeps λb o h1 h2=>#[o,(oth b (nr b o h1 h2)).trans h1,rfl]) hf ((oth e (A9 nT)).trans he) hd U O (λb hb=>new b (by rw[Heap.size_after_update] at hb;exact hb)) (`anV #[λb o h1 n1 n2=>`Uk b o `aZI n1 n2,λb o h1 n1=>`Ul b o `aZI n1,λb o h1=>?_])
  apply `iN T
  ·let#[o',Y]:=self
   exact `anW b o' (`l z Y)
  ·exact `anW b o ((oth b z).trans h1)
theorem Noted.trans0{ok:`f2}{F:`aY}{h h'':`D}(a:`sy ok F h h')(b:`sy ok [] h' h''):`sy ok F h h'' :=
 #[λc o e n1 n2=>b.keep c o (a.keep c o e n1 n2) n1 `aS,λc o e n=>by
  let#[x,hx]:=a.slot c o e n;let#[y,hy]:=b.slot c _ hx n;exact#[y,hy],λc o e=>by
  let#[x,hx]:=a.there c o e;exact b.there c x hx]
theorem note{base:`D}{ok:`f2}{env:Env}{outer:`eS}{L e:`e}{C:`B}{od:`bt}{Q:`d8}
  (hfr:`anN) (hl:`anO) (hf:`anP) (lie:`anT)
  (new:`anQ)
  (h:∀h',`anR->`aZG) :
  `aD M A (`Gc `hr env) (λ_ s'=>`aD M A `abd Q E s') E s :=
 Br0 hfr hl hf lie new λh1 n1 l1=>Uk0 l1 λh2 n2 l2=>h h2 (n1.trans0 n2) l2.lie
universe zz
universe L2
namespace L2
open Spec PyProof.Rows
def Tbk.mono{ok ok':`f2}{h:`D}{e:`e}{v:`B}(q:`aZJ)(l:`anM):Tbk ok' h e v:=by
 skip;let#[T,oT,ts,t1,t2,t3,t4]:=l;done;exact#[T,oT,ts,t1,t2,q _ t3,t4]
def Lie.mono{ok ok':`f2}{h:`D}{C:`B}{e:`e}(q:`aZJ)(l:`aZv):Lie ok' h C od e:=by
 skip;apply `aZw;done;exact#[oe,vs,h1,h2,h3,h4,h5,q _ h6,v,h7,h8.imp id (Tbk.mono q)]
def FpW(X:Cx)(pins:`aC)(H:Hp)(b:`e):Prop :=
 `aKM (`_j=`f)
abbrev dp0(X:Cx)(pins:`aC)(H:Hp)(h:`D)(C:`e)(od:`bt)(e:`e):Prop:=Lie (FpW X `s H) h `bh od e
section
variable{σ:St}{s:`u}
def Inv.fpW{b:`e}(I:`A)(hb:`anX)(hn:`oQ):FpW X `s H' b:=by
 refine#[hn,`j1,`j1,?_,`aim,`ain]
 ·skip;apply `aJx
  rw[← z,hb] at ho;cases ho
 ·let#[_,o,ho,_]:=I.funs.mem z
  rw[hb] at ho;cases ho
 ·by_cases q:`aaU
  ·exact `nJ
  ·refine `q ?_
   cases e:`_j with
   | none=>rfl
   | some o =>
    let#[o',h']:=`BU b o e q;rw[hb] at h';cases h'
 ·let#[v,o,q,_]:=`DE
  rw[z,hb] at q;cases q
 ·have q:=(`Cg).1
  rw[z,hb] at q;cases q
def Inv.dead{b:`e}(I:`A)(hb:`anX):`dw:=by
 cases e:H b with
 | none=>rfl
 | some o =>
  have:∃u,`rl=`bf:=by
   have z:=`bR b o e;clear e
   induction o with
   | lst xs=>let#[_,_,_,_,q]:=z;exact`j'
   | tup xs=>let#[_,_,_,_,q,_]:=z;exact`j'
   | dK kvs=>skip;apply `aZK;done;exact`j'
   | dT kvs=>skip;apply `aZK;done;exact`j'
   | dX kvs=>exact `fW z
   | set S n=>let#[_,_,_,_,q,_]:=z;exact`j'
   | ins C dx fs=>let#[_,_,_,q,_]:=z;exact`j'
   | own y=>exact z
   | xd fs=>skip;let#[_,#[_,_,_,q,_],_]:=z;done;exact`j'
   | rng lo hi=>let#[_,_,_,q]:=z;exact`j'
   | frz ob u ih=>exact#[_,z.1]
   | tbl ps=>let#[_,q,_]:=(show TabOk H `aB _ _ from z);exact`j'
   | met f y=>exact#[_,z]
   | ext φ=>exact z.2.1
   | deep sub=>exact z.1
  let#[u,q]:=`E;rw[hb] at q;cases q
def Inv.afterNote{F:`aY}(I:`A)(hF:∀b∈F,b∈`yp)(nd:`sy (FpW X `s H) F `aB h'):`DI:=by
 have nt:`tJ (¬`anY):=λb u q z=>by
  rw[z.1] at q;cases q
 have hok:`aJP:=λa o q=>(`bR a o q).stay (λb u hb e=>by
  have tr:∃v,H b=`bQ:=by
   rcases hb with rfl|hb
   ·exact`j'
   ·exact#[_,hb]
  let#[v,tr]:=tr;exact `Uk b u e (nt b v tr) λz=>by
   rw[I.stkFree b (hF b z)] at tr;cases tr) `aeV `aeW `xR
 have nF:∀b,`sv->`FB->b∉F:=λb n1 n2 z=>(`cy (`ahB b (hF b z))).elim n1 n2
 have up:`ahE:=`aJp
 have old:∀b o,`Ls->`ahy->¬`anY:=λb o e hx z=>by
  rcases `anZ with q|q
  ·exact hx q
  ·rw[e] at q
   cases q
 have J:`aJq:=λx c e v hq128=>by
  let#[o,ho,hd]:=hq128
  let#[sl,q]:=`Ul c o ho λz=>z.2.2.2.2.1 x c e rfl
  exact`aJt
 refine#[I.ok,I.os,`iw,(`aAh λb o e n hb hx=>`Uk b o `QD (old b o e hx) (nF b (up b o e) hb)),?_,`x_,`hq,`sr,`gz,hok,`fb]
 ·apply `QE
  let#[O,e2]:=`Ul b _ e1 (old b o e hx);exact#[O,e2]
 ·apply `FF
  exact `anW b o' e1
 ·skip;let#[m,#[o,es,ep,ho,r],hl]:=`fP
  let#[sl,hL]:=`Ul _ o ho λz=>z.2.1 rfl
  done;refine#[m,#[_,es,ep,hL,r],`ahG];apply `aJu;refine`aJv;skip;apply `aJw
  ·done;exact `n l
  ·done;exact `q #[k,c,e,J x c e _ z]
 ·let#[v,z]:=`DE
  exact#[v,J x c e v z]
 ·apply `QF
  exact#[`Uk p.1 p.2 e (λz=>z.2.2.2.2.2 p hp rfl) (nF p.1 ne nf),n,ne,nf,d]
def Inv.frame(I:`A)(st:`Qy):`aJc:=by
 rcases I.ok.stk with q|q
 ·rw[st] at q
  exact `L (C7 `Ej q) `aS
 ·exact q.2
def Inv.noted{M:`fh}{E:`as}{C e:`e}{Q:`d8}(I:`A)(st:`Qy)(lie:`an_)
  (h:`aZL) :
  `aD M X.A (`Gc `hr `M) (λ_ s1=>`aD M X.A `abd Q E s1) E s:=by
 refine note (base:=`fe) (outer:=`sh) (by rw[`aMy,st]) (st▸I.stack) (I.frame st) lie (λb hb=>I.fpW (i6 hb) (`ss hb)) (`anV (`aZM `QI nd))
 rw[st];exact hb
theorem Inv.flown{M:`fh}{A:`cf}{E:`as}{C e:`e}{Q:`d8}(I:`A)(lie:`an_)
  (h:`aZL):`anU :=
 flight lie (`anV (`aZM (λb hb=>by cases hb) nd))
def Inv.track{φ:`oV}(I:`A)(fp:`aZN)(hφ:φ `aB)(ho:`aZO)(st:`aIU) :
  `a8 (upd H a (`Fx)) s:=by
 apply `aZP;have oth:`tJ (upd H a (`Fx) b=`bf):=`aZQ
 apply `aZR
 ·have:`jQ:=λw=>by
   subst w;rcases z4 with z4|z4
   ·exact hx z4
   ·rw[e] at z4
    cases z4
  rw[`G4];exact `_u
 ·apply `an0
  exact`aZS
 ·rw[j4 (A9 z2)];exact `hq
 ·rw[`aZT];exact `_v
 ·apply `an1
  apply `aZU
 ·by_cases w:b=a
  ·subst w
   rw[d8] at q;cases q;exact#[hφ,ho,st]
  ·rw[j4 w] at q
   apply `aZV
def Inv.goes{M:`fh}{A:`cf}{E:`as}{pos:Pos}{Q:`d8}(I:`A)(hN:`et)(hi:`mg)(hx:`JT)
  (h:∀s',Inv X `s (`BF i `f) H s'->`FH):`dP M (do bindName `M x `aj;unbindBehindTheSuite `M x pos):=by
 have J:`aJL:=`aJM
 have hk:`Dm=`mm:=hx;refine A0 (wpAny_bindName (k30 I hN hi `LI (v:=`v) (u:=`aj) rfl (λs1 I1=>?_) (`q hx)));unfold unbindBehindTheSuite;refine wpAny_onRaise ?_;unfold unbindName;refine A0 (v0 `P');unfold deleteName;simp only[hk,J];rw[`dY];have cne:=I1.cne;let#[m,hn,hl]:=id I1.loc;apply `aJN
 have hm:`sm (m x):=by
  let#[u,_,l]:=hl i x `v hi (by rw[`QN]) `LI;rcases l with⟨_,l⟩|⟨l,_⟩
  ·rw[l];rfl
  ·rw[hk] at l
   rcases l with l|l<;>cases l
 refine A0 (wpAny_nsDel_keeps hn λh' w O hs=>?_);rw[hm];simp only[`aH4,`s',`hp];refine A1 (v0 (`adn));let#[oL,_,_,U,_]:=id hn;have up:`ahE:=`kD (`Lt I1.ok.above)
 refine#[I1.ok,I1.os,I1.bare,#[`w6,`w6,I1.base.free,`ahF,I1.base.tups,I1.base.frzs,I1.base.tbls],#[_,O,`ahL],`aJS,`an2,I1.freeC,`gz,`afq,`ahM]
 ·exact`an3 (`KI I1.base.keep)
 ·let#[sl,e1]:=`KI I1.base.slot
  exact#[sl,`an3 e1]
 ·let#[o',e1]:=I1.base.there b o e hx
  exact#[o',`an3 e1]
 ·by_cases hj:j=i
  ·subst hj
   rw[`QN] at e2;cases e2
  ·rw[`qb] at e2
   let#[u',r',q]:=hl j y v' e1 (`l `qb e2) e3;refine`ahO;skip;apply `aJU
   ·done;refine `aJV
    apply `aJW
    simp[`E,e]
   ·done;exact `aJX
 ·let#[w',z]:=I1.cell y c e
  exact`aJY
 ·let#[e,n,ne,nf,d]:=I1.pin p hp
  apply `aJZ
 ·refine`ahc (I1.hok b u q) λc w' hc z=>`aJQ z
  rintro rfl;apply `ahk
  ·rw[`an2] at q;cases q
  ·rw[`an2] at hc;cases hc
universe zz
def CXE(P:`ak)(w:`O):CXT:=λouter H s E e s'=>∃ea C od H',e=`LN/\`ahR/\`Pa/\`aMv/\`aMw /\
 Lie (λb=>`oQ/\`anX) `pB `bh od ea/\`aBZ
def nw0(X:Cx)(σ:St)(H:Hp)(C:`e)(od:`bt):Prop:=∀pins s e,`A->`an_->`h4 `hr s
section
variable{k:Nat}{f C:`e}{ds:`J}{p:Pos}{t:TA}
def Ff0(X:Cx)(sp:Sp)(dvs:`V)(t:TA):TE:=`bu t λvs H1=>sp `k0 H1 Q `Um
def Nw0(F:`Un)(hr:`nQ)(hg:`i1)(hm:`aMG)(hk:`aMH)(hb:`lF)(hd:`lG)
  (ha:`ql) (hdb:`aO) (he:`dB) (hpl:`eU) :
  PE X `o_ (Ff0 X sp dvs t):=by
 apply `bm;apply `ajk;refine `aMI λus s1 hq129=>?_;let#[vs,H1,I1,r,q]:=hq129;refine `aMJ;apply `ajj;have hl:`acE:=`cd `m5 (`EP _ _ _ _ q)
 refine P2 (K2 (`yE X.A `g5 s1 H1 `Rh `CW `k0 Q _ hr I1.env0 (hb s1 us `DM hl) r2 q) `yJ);skip;cases r with
 | error ex =>
  apply `aZW;done;exact `aZX I1.call' I1.fpW
 | ok fl =>
  cases fl with
  | ret u=>done;exact I1.after hq
  | next=>done;apply `iH
  | brk=>done;apply `iH
  | cont=>done;apply `iH
universe zz
def RawAt(e C:`e)(od:`bt):`oV:=λh=>XC.Raw h e C od
def RawAt.stay{e C:`e}(h1 h2:`D)(r:`CI e C od h1)(k:∀o,`pg e=`ay->h2.get? e=`ay):`CI e C od h2:=by
 let#[oe,vs,he,r]:=r;exact#[oe,vs,k _ he,r]
def Ex0{o:HO}(h:`vS):`awd=H:=by
 funext b
 unfold upd;split
 ·rename_i e;rw[e,h]
 ·rfl
section
variable{σ:St}{s:`u}
def Ip0{j:Nat}{cp np fp pos:Pos}(hN:`mg)(hv:`Jn)(hy:`aZY)(hd:`aO)(hcd:`dA) :
  PE X (`azJ [`Mi `Mj j cp,`azK (`bo x np) (-1) `f fp] pos) (`cA (∃n:Int,`Js=`aBU/\`zo/\∀z,Q `tb H)):=by
 intro pins s σ H Q I #[n,e,hn,q];have e1:=int_text_length_le (k:=1920) `r hn;have z1:(`y (`MN++y))<=`W:=by rw[`an4,`yh];show 0+`Ny<=_;lia
 refine JoinedStr_many (`aZZ (`aJ5 #[z1,`aZZ (FormattedValue_plain (thn (O1 hN hv hd hcd `s _ σ H (λv H'=>v=`eH/\H'=H) `sk #[`eH,e,rfl,rfl]) λu s1 hq130=>?_))]));skip;let#[v,H1,I1,r1,J,hH]:=hq130;subst J hH;apply `ajy;have z2:(`y (`MN++y++`Dq (toString n)))<=`W:=by rw[`an4,`an4,PySem.ofString_length,`yh];show 0+`Ny+_<=_;lia
 done;exact formatField_int_small hn #[z2,joinParts_nil (#[`cc,H1,(I1.tok _),`ad,q _]) z2]
def Va0{Wc:`e}{np apos pos:Pos}{a:`I}{as:`bM}{t:TA}{pl:`iE}(hm:`an5=`c `Uo)(hg:`adL)
  (hsp:`aZ_ X.K `Uo `p6=`an6) (hr:W.readsIn X.K Wc `we=`d) (hf:`aZ0 X.K)
  (ha:PA X (`pH) t) (hdb:`Up) (hst:`F (`aZ1=`_Q::`aZ2) Aa) (hpl:`kt (`o4 `aZ2))
  (ht:`F (`bV `aZ3 `M=(do
   let ov ← `bV `afs `M
   `nR
   let (f,`iI) ← `aZ4
   `_R (`o4 `aZ1))) Aa) :
  PE X `aZ3 (`bu t λvs H1=>∃e C v,vs=`agO/\H1 e=`abf/\(`aZ5)/\Q `v H1):=by
 apply `bm;refine i9 (pl:=pl) `aD2 ht;refine W.method_cls `fM hsp (W.cls_value `fM hr hf `dj ?_);refine n50 (thn (ha pos `s _ σ H _ `sk h) λus s1 hq131=>?_) hst hpl;skip;apply `Q_ hq131;let#[e,C,v,rfl,hH,#[tl,cl],q]:=q1;cases r1 with
 | cons ra r1 =>
  cases r1 with
  | cons rb r1 =>
   cases r1;cases ra;let#[hh,g,d,t',os]:=s1;let#[O,_,_]:=I1.hok e _ hH;done;refine XC.Qw0 (`aZ6) O λh' J oth=>?_
   let#[oe,vs,he,r]:=id J;have I2:=I1.write (x:=e) (e:=e) (o:=`aat) (t':=t') (by rw[hH];trivial) `dI `aZ7 #[_,he] #[J,#[_,he],`an7];rw[Ex0 hH] at I2;exact#[`v,H1,I2,rfl,q]
def Inv.trackO{o:HO}(I:`A)(fp:`aZN)(new:`iB `cD X.w `hn `aB a o):`a8 `hn s:=by
 apply `aZP;have oth:`tJ (`aIL=`bf):=`aZQ
 apply `aZR
 ·have:`jQ:=λw=>by
   subst w;rcases z4 with z4|z4
   ·exact hx z4
   ·rw[e] at z4
    cases z4
  rw[`G4];exact `_u
 ·apply `an0
  exact`aZS
 ·rw[j4 (A9 z2)];exact `hq
 ·rw[`aZT];exact `_v
 ·apply `an1
  apply `aZU
 ·by_cases w:b=a
  ·subst w
   rw[d8] at q;cases q;exact new
  ·rw[j4 w] at q
   apply `aZV
def Inv.forget{φ:`oV}(I:`A)(ha:`wR `Fx)(hn:H' a=`f)(hs:∀b,`jQ->H' b=H b):`aZ8:=by
 have up:`tJ (u≠`Fx->H' b=`bf):=λb u q n=>by
  rw[hs b λz=>by
   subst z;rw[ha] at q;cases q;exact n rfl]
  exact q
 have dn:∀b u,H' b=`bf->`Qo:=λb u q=>by
  rw[← hs b (T4 q hn)];exact q
 have no:`aZ9:=λb q=>by
  rw[hs b λz=>by
   subst z;rw[ha] at q;cases q]
  exact q
 refine#[I.ok,I.os,`iw,#[`Ce,`Cf,`aZ',`BU,λb xs e=>up b _ `aZ! `h',λb o u e=>up b _ `afn `h',`afp],`fP,`mE,`aZ?,`a_a,`gz,`afq,`fb]
 ·apply `an0
  exact#[J,up b _ q λz=>nomatch z]
 ·apply `an1
  exact`a_b
 ·exact(`bR b u (dn b u q)).stay `aEM (λc z=>up c _ z λz=>nomatch z) (λc xs z=>up c _ z λz=>nomatch z) λc _ _ z=>up c _ z λz=>nomatch z
structure ErrC(K:`x)(C r:`e)(f:Str):Prop where
 ex:∃cd,W.clsIn K C=`Qc/\`Dh=`eB::`KU/\`agS=`d
 na:`Ra
 sa:`ai6
def Dy0{f:Str}(ha:`tU)(hv:`aja)(hs:`F (`aMh) Aa) :
  PS X `aMi (λD σ H=>tv σ H λy H1=>ta σ H1 λx H2=>∃e C r,x=`mj/\H2 e=`abf/\ErrC X.K C r f /\
   ∀dx,`NA->H2 dx=`f->`go σ (`aft H2 (.xd [(f,y)]))):=by
 apply `iC;refine n30 (thn `aMj λu s1 hq132=>?_) hs;let#[y,H1,I1,ry,q]:=hq132;refine thn `aMk λov s2 hq133=>?_;skip;let#[x,H2,I2,rx,e,C,r,ex,ea,c,q2]:=hq133;subst ex;obtain rfl:ov=`fw e:=rx;let#[cd,h1,h2,h3]:=c.ex;let#[#[oe,vs,he,hc,J,hd,U,O,Y],_,_]:=I2.hok e _ ea;let#[oc,Z,a2,a1]:=oe;dsimp only at hc J hd;subst hc J hd;done;refine XC.N10 `acG #[he,rfl,rfl,`m3] h1 h2 h3 c.na c.sa λh' dx t' n1 n2 ns hx oth=>#[σ,_,?_,q2 dx n2 (I2.dead n1)]
 have I3:=I2.write (x:=e) (e:=e) (o:=`awX) (t':=t') (h':=h') (by rw[ea];trivial) `dI `aZ7 #[_,hx] #[#[_,vs,hx,rfl,rfl,rfl,U,O,Y],#[_,hx],`an7];refine I3.trackO (I2.fpW n1 (`l (j4 n2) (I2.dead n1))) #[_,ns,λg=>?_]
 by_cases z:g=f
 ·subst z
  rw[`bl];simp only[`iF,`P8];exact ry
 ·rw[`n_]
  have:`aL2:=`ayv
  simp only[`iF,`E];trivial
universe zz
def Yd0(C:`e):Sp:=λvs H Q _=>∃e n,vs=`an8/\`an9/\`zo/\∀dx,`NA->`NB->Q `v `aBV
structure RootC(K:`x)(Wc:`e):Prop where
 sp:`aZ_ K `Uo `p6=`an6
 rd:W.readsIn K Wc `we=`d
 fc:`aZ0 K
theorem bm0{W C r:`e}{j:Nat}{p1 p2 p3 p4 p5 p6 p7 p8 p9 pa pa' pb pc:Pos}{pl:`iE}(hm:`an5=`c `BE)(rc:RootC X.K W)(cl:`aZ5)(ec:ErrC X.K C r `c3)(hy:`aZY)
  (hN0:`F (X.N[0]?=`c (`c0 : Str)) Aa) (hN1:`F (X.N[1]?=`c `a_c) Aa) (hg:`a_d) (hv0:`F (Vis `rD `c0) Al) (hv1:`F (Vis `rD `c3) Al) (hdb:`Up)
  (hs:`jD `an' `f p9.line)
  (hs2:`jD (`bo `c3 pb) (`c (`a_e)) pc.line)
  (ht:`F (`bV `an' `M=(do
   let ov ← `bV `aEN `M
   `JI p2.atName
   let (f,`iI) ← `aZ4
   `a_f p8 f `iI (`kz p8 (`ft `aEO `M)) (`_r p8 `_s))) Aa) :
  ∃t,PSs X [`CT `an' p9,`ip [`a_e] (`bo `c3 pb) pc] t /\
   ∀(D:Ends) σ H e n,`a_g->`a_h->`an9->`zo ->
    `a_i :=
 #[_,Q8 (rp0 (Va0 hm hg rc.sp rc.rd rc.fc (O2 `a_j (O2 (Ip0 hN1 hv1 hy) zy0)) hdb (ht:=ht)) hs) (Q8 (Dy0 `a_j (O1 hN1 hv1) hs2) rh0),
  λD σ H e n h0 h1 hH hn q=>#[`mj,h0,n,h1,hn,λz=>#[e,C,`oN,rfl,hH,cl,`eH,h1,`mj,h0,e,C,r,rfl,hH,ec,q]]]
def Nk0{h:`D}{e C:`e}{rest:`J}(m:`a_k):`CI e C `f h':=by
 let#[t,h1,_,_]:=m.there;exact#[_,_,h1,rfl,rfl,rfl,(`CH (1<6)),rfl,t,rfl]
def Tf0{M:`fh}{s:`u}{e:`e}{oe:Obj}{vs:`a1}{Q:`d8}(he:`dn e=`CQ)(hd:`ye)(q:`aIb)(h:Q () s):`anU:=by
 unfold setFlight;apply `Hf;rw[`dY];exact A1 h
def Qq0{M:`fh}{E:`as}{s:`u}{env:`axi}{x:`K!}{C:`e}{tl:`J}{Q:Flow->`e1}(hbase:`a_l)(hh:`gF)
  (h:`aD M A x (λv s₁=>∃e od,v=`mj/\XC.Cl `oZ C tl/\XC.Raw `oZ e C od/\E `hr `eT) E s) :
  `dP M (raiseStmt env (`c6) `f):=by
 have U:`aHt:=by rw[`ags,`gH,Bool.or_true]
 unfold raiseStmt;refine A0 (D0 h (λv s₁ h₁=>?_) `tF);skip;let#[e,od,rfl,c,#[oe,vs,he,hc,J,hd,a1,O,a3],hE]:=h₁;let#[nm,q,N,bs,Z,sn,sub,ab,a4,dd,k0,k1,k2,k3,k5,Y,hC]:=`wZ;let#[hp,g,d,tk,os]:=`eT;let#[oc,a2,a6,a5]:=oe;dsimp only at hc J hd;subst hc J hd
 done;repeat (first|with_reducible refine C4 he ?_|apply `P9|apply `A3 (A10 hC ?_) U|with_reducible refine Tf0 he rfl O ?_|wp_step)
 exact wpAny_raiseNew_none hh hE
universe L2
namespace DL
open Spec PyProof.Rows L2
inductive DX where
 | ok (d:D)|ex (c:Str) (n:`aE)
inductive RX where
 | ok (r:Res)|ex (c:Str) (n:`aE) (δ:Ds)
abbrev GZ:=Ds->`Uq
def okZ(G:GS):GZ:=`a_m
def t90:GZ:=`a_n
def z20(G1 G2:GZ):GZ:=fun δ=>match `fc with
 | `nv=>`v'
 | r=>r
def XdX(K:`x)(H₀:Hp)(B₀:BS)(H:Hp)(σ:St)(δ:Ds)(od:`bt):`ak6
 | `f=>True
 | `ff=>∃(dx:`e) (B:BS),`SC/\`ae dx=`f/\H dx=`a_o/\`TG (¬B dx)
def XdS(H H':Hp)(od:`bt):`ak6
 | `f=>True
 | `ff=>∃dx,`SC/\`NB/\H' dx=`a_o
def XdX.out{σ:St}{δ:Ds}{n:`aE}(x:`an!):XdS `ae H od n:=by
 skip;cases n with
 | none=>done;trivial
 | some k=>let#[dx,B,e,h1,h2,_]:=x;done;exact#[dx,e,h1,h2]
def nn0(s:`bb)(h:H' a=`f):`xn:=by
 cases e:H a with
 | none=>rfl
 | some o=>rw[s a o e] at h;cases h
def Ee0(X:Cx)(H₀:Hp)(B₀:BS)(D:Ends):RX->Prop
 | .ok r=>Ey0 X.K `ae `ac D r
 | `Ur=>`a_p
def tXS(X:Cx)(H₀:Hp)(B₀:BS)(δ:Ds)(G:GZ):TS:=`SO `D' Ee0 X
structure PSX(X:Cx)(st:`a4)(G:GZ):Prop where
 mk::go:`io PS st `a_q
structure PSsX(X:Cx)(st:`b7)(G:GZ):Prop where
 mk::go:`io PSs st `a_q
section
variable{st:`a4}{as bs:`b7}{G1 G2 Ga Gb:GZ}{gt:GB}{gA:GA}{c:`I}
theorem Xp0(h:`SP):PSX X st (okZ G):=.mk λH₀ B₀ δ pins s σ H D I hq134=>by
 apply `hC hq134
 unfold okZ at e;cases e1:G δ with
 | none=>rw[e1] at e;cases e
 | some r1 =>
  rw[e1] at e;cases e;exact `M9 h #[r1,en,e1,k]
theorem uj0:PSsX X [] t90:=.mk λH₀ B₀ δ pins s σ H D I hq135=>by
 apply `hC hq135
 cases e;apply `SR
theorem yw0(h1:PSX X st G1)(h2:PSsX X `aV G2):`SS PSsX z20:=.mk λH₀ B₀ δ pins s σ H D I hq136=>by
 skip;apply `hC hq136
 unfold z20 at e;cases e1:`fc with
 | none=>rw[e1] at e;cases e
 | some r1 =>
  rw[e1] at e;cases r1 with
  | ex c n δ'=>cases e;done;apply `qJ
  | ok r1 =>
   cases r1 with
   | nx δ'=>done;apply `an?
   | rt d=>cases e;done;apply `qJ
   | bk δ'=>cases e;done;apply `qJ
   | ct δ'=>cases e;done;apply `qJ
   | rf d=>cases e;done;apply `qJ
def Lg0{r:`e}:(`aB0).contains `MF=`d:=by
 rw[`ags];rfl
structure IniC(P:`ak)(w:`O)(K:`x)(mg:`a6)(base:`D)(cn:Str)(r:`e)(k:Nat):Prop where
 ex:∃(C f:`e) (fd:`fY),XC.At K mg cn C `Us/\(`wk (XC.Ri h C `Us f))/\`R8 k `hs (Yd0 C)/\`a_r
universe zz
def spX(K:`x)(f:`Hg):Sp:=λvs H Q E=>∃(B:BS) (ds:`i) (r:DX),`nZ/\`S4/\f ds=`du/\match r with
 | .ok d=>`t7
 | `o9=>∀C od H',`bb->`a_s
structure FnX(P:`ak)(w:`O)(K:`x)(mg:`a6)(base:`D)(x:Str)(k:Nat)(ps:`h)(f:`Hg):Prop where
 ex:∃fa fd,`qK k ps (spX K f)/\`aoa
section
variable{P:`ak}{w:`O}
def mkX(n:Nat)(N:`h)(G:GZ)(ds:`i):`aH DX:=if `qD then (match `pw with
 | `E?=>`a_t
 | `aGS=>`PV
 | _=>`f) else `f
def Q50{G:GZ}{r:DX}(h:mkX n N G ds=`du):`qD/\((∃d,r=.ok d/\`pw=`E?)∨∃c n δ,r=`o9/\`pw=`c (`Ur)):=by
 unfold mkX at h;split at h
 ·rename_i hl
  refine`al6;split at h
  ·rename_i e;cases h;exact `n #[_,rfl,e]
  ·rename_i e;cases h;exact `q #[_,_,_,rfl,e]
  ·cases h
 ·cases h
def okX{st:`a4}{k:Nat}{G:GZ}(F:`y1)(S:`yL)
  (body:`LG PSsX `a_u) :
  `qK `ef ps (spX K (mkX `aJ N G)):=by
 skip;let#[oc,od,kV,doc,pm,an,cdv,ct,Z,rfl,lk,Y]:=F.ex;done;refine Ti0 lk Y S (λvs H Q E hq137=>by skip;let#[B,ds,r,_,rr,h,_]:=hq137;done;rw[`Nc];exact(Q50 h).1) λA outer s H vs Q E hr U=>?_
 skip;let#[B,ds,r,hb,rr,h,q]:=U;done;refine#[_,`aEV H B `Bd,?_];skip;have en:`alH:=by
  refine`a_v (λi j a O es h1 _ _ _=>`Pf) λi O a h1 _=>`Pf;unfold L2.start S5;rw[`Nc];exact `Na rr `add
 rcases (Q50 h).2 with⟨d,rfl,e⟩|⟨c,m,δ,rfl,e⟩
 ·done;exact`aS_
 ·done;refine#[_,en,e,fun σ H' C od' en' n x pins s1 ea I lie=>?_]
  refine A0 (I.noted rfl lie λh' I' J=>?_);refine`a_w J.mono (q C od' H' `Pq n x.out);rcases `anZ with y|y
  ·exact `a_x
  ·exact y
universe zz
universe DL
namespace L2
open Spec PyProof.Rows
section
variable{tl:`J}
theorem Ec0{C:`e}(hm:`a_y)(hg:Gl X c)(hd:`aob):PE X (`bo c pos) (tC `bh):=`amp (`ahY (`hd `eB h))
theorem Cs0{T:`bJ}(hm:`nL)(hv:`Ru)(hg:`i1)(hn:`nM)(hd:`aO):PE X `k' (tC (.ty T)):=`amp (`ae2 (`hd (.ty T) h) hd)
def Cc0(K:`x)(tl:`J):`kv:=λvs H Q=>∃a C W od,vs=`aHJ/\`a_z/\(`adM)/\(∃tw,`wk (XC.Cl h W tw))/\`to `EN
def Ru0:`fK X `Fm (Cc0 X.K tl):=by
 apply `nN;skip;let#[a,C,W,od,rfl,hH,cl,#[tw,cw],q]:=h;cases r with
 | cons r1 r =>
  cases r with
  | cons r2 r =>
   cases r;cases r1;cases r2;apply `a_A;done;exact XC.G20 `aoc (cw _ `fM) h1 h2 `a_B
def Cf0(K:`x)(tl:`J)(T:`bJ)(b:`C):`kv:=λvs H Q=>∃a C od,vs=[`a?,.ty T]/\`a_z/\(`adM)/\Q `lg H
def Oz0{T:`bJ}{b:`C}(hty:`agD)(hT:`a_C `kS=b):`fK X `Fm (Cf0 X.K tl T b):=by
 apply `nN;skip;let#[a,C,od,rfl,hH,cl,q]:=h;cases r with
 | cons r1 r =>
  cases r with
  | cons r2 r =>
   cases r;cases r1;cases r2;apply `a_A;done;exact XC.N70 `aoc h1 h2 hty hT `a_B
universe zz
universe L2
namespace DL
open Spec PyProof.Rows L2
def exI(i:Nat)(cs:`h)(f:`ahv):GE:=fun δ=>match `b4 with
 | `c (.ex c _)=>`aW `a_D (.bl (f c))
 | _=>`f
section
variable{r:`e}{p:Pos}
open T in
def Rz0{σ:St}{δ:Ds}{f:`ahv}{d:D}(en:`bn)(h:exI i cs f δ=`a9) :
  ∃c a C od,`Hh/\d=.bl (f c)/\`jL/\`aQ5/\`jF:=by
 unfold exI at h;split at h
 ·apply `Hi
  split at h
  ·rename_i hc
   cases h;let#[o,h1,a,rfl,C,od,h2,h3,h4,h5]:=`Hj;exact#[c,a,C,od,`aod,rfl,h1,h3,h4]
  ·cases h
 ·cases h
def il0{C C':`e}{tl:`J}(a:XC.At K mg c C tl)(n:`awh=`MG C'):C'=C:=by
 have:=n.symm.trans a.ns;cases `E;rfl
def Jh0(T:`aoe)(hr:`e? ∉cs){c':Str}{C C':`e}(h1:`Hh)(h2:c'∈cs)(a:XC.At K mg c C `Us)(a':XC.At K mg c' C' `Us) :
  `a_E (`T C')=`a_F:=by
 by_cases e:c=c'
 ·subst e
  rw[il0 a a'.ns,`Hk];simp
 ·rw[`bG e]
  have n1:C≠C':=λz=>e (T.diff c (.tail _ h1) c' `a_G (by rw[a.ns,a'.ns,z]))
  have n2:r≠C':=λz=>hr (by
   have:=T.diff `e? (`acl) c' `a_G (by rw[T.top.ns,a'.ns,z]);rw[`E];exact h2)
  simp[Ne.symm n1,Ne.symm n2]
theorem u20(i:Nat){c':Str}(T:`aof)(hr:`e? ∉cs)(h':c'∈cs)(hm:`alJ)(hi:`dg)(hgi:`alK)(hgc:`hg c')
  (hv:`d') (hd:`aO) (hcd:`dA) (hdc:`sl c')
  (s1:`F (`aog=[(`h9 (`abi))]) Aa) (s2:`gm `a_H (`a_I::`aog)) (hpl:`kt (`o4 `aog)) :
  PD X (`dl `alM `a_H) (exI i cs λc=>`a_F):=.mk λB δ=>by
 let#[C',a']:=T.all c' h';refine (`a_J (Ru0 (tl:=`KU)) (Ec0 a'.mg hgc hdc)).imp fun σ H Q hq138=>?_;skip;apply `bi hq138
 apply `a_K;apply `aoh;obtain rfl:=il0 a2 h3;done;refine#[`a?,h1,a,C,C',od,rfl,h2,a2.cl,#[_,a'.cl],?_];rw[Jh0 T hr hc h' a2 a'];exact `a_L
theorem Ie0(i:Nat){Tn:`bJ}{b:`C}(T:`aof)(hy:`mw y=`c `aoi)(hty:`Lo `aoi=`aaL)(hT:`a_C `aoi=b)(hm:`alJ)(hmy:`cm y=`f)(hi:`dg)(hgi:`alK)(hgc:`hg y)
  (hv:`d') (hd:`aO) (hcd:`dA) (hdc:`qL) (hny:`Nr y)
  (s1:`F (`aoj=[(`h9 (`abj))]) Aa) (s2:`gm `a_M (`a_I::`aoj)) (hpl:`kt (`o4 `aoj)) :
  PD X (`dl `alM `a_M) (exI i cs λ_=>b):=.mk λB δ=>by
 refine (`a_J (Oz0 (tl:=`KU) hty hT) (Cs0 hmy hy hgc hny hdc)).imp fun σ H Q hq139=>?_;skip;apply `bi hq139
 apply `a_K;apply `aoh;obtain rfl:=il0 a2 h3;done;exact#[`a?,h1,a,C,od,rfl,h2,a2.cl,`a_L]
universe zz
universe DL
namespace L2
open Spec PyProof.Rows
abbrev Cx.body(X:Cx)(pn:`aC)(xe:`as):Cx:={ X with pn:=pn,xe:=xe }
abbrev Cx.hand(X:Cx)(A:`cf):Cx:={ X with A:=A,calm:=`m,xe:=`oJ }
section
variable{pins':`aC}{σ:St}{s:`u}{W:`as}
theorem Cx.Ok.body(o:X.Ok){pn:`aC}:`a_N:=`a_O
theorem Cx.Ok.unbody{pn:`aC}(o:`a_N):X.Ok:=`a_O
theorem Inv.toBody(I:`A):`a_P:=(`tK I.ok.body λp hp=>`jh p (`br hp))
theorem Inv.ofBody(I:`sT `D! pins'):`A:=(`tK I.ok.unbody λp hp=>`jh p (D7 _ hp))
theorem FpW.ofBody{b:`e}(f:FpW `D! pins' H b):`anY:=#[f.1,f.2.1,f.2.2.1,f.2.2.2.1,f.2.2.2.2.1,λp hp=>f.2.2.2.2.2 p (D7 _ hp)]
theorem Cx.Ok.hand(o:X.Ok)(hf:`LL=`ahx):(`LM A).Ok:=(`aB1 `Ut (hf.trans o.frames))
theorem Inv.toHand(I:`A)(hf:`LL=`ahx):`a_Q:=(`tK (I.ok.hand hf) `jh)
theorem Inv.ofHand{σ':St}(I:`a_Q)(J:`yq):`A:=(`tK J.ok `jh)
universe zz
universe L2
namespace DL
open Spec PyProof.Rows L2
section
variable{σ:St}{δ:Ds}{C:`e}
def ef0{s:Sl}{d:D}(hs:`aok)(h:(`el i s)[j]?=`px):j≠i:=by
 rintro rfl
 by_cases hl:j<`mY
 ·rw[`yT] at h
  cases h;exact hs _ rfl
 ·rw[`Gz] at h
  cases h
def Env.setSl{o:`eo}{s:Sl}(e:`bn)(hs:`aok)(r:`SD):Env K H B `Uu (`el i s):=by
 refine`ak' r `aBr;have hj:=ef0 hs h1;have hk:=ef0 hs h2;rw[`qb] at h1 h3;rw[`aRd] at h2 h4;exact `aD? b
def EnvS.setSl{o:`eo}{s:Sl}(e:`ct)(hs:`aok)(r:∀B,`bn->`SD):`hf K `ae `ac H `Uu (`el i s):=by
 apply `aly;refine#[e.same,(`tr (en.setSl hs (r B en))),`afd,e.b0];have hj:=ef0 hs h1;rw[`qb] at h1 h2;exact `a_R
def xdB{n:`aE}(e:`ct)(x:`an!):∃B,`TG `aQ6:=by
 skip;cases n with
 | none =>
  apply `aly;done;exact#[B,b1,b2,en,`m3]
 | some k =>
  apply `a_S;done;exact#[B,b1,b2,en,dx,h1,nb,h3]
def EnvS.setEx{m:`aE}(e:`ct)(x:`abg K m)(hH:`xn)(n:`jF):`hf K `ae `ac `aol (`BF i (`oT)) (`el i (`aom)):=by
 let#[B,b1,b2,en,xd]:=xdB e x;have nb:`s1:=λz=>`GN a z hH
 have O:`kr `aol δ:=`fs (W8 hH);have J:K90 `aol B od m:=by
  cases m with
  | none=>trivial
  | some k =>
   let#[dx,h1,h2,h3]:=xd;exact#[dx,h1,h2,`l (j4 (T4 h3 hH)) h3]
 refine#[`all (W8 hH),(`tr (O.setSl `Uv #[a,rfl,C,od,nb,d8,n,J])),`afd,e.b0];have hj:=ef0 (s:=`aom) `Uv h1;rw[`qb] at h1 h2;exact `a_R
universe zz
def jt0(cs:`h)(i:Nat)(Gb:GZ)(Gh:GS):GS:=fun δ=>match `DT with
 | `nv=>`eL
 | `nw=>if `a_D then (match Gh (δ'.set i (`o9)) with
  | `ar δ''=>`ar (δ''.set i .un)
  | _=>`f) else `f
 | _=>`f
section
variable{r:`e}{body:`b7}{Gb:GZ}
def Mn0{C:`e}:`a_E (`T r)=`d:=`a_
open T in
theorem Ud0(i:Nat)(T:`aof)(hb:∀pn xe,PSsX (`ZZ pn xe) `eM Gb)(hh:∀e:`e,PSsD (`LM (X.A.mark (`c `hr))) `aET Gh)(hN:`et)(st:`F (`Qy) Aa)
  (hi:`dg) (hx:`F (`JT) Aa) (hg:`hg `e?) (hdb:`sl `e?) :
  PSD X (.Try `eM `a_T [] [] pos) (jt0 cs i Gb Gh):=.mk λH₀ B₀ δ pins s σ H D I hq140=>by
 let#[res,en,e,k]:=hq140
 refine wpAny_Try_except ?_;obtain⟨W,hW⟩:∃W:`as,W=λe s₁=>`aD `cI X.A (`Gc e `M) (λ_ s₂=>`aD `cI X.A (`afl e `f) (λ_ s₃=>`qc (handleBy e `M `a_T) `ahV s₃) `h4 s₂) `h4 `eT:=`ad
 rw[← hW];have I1:`a_P:=I.toBody;unfold jt0 at e;cases e1:`DT with
 | none=>rw[e1] at e;cases e
 | some rx =>
  rw[e1] at e;have run:∀D1:Ends,Ee0 `D! `ae `ac D1 rx->`aD `cI X.A (execs `eM `M) (SP `D! [] D1) W s:=λD1 k1=>(hb (`vK) W).go `ae `ac δ [] s σ H D1 I1 #[rx,en,e1,k1]
  cases rx with
  | ok r1 =>
   cases r1 with
   | nx δ' =>
    cases e;refine `a_U `go k;cases f with
    | next =>
     let#[σ',H',I',q]:=q;exact rh0 `s s1 σ' H' D I'.ofBody q
    | ret v=>apply `aon;exact `eq
    | brk=>apply `ui;exact `eq
    | cont=>apply `ui;exact `eq
   | rt d=>cases e
   | bk δ'=>cases e
   | ct δ'=>cases e
   | rf d=>cases e
  | ex c m δ' =>
   simp only[] at e;split at e
   ·rename_i hc
    have hc:=`aod;split at e
    ·rename_i δ'' e2
     cases e;refine `a_U `oJ fun σ' H' C od en' n xx pins' s1 ea I' lie'=>?_
     ·show W (`LN) s1
      rw[hW];have I2:`Zq s1:=I'.ofBody;have a1:dp0 X `s H' s1.heap C od ea:=lie'.mono λb z=>z.ofBody
      refine I2.noted st a1 λh2 I3 J=>?_
      apply `aoh;obtain rfl:=il0 a2 n;let#[oe,vs,he,a3,_]:=id J;have I4:Inv (`aoo) `s σ' H' (`e4 s1 h2):=I3.toHand rfl;refine wpAny_handleBy_cons (codeAny_handlers_test (s40 I4 hg T.top.mg (XC.Vi0 (h:=h2) (a2.cl _ I4.kIn) (T.top.cl _ I4.kIn) he a3 ?_) hdb)) (by intro q;cases q);rw[Mn0];refine codeAny_handlers_suite_as (I4.flown (C:=C) (od:=od) J λh5 I5 a5=>?_);let#[U,a8,Z,O,a4,a6,_,Y,_]:=id a5;have I6:Inv (`aoo) `s σ' (upd H' ea (.ext (lf0 ea C od))) (`e4 s1 h5):=I5.track Y #[U,Z,O,λdx z=>a4.trans z,a8,a6] #[U,Z] λg1 g2 #[o,q1,q2,q3] q=>#[o,q o q1,q2,q3]
      refine k30 (X:=`aoo) I6 hN hi `LI (v:=`LN) rfl (λs7 I7=>?_) (`q hx);refine D0 ((hh ea).go `ae `ac (δ'.set i (`aom)) `s s7 _ _ { nx:=fun σ H=>`hJ X.K H δ'',rt:=`oJ } I7 #[.nx δ'',en'.setEx xx Y.1 n,e2,`KV]) (λf s8 q=>?_) (λ_ _ z=>`eq);cases f with
      | next =>
       let#[σ8,H8,I8,a7]:=q;exact(I8.ofHand I2).goes hN hi hx λs9 I9=>#[_,H8,I9,k _ _ (a7.setSl `Uv λ_ _=>`m3)]
      | ret v=>apply `aon;exact `eq
      | brk=>apply `ui;exact `eq
      | cont=>apply `ui;exact `eq
     ·cases f with
      | next=>apply `ui;exact `eq
      | ret v=>apply `aon;exact `eq
      | brk=>apply `ui;exact `eq
      | cont=>apply `ui;exact `eq
    ·cases e
   ·cases e
universe zz
theorem ty_ValueError:`Lo `Fi=`aaL:=W.kitMeta_of `dj
universe DL
namespace XC
open PySem.W
section
variable{w:`O}{h:`D}{g:`jS}{d:`nF}{t:Nat}{os:`tC}{C:`e}{o:Obj}{tl:`J}{K:`cS}{od:`agQ}{f:Str}{v:`B}
def Ep0{tk:Tok}{Q:`tD}(X:`hz)(J:`Uw)(hf:`Ux)(hq:Q (`mJ (`jO v)) `b_) :
  `a! (`agz `a_V) `b_:=by
 have L0:=J.type (M:=`Y1);have L1:=looks_find (M:=`Y1) X J hf;refine `lw A1 (A1 (`lw L0.at (L1.at ?_)));exact A1 hq
theorem t00{tk:Tok}{R:`j3}(c:`d7)(X:`hz)(J:`Uw)(hf:`Ux)(hq:`m? v `b_) :
  `oX (`lv `aHu `a_V) `b_ :=
 O0 `aHv `aHw (bh0 c J.at_ J.cls (Ep0 X J hf hq))
def Ck0{tk:Tok}{fill expr:`C}(c:`d7)(X:`hz)(J:`Uw)(hf:`Ux)(hh:`a_W)(hq:Q v `b_) :
  `a! (`agA `b' (`aB2) fill expr) `b_:=by
 have hx:=J.at_;have hc:=J.cls;apply `aHx;apply `aHy
 have z2:(`acm)=`m:=`ba
 apply `aHz
 have ho:=handedOut_of hh
 apply `aHA
 refine t00 c X J hf ?_
 repeat (any_goals (first|apply `hu|(rw[ho])|wp_step))
theorem Jp0{expr:`C}(c:`d7)(X:`hz)(J:`Uw)(hf:`Ux)(hh:`a_W)(hq:Q v `aHB) :
  `a! (`MP `b' f expr) `b_:=A0 (wpAny_mkText (Ck0 c X J hf hh hq))
universe zz
universe XC
namespace L2
open Spec PyProof.Rows
structure ErrG(K:`x)(C:`e)(f:Str):Prop where
 cl:`a_X
 hd:`Q8
 na:`Ra
section
variable{σ:St}{s:`u}
def V90{C:`e}{f:Str}{b:`C}{Q:`as}(I:`A)(ha:`wR (.ext (DL.lf0 a C `Mh)))(hx:H dx=`c (.xd `Q9))(c:ErrG X.K C f)
  (h:`aL9):`aL':=by
 skip;let#[#[oe,h1,h2,h3,vs,h4],_,_]:=`bR a _ ha;let#[mA,ns,r]:=`bR dx _ hx;let#[od,ho,hl]:=bt0 ns;have l:(`Q9:`iA).lookup f=`bQ:=`fd `iF
 apply `aL?;have J:W.InstAt `aB a oe C (`ai2):=#[h1,h2,by unfold W.notCls;rw[h4],`l (h3 dx rfl) ho];let#[tl,cl]:=c.cl;let#[hh,g,d,t,os]:=s;done;exact XC.Jp0 `aoc `fM J (`aLX c.hd c.na rfl (by rw[hl,hu])) (ae0 ru) (h u _ `sk ru)
universe zz
universe L2
namespace DL
open Spec PyProof.Rows L2
def atG(i:Nat)(as:`h):GE:=fun δ=>match `b4 with
 | `c (.ex c `MD)=>`w (as.contains c=`d) `Dr `f
 | _=>`f
open T in
theorem Bs0(i:Nat){as:`h}(T:∀c∈as,∃C,`NC/\ErrG X.K C `c3)(hi:`dg)
  (hv:`d') (hd:`aO) (hcd:`dA)
  (hb:`G8 `c3) :
  PD X (`gt `g_ `c3 pos) (atG i as):=.mk λB δ pins s σ H Q I hq141=>by
 apply `bi hq141
 unfold atG at h;split at h
 ·apply `Hi
  split at h
  ·rename_i hc
   cases h;let#[o,h1,a,rfl,C,od,nb,hH,ns,dx,rfl,J,hx]:=`Hj;let#[C',n',g]:=T c (`aod);obtain rfl:C=C':=by
    have:=ns.symm.trans n';cases `E;rfl
   refine T10 hb (thn (O1 hi hv hd hcd `s s σ H (λv H'=>`M5/\H'=H) I #[_,h1,rfl,rfl]) λu s1 hq142=>?_);let#[v,H1,I1,r1,e1,e2]:=hq142;subst e1 e2;obtain rfl:u=`rH:=r1;exact V90 I1 hH hx g λu s' I' ru=>#[`eH,H1,I',ru,k _ _ `ta `BH]
  ·cases h
 ·cases h
def uw0(f:`be)(G:GZ):`i->GZ
 | [],δ=>`aBY
 | `aI,δ=>`aQd fun δ2=>match G δ2 with
  | `a_Y=>`a_Z
  | `i7 (.ct δn)=>`a_Z
  | `i7 (.bk δn)=>`a_Y
  | r=>r
def Yo0(gi:`f1)(f:`be)(G:GZ):GZ:=fun δ=>`yP λds=>uw0 f G ds δ
def XdX.lower{H₁:Hp}{σ:St}{δ:Ds}{n:`aE}(x:XdX K H₁ `ac H σ δ od n)(s:`aRS):`an!:=by
 skip;cases n with
 | none=>done;trivial
 | some k =>
  apply `a_S;done;exact#[dx,B,h1,`ac! h2,h3,b1,`aRT,en,nb]
section
variable{body:`b7}{G:GZ}
open Classical in
theorem Ig0(hp:`FQ)(hc:`ed)(hi:`iO)(hg:`GH)(hb:PSsX X `eM G)
  (hs:`fj):PSX X `aiK (Yo0 gi f G):=.mk λH₀ B₀ δ pins s σ H D I hq143=>by
 apply `aX hq143
 unfold Yo0 at e1;apply `aZ;cases e2:`Bz with
 | none=>apply `am;cases e1
 | some items =>
  apply `am;apply `fp;apply `aRV
  apply `aRW (tXS X `ae `ac δ G D σ H) (`M9 `BJ h)
  apply `aRZ;apply `aR_
  apply `aR0
  apply `aR1
  apply `aR2
  have a3:`c1 Hh H1:=#[λb o h=>by
   by_cases z:`B4
   ·rw[`aR3] at h;cases h
   ·rw[U] at h
    have h':`aR4:=h;rw[`n_] at h';exact h',λb o xs h=>by
   by_cases z:`B4
   ·apply `aR5
    apply `aR6;cases h0
   ·rw[U]
    show (`M')=_;rw[`n_];exact h]
  have hS:`aR7:=#[λb o h=>by
   have h1:=`aR8
   by_cases z:B b
   ·rcases b2 b z with q|q
    ·rw[a4 b q];exact h1
    ·rw[h] at q;cases q
   ·rw[Y b z];exact h1,`aR9]
  have Z:=`kB;have start:`aR':=by
   apply `aR!
   ·by_cases q:`oz
    ·exact `nJ
    ·exact `aR?
   ·have hn:=`aSa
    have nb:¬`oz:=λz=>`nk a z hn
    apply `aSb;rw[h2] at e3;cases e3;cases e4;exact a1 a hB nb
   ·rw[a4 a z]
    exact `aSc
  refine#[λi m σ H=>`aSd uw0,#[_,rfl,`b3,δ,`fC,e1],?_];rintro i m σi Hi ⟨rfl,c0,δi,O,ei⟩;apply `aSe
  by_cases hlt:`GK
  ·refine `aSf uw0 #[`SY,`dF,rfl,hlt,δn,en',e']
   apply `aSg;apply `aSh;have a6:`aSi:=rd B' (λb o n h=>by
    have h':Hh b=`ay:=`ae9
    apply `aSj;rcases c2 b z with q|q
    ·exact n (b1 b q)
    ·rw[h'] at q;cases q) env0.bad
   have a5:=`aSk
   replace O:=O.grow sm
   have a2:`aSl:=by
    apply `SZ;congr 1;rw[`S_] at hd;exact A3 hd
   rw[a2] at ei;unfold uw0 at ei;cases e3:f d δi with
   | none=>rw[e3] at ei;cases ei
   | some δ2 =>
    rw[e3] at ei;simp only[`p] at ei;apply `aSm;apply `aSn;cases e4:G δ2 with
    | none=>rw[e4] at ei;cases ei
    | some rb =>
     rw[e4] at ei;apply `aSo;cases rb with
     | ex c n δn =>
      cases ei;exact fun σ' H' C od en' nn xx=>k σ' H' C od `aEj nn (xx.lower hS)
     | ok rb =>
      cases rb with
      | nx δn=>apply `S0
      | ct δn=>apply `S0
      | bk δn =>
       cases ei;apply `aSp
      | rt d' =>
       cases ei;apply `aSq
      | rf d' =>
       cases ei;apply `aSr
  ·have e:i=`dp:=`dF
   subst e;apply `aSs;rw[`yY] at ei;cases ei;exact `aSt
universe zz
universe DL
namespace XC
open PySem.W
def riB(K:`cS)(C:`e)(tl:`J)(f:`e):`C:=match `bH C with
 | `agF=>(match `agG with
  | `aHR=>`aHS&&`aHT==`Df&&(match `a__ with
   | `c #[`vC,_,_,_]=>`d
   | _=>`m)
  | _=>`m)
 | _=>`m
def Sb0{K:`cS}{h:`D}{N:`e}{m:`a6}{n:Str}{v:`B}(X:`hz)(G:h.Ns N m)(e:nsIn K N n=`oY):m n=`bQ:=by
 skip;let#[o,es,ep,ho,hd,_,hf]:=G;unfold nsIn at e;split at e
 ·rename_i q
  have z:=(X _ _ q).symm.trans ho;cases z;cases hd;split at e
  ·rename_i he
   cases e;done;rw[← hf];unfold nsFind findBy;rw[← `aLT,he];rfl
  ·done;split at e<;>cases e
 ·cases e
open T in
def Ct0{K:`cS}{h:`D}{C f:`e}{tl:`J}(X:`hz)(e:riB K C tl f=`d):`agK:=by
 unfold riB at e;split at e
 ·apply `agH
  split at e
  ·apply `agI
   apply `agJ;let#[#[#[#[#[#[hm,rfl],J],ht],hok],O],hf]:=e;apply `aHU;dsimp only at hm J hok O;subst hm J;have U:`aHV:=by
    let#[l]:=sl;simp only at hs;rw[hs]
   subst U;refine#[(`aHW Sb0 (`a_0)),?_];split at hf
   ·rename_i o _ _ hfo
    exact#[_,X _ _ hfo,rfl]
   ·cases hf
  ·cases e
 ·cases e
def L50(K:`cS)(C r:`e):`C:=(match `agR with
 | `Qc=>`Dh==`az?&&`agS
 | `f=>`m)&&`a_1==`hb&&`aIk==`aaY
open T in
def Eh0{K:`cS}{C r:`e}(e:L50 K C r=`d):`a_2/\hasDictIn K C=`d/\`a_1=`hb:=by
 unfold L50 at e;apply `tE `bg `ws;apply `aop;split at h1
 ·rename_i cd hc
  simp only[`bg,`ws] at h1;exact#[#[#[cd,hc,h1.1,h1.2],h2,h3],by unfold hasDictIn;rw[hc];exact h1.2,h2]
 ·cases h1
def Tc0(K:`cS)(W:`e):`C:=specialIn K `BE `p6==`an6&&readsIn K W `we&&(match findCls K `BE `we `d3 with
 | `c (.val (`co n))=>n == `ab8
 | _=>`m)
open T in
def Jb0{K:`cS}{W:`e}(e:Tc0 K W=`d):L2.RootC K W:=by
 unfold Tc0 at e;apply `tE `bg `ws;apply `aop;split at h3
 ·rename_i n hn
  rw[`P7 h3] at hn;exact#[h1,h2,hn]
 ·cases h3
def c90(K:`cS)(root c:Str)(f:`e):`C:=match `aHX,`w0 with
 | `aHY,`u!=>riB K C `w1 f&&L50 K C r&&Tc0 K r
 | _,_=>`m
def Pm0{K:`cS}{r f:`e}(T:`aH3)(hc:`Hh)(e:c90 K `e? c f=`d) :
  ∃C,`aH2/\(`wk (Ri h C `w1 f))/\`a_2/\L2.ErrG K C `c3/\L2.RootC K r:=by
 let#[C,a]:=`ayY;unfold c90 at e;rw[T.top.ns,a.ns] at e;simp only[`bg] at e;apply `aop;let#[e1,e2,e3]:=Eh0 h2;exact#[C,a,λh X=>Ct0 X h1,e1,#[`a_3,e2,e3],Jb0 h3]
universe XC
namespace DL
open Spec PyProof.Rows L2
def Ia0(X:Cx)(C:`e)(body:`b7):Prop:=∃t,PSs X `eM t/\∀(D:Ends) σ H e n,`a_g->`a_h->`an9->`zo ->
 `a_i
def X70{P:`ak}{w:`O}{base:`D}{r f:`e}{qual:Str}{st:`a4}{fd:`fY}(T:`aoe)(hc:`Hh)(ib:`a_4)
  (F:Fun K `d3 `je st f fd) (S:`ax `hs `hs `rU) (hb:`a_r)
  (body:∀C,(`a_X)->ErrC K C r `c3->RootC K r->mg `e?=`c (`T r)->∀cdv A outer s H E,Ia0 (`Me CX0 `hs f).nox C `R7):`OW P c r:=by
 apply `a_5;refine #[C,f,fd,a,ri,F.ok (k:=0) S (λvs H Q E #[e,n,h,_]=>`a_6) λcdv A outer s H vs Q E hr hq144=>?_,hb];skip;let#[e,n,hv,hH,hn,q]:=hq144;let#[t,ht,go]:=`eM C `a_3 ec rc T.top.mg cdv A `da s H E;subst hv;done;exact#[t,ht,go _ _ _ e n rfl rfl hH hn q]
def at_of{r f:`e}(T:`aoe)(hc:`Hh)(ib:`a_4):`aoq := by
 apply `a_5;exact#[C,a.ns,eg]
universe DL
namespace DL
open Spec PyProof.Rows L2
@[simp] def lv0:`N
 | [`c9]=>match `a_7 with
  | [c]=>`c (`g (c:Nat))
  | _=>`f
 | _=>`f
open T in
def Q60:FnR K `aLR lv0:=by
 apply `y3;unfold lv0 at h;split at h
 ·rename_i x
  split at h
  ·rename_i c hc
   cases h;apply `kh;rw[R4] at r1;subst r1;let#[#[l]]:=x;have:l=[c]:=hc;subst this;exact#[_,rfl,rfl,`g7 (`aw Y0)]
  ·cases h
 ·cases h
universe DL
namespace L2
open Spec PyProof.Rows
theorem bf0:∀{ys:`h} {us:`J},`aS0->`a_8 Str `aRm
 | [],_,`R,m,y,h=>by cases h
 | `Uy,_,`nG,0,y,h=>by
  cases h;let#[tk,rfl]:=r;exact`aor
 | `Uy,_,`nG,m+1,y,h=>by
  let#[tk,e]:=bf0 t m y `ia;exact`a_9
theorem b80:∀ys:`h,(`ZX).all tm0=`d
 | []=>rfl
 | y::ys=>by
  rw[`ab,`nT,b80 ys];rfl
universe L2
namespace PySem.SeqAt
open PySem.AutoSeq1 (wpAny_loadPart')
open MeetsSeq MeetsSeq2 MeetsSeq3 SeqRoads2
def ho0{M:`fh}{A:`cf}{E:`as}{s:`u}(f:Nat->β->Sem (ForInStep β))(I:`k->β->`e1)(Q:β->`e1)
  (turn:∀x rest b s,I (x::`aV) b s->`aD M A (f x b) (λr s'=>match r with|.yield b'=>I `aV b' s'|`mJ b'=>Q b' s') E s)
  (fin:∀b s,I [] b s->Q b s) (lo hi:Nat) (b:β) (h:I `a_' b s):`dP M (`a_!):=by
 have e:(`a_!:Sem β)=`D? `a_' b f:=`a_
 rw[e];exact A40 f I Q turn fin _ b h
theorem tuple_indexAt(l:`e)(items:`a1)(n:Nat)(dd:`bt)(sl:`j2)(x:`B)(e:`aIw)(j:Nat)(hj:j<`gk)
  (hit:e items[j]=`d) (hno:∀m (hm:m<`gk),m<j->e items[m]=`m) :
  Meets (Builtin.«tuple.index» #[[`Ci,x],[]])
   (λA R s=>`dn l=`aG! `fH `aIM/\(∀y,y∈`b?->EqAt `fS s y x (e y))/\`m? (`g j `cp) `ne) :=
 .of_wp λprog w A R s h=>by
  skip;let#[hp,g,d,tk,os]:=s;let#[hl,he,h]:=h
  done;wp_walk using D10 hl,ho0 _ (λrest b s'=>b.1=`f/\s'=#[hp,g,d,tk,os]/\∃i,i<=j/\`aV=`Pn i (`gk - i)) _
  case turn =>
   rintro y rest b s' ⟨hb,rfl,i,hi,hr⟩;have J:i<`gk:=`G
   have e1:`gk - i=(`gk - `fE)+1:=`G
   rw[e1,`aos] at hr;let#[rfl,rfl]:=T0 hr;have hy:`b?[y]?=`c items[y]:=by simp[J]
   rw[hy];refine A0 (he items[y] (Array.getElem_mem J) prog w _ _ ?_)
   by_cases hyj:y=j
   ·subst hyj
    rw[hit]
    wp_walk
    exact`aVu
   ·rw[hno y J `j]
    wp_walk
    exact#[rfl,rfl,y+1,`G,rfl]
  case fin =>
   rintro b s' ⟨hb,rfl,i,hi,hr⟩;have:=C7 `Ej hr;simp at this;lia
  case h =>
   exact#[rfl,rfl,0,`b3,`a_]
universe PySem.SeqAt
namespace L2
open Spec PyProof.Rows
def Cy0(K:`x):`iJ:=λx vs H Q=>∃(p:`e) (ys:`h) (z:Str) (j:Nat),`aot/\vs=`MX/\SqT K H p `DY/\`a_?
def Ij0:MtR X "tuple.index" (Cy0 X.K):=by
 apply `F';skip;apply `a0a;cases rx;apply `R1;apply `RP;let#[o,h1,h2,n,h3]:=id pl;have Z:`pD=`cq:=`a0b
 have a1:j<`cq:=`a0c;have at_:`a0d `t:=λm hm=>by
  apply `a0e
  let#[t,e]:=bf0 r m ys[m] (B6 J);refine`a0f;have:`a0g:=`Hl;rw[`E] at e;have e':=A3 e
  simpa using e'
 let#[c0,dd,dt,sl]:=o;obtain rfl:c0=`fH := h2;obtain rfl:dt=`aan:=h3;let#[t,rfl]:=ru;have O:∀(y:Str) (tk:Tok),`a0h=`d↔y=z:=λy tk=>by
  show (eqV `Mj `tb)=`d↔_;simp[eqV]
 done;refine Q1 (T := `eC) `a0i (`a0j `eC) F.entry_tuple_index (F.args_tuple_index_2 _ _) (SeqAt.tuple_indexAt p `b0 n dd sl (`t z t) (eqU `tb) j `xo ?_ ?_) (`a0k `oN b80)
 ·apply `a0l
  rw[e2,O];rw[hj] at e1;cases e1;rfl
 ·intro m hm Y
  apply `a0m;rw[e2];cases hb:`a0h with
  | false=>rfl
  | true=>apply `a0n
def X90(K:`x)(mg:`a6)(x:Str)(ys:`h):Prop :=
 ∃(a:`e) (o:Obj) (its:`a1) (n:Nat),mg x=`oT/\`aou/\`Qp/\`Qq/\`aAj/\`acx/\`bO `DY `MI
universe L2
namespace DL
open Spec PyProof.Rows L2
def c80(ys:`h):`N
 | `MX=>`a0o
 | _=>`f
section
variable{a:`I}{ga gb:GE}{gA:GA}{ys:`h}
open T in
theorem G30(hK:`a0p)(ha:`GU)(hg:`fo)(hd:`aO)
  (hbase:`F (`w' `ND `Uz `M (`a0q)=`a0q) Aa)
  (hfew:`F ((`qB
  &&`Tb)=`d) Aa)
  (hline:`gG) (hs:`f5) (hplain:`n2) :
  PD X (`n3 `ND `Uz [e]) (oA gA (c80 ys)):=.mk λB δ=>by
 let#[p,o,its,n,hm,hk,hc,O,J,U,hv]:=hK;refine (pe0 F.plainAttrs_tuple `a0i F.type_tuple_index Ij0 `a0r `bv `gH hfew `iK hs `qr).imp fun σ H Q hq145=>?_;apply `bi hq145
 unfold oA at h;cases e2:`eb with
 | none=>rw[e2] at h;cases h
 | some es =>
  rw[e2,`p] at h;unfold c80 at h;split at h
  ·rename_i z
   cases e4:`a0s with
   | none=>rw[e4] at h;cases h
   | some j =>
    rw[e4] at h;cases h;refine#[`q (`n #[rfl,o,hk,hc,O]),_,en,e2,`Nd];rw[j6] at r2;apply `a0t;rw[c7] at r4;subst r4;rw[R4] at r3;subst r3;apply `a0u;refine`a0v (`a0w U) s2
    ·rw[`jt hj,`aov h1]
    ·have Y:m<`cq:=`G
     rw[`jt Y] at he;exact `a0x
  ·cases h
universe zz
universe DL
namespace DL
open Spec PyProof.Rows L2
def cpX(i j:Nat):GS:=fun δ=>match `la with
 | `PV=>`ar (`el i (`o9))
 | _=>`f
def exN(i:Nat):GE:=fun δ=>match `b4 with
 | `c (.ex _ _)=>`nV
 | `c (`h8)=>`j0
 | _=>`f
section
variable{a0:`I}{gA:GA}{posg p pg:Pos}
open T in
theorem Vj0(i j:Nat)(hN:`et)(hj:`F (X.N[j]?=`c6) Aa)(hi:`n0)(hx:`lS)(hf:`ka)
  (hv:`d') (hd:`aO) (hcd:`dA)
  {ap:Pos} (hs:`F (`a0y `zp `ms ap.line `M=`MR) Aa) (hw:`aaW `zp `ms)
  (h1:`F (`sw `zp=[`ig `Z_ `M]) Aa) :
  PSD X (`ip `zp `ms ap) (cpX i j):=.mk λH₀ B₀ δ pins s σ H D I hq146=>by
 apply `aX hq146
 unfold cpX at e1;split at e1
 ·apply `Hi
  cases e1;apply `aZ;let#[o,ho,a,rfl,xc]:=`o0 env.all hδ;refine e80 (`Mb j hj) (`SQ) hs hw h1 `s s σ H D I #[`a?,ho,?_];exact k _ H (en.setSl `Uv λB' O=>by
   let#[o',J,a',e',U]:=`o0 O.all hδ;rw[ho] at J;cases J;cases e';exact#[a,rfl,U])
 ·cases e1
open T in
theorem Ug0(i:Nat){j:Nat}{pc:Pos}(hi:`dg)
  (hv:`d') (hd:`aO) (hcd:`dA) :
  PTD X (`ae_ `ms [.Is] [`Mi `aj j pc] pos) (ob (exN i)):=.mk λB δ=>(mk0 pw0 (`Mb i hi) Pp0 (or0 _)).imp fun σ H Q hq147=>by
 apply `qx hq147
 unfold ob exN at h;split at h
 ·apply `Hi
  cases h;let#[o,ho,a,rfl,xc]:=`Hj;exact#[`a?,ho,rfl,`m,rfl,`S1]
 ·rename_i hδ
  cases h;let#[o,ho,v,rfl,rv]:=`Hj;rw[Q9] at rv;subst rv;exact#[`v,ho,rfl,`d,rfl,`S1]
 ·cases h
universe zz
def q80(x y:D):`dE:=match y with
 | `v=>`Eu (match x with|`v=>`m|_=>`d)
 | _=>`f
def o80:Op2 K `aLF q80:=by
 apply `iP;apply `aTi
 subst hy;cases h;rw[Q9] at ry;refine`aTj;rw[V1];apply `aTk
 all_goals first
  | (subst rx;rfl)
  | apply `aTl
universe DL
namespace L2
open Spec PyProof.Rows
def Kl0(K:`x):R2:=`d5 (∃a xs k,`eu/\y=`my/\`sU/\`ajE/\0<=k/\k<`gE/\`a0z/\`nP `eN H `a0A)
def Hu0:OpR X `aLx (Kl0 X.K):=by
 apply `fk;skip;let#[a,xs,k,rfl,rfl,ha,hx,h2,h3,hz,q]:=h;cases rx;apply `ajL;let#[its,r1,p1,_]:=`jb ha;apply `aTd;simp only at hc hd;subst hc hd;have hl:=`pq;have he:`amG=`m:=by
  cases its with
  | nil=>exact `L (`aNY rfl) hx
  | cons a b=>rfl
 have J:`jE*`jV<=`adO:=`ajP hl hz
 have O:`aZs (`w (`amG=`d) 0 `jV) `b0=(`cr `jV its).flatten.toArray:=by
  rw[he];have:=foldl_rep its `jV [];apply `a3 `kV;exact `E
 have Y:¬(!`a0B)=`d:=by
  have:`a0B=`d:=by unfold Builtin.List.listFitsIndex;simp;lia
  rw[`E];decide
 have a1:¬`jE*`jV > (`anL)/8:=`G
 have Z:¬`R0 (`jE*`jV)=`d:=by
  rw[`b5] at J ⊢;apply `aOQ;simp;unfold sizeLine;lia
 done;refine wpAny_binaryOp_repeat_ref (T := `e2) (U := `j8) `r `tV (λs'=>j3 s' k t) noFill_list_mul F.fills_int_mul `a0C repeat_list F.slot_int_index.lookup
  (Q1 `a0C (j3 s k t) F.entry_int_rmul (F.args_int_rmul_2 _ _) (lm_int_rmul_list_any k t a `b0 n dd sl)
   #[ho,rfl,`tV,Q1 F.slot_list_mul `tV F.entry_list_mul (F.args_list_mul_2 _ _) (lm_list_mul_any a `b0 n dd sl k t Y a1 Z) #[ho,?_]])
 rw[O];exact`aTf (r1.rep `jV) (by rw[len_rep,`a0D];unfold sizeLine;lia)
universe L2
namespace DL
open Spec PyProof.Rows L2
def mulL:`a7
 | `c4,`my=>`w (`ajE/\0<=k/\k<`gE/\`a0z) (`c `a0A) `f
 | _,_=>`f
section
variable{a:`I}{ga gb:GE}
def N50:Op2 K (Kl0 K) mulL:=by
 apply `iP;unfold mulL at h;split at h
 ·split at h
  ·skip;rename_i hz
   cases h;rw[Q3] at rx;rw[Y0] at ry;subst ry;apply `am0;done;refine#[a,xs,_,rfl,rfl,q1.to,λz=>hz.1 ?_,hz.2.1,hz.2.2.1,`l `pq hz.2.2.2,`xV `gu (mv0 hb hp (Vr0 r1 _))];subst z;have hn:=`pq;simp at hn;exact `am1
  ·cases h
 ·cases h
theorem ih0(ha:`cZ)(hb:`dS):`lU `aV! mulL:=k90 Hu0 N50 ha hb
universe zz
def jk0(gA:GA)(f:`Hg):GZ:=fun δ=>`t3 λds=>(f ds).map λr=>match r with
 | .ok _=>.ok (`Bl)
 | `o9=>`Ur
section
variable{gA:GA}{p:Pos}
theorem Q00{k:Nat}{f:`Hg}(C:`DZ FnX x)(hr:`qC)(hk:k<=m)(ha:`lR)
  (hg:`fo) (hdb:`aO) (he:`dB) (hpl:`eU)
  {ap:Pos} (hs:`jD `o_ `f ap.line) :
  PSX X (`CT `o_ ap) (jk0 gA f):=.mk λH₀ B₀ δ pins s σ H D I hq148=>by
 skip;apply `aX hq148
 unfold jk0 at e1;apply `aZ;let#[fa,fd,F,hm,J,hb]:=C.ex;apply `UA;cases e3:f ds with
  | none=>apply `b8;cases e1
  | some dx =>
   apply `b8;cases e1;done;refine `TJ (Nw0 (dvs:=[]) (ds:=[]) F `iQ hg hm J hb `R `bv hdb he hpl) `aow;show spX X.K f `NN H1 _ _;rw[`cg];refine#[B,ds,dx,`zq,r1,e3,?_];cases dx with
   | ok d=>exact λv H' s2 r2=>k _ H' `a0E
   | ex c m =>
    intro C od H' s2 n x C' q;cases q;refine k σ H' C od `a0E n ?_;cases m with
    | none=>trivial
    | some m =>
     let#[dx,e,x1,x2]:=x;exact#[dx,B,e,`a0F,x2,b1,b2,`hM `lc,λz=>`zq dx z x1]
universe zz
structure But(p:`e)(H H':Hp):Prop where
 old:`a0G
 nf:∀b o xs,b≠p->`aPa
instance{p:`e}{H H':Hp}:`fn `zr `a0G:=#[But.old]
section
variable{σ:St}{δ:Ds}
theorem Gr.but{p:`e}(hb:B p)(h:`zr):`aQC:=λb u n e=>#[n,h b u (`p_ n hb) e]
def Env.mutB(e:`bn){d:D}(hi:`G3)(hs:`jL)(hh:`zs)(r:`aQ3):`a0H:=by
 apply `aUN;rw[hs] at h1;cases h1;refine`aUO
 ·have h0:`amt H' B:=`xX (λo' s h=>by
   cases s with
   | un=>exact `amu
   | ex c n=>apply `gK;exact `a0I
   | sh d=>apply `gK;exact `a0I
   | ow d =>
    apply `Ts
    apply `iN a
    ·subst z;apply `amv
    ·exact `n #[b,e,O,`dq (λo h=>hh b o z h) `aB5]) `lb
  apply `aUQ;apply `aUR;apply `aUS
  ·exact h
  ·skip;apply `amw
   ·cases e3;done;exact`Pi
   ·done;apply `aUT
 ·by_cases z':b=a
  ·subst z';exact `t6
  ·cases q:H b with
   | none=>exact `L q (`amx)
   | some o=>exact(`amx).keep λo h=>hh b o z' h
 ·have q1:`aUU:=by
   skip;apply `Tt
   ·done;exact`Tu
   ·done;exact`Tv
  have q2:`aUV:=by
   skip;apply `aUW
   ·done;exact`Tu
   ·done;exact`Tv
  let#[d1,q1]:=q1;let#[d2,q2]:=q2;exact `aUX
def EnvS.mutB(en:`ct)(b1:`mM)(b2:`mN){d:D}(hi:`G3)(hs:`jL)(hh:`zs)
  (env:`a0H):`hJ K H' `s3:=by
 have h0:=`aUZ;have J:i<`mY:=`O6;apply `aU_
 ·apply `aU0
  exact hh _ _ `E `aU1
 ·apply `iN a
  ·apply `aU2
   rw[hs] at e1;cases e1;rw[z] at h;exact `aU3
  ·exact `amy b ob xs (hh.nf b ob xs z h)
 ·skip;apply `Tt
  ·rw[hs] at h2;cases h2;done;exact h0
  ·done;exact `aU4
universe zz
universe DL
namespace L2
open Spec PyProof.Rows PySem.W
def Ah0(td ty tx:TE):TE:=fun σ H Q=>td σ H λx H1=>∃a,`eu/\IsD H1 a/\ty σ H1 λy H2=>tx σ H2 λz H3=>∃kvs k,H3 a=`_a/\y=kV k/\`G_ /\
 (∀v,`mS=`bQ->Q v H3)/\(`aox->Q z (upd H3 a (.dK (`Lf z))))
section
variable{f:`I}{tx:TE}
def Bp0{σ:St}{s:`u}{k:Key}{r:`B}{A:`cf}{E:`as}{Q:`as}(I:`A)(e:`GZ)(ry:`aUd)(rv:`ea v r)(l:`G_)
  (h1:∀x,`mS=`c6->`aUl x) (h2:`aox->∀s',`a8 (`ame) s'->Q r s') :
  `dP `cI (`dQ (`co "dict.setdefault") [`a?,u,r]):=by
 apply `aUp;apply `aUq
 have hv:=`_Z;refine call_meetsIn At1 `Nj PySem.F.entry_dict_setdefault (PySem.F.args_dict_setdefault_3 _ _ _) (kt_meets_setdefault (`aUE) a `G0 hd r) #[vs,dd,hz,λw hw=>?_,λhn h' J hs=>?_]
 ·rw[hw] at hv
  cases e1:`mS with
  | none=>rw[e1] at hv;exact hv.elim
  | some x=>rw[e1] at hv;exact h1 x e1 _ _ `sk hv
 ·rw[hn] at hv
  have e1:`aox:=by
   cases e1:`mS with
   | none=>rfl
   | some x=>rw[e1] at hv;exact hv.elim
  apply `amm
  have he:`amk:=`amn
  exact h2 e1 _ (`aUs)
def G80(ho:`Tq)(he:PE X e ty)(hf:PE X f tx)(m:M2 X o `UB `pW e f `kA):PE X (`n3 o `UB `wF) (Ah0 td ty tx):=by
 apply `bm;refine wpAny_Call_method m.base m.few m.line PySem.F.plainAttrs_dict At1 PySem.F.type_dict_setdefault (thn `FP λu s1 hq149=>?_);skip;let#[x,H1,I1,rx,a,ex,d,q1]:=hq149;subst ex;cases (show `Pg from rx);let#[t1,t2,_]:=Ek0 I1 d;done;refine#[t1,t2,?_];rw[m.trees];refine C80 rfl (C90 (P8 (thn (`nb he _) λiv s2 hq150=>?_)));let#[y,H2,I2,ry,q2]:=hq150;refine P8 (thn (`O! hf σ) λfv s3 hq151=>?_);skip;let#[z,H3,I3,rz,kvs,k,ea,ey,l,q3,q4]:=hq151;done;refine b5 ?_;subst ey;exact Bp0 I3 ea ry rz l (λx ex w' s4 I4 r4=>#[x,H3,I4,r4,q3 x ex]) λen s4 I4=>#[z,_,I4,rz,q4 en]
universe zz
universe L2
namespace DL
open Spec PyProof.Rows L2
def gz0(i:Nat)(gk g:GE):GX:=fun δ=>`aTG λpr=>`UC λdk=>`lV λd=>`a0J λq=>`qM (`ank<`W) (if `T0=`d then (ta0 pr.1 pr.2 q).map λr=>(r,δ) else `c (d,`anl))
section
variable{a f:`I}{ga gb g:GE}
open T in
theorem Jx0(hu:`lX)(ha:`cZ)(hb:`dS)(hm:`F (`J5 `yx b=`m) Ak):`lU (`Zk `yx) (um0 `d):=.mk λB δ=>(Gx0 (Px0 hu `bv `f4) hm).imp fun σ H Q hq152=>by
 apply `qx hq152
 unfold o2 at h;cases e1:`ei with
 | none=>rw[e1] at h;cases h
 | some x =>
  cases e2:`fL with
  | none=>apply `cY;cases h
  | some y =>
   apply `cY;apply `eY;apply `yV;apply `aWX
   rename_i ks ds;cases ks with
   | inl ks =>
    apply `zi;cases e3:wf0 x with
    | none=>rw[e3] at h;cases h
    | some q =>
     rw[e3] at h;simp only[`k2,`TM] at h;cases h;rw[d20] at r2;apply `TZ;have:=ng0 e3 r1;subst this;apply `lZ p _ `ani;rw[`T_];exact `a0K
   | inr ks =>
    apply `zi;cases e3:op0 x with
    | none=>rw[e3] at h;cases h
    | some q =>
     rw[e3] at h;simp only[`k2,`TM] at h;cases h;rw[cd0] at r2;apply `TZ;let#[b,rfl,hb]:=Yh0 e3 `GC;apply `lZ p _ `anj;rw[`T_];exact `a0K
theorem Ds0(i:Nat)(h0:PD X e g0)(h:PD X f g)(hN:`dg)(hv:`d')(hd:`aO)(hcd:`dA)
  (hbase:`G8 `UB)
  (hfew:`F ((`aUF
  &&`aUG)=`d) Aa)
  (hline:`gG) (htrees:`F (`aUH) Aa) :
  PX X (`n3 `g_ `UB `wF) (gz0 i g0 g):=.mk λH₀ B₀ δ pins s σ H Q I hq153=>by
 skip;apply `aX hq153
 unfold gz0 at e1;apply `aZ;cases e2:`Ne with
 | none=>apply `am;cases e1
 | some pr =>
  cases e4:g0 δ with
  | none=>rw[e2,e4] at e1;cases e1
  | some dk =>
   cases e3:`az with
   | none=>rw[e2,e4,e3] at e1;cases e1
   | some d =>
    cases e5:`NF with
    | none=>rw[e2,e4,e3] at e1;apply `fp;rw[e5] at e1;cases e1
    | some q =>
     rw[e2,e4,e3] at e1;apply `fp;rw[e5] at e1;apply `fp;split at e1
     ·rename_i hz
      have hi:=Uj0 e2;let#[p,O,hb,xs,hx,hl,rx]:=`pp;have hl:`ank=`_:=hl;done;refine G80 `kU (h0 B δ) `dx #[`gH,hfew,`iK,htrees] `s s σ H Q I #[_,O,p,rfl,`n #[_,`n hx],dk,env,e4,λiv H1 s1 r1=>#[d,`kB,e3,λfv H2 s2 r2=>?_]];have:=ng0 e5 r1;subst this;have J:=`ow;refine#[_,q,J _ _ hx,rfl,`aEA,λv Y=>?_,λhn=>?_]
      ·skip;have hk:`T0=`d:=by
        rw[← `a0L,Y];rfl
       rw[`F_] at e1;let#[w,hw,e1]:=u8.mp e1;cases e1;let#[v',Z,rv]:=(va0 rx).1 w hw;rw[Y] at Z;cases Z;done;exact k v H2 (`te (`CE J) (`hM J) (`s7 J))
      ·have hk:`T0=`m:=by
        rw[← `a0L,hn];rfl
       rw[hk,`lY] at e1;cases e1;let#[ys,hy,a2,a3,a1]:=dr0 (q:=q) (v:=fv) hl;have rr:Rps X.K H2 B `aa? ys:=by
        unfold wu0;rw[hk,`lY,a1 hk];exact `s8 (`_t J) r2
       rw[hy];have U:`jC (upd H2 p `aW7) (`anl):=(`hM J).mut hi O #[ys,d8,a2,rr.mono `pF];exact k _ _ (`te (`EW J b1 b2 hi O U) U (r2.mono `pF))
     ·cases e1
universe zz
universe DL
namespace L2
open Spec PyProof.Rows PySem.W
def nf0:`fK X `ajX `a0M:=by
 apply `nN;skip;let#[p,kvs,rfl,hq,q]:=h;apply `RW;cases rx;have hn:=mn0;let#[z,hd,vs,rel,dd]:=Zl0 `bR hq;have hl:=`aEr;done;exact call_len_dict hd dd `j #[`g `kC,H,`vu,#[`vc,by rw[hl]],q]
universe L2
namespace DL
open Spec PyProof.Rows L2
def ws0:`N
 | [`dk `Kh _]=>`c (`g `jc)
 | _=>`f
def ic0:FnR K `a0M ws0:=by
 apply `y3;unfold ws0 at h;split at h
 ·skip;cases h
  apply `kh;rw[d20] at r1;let#[p,ys,rfl,_,hp,hl,rr]:=r1;done;refine#[p,_,rfl,hp,`Nb];rw[Y0,`vI,← hl,`ZY]
 ·cases h
universe DL
namespace L2
open Spec PyProof.Rows ZipL DL
section
variable{s:`u}
def Inv.laidM{l:`uh}{t':Nat}(I:`A)(k:`QL)
  (hl:∀p∈l,`aYq/\∃xs,(`aYr)∨(p.2=`c4/\`xm H p.1 `kw)):`aYs:=by
 have J:`aYt:=λb hb=>o70 λp hp z=>by
  have:=(`Ue).1;apply `a3 z;exact `aYu
 refine I.un #[`ahp,`ahq,`aYv,`ahr,`aYw,
  `aYx,`aYy] `QK
 skip;apply `aYz
 ·obtain⟨_,xs,⟨ex,ok⟩|⟨ex,ok⟩⟩:=`Ue
  ·done;rw[ex]
   exact ok
  ·done;rw[ex]
   exact ok
 ·done;apply `aYA
universe zz
universe L2
namespace DL
open Spec PyProof.Rows L2
def X00:`aC->`C
 | []=>`d
 | p::K=>(match p.2.cls with
  | `bx n=>!(n == `e2)
  | _=>`d)&&X00 K
theorem Ua0:∀{K:`aC} {a:`e} {o:Obj},`aoy->`aou->`ou≠`h0
 | [],_,_,_,h=>nomatch h
 | (b,u)::K,a,o,h,e=>by
  unfold X00 at h;apply `qI;rw[`gI] at e;split at e
  ·cases e
   intro z;rw[z] at h;exact `L h.1 `r
  ·exact Ua0 h.2 e
def script_at(hK:`aoy)(h:`sU):SqL' K H `zt a xs:=by
 skip;rcases h with h|⟨o,its,n,e,c,_⟩
 ·done;exact `n #[`Dk,h]
 ·done;exact `L c (Ua0 hK e)
theorem Mk0{l:`aki}{n k:Nat}{q:`ak}{loose:`h}{XP:`Ff}{YP:`Fg}{d:DefRec}{K:`aO5}{CX:CXT}{sp:`x->Sp}{x:Str}
  (hn:`R2) (hn2:`yI) (hdf:`aj?) (hr:`akc) (hY:`aO6)
  (F:∀(w:`O) (mg:`a6) (fa:`e) (h:`D),`M_ h->`Fn->`aka ->
   ∃fd:`fY,(`akd)/\`aO7 CX `DR)
  (hsp:`aO8 (`aO9 `DR))
  (hCX:∀(H:Hp) (s:`u) (e:`B) (s':`u),CX [] H s `yK e s'->`bW):`aO' :=
 Hr0 (K:=K) (CX:=λ_=>CX) (sp:=λw=>sp `DR) hn hn2 hdf hr hY F (λw H a ns h1 _ h3=>hsp w H a ns h1 h3) λ_ H s e s'=>hCX H s e s'
universe DL
namespace L2
open Spec PyProof.Rows
def SubO.ho:`dW->HO
 | `c4=>`c4
 | `B1=>`B1
 | `mr=>`mr
def SubO.no_own(o:`dW)(x:`e):o.ho≠.own x:=by apply `UD
def SubO.no_tup(o:`dW)(xs:`V):o.ho≠`fz:=by apply `UD
def SubO.no_frz(o:`dW)(ob:Obj)(u:HO):o.ho≠`aaP:=by apply `UD
def SubO.no_tbl(o:`dW)(ps:`a1):o.ho≠`aaj:=by apply `UD
theorem vp0:∀{l:`nH} {k:`e} {v:`dW},l.lookup k=`bQ->(k,v)∈l
 | [],_,_,h=>by cases h
 | (k',v')::l,k,v,h=>by
  rw[`gI] at h;cases q:k==k' with
  | true =>
   rw[q] at h;cases h;rw[`RB q];exact A8
  | false =>
   rw[q] at h;exact A6 _ (vp0 h)
def opened(H:Hp)(sub:`nH):Hp:=λb=>match `ld with
 | `ay=>`c o.ho
 | `f=>H b
def closed(H:Hp)(a:`e)(sub:`nH):Hp:=λb=>if b=a then `Hm else match `ld with
 | `c _=>`o3
 | `f=>H b
section
variable{P:`ak}{w:`O}{h:`D}{sub:`nH}
theorem HOk.opened(x:`f_)(ha:H a=`Hm)(hin:`UE)(hdx:`a0N):HOk P w (L2.opened H sub) h:=λb u e=>by
 skip;obtain⟨_,all⟩:(`Qs)/\∀p∈sub,`aIT:=x a _ ha;unfold L2.opened at e;cases l:`ld with
 | some o =>
  rw[l] at e;have e:=A3 e;subst e;have m:=vp0 l;let#[_,q]:=all _ m;cases o with
  | lst xs=>done;exact q
  | dK kvs=>done;exact q
  | ins C dx fs =>
   let#[rfl,d,z,ne,e,r]:=q;done;refine#[?_,z,ne,e,r];apply `Hn;rw[hdx _ C dx fs m];exact d
 | none =>
  rw[l] at e;have J:`jQ:=λz=>by rw[z] at l;rw[l] at hin;cases hin
  done;refine`ahd (`xR) (λc q=>?_) (λc xs q=>?_) λc ob u' q=>?_
  ·apply `Hn
   cases lc:`uj with
   | none=>exact q
   | some o =>
    apply `aoz
    ·have z:c=a:=z
     rw[z,ha] at q;cases q
    ·have z:`aoA:=z
     rw[z] at q;cases q;exact `L rfl J
  ·apply `Hn
   cases lc:`uj with
   | none=>exact q
   | some o =>
    apply `aoz
    ·have z:c=a:=z
     rw[z,ha] at q;cases q
    ·have z:`aoA:=z
     rw[z] at q;cases q
  ·apply `Hn
   cases lc:`uj with
   | none=>exact q
   | some o =>
    apply `aoz
    ·have z:c=a:=z
     rw[z,ha] at q;cases q
    ·have z:`aoA:=z
     rw[z] at q;cases q
def SubO.there{b:`e}(o:`dW)(x:`iB P w H h b o.ho):∃ob,`rk=`Qv:=by
 skip;cases o with
 | lst xs=>let#[_,_,_,_,e]:=x;done;exact`aoB
 | dK kvs=>let#[_,_,_,_,_,_,_,e,_]:=x;done;exact`aoB
 | ins C dx fs=>let#[_,_,_,e,_]:=x;done;exact`aoB
theorem HOk.closed(x:`f_)(ha:`UE)(hs:∀p∈sub,`w5=`c p.2.ho)(hi:∀p∈sub,`a0O):HOk P w (`LO H a sub) h:=λb u e=>by
 have J:∀{c:`e} {o:`dW},`uj=`ay->H c=`c o.ho:=λl=>hs _ `adQ
 have own:∀c y,H c=`ahh->`aoC=`ahh:=λc y q=>by
  apply `Ho;have hc:c≠a:=λz=>by
   cases l:`v? with
   | none=>rw[l] at ha;cases ha
   | some o=>rw[z,J l] at q;exact `a0P o y `zu
  rw[`yM];cases l:`uj with
  | none=>exact q
  | some o=>rw[J l] at q;exact `L `zu (`a0P o y)
 have tup:∀c xs,H c=`jB->`aoC=`jB:=λc xs q=>by
  apply `Ho;have hc:c≠a:=λz=>by
   cases l:`v? with
   | none=>rw[l] at ha;cases ha
   | some o=>rw[z,J l] at q;exact `aoD o xs `zu
  rw[`yM];cases l:`uj with
  | none=>exact q
  | some o=>rw[J l] at q;exact `L `zu (`aoD o xs)
 have frz:∀c ob u',H c=`ahj->`aoC=`ahj:=λc ob u' q=>by
  apply `Ho;have hc:c≠a:=λz=>by
   cases l:`v? with
   | none=>rw[l] at ha;cases ha
   | some o=>rw[z,J l] at q;exact `a0Q o ob u' `zu
  rw[`yM];cases l:`uj with
  | none=>exact q
  | some o=>rw[J l] at q;exact `L `zu (`a0Q o ob u')
 apply `nI
 ·subst hb
  have e:`LO H b sub b=`bf:=e;unfold L2.closed at e;rw[`bl] at e;have e:=A3 e;subst e;refine#[?_,λp hp=>`yN]
  ·cases l:`ld with
   | none=>rw[l] at ha;cases ha
   | some o=>exact `a0R
  ·by_cases z:p.1=b
   ·exact `fG
   ·refine `q ?_
    apply `Ho;rw[`n_];cases l:`A5 p.1 with
    | none =>
     exact `L l (by
      intro l;rw[List.lookup_eq_none_iff] at l;have:=l p hp;simp at this)
    | some o=>rfl
  ·skip;have q:=x p.1 _ (hs p hp)
   let#[pa,po]:=p;cases po with
   | lst xs=>done;exact q
   | dK kvs=>done;exact q
   | ins C dx fs =>
    have O:pa=b:=hi _ hp C dx fs rfl;subst O;let#[d,z,ne,e,r]:=q;done;exact#[rfl,own _ _ d,z,ne,e,r]
 ·have e:`a0S=`bf:=e
  unfold L2.closed at e;rw[`ev] at e;cases l:`ld with
  | some o =>
   rw[l] at e;have e:=A3 e;subst e;exact `a0R
  | none =>
   rw[l] at e;exact`ahd (`xR) (λc q=>own c b q) (λc xs q=>tup c xs q) λc ob u' q=>frz c ob u' q
universe zz
section
variable{σ:St}{s:`u}
theorem Inv.view(I:`A)(no:`aZ9)(tp:`Qt)(fz:`ahn)(tb:∀b ps,H b=`acv->H' b=`acv)
  (hok:`ww H' `aB):`aZ8 :=
 #[I.ok,I.os,`iw,#[`Ce,`Cf,`aZ',`BU,`afo tp xs,λb o u e=>fz b o u `afn,λb ps e=>let #[m,q]:=`abe;#[m,tb _ _ q]],
  `fP,`mE,`aZ?,`a_a,λp hp=>let #[e,n,r]:=`Cg;`a_b,hok,`fb]
universe zz
structure OpenOk(H:Hp)(a:`e)(sub:`nH):Prop where
 at':H a=`Hm
 root:`UE
 dx:`a0N
structure CloseOk(H:Hp)(a:`e)(sub:`nH):Prop where
 root:`UE
 at':∀p∈sub,`w5=`c p.2.ho
 ins:∀p∈sub,`a0O
section
variable{σ:St}{s:`u}{sub:`nH}
def Inv.opened(I:`A)(o:`a0T):`a8 `a0U s:=by
 apply `aoE sub (`bR a _ o.at');have no:∀{b:`e} {so:`dW},`ld=`Bf->H b=`Hm∨`K9:=λ{b so} l=>by
  rcases (all _ `adQ).1 with z|z
  ·have z:b=a:=z
   rw[z];exact `n o.at'
  ·exact `q z
 have other:∀b u,H b=u->u≠`Hm->u≠`o3->L2.opened H sub b=u:=λb u q n1 n2=>by
  apply `Hn;cases l:`ld with
  | none=>exact q
  | some so =>
   rcases no l with z|z
   ·exact `L (`adP z) n1
   ·exact `L (`adP z) n2
 exact I.view (λb q=>`UF) (`D7 `UF) (λb o u q=>`UF) (λb ps q=>`UF) (I.hok.opened o.at' o.root o.dx)
def Inv.closed(I:`A)(c:`uk):`a8 `ul s:=by
 have other:∀b u,H b=u->(`a0V)->`a0S=u:=λb u q n=>by
  apply `a0W
  apply `Ho;have hb:`jQ:=λz=>by
   cases l:`v? with
   | none=>have:=`UG;apply `a3 l;cases `E
   | some so=>exact `a0X
  rw[`ev];cases l:`ld with
  | none=>exact q
  | some so=>exact `a0Y
 exact I.view (λb q=>`Cq b _ q λso z=>nomatch z) (`D7 (`Cq b _ q `a0Z)) (λb o u q=>`Cq b _ q `a0_) (λb ps q=>`Cq b _ q `a00) (I.hok.closed `UG c.at' c.ins)
universe zz
def Ends.closing(a:`e)(D:Ends):Ends where
 nx:=`aoF `go
 bk:=`aoF D.bk
 ct:=`aoF D.ct
 rt:=λv H=>∃sub,`uk/\D.rt v `ul
section
variable{st:`b7}{t:TS}
def SP.closing{D:Ends}{f:Flow}(h:SP X `s `a01 f s'):`aKs:=by
 skip;cases f with
 | next=>apply `aoG;done;apply `aoH
 | brk=>apply `aoG;done;apply `aoH
 | cont=>apply `aoG;done;apply `aoH
 | ret u=>let#[v,σ',H',I,r,sub,c,k]:=h;done;exact#[v,σ',_,`Po,r,k]
theorem f70(h:`gD):PE X e (`cA (∃a sub,`uk/\te σ `ul λv H'=>∃sub',`NG H' a sub'/\Q v (`jd H' sub'))):=λpins s σ H Q I #[a,sub,c,q] =>
 thn (h `s s σ _ _ (`Po) q) λu s' #[v,H',I',r,sub',o,k]=>`aB8
universe zz
universe L2
namespace DL
open Spec PyProof.Rows L2
def v5(p:`e)(b:D):D:=`z [`g `th,b]
def s20{p:`e}{b:D}:`JF (v5 p b)↔a=p/\`JJ b:=by
 constructor
 ·rintro (⟨d',e,h⟩|⟨ks,vs,e,_⟩|⟨x,ns,e,_⟩)
  ·cases e
   exact#[rfl,h]
  ·cases e
  ·cases e
 ·rintro⟨rfl,h⟩
  exact `n #[b,rfl,h]
theorem RpG.less{d:D}(l:`Go)(h:`nY):RpG K H B' d a:=`ams (λ_ e=>e) (`ju l) h
inductive ResB where
 | nx (δ:Ds)|rt (d:D) (δ:Ds)
abbrev GSB:=Ds->`um
def Kp0(K:`x)(H₀:Hp)(B₀:BS)(D:Ends):ResB->Prop
 | `Bl=>`aRB
 | .rt d δ=>∀v σ H,`G6->D.rt v H
variable{Ga Gb:DL.GSB}
def tDB(K:`x)(H₀:Hp)(B₀:BS)(δ:Ds)(G:GSB):TS:=`SO `ct Kp0 K
structure PSB(X:Cx)(st:`a4)(G:GSB):Prop where
 mk::go:`io PS st `a02
structure PSsB(X:Cx)(st:`b7)(G:GSB):Prop where
 mk::go:`io PSs st `a02
def Z7(G:GS):GSB:=fun δ=>match G δ with
 | `eL=>`eL
 | _=>`f
def nilB:GSB:=`aQb
def o8(G1 G2:GSB):GSB:=fun δ=>match `fc with
 | `eL=>`v'
 | r=>r
def U8(gx:GX):GSB:=`ih `GV (.rt r.1 r.2)
def ifB(gt:GB)(Ga Gb:GSB):GSB:=`aQc
section
variable{c:`I}{st:`a4}{as bs:`b7}{G1 G2:GSB}{gt:GB}
open T in
theorem X4(h:`SP):PSB X st (Z7 G):=.mk λH₀ B₀ δ pins s σ H D I hq154=>by
 apply `hC hq154
 unfold Z7 at e;split at e
 ·rename_i δ' e1
  cases e;apply `UH
 ·cases e
theorem o7:PSsB X [] `K:=.mk λH₀ B₀ δ pins s σ H D I hq155=>by
 apply `hC hq155
 cases e;apply `SR
theorem t6(h1:PSB X st G1)(h2:PSsB X `aV G2):`SS PSsB o8:=.mk λH₀ B₀ δ pins s σ H D I hq156=>by
 skip;apply `hC hq156
 unfold o8 at e;cases e1:`fc with
 | none=>rw[e1] at e;cases e
 | some r1 =>
  rw[e1] at e;cases r1 with
  | nx δ'=>done;apply `an?
  | rt d δ'=>cases e;done;apply `qJ
theorem Y7(h:`qG):PSB X `QU (U8 gx):=.mk λH₀ B₀ δ pins s σ H D I hq157=>by
 apply `aX hq157
 unfold U8 at e1;cases e2:`e8 with
 | none=>apply `am;cases e1
 | some q =>
  apply `am;cases e1;exact `t8 `l_ (`pf λv H' ev=>k v σ H' ev)
theorem M3(hc:`SU)(ha:`a03)(hb:`a04):`SV PSB ifB:=.mk λH₀ B₀ δ pins s σ H D I hq158=>by
 skip;apply `aX hq158
 unfold ifB at e1;apply `aZ;cases e2:`g2 with
 | none=>apply `am;cases e1
 | some t =>
  apply `am;done;refine `aRN `zv `a05;cases t with
  | true=>apply `SW
  | false=>apply `SW
universe zz
def spB(K:`x)(j:Nat)(f:`aP):Sp:=λvs H Q _=>∃(B:BS) (ds:`i) (us:`V) (p:`e) (b b' r:D),`nZ/\B p/\vs=`aoI/\`un/\`aoJ/\`aoK/\`aoL /\
 ∀v H',`zr->`aoM->Rp K H' B r v->`sM
structure FnB(P:`ak)(w:`O)(K:`x)(mg:`a6)(base:`D)(x:Str)(k:Nat)(ps:`h)(j:Nat)(f:`aP):Prop where
 ex:∃fa fd,`Z k ps `a06/\`aoa
@[simp] def K7(N:`h)(j:Nat)(p:`e)(b:D)(ds:`i):Ds:=`a07 .sh++`aR b::(`a08 .sh++`akH (`JC))
def j40{p:`e}{b:D}{d:D}(hj:`un)(h:`m6[i]?=`px):i=j/\d=v5 p b:=by
 unfold K7 at h;have hl:(`y (`a07 `lm))=j:=`a09
 have J:∀(l:`i) (i:Nat),(`dM `lm)[i]?≠`px:=λl i z=>by
  rw[`df] at z;cases q:l[i]? with
  | none=>rw[q] at z;cases z
  | some x=>rw[q] at z;cases z
 by_cases hi:i<j
 ·rw[`hc (`l hl hi)] at h
  exact `a0'
 ·rw[`vy (`cx hl),hl] at h
  cases q:i - j with
  | zero=>rw[q] at h;cases h;exact#[`G,rfl]
  | succ n =>
   rw[q,`aoN] at h
   by_cases hn:n<(`a08 `lm).length
   ·rw[`hc hn] at h
    exact `a0'
   ·rw[`Hp,`qn] at h
    apply `S5
def EndB(G:GSB)(δ:Ds)(j:Nat)(p:`e)(r b':D):Prop:=(`zw δ (`c `aoO))∨(r=`v/\∃δ',`UI/\`a0!)
def fm0{us:`V}{p:`e}{b:D}(hb:`vh)(hp:B p)(hj:`un)(rs:`aoJ)(ro:`aoK):`hf K `Pp `aEW H (`ab1 N (`aoI)) `m6:=by
 have sm:`c1 `Pp H:=#[λb o e=>by
  apply `iN p
  ·apply `tE z `il;cases e
  ·apply `tE z `hp;exact e,λb o xs e=>by
  apply `iN p
  ·exfalso
   rw[z] at e;exact ro.plain o xs e
  ·apply `ny z;exact e]
 have J:(`y (`LP j))=j:=`hh `d0 `_p
 refine#[sm,#[B,λ_ z=>z.1,`jR,#[?_,hb,λi j a O es h1 h2 _ _=>?_]],λi O a h1 h2=>?_,`jR]
 ·by_cases q:a=p
  ·exact `a0? q
  ·exact `amC
 ·unfold L2.start K7
  rw[`a2,`ab,`ca,`ib,`Y,`X,`d0,`le,`_p];refine `Na (rs.take j) (`aa #[p,rfl,hp,s20.mpr #[rfl,ro]] (`Na (rs.drop j) ?_));rw[`bc (min j `bX+(`bX - j+1)=`JC)];exact o40 _
 ·rw[(j40 hj h1).1,(j40 hj h2).1]
 ·let#[rfl,_]:=j40 hj h1
  have:(`ab1 N (`LP i++`gU::`abk i))[i]?=`c `adp:=by
   unfold L2.start;rw[`a2,`ca,`vy `m9,`P,J,`n9];rfl
  rw[`E] at h2;cases h2;simp only[`il]
 ·apply `ny z.2
  exact hb a z.1
theorem oe0{p:`e}(s':`c1 `Pp H'):`zr:=#[λb o z e=>s' b o `a1a,λb o xs z e=>by have:=s'.nf b o xs e;apply `a1b]
def qa0{p:`e}(c1:∀a,`azM->B' a)(hB:B' p)(x:`e)(z:B x):B' x:=by
 by_cases q:x=p
 ·rw[q];exact hB
 ·exact `a1c
section
variable{P:`ak}{w:`O}
def okB{st:`a4}{k j:Nat}{f:`aP}{G:GSB}(F:`y1)(S:`yL)
  (body:`LG PSsB `ayM)
  (hf:∀b ds r b',`aoL->`JC=`aJ/\`aoP) :
  `Z `ef ps `a06:=by
 apply `S6
 ·let#[B,ds,us,p,b,b',r,_,_,hv,_,hr,_,h,_]:=zQ;apply `a1d
  have:=(`a1e).1;lia
 ·let#[B,ds,us,p,b,b',r,hb,hp,hv,hj,rs,ro,h,q]:=zQ;subst hv
  apply `a1f;have en:=`a1g;rcases (`a1e).2 p with⟨δ',e,e'⟩|⟨rn,δ',e,e'⟩
  ·apply `a1h
   apply `aoQ;apply `Hq;apply `Hr;apply `Hs;apply `a1i
  ·apply `a1j
   apply `a1k;apply `Hq;apply `Hr;apply `Hs;apply `a1l
universe zz
def mkB(n:Nat)(N:`h)(j:Nat)(G:GSB)(b:D)(ds:`i):`Y2:=(`a1m `a1n)
def J2{G:GSB}{b:D}{r:D}(h:`aoR):`n'/\`aoP:=by
 unfold mkB at h;split at h
 ·rename_i hh
  have e:=A3 h;have:=x8 hh.2;apply `a3 e;exact`a1o
 ·cases h
def EndB.one{G:GSB}{δ:Ds}{p:`e}{r b r':D}(h:EndB G δ j p r b)(h':EndB G δ j p r' b'):r=r'/\b=b':=by
 have lb:∀{δ1:Ds},δ1[j]?=`aoS->δ1[j]?=`ZE->b=b':=λe1 e2=>by
  rw[e1] at e2;have e8:=A3 e2;injection e8 with e9
  unfold v5 at e9;injection e9 with e10
  exact`a1p
 apply `a1q
 ·have e5:=A3 e3
  injection e5 with e6 e7
  subst e7;exact#[e6,lb e2 e4]
 ·cases e3
 ·cases e3
 ·have e5:=A3 e3
  injection e5 with e7
  subst e7;exact#[rn.trans J.symm,lb e2 e4]
def Y50{G:GSB}{b:D}{r:D}(hl:`n')(h:`aoP):`aoR:=by
 have hh:`n'/\`a1n:=#[hl,(r,b'),h];unfold mkB;rw[dif_pos hh];let#[e1,e2]:=`a1r;exact C7 `c (Prod.ext e1 e2)
def xn0:`Sg->`aH (D×(D->D))
 | `a1s=>`c (`ab!,`UJ)
 | `nm (`Bv)=>`c (`Bv,`UJ)
 | `c `a1t=>`c (`CJ,`UJ)
 | `nm (`z [`Ht,b])=>`c (b,λd=>`z [`Ht,d])
 | _=>`f
open T in
def v30{s:`Sg}{bm:D×(D->D)}(h:xn0 s=`c bm):∃d0,s=`aw8/\∀(K:`x) (H:Hp) (B:BS) (a:`e),`JF d0->`JJ bm.1/\∀(H':Hp) (B':BS) (b':D),RpG K H' B' b' a->RpL K H' B' (bm.2 b') a:=by
 unfold xn0 at h;split at h
 ·cases h
  apply `a1u
 ·cases h
  apply `a1u
 ·rename_i x ns
  cases h;refine`qj λK H B a r=>#[?_,`aEX];rcases r with⟨d',e,h⟩|⟨ks,vs,e,_⟩|h
  ·cases e
  ·cases e
  ·exact h
 ·rename_i p b
  cases h;refine`qj λK H B a r=>?_;rcases r with⟨d',e,h⟩|⟨ks,vs,e,_⟩|⟨x,ns,e,_⟩
  ·cases e
   exact#[h,λH' B' b' r'=>`n #[b',rfl,r']]
  ·cases e
  ·cases e
 ·cases h
def T7(i:Nat)(gA:GA)(f:`aP):GX:=fun δ=>`zx λb=>`a1v
structure PAB(X:Cx)(i j:Nat)(es:`bM)(gA:GA):Prop where
 mk::go:∀B δ,PA X es (`cA (∃ds a,`adg/\`ke/\`jL/\∀vs H',`bb->Rps X.K H' B ds vs->`un->Q `a1w H'))
section
variable{g:GE}{gA:GA}{p:Pos}
theorem pab(i:Nat)(ha:`yX)(hN:`n0)(hv:`uo)(hd:`qL)(hcd:`up)
  (hs:`gm (`J1::es) (`a1x::`u3)):PAB X i 0 (`J1::es) gA:=.mk λB δ=>(O2 `kU `bv hs).imp fun σ H Q hq159=>by
 let#[ds,a,en,h,hi,k]:=hq159
 exact#[_,hi,ds,en,h,λvs H' s r=>k vs H' s r `lj]
theorem zb0(i:Nat){k:Nat}{f:`aP}(C:FnB `cD X.w X.K `cm `fe x k ps j f)(hj:∀b ds q,`sz=`f'->`un)(hr:`qC)(hk:k<=m)(ha:PAB X i j `gX gA)
  (hg:`fo) (hdb:`aO) (he:`dB) (hpl:`eU) :
  PX X `o_ (T7 i gA f):=.mk λH₀ B₀ δ pins s σ H Q I hq160=>by
 skip;apply `gL hq160
 unfold T7 at e1;apply `aZ;let#[fa,fd,F,hm,a1,hb]:=C.ex;apply `zy;let#[d0,hi,Y]:=`n!;apply `UA;cases e3:`aoT with
 | none=>apply `b8;cases e1
 | some q =>
 apply `b8;cases e1;apply `aoU;let#[h1,h2]:=`n? Y;done;refine`b2 (`GG `iQ a1 `zz) Q #[ds,a,env,e2,J,λvs H1 s1 r1 _=>?_];show spB X.K j f (`a1w++[]) H1 _ _;rw[`cg];refine`a1y (hj _ _ _ e3) λv H' hh Z rv=>?_;have U:`zs:=`UK;apply `aoV U Z;apply `a1z
universe zz
def putL(i:Nat)(g:GE):`be:=λv δ=>match `b4 with
 | `nm (`z [`Ht,`Gt])=>`lV λd=>`Td λk=>`aW (`jc<`W) (`cO (`z [`Ht,`dk `a1A (wu0 ks ds k v)]))
 | _=>`f
section
variable{g:GE}
open T in
theorem Ni0(i:Nat)(hu:`lX)(h:`cX)(hN:`dg)(hv:`d')(hd:`aO)(hcd:`dA)
  (ha:`F (∀v,`aW_=(do
   let ov ← `aW0
   let iv ← `aW1
   `aie
   `aif
   `aig)) Ad):PTG X `adu (putL i g):=.mk λH₀ B₀ d δ pins s σ H v u Q I r hq161=>by
 let#[δ',en,e1,k]:=hq161
 unfold putL at e1;apply `amK;split at e1
 ·rename_i p' ks ds hi
  cases e3:`az with
  | none=>apply `b8;cases e1
  | some dk =>
   apply `b8;apply `fp;cases e4:`NF with
   | none=>rw[e4] at e1;cases e1
   | some q =>
    rw[e4] at e1;apply `fp;split at e1
    ·rename_i hz
     cases e1;obtain⟨a,J,hb,⟨d',hq,hr⟩|⟨_,_,hq,_⟩|⟨_,_,hq,_⟩⟩:=`pp
     rotate_left
     ·cases hq
     ·cases hq
     cases hq;let#[xs,hx,hl,rx]:=hr;have hl:`wi:=hl;apply `aW2;have:=ng0 e4 r1;subst this;apply `aW3;apply `aW4;have rr:Rps X.K H1 B (wu0 ks ds q d) ys:=by
      unfold wu0;cases hk:`ua with
      | true=>rw[`bl,U hk];exact `aW5
      | false=>rw[`lY,Y hk];exact `aW6
     rw[hy];have O:`jC (upd H1 a (.dK (`aWS))) (`cO (`z [`ry,`dk (`n (`adt)) (wu0 ks ds q d)])):=`anm hi J (`n #[`dk (`n _) _,rfl,`aW8]);apply `aW9
    ·cases e1
 ·cases e1
universe zz
def xk0{G:GSB}{b:D}{q:D×D}(hn:j+1<=n)(h:`abl=`f'):`un:=by
 have:=(J2 (r:=q.1) (b':=q.2) h).1;lia
universe DL
variable{Ga Gb:DL.GSB}
namespace L2
open Spec PyProof.Rows
section
variable{st:`a4}{t:TS}
theorem R7(h:`gD):PE X e (`bu te λv H'=>`a1B v):=λpins s σ H Q I q =>
 thn `aoW `a1C
theorem z90(h:`gD):PE X e (`bu te `a1D):=λpins s σ H Q I q =>
 thn `aoW λu s' #[v,H',I',r,a,sub,o,k]=>#[v,_,I'.closed o,r,k]
theorem ph0(h:PS X st t):PS X st (`lr (∃a,t `a01 σ H)):=λpins s σ H D I #[a,q] =>
 thn `aoW λf s' z=>SP.closing z
universe zz
universe L2
namespace DL
open Spec PyProof.Rows L2
def K4(k:Nat):D:=`z `a1E
def vl0(k:Nat):xx0 `a1E=`ff:=by
 show (`w (("@" : Str) = "@") (`c (k:Int).toNat) `f)=_;rw[`bl];rfl
mutual
def nrf:`d9
 | `dm=>(`k1).isNone&&`_7
 | _=>`d
def vf0:`wa
 | []=>`d
 | `aI=>nrf d&&`_7
end
section
def vj0:`rr [] xs=(`yG):=by unfold RpNs;rfl
def zt0{d:D}:`rr `jy xs=`aQU:=by conv=>lhs;unfold RpNs
def v70:`Zm `o?=(`aQT):=by conv=>lhs;unfold RpN
theorem N7:`lM (`im↔`b! (RpN K H B as) ds xs)
 | [],xs=>by
  rw[vj0];constructor
  ·rintro rfl;exact `R
  ·intro h;cases h;rfl
 | `aI,xs=>by
  rw[zt0];constructor
  ·rintro⟨x,r,rfl,h1,h2⟩;exact `aa h1 (`sa h2)
  ·intro h;cases h with
   | cons h1 h2=>exact`lI h1 (`UL h2)
mutual
theorem X10:`Gr (`kk->`lO->`db)
 | `v,_,_,h=>`UM
 | `b6,_,_,h=>`UM
 | `cV,_,_,h=>`UM
 | `cc,_,_,h=>`UM
 | `dm,_,n,h=>by
  unfold nrf at n;rw[`bg] at n;rw[v70] at h;rw[N5];skip;rcases h with⟨k,a,e,_⟩|⟨_,a,xs,e,q,r⟩
  ·rw[e] at n;cases n.1
  ·done;exact#[a,xs,e,q,lg0 n.2 r]
 | `eh,_,_,h=>`aoX
 | `lL,_,_,h=>`aoX
 | `t5,_,_,h=>`aoX
theorem lg0:`lM (`UN->`im->`bB)
 | [],_,_,h=>by rw[vj0] at h;rw[c7];exact h
 | `aI,_,n,h=>by
  unfold vf0 at n;rw[`bg] at n;rw[zt0] at h;apply `Gs;rw[j6];exact#[x,r,e,X10 n.1 h1,lg0 n.2 h2]
end
mutual
theorem ia0:`Gr (`kk->`db->`lO)
 | `v,_,_,h=>`UO
 | `b6,_,_,h=>`UO
 | `cV,_,_,h=>`UO
 | `cc,_,_,h=>`UO
 | `dm,_,n,h=>by
  unfold nrf at n;rw[`bg] at n;rw[N5] at h;rw[v70];apply `Sr;refine `q #[?_,a,xs,e,q,k70 n.2 r];cases z:`k1 with
  | none=>rfl
  | some k=>rw[z] at n;cases n.1
 | `eh,_,_,h=>`aoY
 | `lL,_,_,h=>`aoY
 | `t5,_,_,h=>`aoY
theorem k70:`lM (`UN->`bB->`im)
 | [],_,_,h=>by rw[c7] at h;rw[vj0];exact h
 | `aI,_,n,h=>by
  unfold vf0 at n;rw[`bg] at n;rw[j6] at h;apply `Gs;rw[zt0];exact#[x,r,e,ia0 n.1 h1,k70 n.2 h2]
end
theorem RpN.same{d:D}(s:`bb)(h:`lO):`a1F:=RpN.mono `xd `aoZ h
theorem RpNs.same(s:`bb)(h:`im):RpNs K H' B as ds xs:=`akY `xd `aoZ h
open T in
def RpNs.atI{i:Int}{d:D}(r:`im)(h:DL.atI ds i=`a9):∃v,`alS=`bQ/\`lO:=by
 have p:=`sa r;rw[Ou0];unfold DL.atI at h ⊢;rw[← `sn p];cases e:ixN `bX i with
 | none=>rw[e] at h;cases h
 | some j =>
  rw[e,`p] at h;rw[`p];exact `xp p h
universe zz
theorem dk0:∀{as:`aY} {sos:`Gv} {k:Nat} {c:`e} {so:`dW},`qw->`np->`pK->`a1G
 | [],_,_,_,_,_,h,_=>`iG
 | `dC,[],_,_,_,_,_,h=>`iG
 | x::as,y::sos,0,c,so,_,h1,h2=>by
  simp at h1 h2;subst h1 h2;rw[`d!,`gI,`P8]
 | x::as,y::sos,k+1,c,so,nd,h1,h2=>by
  rw[`anC] at nd;have h1':`np:=`CR
  have J:`a1H:=`pI λz=>nd.1 (z▸C9 h1')
  rw[`d!,`gI,J];exact dk0 nd.2 h1' (`anE)
theorem xd0:∀{as:`aY} {sos:`Gv} {c:`e},c∉as->(`bP).lookup c=`f
 | [],_,_,_=>`a_
 | `dC,[],_,_=>`a_
 | x::as,y::sos,c,h=>by
  rw[`pr] at h;have hne:`a1H:=`a1I
  rw[`d!,`gI,hne];exact xd0 `ao_
def t30(hl:`SA){c:`e}(h:c∈as)(nd:`qw):∃so,`a1G:=by
 let#[k,hk,e]:=D70.mp h;exact#[sos[k],dk0 nd (by rw[`jt hk,e]) (B6 `c?)]
theorem RpW.in0(h:`f3):a∈as:=C9 h.hd
def RpW.openOk(h:`f3):`NG H a `eJ:=by
 refine#[`yS,?_,λb C dx fs hm=>xd0 ?_]
 ·let#[so,e]:=t30 `nX h.in0 h.nd
  rw[e];rfl
 ·let#[k,hk,e]:=D70.mp hm
  rw[`a1J] at e;have J:`UP:=by rw[`vI] at hk;lia
  have e2:`aA7:=`l (`jt J) (C7 `c (k9 e).2)
  let#[n,_,hn]:=`o0 h.all e2;unfold NodeOk at hn;split at hn
  ·let#[xs,z,_]:=hn;cases z
  ·let#[xs,z,_]:=hn;cases z
  ·skip;let#[C',O,U,xs,z,_,_,_,q,_]:=hn
   done;injection z with z1 z2 z3
   rw[z2];exact q
  ·exact hn.elim
def RpW.opAt(h:`f3){k:Nat}{c:`e}(h1:`np)(h2:`pK):`jd H `eJ c=`NH:=by
 unfold opened;rw[dk0 h.nd h1 h2]
def v50{b:`e}(h:`UQ):`a1K=H b:=by
 unfold opened;rw[xd0 h]
def bx0{Ho:Hp}(off:∀b,`UQ->Ho b=H b)(own:∀b∈as,`acu)(hl:`SA)(nd:`qw)(ha:a∈as):`gZ Ho a `eJ=upd H a `aD':=by
 funext b
 unfold closed upd
 apply `nI
 ·rw[`fm,`fm]
 ·rw[`ev,`ev]
  by_cases hm:b∈as
  ·let#[so,e]:=t30 hl hm nd
   rw[e];rcases own b hm with z|z
   ·exact `a1L
   ·exact `sQ
  ·rw[xd0 hm]
   exact off b hm
def pu0{Ho:Hp}(hd:`aQZ)(nd:`qw)(hl:`SA)(at':∀(k:Nat) c so,`np->`pK->Ho c=`NH)(ins:`aQ_):`i9 Ho a `eJ:=by
 have ge:∀p∈`bP,∃k,`Zo=`c p.1/\`Zs=`w4:=λp hp=>by
  let#[k,hk,e]:=D70.mp hp;have J:=hk;rw[`vI] at J;rw[`a1J] at e;exact#[k,`a1M,`a1M]
 refine#[?_,`gz,λp hp C dx fs e=>?_]
 ·let#[so,e]:=t30 hl (C9 hd) nd
  rw[e];rfl
 ·let#[k,e1,e2]:=ge p hp
  exact at' k _ _ e1 e2
 ·let#[k,e1,e2]:=ge p hp
  rw[e] at e2;rw[ins k _ _ _ e2,hd] at e1;exact(A3 e1).symm
def RpW.back(h:`f3):`i9 `x1 a `eJ/\`gZ `x1 a `eJ=H:=by
 refine#[`a1N `a1O,?_];rw[bx0 (H:=H) (λb hb=>v50 hb) `a1P `nX h.nd h.in0]
 funext b
 unfold upd
 apply `nI
 ·rw[`fm,hb,`yS]
 ·rw[`ev]
theorem RpW.same(s:`bb)(h:`f3):`Ze K H':=#[h.hd,h.nd,s _ _ `yS,`afx λz=>#[z.1,s _ _ z.2],`nX,`ak1 (`dq `xd),h.ins]
def RpW.put(h:`f3)(hB:B a){k:Nat}{c:`e}{so':`dW}(h1:`np)(h2:`pK)(r:`lP K H B as n' so')(hi:`a1Q) :
  `i9 `a1R a `adT/\`gZ `a1R a `adT=`a1S /\
   RpW K (`a1S) B `a1T a as (`Pr):=by
 have hl:`hX=(`y `Pr):=`l List.length_set `nX
 have hk:`UP:=(`ds h2).1;have ins:∀(j:Nat) C dx fs,(`Pr)[j]?=`oR->j=0:=λj C dx fs e=>by
  skip;rcases `ji e with⟨rfl,e,_⟩|⟨_,e⟩
  ·done;exact hi C dx fs e
  ·done;exact h.ins j C dx fs e
 refine#[pu0 h.hd h.nd hl (λj d s e1 e2=>?_) ins,bx0 `QI `a1P hl h.nd h.in0,h.hd,h.nd,d8,`js,hl,?_,ins]
 ·skip;rcases `ji e2 with⟨rfl,e,_⟩|⟨n,e⟩
  ·rw[h1] at e1
   cases e1;done;rw[d8,e]
  ·have:d≠c:=λz=>by
    let#[g1,g2]:=`ds h1;let#[g3,g4]:=`ds e1;exact n ((B30 h.nd).mp (g2.trans (z▸g4.symm)))
   done;rw[`G4];exact h.opAt e1 e
 ·have:b≠c:=`p_ hb (C9 h1)
  rw[`G4];exact v50 hb
 ·rcases `ayb with z|z
  ·exact `fG
  ·by_cases q:b=a
   ·exact `nJ
   ·exact `q #[z.1,`l (j4 q) z.2]
 ·exact `Gy (`a1U) k (`ak1 `a1U)
def dpN(i:Nat)(δ:Ds):`u6:=`zx λb=>match b.1 with
 | `z (`cc::ns)=>`c ns
 | _=>`f
def setN(i k:Nat)(n:D)(δ:Ds):Ds:=match `rW with
 | `ad_=>`cO (`xr (`adU k n))
 | _=>δ
structure AtN(K:`x)(H:Hp)(B:BS)(σ:St)(δ:Ds)(i:Nat)(a:`e)(ns:`i)(as:`aY)(sos:`Gv):Prop where
 sl:`jL
 bad:B a
 dp:`Pt
 w:`f3
section
variable{σ:St}{δ:Ds}
open T in
def Env.atN(e:`bn)(h:`Pt):∃a as sos,`uq:=by
 have h0:=h;unfold dpN at h;cases eb:`rW with
 | none=>rw[eb] at h;cases h
 | some bm =>
  rw[eb,`p] at h;let#[d0,hi,J]:=`n!;let#[a,O,hB,ro]:=`ado;let#[h1,_]:=`n? J;split at h
  ·rename_i x ns' hbm
   cases h;rw[hbm] at h1;let#[y,ms,e1,as,sos,w]:=h1;cases e1;exact#[a,as,sos,O,hB,h0,w]
  ·cases h
theorem AtN.same(s:`bb)(h:`uq):`awD H':=#[h.sl,h.bad,h.dp,h.w.same s]
open T in
def Env.setN(e:`bn)(h:`uq){k:Nat}{o:HO}{sos':`Gv}(w:RpW K `hn B `a1T a as' sos') :
  ∃d0 d,`G3/\`a1V=`awv/\`aUM:=by
 have dp:=h.dp;unfold dpN at dp;cases eb:`rW with
 | none=>rw[eb] at dp;cases dp
 | some bm =>
  rw[eb,`p] at dp;let#[d0,hi,U]:=`n!;let#[a',O,hB,ro]:=`ado;let#[_,h2]:=`n? U;split at dp
  ·rename_i x ns' J
   have dp:=A3 dp;subst dp;rw[h.sl] at O;cases O;let#[bd,mk]:=bm;have J:bd=`z (`c9::ns'):=J;subst J;refine#[d0,`xr (ns'.set k n'),hi,?_,e.mut hi h.sl (h2 _ _ _ #[x,_,rfl,as',sos',w])];unfold DL.setN;rw[eb]
  ·cases dp
universe zz
universe DL
namespace DL
open Spec PyProof.Rows L2
def tN(K:`x)(B:BS)(δ:Ds)(i:Nat)(g:GE):TE:=`cA (∃d a ns as sos,`bn/\`iM/\`uq/\∀v H',`bb->`a1F->`sM)
structure PN(X:Cx)(i:Nat)(e:`I)(g:GE):Prop where
 mk::go:`xe PE (tN X.K B δ i g)
def lm0(ns:`i):`AV
 | `dm=>`ao0 `ao1
 | _=>`f
def if0(ns:`i)(d y:D):`dE:=match d,y with
 | `dm,`gW=>(match `k1 with
  | `ff=>(match `jG with
   | `l0=>atI es z
   | _=>`f)
  | `f=>atI ds z)
 | _,_=>`f
def z10(i:Nat)(ga gb:GE):GE:=`Gh λd=>`akC λy=>`gM λns=>if0 ns d y
def j7(i:Nat):GE:=fun δ=>(`os).map λ_=>K4 0
def plN(g:GE):GE:=`gJ λd=>`w `kk `a9 `f
def zh0(i:Nat)(g:GE):GE:=fun δ=>`lV λd=>`gM λns=>match `Hu with
 | `l0=>`c (`g `ho)
 | _=>`f
section
variable{σ:St}{δ:Ds}
open T in
def RpW.node(w:`f3){d n:D}(r:`lO)(h:`Hu=`v4):∃(k:Nat) (c:`e) (so:`dW),v=`ym/\`np/\`pK/\`jG=`v4/\`Sz:=by
 unfold lm0 at h;split at h
 ·rename_i ds
  cases e:`k1 with
  | none=>rw[e] at h;cases h
  | some k =>
   rw[e,`p] at h;rw[v70] at r;apply `a1W
   ·rw[e] at e1
    cases e1;let#[so,hs,hn]:=`xp w.all h;exact#[k,c,so,e3,e2,hs,h,hn]
   ·rw[e] at e1;cases e1
 ·cases h
theorem vg0{es:`i}(h:`_W `JD):∃xs,`ak_/\`rr es xs:=h
universe zz
section
variable{a:`I}{p:Pos}{g ga gb:GE}
theorem V4(i:Nat)(hN:`dg)(hv:`d')(hd:`aO)(hcd:`dA) :
  PN X i `k' (j7 i):=.mk λB δ=>`aRl fun σ H Q hq162=>by
 skip;let#[d,a,ns,as,sos,en,h,at',k]:=hq162
 unfold j7 at h;rw[`zA] at h;cases h;done;refine#[_,`gA,`Nb];unfold K4;rw[v70];exact `n #[0,a,vl0 0,`xq,rfl]
theorem xv0(h:`UR)(hdp:∀δ d,`iM->`ao2):PD X e (plN g):=.mk λB δ=>(h.go B δ).imp fun σ H Q hq163=>by
 let#[d,en,e1,k]:=hq163
 unfold plN at e1;cases e2:`az with
 | none=>apply `am;cases e1
 | some d' =>
  apply `Hv;split at e1
  ·rename_i hn
   cases e1;have:=hdp δ _ e2;cases e3:`os with
   | none=>apply `a3 e3;cases `E
   | some ns =>
    apply `a1X;exact#[d,a,ns,as,sos,en,e2,at',`DX (k v H' s (X10 hn r))]
  ·cases e1
open T in
def mc0{δ:Ds}{d:D}(h:z10 i ga gb δ=`a9):`ao2:=by
 unfold z10 at h;let#[x,e1,h]:=`f7;let#[y,e2,h]:=`f7;cases e:`os with
   | none=>rw[e] at h;cases h
   | some ns=>rfl
theorem p90(ha:PN X i a ga)(hb:`dS)(hs:`SJ):PN X i `F7 (z10 i ga gb):=.mk λB δ =>
 (z90 (S80 (U80.or Xt0) `zz (R7 (`BJ B δ)) hs)).imp fun σ H Q hq164=>by
  skip;let#[d,ad,ns,as,sos,en,h,at',k]:=hq164
  unfold z10 at h;let#[dx,e1,h]:=`f7;cases e2:`fL with
  | none=>rw[e2] at h;cases h
  | some y =>
  rw[e2,`p,`zA,`p] at h;done;refine#[dx,ad,ns,as,sos,en,e1,at',`aEa];have J:=(`iU).same s2;apply `Hw;apply `ao3;have U:=`r5;have O:=`ow;unfold if0 at h;split at h
  ·skip;rename_i ds z
   rw[Y0] at r2;subst r2;cases e3:`k1 with
   | some kk =>
    rw[e3] at h;dsimp only at h;split at h
    ·rename_i es hes
     have hn:lm0 ns `o?=`l0:=by show `ao0 (`ao1)=_;rw[e3];exact hes
     apply `ao4 (`adV U hn);apply `qN;apply `a1Y;done;refine `n (`a1Z `aau);rw[c2];exact `a1_
    ·cases h
   | none =>
    rw[e3] at h;dsimp only at h;rw[v70] at U;rcases U with⟨k',c,f,_⟩|⟨_,c,xs,rfl,q,rx⟩
    ·rw[e3] at f;cases f
    ·apply `a1Y
     have hc:c∉as:=λz=>by
      rcases J.w.own c z with z|z
      ·exact(`fs O).bad c (z▸`ur) |>.nt xs q.2
      ·rw[q.2] at z;cases z.2
     done;refine `q (`a1Z (`n (`n (`l (v50 hc) q.2))));rw[c2];exact `a1_
  ·cases h
theorem vd0(hm:`aTq)(ha:`UR)(hg:`aTr)(he:`f5)(hpl:`ki) :
  PD X `aTs (zh0 i g):=.mk λB δ=>(z90 (ou0 jd0 hg hm c6 (O2 (R7 `zz) zy0 he) `r `r he hpl)).imp fun σ H Q hq165=>by
 skip;apply `bi hq165
 unfold zh0 at h;let#[dx,e1,h]:=`f7;let#[ns,e2,h]:=`f7;let#[ad,as,sos,at']:=en.atN e2;done;apply `a10;have J:=`iU;apply `Hw;apply `ao3;skip;split at h
 rotate_left
 ·cases h
 rename_i es hn;cases h;apply `ao4 `a11;apply `qN;done;refine#[c,xs,rfl,`n (`aau),ad,`bP,c1,?_];rw[c2];exact k _ H1 s1 (by rw[Y0,`US])
universe zz
universe DL
namespace DL
open Spec PyProof.Rows L2
section
variable{σ σ':St}{δ:Ds}
def EnvS.takeL(en:`ct)(b1:`mM)(b2:`mN)(e:`bn)(i:Nat){d:D}{p:`e}(hp:`eN)(s:`bb)
  (r:RpL K H' `wS d p):`aU5:=by
 apply `aU6
 have J:`alk:=`amz;have live:`aU7:=λ{j d' b} h1 h2=>by
  apply `aU8;rw[h2] at q1;cases q1;apply `aU9
 apply `aU'
 ·apply `Tw
  ·exact `ac'
  ·exact `q J
 ·refine `aU! r
  cases sl with
  | un=>trivial
  | ex c n=>apply `gK;apply `GO
  | sh d=>apply `gK;apply `GO
  | ow d=>apply `Ts;apply `aU?
 ·apply `Tw
  ·exact`aVa
  ·exact `t6
 ·skip;apply `Tx
  ·apply `Ty
   ·done;rfl
   ·apply `aVb
    ·cases e3
     apply `G5;done;exact `aVc
    ·done;exact `Tz
  ·apply `Ty
   ·apply `aVd
    ·cases e4
     rw[`qF] at h3;done;exact `aVe
    ·done;exact `aVf
   ·rw[`qF] at h3
    apply `G5;done;apply `SF
 ·skip;apply `Tx
  ·apply `aVg
   ·cases e3;done;exact J
   ·done;exact `Tz
  ·rw[`qF] at h2
   done;apply `amA
universe zz
def t70:D->`RH
 | `dm=>`k1
 | _=>`f
def on0(i:Nat)(go gv:GE):GX:=fun δ=>`zB λd=>`Hx λdv=>`gM λns=>`Hy λk=>match `jG with
 | `l0=>`aW (`a12/\`ho<`W) (`v,`UT `a13)
 | _=>`f
section
variable{σ:St}{δ:Ds}
open T in
def Lm0{d:D}{k:Nat}(h:t70 d=`ff):`Hu=`jG:=by
 unfold t70 at h;split at h
 ·rename_i ds
  show `ao0 (`ao1)=_;rw[h];rfl
 ·cases h
open T in
def RpW.nodeK(w:`f3){d n:D}{k:Nat}(r:`lO)(h:t70 d=`ff)(hn:`jG=`v4):∃(c:`e) (so:`dW),v=`ym/\`np/\`pK/\`Sz:=by
 unfold t70 at h;split at h
 ·rename_i ds
  rw[v70] at r;apply `a1W
  ·rw[h] at e1
   cases e1;let#[so,hs,hn]:=`a14;exact#[c,so,e3,e2,hs,hn]
  ·rw[h] at e1;cases e1
 ·cases h
def EnvS.setN(en:`ct)(b1:`mM)(b2:`mN)(env:`bn)(s:`bb)(h:`uq){k:Nat}{c:`e}{so':`dW}{n':D}(h1:`np)(h2:`pK)
  (r:`lP K H' B as n' so') (hi:`a1Q) {d:D} {v:V} (rv:`ab_) :
  ∃sub',`i9 `a15 a sub'/\EnvV K `ae `ac (`gZ `a15 a sub') σ (`a1V) d v:=by
 have h':=`SE s;let#[p1,p2,p3]:=h'.w.put h.bad h1 h2 r hi;refine#[_,p1,?_];rw[p2];let#[d0,d',O,e1,J]:=(`hM s).setN h' p3;rw[e1];exact `te (`EW s b1 b2 O h.sl J) J (`NQ (`A? h.bad))
universe zz
section
variable{f:`I}
open T in
theorem c10(ho:`Hz)(h1:PD X e g1)
  (hbase:`a16)
  (hfew:`F ((`qB
  &&`TH)=`d) Aa)
  (hline:`gG) (hs:`f5) (hplain:`n2) :
  PX X (`tt `aE1 [e]) (on0 i go g1):=.mk λH₀ B₀ δ pins s σ H Q I hq166=>by
 apply `aX hq166
 unfold on0 at e1;apply `aZ;apply `UU;let#[dv,e4,e1]:=`cG;let#[ns,e5,e1]:=`cG;let#[kk,e6,e1]:=`cG;split at e1
 rotate_left
 ·cases e1
 rename_i es hnode;split at e1
 rotate_left
 ·cases e1
 rename_i hz;cases e1;apply `ao5;refine `a17 D20 D30 nq0;have J:=`iU;apply `UV;apply `qN;refine`a18;apply `Hw;refine`a19;rw[c2];refine#[dv,`kB,e4,`Dn];have U:=`ow;have O:=`ru U;have Z:=`ao6;refine#[_,O.w.openOk,c,xs,v2,rfl,rfl,`a1',`cd `US hz.2,?_];have nk:`lP X.K H2 B as `a13 (`o (xs++[v2])):=#[_,rfl,`UW (`sa Z) (ia0 hz.1 r2)];let#[Y,q1,q2]:=`ao7 U;exact#[a,Y,q1,k _ _ q2]
universe zz
universe DL
namespace L2
open Spec PyProof.Rows
section
variable{t:TA}{m:Str}{k:Nat}{f C:`e}{E:XK}{ds:`J}
theorem V50(h:`yB):PA X es (`bu t λvs H'=>`a1B vs):=λpos pins s σ H Q I q =>
 thn (`ZV h q) `a1C
theorem aa0(h:`yB):PA X es (`cA (∃a sub,`uk/\t σ `ul Q)):=λpos pins s σ H Q I #[a,sub,c,q]=>h pos `s s σ _ Q (`Po) q
def O20{pl:`iE}(he:`tU)(c:`tS)(hm:`Ri)(F:`yC)(hr:`nQ)(hb:`lF)(hd:`lG)(hx:`yD)
  (ht:`F (`a1!=(do
   let ov ← `oC
   `nR
   let (f,`iI) ← `qm
   `UX)) Aa) :
  PE X `adX (`bu ta (`a1? E)):=by
 apply `bm;refine `Rk λu s1 hq167=>?_;skip;apply `a2a hq167;subst ex;apply `qk;done;apply `Rl;exact `a2b (Wt0 (us:=`en) (vs:=`en) F hr hb hd hx (I1.closed cl) `akh q)
universe zz
universe L2
namespace DL
open Spec PyProof.Rows L2
def tl0:`i->`i->Str->`dE
 | `t n::fs,`aI,f=>`w (n=f) `a9 (tl0 fs ds f)
 | _,_,_=>`f
def kc0:`i->`i->Str->D->`i
 | `t n::fs,`aI,f,v=>`w (n=f) (v::ds) (d::kc0 fs ds f v)
 | _,ds,_,_=>ds
theorem j10:∀{ns:`h} {ds:`i} {xs:`V} {f:Str} {d:D},`im->`a2c=`a9->∃v,(`M6).lookup f=`bQ/\`lO
 | [],_,_,_,_,_,h=>by apply `zC;cases h
 | `qO,[],_,_,_,_,h=>by rw[`ab] at h;apply `zC;cases h
 | `qO,d'::ds,xs,f,d,r,h=>by
  rw[zt0] at r;apply `anh;rw[`ab] at h;apply `zC;rw[`d!,`gI]
  by_cases e:n=f
  ·rw[`f6] at h
   cases h;rw[show (f==n)=`d from `FZ e.symm];exact`Su
  ·rw[`eZ] at h
   rw[show `a2d from `pI (A9 e)];exact j10 h2 h
theorem d60:∀{ns:`h} {xs:`bd} {f:Str},f∉ns->(`M6).lookup f=`f
 | [],_,_,_=>`a_
 | `dC,[],_,_=>`a_
 | `qO,`nO,f,h=>by
  rw[`pr] at h;rw[`d!,`gI,show `a2d from `a1I];exact d60 `ao_
theorem gx0{f:Str}{d:D}(rv:`lO):∀{ns:`h} {ds:`i} {xs:`V},`im->`gh=`_->f∈ns ->
  ∃ys,xz0 f v (`M6)=`Kx ns ys/\`gh=`cq/\`rr (kc0 (`ac3) ds f d) ys
 | [],_,_,_,_,h=>by cases h
 | `qO,[],xs,r,hl,_=>by rw[vj0] at r;subst r;cases hl
 | `qO,d'::ds,xs,r,hl,hf=>by
  rw[zt0] at r;apply `anh;rw[`d!,`ab];unfold xz0 kc0
  by_cases e:n=f
  ·rw[`f6,`f6]
   refine#[v::r',rfl,hl,?_];rw[zt0];exact#[v,r',rfl,rv,h2]
  ·rw[`eZ,`eZ]
   let#[ys,e1,e2,e3]:=gx0 rv h2 `Z? (`Mu (`cy hf) (A9 e));refine#[x::ys,`ao8,by rw[`X,`X,e2],?_];rw[zt0];exact#[x,ys,rfl,h1,e3]
structure ClsN(K:`x)(c:Str)(fs:`h):Prop where
 ok:∀C,`jF->`td/\∀f∈fs,`yz
def J9{o:`P3}{f:`aG5}{r:β}(h:`aG6):`aG7:=by
 cases o with
 | none=>cases h
 | some a=>exact`aG8
def M60:`Gj
 | `z l=>`oa
 | _=>`f
def S60:`Gj
 | `vk=>`oa
 | _=>`f
def Sr0:D->`aH Str
 | `t l=>`oa
 | _=>`f
def unL:`i->`aH (D×`i)
 | a::l=>`c (a,l)
 | []=>`f
def Pr0{d:D}(h:M60 d=`oa):d=`z l:=by
 cases d<;>cases h
 rfl
def Xs0{d:D}(h:S60 d=`oa):d=`vk:=by
 cases d<;>cases h
 rfl
def Vx0{d:D}{l:Str}(h:Sr0 d=`oa):d=`t l:=by
 cases d<;>cases h
 rfl
def p20{m:`i}{a:D}(h:unL m=`c (a,l)):m=a::l:=by
 cases m<;>cases h
 rfl
def i10(d:D):`aH (Str×`i×`i):=`a2e λc=>`ao9 λp=>`a2f λf=>`ao9 λp=>`a2f λe=>`w (p.2.isEmpty=`d) `ao' `f
def m80{d:D}{f e:`i}(h:i10 d=`ao'):d=`z [`ni,`o f,`o e]:=by
 skip;unfold i10 at h;let#[l,w0,h]:=J9 h;let#[#[x,l1],w1,h]:=J9 h;let#[c,w2,h]:=J9 h;let#[#[y,l2],w3,h]:=J9 h;let#[f,w4,h]:=J9 h;let#[#[z,l3],w5,h]:=J9 h;let#[e,w6,h]:=J9 h;have h:(`w (l3.isEmpty=`d) `ao' `f)=`c _:=h;split at h
 ·rename_i hz
  cases h;rw[List.isEmpty_iff.mp hz] at w5;done;rw[Pr0 w0,p20 w1,Vx0 (d:=x) w2,`a2g,Xs0 (d:=y) w4,p20 (m:=l2) w5,Xs0 (d:=z) w6]
 ·cases h
def j5(i:Nat)(c f:Str)(g:GE):GE:=`gJ λd=>`gM λns=>((`Hu).bind i10).bind λr=>`w `zD `ao! `f
theorem rw0{fs:`i}(h:`_W (`aQX)):`aQY:=h
section
variable{p:Pos}{g ga gb:GE}{f:Str}
def w70{δ:Ds}{d:D}(h:j5 i c f g δ=`a9):`ao2:=by
 unfold j5 at h;let#[x,e1,h]:=`f7;cases e:`os with
  | none=>rw[e] at h;cases h
  | some ns=>rfl
theorem V2(ha:`UR)(hc:`HA)(hf:`HB)(hb:`F (`aMf) Aa):PN X i `ai? (j5 i c f g):=.mk λB δ =>
 (z90 (Em0 (R7 `zz) hb)).imp fun σ H Q hq168=>by
  skip;let#[d,ad,ns,as,sos,en,h,at',k]:=hq168
  unfold j5 at h;cases e1:`az with
  | none=>rw[e1] at h;cases h
  | some dx =>
  rw[e1,`p,`zA,`p] at h;done;apply `a10;have J:=`iU;apply `Hw;apply `ao3;skip;let#[#[c',fs,ds],hn,h]:=J9 h;let#[_,hn,hi]:=J9 hn;cases m80 hi
  done;try dsimp only at h
  skip;split at h
  rotate_left
  ·cases h
  rename_i hcc;subst hcc;let#[k',a,so,rfl,f1,f2,f3,f4]:=`a11;let#[C,O,nm,xs,rfl,rfl,hl,hC,U,rx]:=rw0 f4;let#[v,hv,rv]:=j10 rx h;apply `HC;done;refine#[a,C,O,_,v,rfl,`Mk,q1,`Ps,hv,ad,`bP,c1,?_];rw[c2];exact k v H1 s1 rv
universe zz
def t80(i:Nat)(c f:Str)(gv:GE):GS:=fun δ=>`a2h λr=>`aW (`zD/\`a12/\`sm `ao!/\`ad8) (.nx (`a2i dv))
def Yj0(i:Nat)(c f:Str)(gv:GE):GS:=fun δ=>`Hx λdv=>`gM λns=>`ao? λp=>`apa λr=>if `zD/\`ad8 then (match `ao!,dv with
  | `c (`F9),`oE=>`ar (`a2i (`g (a+b)))
  | _,_=>`f) else `f
theorem j80:∀{ns:`h} {ds:`i} {f:Str},`sm `a2c->f∈ns
 | [],_,_,h=>by apply `zC;cases h
 | `qO,[],_,h=>by rw[`ab] at h;apply `zC;cases h
 | `qO,`aI,f,h=>by
  rw[`ab] at h;apply `zC
  by_cases e:n=f
  ·rw[e];exact A8
  ·rw[`eZ] at h
   exact A6 _ (j80 h)
section
variable{gv:GE}{f:Str}
open T in
theorem rt0(i:Nat)(hv:`apb)(hc:`HA)(hf:`HB)(hN:`dg)(hvis:`d')(hd:`aO)(hcd:`dA)
  (hs:`apc):`apd t80 gv:=.mk λH₀ B₀ δ pins s σ H De I hq169=>by
 apply `gL hq169
 unfold t80 at e1;apply `aZ;apply `iV;apply `ape;apply `iV;apply `UY;apply `UZ;clear e1;apply `U_;clear e0;cases `U0;apply `U1
 apply `U2
 split at e1
 rotate_left
 ·cases e1
 rename_i hq;let#[a2,hn,a3,O]:=hq;subst a2;cases e1;apply `U3;apply `a2j;have J:=`iU;apply `apf;apply `a2k;apply `HC;apply `a2l
 ·apply `Dp
  rw[`P] at O;exact O
 ·let#[ys,y1,y2,y3]:=gx0 (ia0 (as:=as) hn r1) rx hl (j80 a3)
  rw[y1];let#[Z,z1,z2]:=`U4 b1 b2 env s1 at' `Ml Y (n':=`a2m dv) (so':=.ins C U `a2n) (`a2o U) `U5 (d:=`v) (v:=`v) `pY;apply `U6
open T in
theorem Mb0(i:Nat)(hv:`apb)(hc:`HA)(hf:`HB)(hN:`dg)(hvis:`d')(hd:`aO)(hcd:`dA) :
  PSD X (`aMl `g_ .Add) (Yj0 i c f gv):=.mk λH₀ B₀ δ pins s σ H De I hq170=>by
 apply `gL hq170
 unfold Yj0 at e1;apply `aZ;apply `iV;apply `ape;apply `iV;apply `UY;apply `UZ;clear e1;apply `U_;clear e0;cases `U0;apply `U1
 apply `U2
 split at e1
 rotate_left
 ·cases e1
 rename_i hq;let#[a2,O]:=hq;subst a2;split at e1
 rotate_left
 ·cases e1
 rename_i n1 n2 hlk;cases e1;apply `U3;refine `afB (Of0 `afz (f70 `afA) Gs0) #[a,`a?,`gA,a,`bP,at'.w.openOk,?_];let#[so,Y,nk]:=`abn `ad1;let#[C,J,nm,xs,rfl,rfl,hl,hC,a1,rx]:=`NL;apply `HC;let#[v,a3,rv]:=j10 rx hlk;unfold RpN at rv;subst rv;let#[c1,c2]:=at'.w.back;refine#[a,C,J,_,`g n1,rfl,at'.w.opAt `xq Y,q1,`Ps,a3,a,`bP,c1,?_];rw[c2];refine#[`g n2,env,e2,`Dn];rw[Y0] at r2;subst r2;have U:=`ru s2;refine#[`bP,U.w.openOk,n1,n2,rfl,rfl,J,_,U.w.opAt U.w.hd Y,?_,?_]
 ·apply `Dp
  rw[`P] at O;exact O
 ·let#[ys,y1,y2,y3]:=gx0 (d:=`apg) (v:=`apg) (f:=f) (by unfold RpN;rfl) (`ao6) hl (j80 (`aw hlk))
  rw[y1];let#[Z,z1,z2]:=`U4 b1 b2 env s2 at' `xq Y (n':=`a2m (`apg)) (so':=.ins C J `a2n) (`a2o J) `U5 (d:=`v) (v:=`v) `pY;apply `U6
universe zz
def Y30(i:Nat)(go gv:GE):GX:=fun δ=>`zB λd=>`Hx λdv=>`gM λns=>`Hy λk=>match `jG,dv with
 | `l0,`vg=>`aW (vf0 fs=`d/\`ho+`Lp<=`W) (`v,`UT (`o (es++fs)))
 | _,_=>`f
def popS(i:Nat)(go:GE):GS:=fun δ=>`zB λd=>`gM λns=>`Hy λk=>match `jG with
 | `l0=>`w (es=[]) `f (`ar (`UT `a2p))
 | _=>`f
section
variable{f:`I}
open T in
theorem I80(ho:`Hz)(h1:PD X e g1)
  (hbase:`wA `TI)
  (hfew:`F ((`qB
  &&`TH)=`d) Aa)
  (hline:`gG) (hs:`f5) (hplain:`n2) :
  PX X (`n3 o `TI [e]) (Y30 i go g1):=.mk λH₀ B₀ δ pins s σ H Q I hq171=>by
 apply `aX hq171
 unfold Y30 at e1;apply `aZ;apply `iV;let#[d,e2,e1]:=e1;apply `iV;let#[dv,e4,e1]:=e1;apply `iV;let#[ns,e5,e1]:=e1;apply `iV;let#[kk,e6,e1]:=e1;split at e1
 rotate_left
 ·cases e1
 rename_i es fs hnode;split at e1
 rotate_left
 ·cases e1
 rename_i hz;cases e1;apply `ao5;refine `a17 x80 x90 ex0;have J:=`iU;apply `UV;apply `qN;refine`a18;apply `Hw;refine`a19;rw[c2];refine#[`vg,`kB,e4,`Dn];have Y:=`ow;have O:=`ru Y;have a1:=`ao6;rw[Q3] at r2;let#[b,zs,rfl,sq,rz]:=r2;let#[nb,hb]:=sq.at;have U:`UQ:=λz=>by
  rcases O.w.own b z with q|q
  ·exact nb (q▸`ur)
  ·apply `a2q
   ·rw[hb] at q;cases q.2
   ·rw[hb] at q;cases q.2
 refine#[_,O.w.openOk,c,b,xs,zs,rfl,rfl,`a1',?_,by rw[← `US,rz.length];exact hz.2,?_]
 ·refine `n ?_
  apply `a2q
  ·exact `n (`a2r)
  ·exact `q #[ob,`a2r]
 have nk:`lP X.K H2 B as (`o (es++fs)) `S':=#[_,rfl,`UL (`yZ (`sa a1) (`sa (k70 hz.1 rz)))];let#[Z,q1,q2]:=`ao7 Y;exact#[a,Z,q1,k _ _ q2]
open T in
theorem gn0(ho:`Hz)
  (hbase:`wA "pop") (hline:`gG)
  (hsw:`jD `a2s `f `m1) :
  PSD X (`CT `a2s pos) (popS i go):=.mk λH₀ B₀ δ pins s σ H De I hq172=>by
 apply `aX hq172
 unfold popS at e1;apply `aZ;apply `UU;let#[ns,e5,e1]:=`cG;let#[kk,e6,e1]:=`cG;split at e1
 rotate_left
 ·cases e1
 rename_i es hnode;split at e1
 ·cases e1
 rename_i hne;cases e1;apply `ao5;refine `a2t (Q70 Q2 xc0 xe0 Qv0 `aph `gH `iK);have J:=`iU;apply `UV;apply `qN;have pr:=`sa rx;obtain⟨dl,e7⟩:∃dl,es[`ho - 1]?=`c dl:=#[_,B6 (by have:=`api hne;omega)];let#[y,hy,ry]:=`xp pr e7;refine#[a,`bP,`no,`adW,c,xs,y,rfl,rfl,`Mk,`cd (`sn pr) hy,?_];have nk:`lP X.K H1 B as `a2p `aj':=by
  refine`qj (`UL ?_);have:∀{l:`i} {m:`V},`b! `a2u l m->`b! `a2u l.dropLast m.dropLast:=by
   intro l m h
   induction h with
   | nil=>exact `R
   | cons r t ih =>
    cases t with
    | nil=>exact `R
    | cons r' t'=>exact `Fv
  exact `E pr
 let#[O,q1,q2]:=`ao7 s1;exact#[a,O,q1,k _ _ q2.s]
universe zz
def RpW.backS(h:`f3)(s:`c1 `x1 H'):`i9 H' a `eJ/\`c1 H (`gZ H' a `eJ):=by
 refine#[`a1N (s _ _ (`a1O)),`aO3,λb o xs e=>?_]
 ·apply `l1
  apply `nI
  ·rw[`fm]
   rw[hb,`yS] at e;exact e
  ·rw[`ev]
   by_cases hm:b∈as
   ·let#[so,q]:=t30 `nX hm h.nd
    rw[q];rcases h.own b hm with z|z
    ·exact `a1L
    ·rw[z.2] at e;exact e
   ·rw[xd0 hm]
    exact s b o (`l (v50 hm) e)
 ·unfold closed at e
  apply `nI
  ·rw[`fm] at e;cases e
  ·rw[`ev] at e
   by_cases hm:b∈as
   ·let#[so,q]:=t30 `nX hm h.nd
    rw[q] at e;cases e
   ·rw[xd0 hm] at e
    have:=s.nf b o xs e;apply `a3 (v50 hm);exact `E
def fnN(i:Nat)(go:GE)(gA:GA)(f:`N):GE:=fun δ=>`zB λd=>`t3 λds=>`gM λns=>match `Hu with
 | `l0=>`qM (`U7/\`zn) ((f (`mR::ds)).bind `a2v)
 | _=>`f
theorem pa0:∀{ds:`i},`zn->`UN
 | [],_=>rfl
 | `aI,h=>by
  unfold flats at h;rw[`nT,`bg] at h;unfold vf0;rw[`bg];refine#[?_,pa0 h.2];cases d<;>first|rfl|(cases h.1)
section
variable{p:Pos}{gA:GA}
open T in
def bc0{k:Nat}{f:`N}(C:`aTv)(hr:`qC)(hk:k<=m)(ho:`Hz)(ha:`yX)(hg:`fo)(hdb:`aO)
  (he:`gm (o::es) ((`m,`oC)::`u3)) (hpl:`eU):PD X (`dl `ms (o::es)) (fnN i go gA f):=by
 apply `Tc;exact .mk λB δ=>(z90 (`GG `iQ kp (O2 `axI (V50 `bv) he))).imp fun σ H Q hq173=>by
  let#[r,en,h,k]:=hq173
  unfold fnN at h;let#[d,e1,h]:=`f7;let#[ds,e2,h]:=`f7;let#[ns,e3,h]:=`f7;split at h
  rotate_left
  ·cases h
  rename_i ls hn;split at h
  rotate_left
  ·cases h
  rename_i hfl;cases e4:f (`a2w) with
  | none=>rw[e4] at h;cases h
  | some r' =>
  rw[e4,`p] at h;split at h
  rotate_left
  ·cases h
  rename_i hfr;cases h;apply `a1X;refine#[d,a,ns,as,sos,en,e1,at',`v0 #[ds,`ic,e2,`Nd]];have O:=`ow;have J:=`ru O;apply `ao4 (`adV `GC hn);apply `qN;refine#[a,`bP,`no,?_];show spD X.K f ((`ym::vs)++[]) (`jd H2 `eJ) _ E0;rw[`cg];refine#[`J2,`a2w,r,`a2x,?_,e4,`Uj]
  ·rw[j6]
   refine#[`ym,vs,rfl,?_,ue0 hfl.2 r2];rw[Q3];exact#[c,xs,rfl,`a2y,ue0 hfl.1 (lg0 (pa0 hfl.1) rx)]
  ·let#[c1,c2]:=`apj s3
   exact#[a,`bP,c1,k v _ (O.trans c2) (ro0 hfr r3)]
universe zz
structure FnT(P:`ak)(w:`O)(K:`x)(mg:`a6)(base:`D)(c m:Str)(k:Nat)(ps:`h)(F:`h)(f:`aP):Prop where
 ex:∃C fa fd,`a2z/\`a2A
def vt0(c:Str)(F:`h)(d:D):`C:=match `a2e λ_=>`ao9 λq=>i10 q.1 with
 | `du=>`ao (`zD)&&r.2.1.all λn=>match n with|`c9=>F.contains x|_=>`m
 | `f=>`m
def Y9(i:Nat)(c:Str)(F:`h)(gA:GA)(f:`aP):GX:=fun δ=>`zx λb=>`w (vt0 c F b.1=`d) `a1v `f
open T in
def nv0{d:D}{m:Str}(h:vt0 c F d=`d)(r:`nY)(hm:m∉F):∃x ns as sos C dx fs,d=`CJ/\`f3/\`apk/\`jF/\`F0:=by
 unfold vt0 at h;split at h
 ·rename_i r w
  let#[c',fs,ds]:=r;let#[l,w0,w]:=J9 w;let#[#[n0,l1],w1,w]:=J9 w;let#[x,w2,w]:=J9 w;let#[#[n1,rest],w3,w]:=J9 w;cases Pr0 w0;cases p20 w1;cases Vx0 (d:=n0) w2;cases `a2g;cases m80 (d:=n1) w
  try dsimp only at h
  rw[`bg,`U8] at h;let#[hc,J]:=h;subst hc;let#[x',ns,e,as,sos,w]:=r;cases e;let#[so,U,nk]:=`abn w.all;let#[C,O,nm,xs,rfl,rfl,hl,hC,Y,rx]:=`NL;refine#[x,_,as,sos,C,O,_,rfl,w,U,hC,d60 λz=>hm ?_];rw[`j5] at J;have:=J (`t m) (S4 z);exact x6.mp `E
 ·cases h
section
variable{gA:GA}{m:Str}
theorem G4(i:Nat){pl:`iE}{k:Nat}{f:`aP}(C:`a2B)(hr:`zE)(hk:k<=n)(ha:`lR)(hN:`n0)(hv:`uo)(hd:`qL)(hcd:`up)
  (hst:`dB) (hpl:`eU)
  (ht:`F (`a2C=(do
   let ov ← `Ea
   `nR
   let (f,`iI) ← `qm
   `Rj)) Aa) :
  PX X `adY (Y9 i c F gA f):=.mk λH₀ B₀ δ pins s σ H Q I hq174=>by
 skip;apply `gL hq174
 unfold Y9 at e1;apply `aZ;let#[Ca,fa,fd,Fo,hC,cl,a2,hb,a5]:=C.ex;apply `zy;split at e1
 rotate_left
 ·cases e1
 rename_i hfl;let#[d0,hi,Z]:=`n!;apply `UA;cases e3:`aoT with
 | none=>apply `b8;cases e1
 | some q =>
 apply `b8;cases e1;apply `aoU;let#[h1,h2]:=`n? Z;let#[x,ns,as,sos,C',dx,fs,a7,w,a6,Y,a4]:=`apl;have a1:C'=Ca:=by rw[hC] at Y;cases Y;rfl
 subst a1;apply `U9;done;refine`b2 (Jq0 (pl:=pl) (E:=E0) `U' cl a2 Fo `iQ hb `R no0 (aa0 `bv) hst hpl ht) Q (`U! J `a2D a4);rw[c2];refine`aow;show spB X.K 0 f `a2E H1 _ _;rw[`cg];refine`a1y `b3 λv H' hh a3 rv=>?_;have U:`zs:=`UK;apply `aoV U a3;apply `a1z
theorem J4(i:Nat){pl:`iE}{k:Nat}{f:`aP}(C:`a2B)(hr:`zE)(hk:k<=n)(hN:`n0)(hv:`uo)(hd:`qL)(hcd:`up)
  (ht:`F (`a2F=(do
   let ov ← `Ea
   `nR
   let (f,`iI) ← `qm
   `UX)) Aa) :
  PX X `adZ (Y9 i c F v8 f):=.mk λH₀ B₀ δ pins s σ H Q I hq175=>by
 skip;apply `gL hq175
 unfold Y9 at e1;apply `aZ;let#[Ca,fa,fd,Fo,hC,cl,a1,hb,a4]:=C.ex;apply `zy;split at e1
 rotate_left
 ·cases e1
 rename_i hfl;let#[d0,hi,Y]:=`n!;apply `a2G;cases e3:f bm.1 [] with
 | none=>apply `b8;cases e1
 | some q =>
 apply `b8;cases e1;apply `aoU;let#[h1,h2]:=`n? Y;let#[x,ns,as,sos,C',dx,fs,a6,w,a5,U,a3]:=nv0 hfl h1 a4;have Z:C'=Ca:=`a2H hC
 subst Z;apply `U9;done;refine`b2 (O20 (pl:=pl) (E:=E0) `U' cl a1 Fo `iQ hb `R no0 ht) Q (`U! J (`NM w.hd a5) a3);rw[c2];show spB X.K 0 f `en H _ _;refine#[B,[],[],a,bm.1,q.2,q.1,`zF,hB,rfl,`b3,`lQ,h1,e3,λv H' hh a2 rv=>?_];apply `aoV hh a2;exact `apm (`ts b1 b2 hi J hh O) O
universe zz
def Env.unset{σ:St}{δ:Ds}(e:`bn)(i:Nat)(o:`eo):Env K H B `Uu `a2I:=by
 refine`ak' `m3 `afe;skip;apply `a2J
 ·cases z
 rcases `Cn with⟨_,z,_⟩|⟨n2,h2⟩
 ·cases z
 rw[`qF] at h3;apply `G5;done;apply `SF
def rj0(i:Nat)(n:D)(δ:Ds):Ds:=match `rW with
 | `ad_=>`cO (`xr (ns++[n]))
 | _=>δ
structure PartAt(K:`x)(H₀:Hp)(B₀:BS)(H:Hp)(σ:St)(δ:Ds)(i j:Nat)(dp:D):Prop where
 en:`ct
 ex:∃B a ns as sos v,`TG (`uq/\`akt/\`Zm dp)
def Sm0{δ:Ds}{mk:D->D}(h:`a2K)(ms:`i):dpN i (`cO (`xr ms))=`c ms:=by
 have hl:i<`mY:=by
  cases q:`b4 with
  | none=>rw[q] at h;cases h
  | some s=>exact(`ds q).1
 unfold dpN;rw[`yT];unfold xn0 at h;split at h
 ·cases h
 ·cases h
 ·cases h;rfl
 ·cases h;rfl
 ·cases h
open T in
def Tx0{δ:Ds}(h:`Pt):∃x mk,`a2K:=by
 unfold dpN at h;cases eb:`rW with
 | none=>rw[eb] at h;cases h
 | some bm =>
  rw[eb,`p] at h;let#[b,mk]:=bm;split at h
  ·rename_i x ns' hb
   cases h;have hb:b=_:=hb;subst hb;exact#[x,mk,rfl]
  ·cases h
def NodeOk.ext{L:`e}(g:`eW){n:D}(hdx:∀C dx fs,so=`mr->dx≠L)(h:`Sz):`lP K H' B' `pJ n so:=by
 have l:`aA5 `pJ:=λk a e=>`l (`hc (`ds e).1) e
 unfold NodeOk at h ⊢;split at h
 ·apply `qv;exact#[xs,e,`apn]
 ·let#[xs,e,z,r]:=h;exact#[xs,e,z,`apn]
 ·skip;let#[C,dx,ns,xs,e,f,z,c,q,r]:=h
  done;exact#[C,dx,ns,xs,e,f,z,c,λw=>(`dL w).elim q λw=>hdx _ _ _ e (L6.mp w),`apn]
 ·exact `kT
def EnvS.unset{σ:St}{δ:Ds}(e:`ct)(i:Nat)(o:`eo):`hf K `ae `ac H `Uu `a2I:=by
 let#[B,b1,b2,env]:=e.ex;refine#[e.same,(`tr (env.unset i o)),`aff,e.b0];skip;apply `a2J
 ·cases z
 rw[`qF] at h2;done;exact e.fr j ds a h1 h2
section
variable{lp:Pos}{gk:GE}
def Tv0{x1}(i j:Nat)(nd:`et)(hk:PD X ke gk)(hi:`qH)(hy:`lS)
  (hs:`gm `aB! ((`h9 ke)::`a2L)) (hs2:`Jr `a2L (`h9 (`ab9)))
  (hsw:`jD `a2M `NU `m1)
  (hf:`ka) :
  PS X (`ip `pL `a2M pos) `a2N:=by
 intro pins s σ H D I #[`ae,`ac,δ,dk,ns,en,e1,c3,e2,c2,kk];skip;apply `aZ;let#[a,as,sos,at']:=`KY e2;have jl:j<`wx:=by
  let#[m,hn,hl]:=id `fP;have h1:=`O6;have:=`fb;lia
 done;refine Wi0 nd hi hy (z90 (R7 (Yr0 (O2 (hk.go B δ) (O2 (Wh0 zy0) zy0 hs2) hs)))) hsw hf `s s σ H D I #[dk,env,e1,`v0 #[`b3,λL hL=>#[`ZN,λt ht=>?_]]];apply `a2O;have Y:H L=`f:=`s5 hL;obtain⟨H2,a8⟩:∃H2,H2=`a2P:=`ad;rw[← a8] at ht ⊢;have s2:`R':=`l a8 (W8 hL)
 have c1:`anH:=`aWh ht;obtain⟨H3,a2⟩:∃H3,H3=upd H2 t (`z `ad0):=`ad;rw[← a2];have s3:`c1 H2 H3:=`l a2 (W8 ht)
 have a3:`c1 H H3:=`uf;have c4:H2 L=`c `hS:=by rw[a8,d8]
 have e3:H3 L=`c `hS:=s3 _ _ c4;have e9:H3 t=`a2Q:=by rw[a2,d8]
 have d1:∀b∈as,`akg:=λb hb z=>by
  rcases `aaw b hb with q|q
  ·rw[q,hH] at z;cases z
  ·rw[q.2] at z;cases z
 have La:L∉as:=λz=>d1 L z Y
 have ta:`apo:=λz=>d1 t z c1
 apply `a2R
 have c0:=`ru a3;have O:`a2S=(`y `_w):=`a2T
 have a6:`a2U:=by
  rw[`Th];apply `a2V;rw[`fr hy] at z;exact `a2W
 have a1:`a2X:=`a2Y
 have e7:`a2Z `LQ (so=`rp):=λk c so q1 q2=>by
  by_cases hk':k<`hX
  ·rw[`U?] at q1
   apply `a2_;exact `n `G9
  ·have hl1:=`a20
   rw[`Y] at hl1;have e5:`app:=`a21
   subst e5;rw[`zG,`n9] at q1;rw[`Ed,`zG,`n9] at q2;apply `a22
 have Z:`ac4 (`LQ[k]?=`oR):=λk C dx fs e=>by
  by_cases hk':`UP
  ·rw[`U?] at e
   exact `a23
  ·rw[`Hp] at e
   cases q:k - `KP with
   | zero=>rw[q] at e;cases e
   | succ n=>rw[q] at e;cases e
 have cl:`i9 `NS a `apq:=pu0 a1 a6 O (λk c so q1 q2=>by
  skip;rcases e7 k c so q1 q2 with⟨q1,q2⟩|⟨_,rfl,rfl⟩
  ·done;exact `a24
  ·done;rw[v50 La];exact e3) Z
 refine#[a,`bP,c0.w.openOk,a,_,cl,kk _ _ ?_];obtain⟨Hc,U⟩:∃Hc,Hc=`gZ `NS a `apq:=`ad;rw[← U];skip;have ca:Hc a=`c (`o1 `apq):=`aCe U
 have a4:∀b∈`mo,`a25:=λb hb n=>by
  rw[U];apply `l1;let#[so,q]:=t30 O hb a6;rw[`ag n,q]
 have J:`a26:=λb hb=>by
  rw[U];apply `l1;rw[`a27 (`l z (C9 a1)),xd0 hb,`a28]
 have but:But a H Hc:=#[λb u n z=>by
  apply `Va
  ·apply `Vb
   ·rcases `afF with w|w
    ·exact `L w n
    ·rw[`apr,← w.2,z]
   ·rw[`HD,Y] at z;cases z
  ·rw[J b hb];exact a3 _ _ z,λb u xs n z=>by
  apply `Va
  ·rw[`apr] at z;cases z
  ·rw[J b hb] at z;exact a3.nf _ _ _ z]
 have gr:Gr H Hc B B:=`C9 `ur but;have e8:¬B L:=`HE Y;have hw:RpW X.K Hc B (`NO) a `pJ `LQ:=by
  refine#[a1,a6,ca,`js,O,`yZ ?_ (`aa #[[],rfl,`aps] `R),Z]
  ·by_cases n:b=a
   ·exact `n n
   ·refine `q #[?_,`apr]
    apply `Vb
    ·exact`a29
    ·rw[`HD];exact e8
  ·apply `a2'
   intro z;skip;subst e;have e6:=`a2!;subst e6;apply `aoE `bP `aB_;have hm:`a2?:=by
    refine `a3a;rw[`a3b];exact#[`xq,q2]
   let#[_,w,_]:=(all _ hm).2;rw[z,Y] at w;cases w
 let#[x,mk,b0]:=Tx0 e2;let#[d0,a5,e0]:=v30 b0;let#[a',c8,hB,ro]:=`Be a5;rw[`gA] at c8;cases c8;have d3:`aE_=`a3c:=by unfold rj0;rw[b0]
 have a7:`jC Hc (`a3c):=`x' a5 `gA but ((`n? e0).2 _ _ _ `a3d);have f0:=`ts b1 b2 a5 `gA but a7;done;rw[d3];have b3:=Sm0 b0 (`NO);refine#[EnvS.unset f0 j _,B,a,`NO,`mo,`_w,`A!,b1,b2,a7.unset j _,#[?_,hB,?_,hw],Au1 jl,?_]
 ·rw[`a3e];exact `gA
 ·unfold dpN at b3 ⊢
  rw[`a3e];exact b3
 ·rw[v70]
  have e4:Hc t=`a2Q:=by
   rw[J t (λz=>(`dL z).elim ta λz=>by
    rw[`ew,c4] at ht;cases ht)]
   exact e9
  refine `q #[?_,t,`ad0,rfl,#[`HE c1,e4],?_]
  ·cases dk<;>rfl
  ·rw[zt0]
   apply `lZ v1 [`wl] (ia0 ?_ (ro0 c3 r1))
   ·cases dk<;>first|rfl|(cases c3)
   ·rw[zt0]
    refine#[`wl,[],rfl,?_,`aps];unfold K4;rw[v70];have d2:`gh=`hX:=`a3f
    exact `a3g d2
universe zz
def qr0(i:Nat)(go:GE)(dp:D)(δ:Ds):`aH Ds:=`zB λd=>`gM λns=>`Hy λk=>match `jG with
 | `l0=>`aW (`ho<`W) (`UT `Vc)
 | _=>`f
section
variable{o2:`I}{lp:Pos}{gk go2:GE}
open T in
def fb0(i j:Nat)(ho:`Hz)(hN:`qH)(hv:`uo)(hd:`qL)(hcd:`up)
  (hbase:`a16)
  (hfew:`F ((`Zv `a3h
  &&`KR (`pL:`bM).length)=`d) Aa)
  (hline:`gG) (hs:`Jr `a3h (`h9 `J7)) (hplain:`n2)
  (hsw:`jD `a3i `f `m1) :
  `apt (`CT `a3i pos) go:=by
 intro pins s σ H De I #[`ae,`ac,δ,dp,δ',pt,e1,kk];let#[en,B,a,ns,as,sos,v,b1,b2,env,at',hj,rv]:=pt;unfold qr0 at e1;cases e2:go δ with
 | none=>apply `am;cases e1
 | some d =>
 rw[e2,`p,`zA,`p] at e1;let#[k,e6,e1]:=`cG;split at e1
 rotate_left
 ·cases e1
 rename_i es hnode;split at e1
 rotate_left
 ·cases e1
 rename_i hz;cases e1;refine `a2t (pe0 Q2 D20 D30 nq0 `aph (O2 (`Mb j hN) zy0 hs) `gH hfew `iK hs `qr);have J:=`iU;apply `UV;apply `qN;refine#[a,`bP,`no,`adW,v,hj,c,xs,v,rfl,rfl,`Mk,`cd `US hz,?_];have nk:`lP X.K H1 B as `Vc (`o `Ee):=#[_,rfl,`UW `KW (`s7 s1)];let#[p1,p2,p3]:=J.w.put `ur f1 f2 nk `a3j;refine#[a,_,p1,kk _ ?_];rw[`bj ((`_z `Ee)=(`aav `Ee).ho),p2];let#[d0,d',Z,q1,O]:=(`kB).setN J p3;let#[x,mk,Y]:=Tx0 `zA;have U:dpN i (DL.setN i k `Vc δ)=`c (`adU k `Vc):=by
  unfold DL.setN;rw[Y];exact Sm0 Y _
 rw[q1] at U ⊢;exact#[`EW s1 b1 b2 Z `gA O,B,a,_,as,_,v,b1,b2,O,#[`gA,`ur,U,p3],hj,(`s7 s1).mono (`A? `ur) `KV]
def od0(i j:Nat)(gk ga gb:GE):GSB:=fun δ=>`UC λdk=>`gM λns=>if `afD then
 (`a3k).bind fun δ2=>(`a3l).map fun δ3=>.nx δ3 else `f
theorem Xh0{st1 st2 st3:`a4}{rest:`b7}{G:GSB}{ga gb:GE}(i j:Nat)(hij:i≠j)
  (h1:PS X st1 `a2N)
  (h2:`apt st2 ga)
  (h3:`apt st3 gb)
  (h:PSsB X `aV G):PSsB X (st1::st2::st3::`aV) (o8 (od0 i j gk ga gb) G):=.mk λH₀ B₀ δ pins s σ H D I hq176=>by
 skip;apply `hC hq176
 unfold o8 od0 at e;cases e1:gk δ with
 | none=>rw[e1] at e;cases e
 | some dk =>
 rw[e1,`p] at e;cases e2:`os with
 | none=>rw[e2] at e;cases e
 | some ns =>
 rw[e2,`p] at e
 by_cases hf:`afD
 rotate_left
 ·rw[`TE] at e;cases e
 rw[`uc] at e;cases e3:`a3k with
 | none=>rw[e3] at e;cases e
 | some δ2 =>
 rw[e3,`p] at e;cases e4:`a3l with
 | none=>rw[e4] at e;cases e
 | some δ3 =>
 rw[e4] at e;done;refine Q8 h1 (Q8 h2 (Q8 h3 (h.go `ae `ac δ3))) `s s σ H D I #[`ae,`ac,δ,dk,ns,en,e1,hf,e2,hij,fun σ1 H1 p1=>#[`ae,`ac,_,_,δ2,p1,e3,λH2 p2=>#[`ae,`ac,δ2,_,δ3,p2,e4,λH3 p3=>#[r,p3.en,e,k]]]]
universe zz
universe DL
namespace L2
open Spec PyProof.Rows
theorem Sk0(h:`gD):PE X e (`cA (∃a sub,`a0T/\te σ `a0U Q)):=λpins s σ H Q I #[a,sub,o,q]=>h `s s σ _ Q (I.opened o) q
universe L2
namespace DL
open Spec PyProof.Rows L2
mutual
def tr:`d9
 | `dm=>`Vd
 | `eR=>`m
 | `qz=>`m
 | `qA=>`m
 | _=>`d
def trs:`wa
 | []=>`d
 | `aI=>tr d&&`Vd
end
section
mutual
theorem Cv0(g:`a3m):`Gr (`l2->`aQL)
 | `v,_,_,h=>`HF Q9
 | `b6,_,_,h=>`HF V1
 | `cV,_,_,h=>`HF Y0
 | `cc,_,_,h=>`HF R4
 | `dm,_,n,h=>by
  unfold tr at n;rw[N5] at h ⊢;apply `Sr;exact#[a,xs,e,g a xs q.1 q.2,h90 g n r]
 | `eh,_,n,h=>by unfold tr at n;cases n
 | `lL,_,n,h=>by unfold tr at n;cases n
 | `t5,_,n,h=>by unfold tr at n;cases n
theorem h90(g:`a3m):`lM (`Vd=`d->`akS)
 | [],_,_,h=>`HF c7
 | `aI,_,n,h=>by
  unfold trs at n;rw[`bg] at n;rw[j6] at h ⊢;apply `Gs;exact#[x,r,e,Cv0 g n.1 h1,h90 g n.2 h2]
end
universe zz
def tc0(ns:`i):`AV
 | `z [k,`z r]=>(xx0 r).bind λn=>match ns[n]? with
  | `l0=>`aW (`c8 k=`d/\trs es=`d/\vf0 es=`d) (`z [k,`mR])
  | _=>`f
 | _=>`f
def Xu0{d:D}(h:`n4):`kk:=by cases d<;>first|rfl|(cases h)
theorem RpW.off_tup(w:`f3){t:`e}(h:H t=`jB):`apo:=λz=>by
 rcases w.own t z with q|q
 ·rw[q,w.at'] at h;cases h
 ·rw[q.2] at h;cases h
open T in
def RpW.part(w:`f3){d d':D}(r:`lO)(h:`apu=`c d'):Rp K `x1 `zt d' v:=by
 unfold tc0 at h;split at h
 rotate_left
 ·cases h
 rename_i k rr;let#[n,er,h]:=`f7;split at h
 rotate_left
 ·cases h
 rename_i es hn;split at h
 rotate_left
 ·cases h
 rename_i hq;cases h;let#[h1,h2,h3]:=hq;rw[v70] at r;rcases r with⟨k',c,e,_⟩|⟨_,t,xs,rfl,q,rs⟩
 ·exfalso
  cases k<;>cases e
 rw[zt0] at rs;let#[vk,r1,rfl,rk,rs]:=rs;rw[zt0] at rs;let#[vc,r2,rfl,rc,rs]:=rs;rw[vj0] at rs;subst rs;rw[v70,er] at rc;rcases rc with⟨k',c,e,hc,rfl⟩|⟨e,_⟩
 rotate_left
 ·cases e
 cases e;let#[so,J,nk]:=`a14;let#[ys,rfl,ry]:=vg0 nk;have gt:∀b xs,`xg->`_N->¬(λ_:`e=>`bW) b/\`a1K=`jB:=λb xs _ z=>#[`Dk,`l (v50 (w.off_tup z)) z]
 rw[N5];apply `lZ t _ (gt t _ q.1 q.2);rw[j6];apply `lZ vk _ (ro0 h1 (X10 (Xu0 h1) rk));rw[j6];refine`Gu `ym ?_;rw[Q3];exact#[c,ys,rfl,`n #[`Dk,`n (`NM hc J)],h90 gt h2 (lg0 h3 ry)]
def Env.blank{σ:St}(h:`wx=n):Env K H `zt σ (`aQg):=by
 subst h;refine#[?_,λa z=>`eq,`aVk]
 ·induction σ with
  | nil=>exact `R
  | cons o σ ih=>exact `aa `m3 ih
 ·rw[`qn] at h1
  split at h1<;>cases h1
def Zf0(i j:Nat)(g g2:GE):GSB:=fun δ=>`lV λd=>`gM λns=>(`apu).bind λd'=>(g2 `a3n).bind λr=>match r with
 | `mR=>`aW `U7 (.rt `JD δ)
 | _=>`f
section
variable{e2:`I}{g g2:GE}
open T in
theorem S10(i j:Nat)(nd:`et)(he:`UR)(h2:PDF X e2 g2)(hi:`qH)(hy:`lS)
  (hsw:`jD e `NU `m1)
  (hf:`ka) :
  PSsB X [`ip `pL e pos,`Zt (`c e2) pos2] (Zf0 i j g g2):=.mk λH₀ B₀ δ pins s σ H D I hq177=>by
 apply `gL hq177
 unfold Zf0 at e1;apply `aZ;let#[d,q1,e1]:=`cG;let#[ns,q2,e1]:=`cG;cases q3:`apu with
 | none=>rw[q3] at e1;cases e1
 | some d' =>
 rw[q3,`p] at e1;let#[rr,q4,e1]:=`cG;split at e1
 rotate_left
 ·cases e1
 rename_i es;split at e1
 rotate_left
 ·cases e1
 rename_i hfl;cases e1;apply `a3o;refine Q8 (Wi0 nd hi hy (he.go B δ) hsw hf) (Q8 (qf0 (z90 (Sk0 (h2.go `zt `a3n)))) rh0) `s s σ H D I `a3p;have J:=`iU;refine#[a,`bP,`no,`mR,?_,q4,`a3q]
 ·exact(`a3r).set j (J.w.part r1 q3)
 ·let#[c1,c2]:=`apj s2
  refine#[a,`bP,c1,kk _ σ _ ?_];have O:p∉as:=λz=>by
   let#[so,l]:=t30 J.w.len z J.w.nd;unfold opened at hp;rw[l] at hp;cases hp
  have U:`ajd:=by rw[v50 O] at hp;exact hp
  have sm:=`oD c2;refine `a3s;let#[xs,o1,rx]:=ro;rw[Q3];refine#[p,xs,rfl,`n #[`HE (`s5 U),`n ?_],ue0 hfl rx];apply `l1;rw[`ag (λz=>O `a3t),xd0 O];exact o1
universe zz
universe DL
namespace DL
open Spec PyProof.Rows L2
def partsOf(ns:`i):`akG
 | []=>`s_
 | `n8=>(tc0 ns p).bind λd=>`Er `Ve d
def la0(i:Nat)(go:GE)(n:Nat)(caps:`k)(f:`be)(ge:GE):GX:=fun δ=>`zB λd=>`gM λns=>`Hy λk=>match `jG with
 | `c (`o ps)=>(`Ve).bind λitems=>(O7 n `dt (`a3u) f noT ge (`afG)).bind λr=>match r with
  | `o rs=>`aW (trs rs=`d) (`z rs,δ)
  | _=>`f
 | _=>`f
theorem RpW.parts(w:`f3):∀{ps items:`i} {xs:`V},`rr ps xs->`Ve=`KN->Rps K `x1 `zt `b? xs
 | [],_,_,r,h=>by
  rw[vj0] at r;cases h;rw[c7];exact r
 | `n8,_,_,r,h=>by
  skip;rw[zt0] at r;let#[x,xs,rfl,r1,r2]:=r;unfold partsOf at h;let#[d,e1,h]:=`f7;cases e2:`Ve with
  | none=>rw[e2] at h;cases h
  | some ds =>
  rw[e2] at h;cases h;done;rw[j6];exact#[x,xs,rfl,w.part r1 e1,w.parts r2 e2]
def Lf0(q:`DU)(rs:`rf `b?):ItD K B (Itl K a) `b? H:=by
 refine`ab0
 ·have:`tX:=`Pd
  apply `alt
 ·let#[e3,y]:=y
  apply `alu;have:=`alv;apply `a3 e4;cases `E;subst e3;apply `alw
 ·apply `alx
section
variable{p lpos:Pos}
open T in
theorem L70(i:Nat){sc scope:`cR}{elt iter:`I}{N N':`h}{n:Nat}{caps:`k}{idx:`k}{f:`be}{ge:GE}
  (hm:`cm `eC=`f) (hbt:`a3v) (ok:`t?) (hidx:∀j∈idx,j<n) (hi:PN X i iter go)
  (hg:`kg) (he:`t!)
  (hc:`iR) (hsc:`y5) (hN:`y6) (hs:`fj) (hgl:`hg `eC)
  (hst:`gm [`apv] ((`h9 (`apv))::`mq)) (hpl:`ki) :
  PX X (`dl (`bo `eC p) [`apv]) (la0 i go n `dt f ge):=.mk λH₀ B₀ δ pins s σ H Q I hq178=>by
 apply `gL hq178
 unfold la0 at e1;apply `aZ;let#[d,q1,e1]:=`cG;let#[ns,q2,e1]:=`cG;let#[k,q3,e1]:=`cG;split at e1
 rotate_left
 ·cases e1
 rename_i ps hn;let#[items,q4,e1]:=`cG;let#[rr,q5,e1]:=`cG;split at e1
 rotate_left
 ·cases e1
 rename_i rs;split at e1
 rotate_left
 ·cases e1
 rename_i htr;cases e1;apply `a3o;refine z90 (nu0 zu0 hgl hm hbt (O2 (dx0 hc hsc `y7 (Uc0 (R7 (hi.go B δ))) (g:=`xf) (tt:=`apw) (te:=`alD)
  `GQ
  `apx
  `alE hs) zy0 hst) `r `r hst hpl) `s s σ H Q I `a3p
 have J:=`iU;let#[c,so,rfl,f1,f2,f4]:=`axK r1 q3 hn;apply `qN;have sq:SqL' X.K (`a3w) `zt c xs:=`a2y;refine#[a,`bP,`no,c,rfl,#[xs,sq.to],?_];have Y:=jg0 (K:=X.K) (B:=`J2) (δ:=`afG) (σ:=σ) (H:=`a3w) (n:=n) (caps:=`dt) (gi:=`a3u) (idx:=idx) (f:=f) (gt:=noT) (ge:=ge) hidx
  (Q:=λv H'=>M40 σ H' λxs H2=>`aOw (v::xs) H2 `a1D) #[`o rs,`a3r,q5,`a3q]
 ·let#[Z,_,e',fk]:=Y
  cases e';exact fk (Itl X.K c) _ `ta (Lf0 sq (J.w.parts rx q4))
 ·let#[zs,o1,rz]:=ro
  refine#[p,zs,rfl,`n #[`n (`n o1),λl hl=>?_]];obtain⟨H3,O⟩:∃H3,H3=upd H2 l (`z zs):=`ad;rw[← O];have s3:`c1 H2 H3:=`l O (W8 hl)
  let#[c1,c2]:=`apj `EE;have sm:=`oD c2;refine#[a,`bP,c1,kk _ _ (`a3s)];have U:∀b xs,`a3x->`UQ:=λb xs z m=>by
   let#[so,l]:=t30 J.w.len m J.w.nd;have:`jd H1 `eJ b=`NH:=by unfold opened;rw[l]
   rw[`EE _ _ `E] at z;exact `aoD so xs `Sn
  have gt:∀b xs,`a3x->`xg/\`a3y:=λb xs z=>by
   have hb:=U b xs z;have e:`a3y:=by
    apply `l1;rw[`ag (λz=>hb `a3t),xd0 hb];exact z
   exact#[λw=>((`hM sm).bad b w).nt xs e,e]
  rw[N5];exact#[l,zs,rfl,gt l zs (by rw[O,d8]),h90 (λb xs _ z=>gt b xs (s3 _ _ z)) htr rz]
universe zz
def ys0(f:`be)(gx:GX)(jb:Nat)(δ0:Ds):`i->D->`aH (`i×D)
 | [],b=>`c ([],b)
 | `aI,b=>(f d (δ0.set jb (.ow b))).bind fun δ1=>(gx δ1).bind λr=>match r.2[jb]? with
  | `c `OJ=>(ys0 f gx jb δ0 ds b').map λq=>(r.1::q.1,q.2)
  | _=>`f
def u90(n:Nat)(caps:`k)(i jb:Nat)(gi:GA)(f:`be)(gx:GX):GX:=fun δ=>`zx λb=>`yP λitems=>if `t2 then
 (ys0 f gx jb `kY `b? b.1).bind λq=>`aW (isL q.2=`m) (`o q.1,`cO (b.2 q.2)) else `f
def Env.comp_own{σ:St}{δ:Ds}(en:`bn)(no:`aSw){jb:Nat}{b:D}(hs:σ[jb]?=`A1)(hb:B a)(r:`JF b):`kr H (`el jb (.ow b)):=by
 refine#[`afc (i:=jb) `Pi hs `_b,`GN,λi j a' ds es h1 h2 _ _=>?_];skip;apply `a3z
 ·rcases `Cn with⟨q2,_,_⟩|⟨_,z⟩
  ·done;exact q1.symm.trans q2
  ·done;exact `a3A
 ·done;exact `a3A
def L20{σ:St}{k:Nat}(hcap:`zH)(hs:`FC):`a3B=`oY:=by
 unfold zg0;rw[`aPQ,`qp,`aPR,`df,hcap];show `c ((`Js).join)=_;rw[hs];rfl
def teX(K:`x)(gx:GX):TE:=`cA (∃H₀ B₀ δ,tX K `ae `ac δ gx σ H Q)
open T in
def e40{K:`x}{H₀:Hp}{B₀:BS}{δ:Ds}{σ:St}{H:Hp}{Q:VK}{k:Nat}{gi:GA}{f:`be}{gx:GX}(hcap:`zH)(hidx:∀j∈idx,j<n)
  (h:tX K `ae `ac δ `ad4 σ H Q) :
  Zq0 n `dt (`aCc K) `aSA (`cA (∃B δ,`gq tDT K noT)) (teX K gx) σ H Q:=by
 apply `gL h;apply `aZ;unfold u90 at e1;apply `zy;let#[items,e2,e1]:=`cG;split at e1
 rotate_left
 ·cases e1
 rename_i hsz;let#[q,e3,e1]:=`cG;split at e1
 rotate_left
 ·cases e1
 rename_i hq;cases e1;let#[d0,a6,a8]:=`n!;let#[a,a3,hB,ro]:=`Be a6;refine#[B,δ,`b?,env,e2,`aSB];have b0:=`kB;have f2:RpG K H1 B bm.1 a:=RpG.same s1 (`a3C).1;have d2:¬B L:=b0.free hL;have Z:a≠L:=`p_ d2 hB
 obtain⟨Bp,a2⟩:∃Bp:BS,Bp=λx=>B x∨x=L:=`ad
 have d3:Bp L:=`l a2 `vl
 have O:∀x,B x->Bp x:=λx z=>`l a2 `fG
 have d1:∀x,Bp x->B x∨x=L:=λx z=>by rw[a2] at z;exact z
 have gr:∀{H2:Hp},`a3D->`aSD:=λ{H2} h2 x o nb hx=>#[λz=>(d1 x z).elim nb (T4 hx hL),h2 x o (`p_ nb hB) hx]
 have b3:`a3B=`A1:=L20 hcap a3;have c4:n+k∉idx:=λz=>`cN (hidx _ z)
 have f3:n+k<(`Jz).length:=by
  rw[← `sn (env.comp n `dt).all];exact(`ds b3).1
 have bu:But a H1 (`a2P):=#[λx o _ e=>`l `a3E e,λx o xs _ e=>by
  by_cases z:x=L
  ·rw[z,d8] at e;cases e
  ·rw[j4 z] at e;exact e]
 obtain⟨W,hW⟩:∃W:`Sa,∀j m ys H2,W j m ys H2↔m=`dp - j/\j<=`dp/\`aSF/\`a3D/\`cq<=j/\∃pre rest b',q.1=pre++`aV/\`aSG/\RpL K H2 Bp b' a/\ys0 f gx `E_ `kY (`mF j) b'=`c (`aV,q.2):=`alz;refine#[W,
  #[_,`t' #[rfl,`b3,d8,bu,`gT,[],q.1,bm.1,rfl,`lQ,(`ams `a3F (gr bu) f2).toL,e3]],?_]
 intro j m ys H2 w0;let#[hm,f9,hD,s2,g3,pre,rest,b',ho,rp,rb,ec]:=`alA;clear w0;subst hm;have a1:∀x,Bp x->NB (H2 x):=λx z=>by
  by_cases xa:x=a
  ·rw[xa];exact rb.live
  rcases d1 x z with z|z
  ·exact(b0.bad x z).keep λo h=>s2 x o xa h
  ·rw[z];exact NB.of hD (λ_ _ z=>by cases z) (λ_ z=>by cases z)
 have f6:Env K H2 Bp `fR ((`Jz).set `E_ `OJ) :=
  Env.comp_own #[`aSH b0.comp,a1,`alB] (λ_ _ z=>tu0 z) b3 (O a hB) rb
 by_cases hlt:j<`dp
 ·refine `q #[it.go j H2 `apy hlt,`aSI]
  let#[sm,dx,c8,rx]:=`adb j H2 x H3 `apy y hlt;have s3:But a H1 H3:=(`apz (sm _ _ (s2 x o n e)) (s2.nf x o xs n (sm.nf x o xs e)));have f0:`aSJ:=rx Bp (gr s3) a1;have e8:=f6.same sm;have f8:=sm _ _ hD;have e9:=`S3 sm;have c0:`mF j=dx::`mF `t4:=by
   apply `SZ;congr 1;rw[`S_] at c8;exact A3 c8
  rw[c0] at ec;unfold ys0 at ec;let#[δ1,e4,ec]:=bdS ec;let#[r5,e5,ec]:=bdS ec;split at ec
  rotate_left
  ·cases ec
  rename_i b2' ho5;cases e6:ys0 f gx `E_ `kY (`mF `t4) b2' with
  | none=>rw[e6] at ec;cases ec
  | some q6 =>
  rw[e6,`k2] at ec;have Y:r5.1::q6.1=`aV:=(`Vf).1;have U:q6.2=q.2:=(`Vf).2;refine#[Bp,dx,_,δ1,f0,e8,e4,`aSK λj' v z=>?_]
  ·by_cases hj:j'∈idx
   ·rw[Yk0 (hidx j' hj)] at z;cases z
   ·rw[(`t9 j' hj).1];exact z
  have h4:σ4[n+k]?=`A1:=`l (`t9 _ c4).1 b3
  refine#[Bp,δ1,`d,en4,rfl,`aSL];show `w (`d=`d) _ _
  rw[`bl];have a4:=`aSM;refine#[λx=>`w (x=a) `f (H5 x),λx=>Bp x/\x≠a,δ1,r5,#[#[λx o e=>?_,λx o xs e=>?_],#[Bp,λ_ z=>z.1,λx z=>?_,a4],λi' ds a' h1 h2=>?_,λx z=>?_],e5,λv H6 ev=>?_]
  ·by_cases z:x=a
   ·apply `tE z `il;cases e
   ·apply `tE z `hp;exact e
  ·by_cases z:x=a
   ·exfalso
    let#[a5,c3,_,f5]:=a4.at (i:=n+k) (d:=b') (`l (`t9 _ c4).2 (Au1 f3));rw[h4] at c3;cases c3;rw[z] at e;exact f5.plain o xs e
   ·apply `ny z;exact e
  ·by_cases z':x=a
   ·exact `a0? z'
   ·exact `n #[z,z']
  ·have f4:i'∉idx:=λz=>w.own i' z ds h1
   rw[(`t9 i' f4).2] at h1;apply `a3z
   ·rw[← q1,h4] at h2
    cases h2;simp only[`il]
   ·exact(tu0 z).elim
  ·apply `ny z.2
   exact a4.bad x z.1
  let#[B',c1,c2,e7,rv]:=ev.ex;let#[a',e0,f7,rl]:=e7.at ho5;rw[h4] at e0;cases e0;have less:∀x,Bp x->B' x:=λx z=>by
   by_cases q:x=a
   ·rw[q];exact f7
   ·exact `a1c
  have bt:But a H5 H6:=#[λx o z e=>`ad5 x o `a1a,λx o xs z e=>by have:=ev.same.nf x o xs e;apply `a1b];have f1:`aSN:=bt L _ (A9 Z) (s5 _ _ f8);have g6:Gr H6 `aBd B' Bp:=λx o nb hx=>#[λz=>nb (less x z),`l (j4 (λz=>nb (`l z (less L d3)))) hx]
  have g5:Gr H5 H6 Bp Bp:=`C9 (O a hB) bt;have g7:`aSO:=λx o nb hx=>#[nb,`l (j4 (λz=>nb (`l z d3))) hx]
  refine#[f1,`G,`dp - `t4,`G,`t' #[rfl,hlt,d8,(`apz ?_ ?_),`Zu,pre++[r5.1],q6.1,b2',by rw[ho,← Y];simp,?_,?_,by rw[e6,← U]]]
  ·rw[`a3E]
   exact bt _ _ n (s5 _ _ (s3 _ _ n e))
  ·by_cases z:x=L
   ·rw[z,d8] at e;cases e
   ·rw[j4 z] at e
    exact s3.nf _ _ _ n (s5.nf _ _ _ (bt.nf _ _ _ n e))
  ·exact `s8 (((e9.same s5).mono g5).mono g7) (`NQ g6)
  ·exact RpL.mono `a3F g6 rl
 ·have e:j=`dp:=`G
  subst e;refine `n #[`ae' _ H2 `apy `bL,?_];rw[`yY] at ec;have Y:`aSP:=(`Vf).1;have U:b'=q.2:=(`Vf).2;subst Y;subst U;rw[`cg] at ho;have hh:But a H H2:=(`apz (s2 x o n (s1 x o e)) (s1.nf x o xs (s2.nf x o xs n e)));have a7:`kr H2 `ay0:=`x' a6 a3 hh ((`a3C).2 H2 B q.2 ((rb.toO hq).toG.less O));refine kk (`wl) H2 (`te (`ts b1 b2 a6 a3 hh a7) a7 ?_);rw[Q3];exact#[L,ys,rfl,`n #[d2,`n hD],`l ho (rp.mono (`ju O))]
theorem Lh0(i k:Nat){sc scope:`cR}{elt iter:`I}{N':`h}{n:Nat}{caps:`k}{gi:GA}{idx:`k}{f:`be}{gx:GX}
  (hcap:`zH) (hc:`ed) (hsc:`mA) (ok:`qu) (hidx:∀j∈idx,j<n) (hi:`iO)
  (hg:`kg) (he:`Vg)
  (hs:`fj) :
  `a3G:=.mk λH₀ B₀ δ =>
 (dx0 hc hsc ok (wi:=`a3H) (g:=`xf) (tt:=`apw) (te:=teX X.K gx)
  `a3I
  `GQ
  `apx
  `a3J hs).imp fun σ H Q h=>e40 hcap hidx h
def f80(j:Nat)(gx:GX):GS:=`ih `GV (.nx (r.2.set j (.sh r.1)))
theorem Ya0(i k j:Nat){y:Str}{py spos:Pos}{sc scope:`cR}{elt iter:`I}{N':`h}{n:Nat}{caps:`k}{gi:GA}{idx:`k}{f:`be}{gx:GX}
  (hcap:`zH) (hN:`et) (hc:`ed) (hsc:`mA) (ok:`qu) (hidx:∀j∈idx,j<n) (hi:`iO)
  (hg:`kg) (he:`Vg)
  (hiN:`qH) (hy:`lS)
  (hsw:`a3K)
  (hs:`fj)
  (hf:`ka) :
  `a3L:=.mk λH₀ B₀ δ pins s σ H D I hq179=>by
 apply `gL hq179
 unfold f80 at e1;cases e2:u90 n `dt i `E_ gi f gx δ with
 | none=>apply `am;cases e1
 | some q =>
  apply `am;cases e1;refine fe0 (i:=j) hN hiN hy hc hsc ok (wi:=`a3H) (g:=`xf) (tt:=`apw) (te:=teX X.K gx)
   `a3I
   `GQ
   `apx
   `a3J hsw hs hf `s s σ H D I (e40 hcap hidx `apA)
  apply `ob;exact kk _ H' (ev.s.wr c1 c2 (`_o H') Zv0 (env.set j rv))
def jm0(gx:GX):GS:=`ih `GV (.rt r.1)
theorem Wa0(h:`qG):`GI jm0 gx:=.mk λH₀ B₀ δ pins s σ H D I hq180=>by
 apply `aX hq180
 unfold jm0 at e1;cases e2:`e8 with
 | none=>apply `am;cases e1
 | some q =>
  apply `am;cases e1;refine `t8 `l_ `apA;apply `ob;exact `a3M
def dgO(i:Nat)(gk:GE):GE:=fun δ=>`zx λb=>match b.1 with
 | `Gt=>`UC λdk=>`a0J λq=>`al2
 | _=>`f
section
variable{a:`I}{p:Pos}{g ga gb:GE}
theorem ut0(i:Nat)(hu:`lX)(hb:`dS)(hN:`dg)(hv:`d')(hd:`aO)(hcd:`dA)
  (hs:`aWT):PD X (`mK `g_ b pos) (dgO i gb):=.mk λB δ=>(Vk0 hu `kU `f4 hs).imp fun σ H Q hq181=>by
 skip;apply `bi hq181
 unfold dgO at h;let#[bm,eb,h]:=`f7;let#[d0,Y,J]:=`n!;let#[a,O,hB,ro]:=en.at Y;have ro:=(J X.K H B a ro).1;split at h
 rotate_left
 ·cases h
 rename_i ks ds hbm;rw[hbm] at ro;let#[xs,hx,hl,rr]:=ro;let#[y,e2,h]:=`f7;let#[q,e3,h]:=`f7;done;refine#[_,O,y,en,e2,`Dn];let#[v,U,rv]:=(va0 (rr.same s2)).1 d h;have:=ng0 e3 r2;subst this;exact#[a,v,rfl,`cd U (DGet.k (s2 _ _ hx)),k v H2 s2 rv]
def La0{d:D}(h:`n4)(r:`db):`ac_:=by
 apply `amE
 ·rw[Q9] at r ⊢;exact r
 ·rw[V1] at r ⊢;exact r
 ·rw[Y0] at r ⊢;exact r
 ·rw[R4] at r ⊢;exact r
def Xw0(ga:GE)(gx:GX):GX:=`Gh λd=>`qM `n4 (`GV λr=>(`z [d,r.1],r.2))
def EnvV.new{σ:St}{δ:Ds}{d d':D}{v':V}(ev:`G6)(s:`bb)(r:∀B:BS,`nZ->`db->Rp K H' B d' v'):EnvV K `ae `ac H' σ δ d' v':=by
 apply `ob;exact#[`a3N s,#[B,c1,c2,`hM s,r B `zF rv],ev.fr,ev.b0]
theorem De0{x1}(ha:`cZ)(h:`qG)(hs:`gm [a,e] (`_Q::`Zf))(hs2:`f5):PX X (`Rf [a,e]) (Xw0 ga gx):=.mk λH₀ B₀ δ pins s σ H Q I hq182=>by
 skip;apply `aX hq182
 unfold Xw0 at e1;apply `aZ;apply `UU;split at e1
 rotate_left
 ·cases e1
 rename_i hfl;cases e3:`e8 with
 | none=>apply `b8;cases e1
 | some q =>
 apply `b8;cases e1;done;refine Yr0 (O2 `bv (O2 `l_ zy0 hs2) hs) `s s σ H Q I (`GJ (`v0 #[q,`apB,e3,λv2 H2 ev=>#[`a3O,λp hp=>k _ _ (ev.new `gu λB' hB rv=>?_)]]));rw[N5];apply `lZ p [v1,v2] #[λz=>hB p z hp,d8];rw[j6];apply `lZ v1 [v2] (La0 hfl r1);rw[j6];exact`Gu v2 (`s7 `gu)
def Zx0(f:`N)(gx:GX):GX:=`ih `y8 ((f [r.1]).map `apC)
theorem Ro0{T:`bJ}{f:`N}(hc:`ajt)(hf:`SL)(hm:`nL)(hv:`Ru)(ha:`qG)(hg:`fo)
  (hn:`nM) (hdb:`aO) (he:`f5) (hpl:`ki) :
  PX X `aWi (Zx0 f gx):=.mk λH₀ B₀ δ=>(`SM nu0 hc (O2 `zv zy0 he)).imp fun σ H Q hq183=>by
 skip;let#[q,en,e1,k]:=hq183
 unfold Zx0 at e1;let#[r2,e2,e1]:=`cG;cases e3:f [r2.1] with
 | none=>apply `b8;cases e1
 | some d =>
 apply `b8;cases e1;done;refine#[r2,en,e2,`azm];apply `ob;exact hf H1 B [v] [r2.1] d Q `zF (`EO j6 (`Gu v rv)) e3 λv' H2 s2 r'=>k v' H2 #[`a3N s2,#[B,c1,c2,`hM s2,r'],ev.fr,ev.b0]
universe zz
theorem be0:∀(kvs acc:`hw),(`sR (acc++kvs)).Nodup->qq0 acc kvs=acc++kvs
 | [],acc,_=>`aw `cg
 | p::r,acc,h=>by
  have hn:`a3P=acc++[p]:=by
   unfold putK;rw[`ag];rw[`apD];rintro⟨q,hq,e⟩;have e:=o0 e;rw[`a2,`ab,`Th] at h;exact h.2.2 q.1 (S4 hq) p.1 A8 e
  show qq0 (`a3P) r=_;rw[hn,be0 r (acc++[p]) (`l `ca h),`ca];rfl
abbrev GP:=Ds->`aH (`Vh)
def Tp0:GP:=`aQa
def tj0(gk gv:GE)(gP:GP):GP:=fun δ=>`UC λk=>`Hx λv=>(gP δ).map λps=>(k,v)::ps
def RpP(K:`x)(H:Hp)(B:BS)(ps:`Vh)(vs:`nn):Prop:=`lN `id (`k_ `eE)/\`lN `h? (`_y)
structure PDP(X:Cx)(pos:Pos)(keys:`G2)(vals:`bM)(gP:GP):Prop where
 mk::go:∀δ,∃trs,PPs X pos keys vals trs/\∀B σ H Q,(∃ps,`adg/\gP δ=`c ps/\∀vs H',`bb->RpP X.K H' B ps vs->`ahT)->`aUB
section
variable{keys:`G2}{vals:`bM}{gk gv:GE}{gP:GP}
theorem Hx0:PDP X pos [] [] Tp0:=.mk fun δ=>#[[],Hj0,λB σ H Q hq184=>by
 let#[ps,en,e,k]:=hq184
 cases e;exact k [] H `v9 #[`a3Q,`a3Q]]
theorem gp0(hk:PD X ke gk)(hv:PD X ve gv)(hr:`a3R):PDP X pos (`c ke::keys) (ve::vals) (tj0 gk gv gP):=.mk fun δ=>by
 let#[trs,h1,h2]:=hr.go δ;refine #[_,Mv0 (tk:=`cA (∃B,`gq tD X.K gk)) (tv:=`cA (∃B,`gq tD X.K gv)) (λpins s σ H Q I #[B,h]=>`G7 hk h) (λpins s σ H Q I #[B,h]=>`G7 hv h) h1,λB σ H Q hq185=>?_];skip;let#[ps,en,e,k]:=hq185;unfold tj0 at e;let#[a,e1,e]:=bdS e;let#[b,e2,e]:=bdS e;cases e3:gP δ with
 | none=>rw[e3] at e;cases e
 | some qs =>
 rw[e3] at e;cases e;done;refine#[B,a,en,e1,`v0 #[B,b,`ic,e2,λv2 H2 s2 r2=>h2 B _ _ _ #[qs,`a3S,e3,λvs H3 s3 rr=>k _ H3 (`uf) `yN]]]
 ·rw[`ab,`ab,j6]
  exact#[v1,_,rfl,`JQ `EE,rr.1]
 ·rw[`ab,`ab,j6]
  exact#[v2,_,rfl,r2.same s3,rr.2]
theorem Xb0:∀{ks:`gw} {vs:`nn},`k_ `eE=`Nh->vs=`a3T `amr
 | [],[],_=>rfl
 | [],`dC,h=>by cases h
 | `dC,[],h=>by cases h
 | `lW,v::vs,h=>by
  rw[`ab,`ab] at h;have h1:=(T0 h).1;have h2:=(T0 h).2;rw[`ab,`d!,`ab,← Xb0 h2,← h1]
def ed0(gP:GP):GE:=fun δ=>(gP δ).bind λps=>(ow0 (`id)).bind λks=>`aW (ks.Nodup/\`jc<=15) (`dk `Kh (`h?))
theorem Rs0(h:`a3R)(hall:`F (`aUD) Aa)(hl:`F (`Tr=vals.length) Aa)(h0:keys≠[]:=by exact λz=>nomatch z)(h15:`F (`Tr<=15) Ab) :
  PDF X (.Dict keys vals pos) (ed0 gP):=.mk λB δ pins s σ H Q I hq186=>by
 skip;let#[d,en,e,k]:=hq186
 unfold ed0 at e;let#[ps,e1,e]:=bdS e;let#[ks,e2,e]:=bdS e;split at e
 rotate_left
 ·cases e
 rename_i hnd;cases e;let#[trs,h1,h2]:=h.go δ;done;refine Jf0 h1 hall hl h0 h15 `s s σ H Q I λp hp=>h2 `wS _ _ _ #[ps,en.fresh hp,e1,λvs H' s' rr=>#[s' _ _ d8,`NR,?_,?_,?_]]
 ·exact Xb0 (e60 e2 rr.1)
 ·rw[`vI]
  have:=hnd.2;lia
 ·have J:`jc=(`y `_y):=by
   have:=C7 `Ej (e60 e2 rr.1)
   simpa using this.symm
  have hm:qq0 [] (`NR)=`NR:=by
   rw[be0 _ [] (by
    rw[`kV];have:`a3T `eE=ks:=List.map_fst_zip `j;rw[`E];exact hnd.1)]
   rfl
  rw[hm];refine k p _ hp #[λc o q=>?_,λc o xs q=>?_] #[`k_ (λv:V×V=>v.2),d8,J,?_]
  ·have hc:c≠p:=T4 q hp
   rw[j4 hc];exact s' c o (`l (j4 hc) q)
  ·by_cases hc:c=p
   ·rw[hc,d8] at q;cases q
   ·rw[j4 hc] at q
    have:=s'.nf c o xs q
    rwa [j4 hc] at this
  ·exact rr.2.mono (`A? `nU)
universe zz
theorem Jg0(i k:Nat){sc scope:`cR}{elt iter:`I}{N N':`h}{n:Nat}{caps:`k}{gi:GA}{idx:`k}{f:`be}{gx:GX}
  (hcap:`zH) (ok:`t?) (hidx:∀j∈idx,j<n) (hi:`iO)
  (hg:`kg) (he:`Vg)
  (hc:`iR) (hsc:`y5) (hN:`y6) (hs:`fj) :
  `a3G:=Lh0 i k hcap hc hsc `y7 hidx hi hg he hs
theorem Nf0(i k j:Nat){y:Str}{py spos:Pos}{sc scope:`cR}{elt iter:`I}{N N':`h}{n:Nat}{caps:`k}{gi:GA}{idx:`k}{f:`be}{gx:GX}
  (hcap:`zH) (nd:`et) (ok:`t?) (hidx:∀j∈idx,j<n) (hi:`iO)
  (hg:`kg) (he:`Vg)
  (hc:`iR) (hsc:`y5) (hN:`y6)
  (hiN:`qH) (hy:`lS)
  (hsw:`a3K)
  (hs:`fj)
  (hf:`ka) :
  `a3L:=Ya0 i k j hcap nd hc hsc `y7 hidx hi hg he hiN hy hsw hs hf
abbrev GTX:=Ds->`aH (`C×Ds)
def tTX(K:`x)(H₀:Hp)(B₀:BS)(δ:Ds)(gt:GTX):TT:=`cA (∃r,`ct/\`g2=`du/\∀H',`hJ K H' r.2->Q r.1 H')
structure PTX(X:Cx)(e:`I)(gt:GTX):Prop where
 mk::go:`io PT e `a3U
structure PWX(X:Cx)(e:`I)(gt:GTX):Prop where
 mk::go:`io PW e `a3U
def liftT(gt:GB):GTX:=fun δ=>`a3V λb=>(b,δ)
def X3(gx:GX):GTX:=fun δ=>`y8 λr=>match r.1 with
 | `f?=>`c (b,r.2)
 | _=>`f
def y20(gt:GTX):GTX:=`ih `a3V (!r.1,r.2)
def Wb0(gt gu:GTX):GTX:=`ih `wE (`w `abp (gu r.2) (`c (`m,r.2)))
def orT(gt gu:GTX):GTX:=`ih `wE (`w `abp (`c (`d,r.2)) (gu r.2))
def ifX(gt:GTX)(Ga Gb:GSB):GSB:=`apE
def gy0(ga:GE)(gx:GX)(f:`a7):GX:=`Gh λda=>`qM `a3W (`y8 λr=>(f da r.1).map `apC)
section
variable{a c:`I}{rest:`bM}{as bs:`b7}{gt gu:GTX}{gb:GB}{ga:GE}
theorem mo0(h:PTD X e gb):PTX X e (`zI gb):=.mk λH₀ B₀ δ pins s σ H Q I hq187=>by
 skip;apply `aX hq187
 apply `aZ;unfold liftT at e1;cases e2:`fL with
 | none=>apply `am;cases e1
 | some t =>
  apply `am;cases e1;done;exact `G7 h #[t,env,e2,λH' s'=>k H' (`ae7)]
open T in
theorem pm0(h:`qG)(he:`ah0):PTX X e (X3 gx):=.mk λH₀ B₀ δ pins s σ H Q I hq188=>by
 apply `aX hq188
 unfold X3 at e1;cases e2:`e8 with
 | none=>apply `am;cases e1
 | some q =>
  apply `Hv;split at e1
  rotate_left
  ·cases e1
  rename_i t hq;cases e1;refine O80 `l_ he `s s σ H Q I `apA;apply `ob;rw[hq,V1] at rv;exact#[t,rv,k H' ev.s]
theorem l60(h:`HG):PTX X `FN (y20 gt):=.mk λH₀ B₀ δ pins s σ H Q I hq189=>by
 apply `aX hq189
 unfold y20 at e1;cases e2:`g2 with
 | none=>apply `am;cases e1
 | some q =>
  apply `am;cases e1;exact Q20 `l_ `s s σ H Q I (`pf k)
theorem K30(h:`HG):PWX X `ah1 gt:=`Vi Um0
theorem uu0(h:`HG):PWX X `ah2 gt:=`Vi P40
theorem Ii0(ha:`HG)(hb:PWX X `yr gu):PWX X `ys (Wb0 gt gu):=.mk λH₀ B₀ δ wh pins s σ H Q I hq190=>by
 apply `aX hq190
 unfold Wb0 at e1;apply `us;refine `a3X P00;cases hq:q.1 with
  | true=>apply `HH;apply `qP
  | false=>apply `HI;cases e1;exact k H' J
theorem ui0(ha:`HG)(hb:PWX X `FL gu):PWX X `FM (orT gt gu):=.mk λH₀ B₀ δ wh pins s σ H Q I hq191=>by
 apply `aX hq191
 unfold orT at e1;apply `us;refine `a3X Kr0;cases hq:q.1 with
  | true=>apply `HH;cases e1;exact k H' J
  | false=>apply `HI;apply `qP
theorem PWX.pt(h:PWX X e gt):PTX X e gt:=`Vi L2.PW.pt
theorem l40(hc:`apF)(ha:`a03)(hb:`a04):`SV PSB ifX:=.mk λH₀ B₀ δ pins s σ H D I hq192=>by
 apply `aX hq192
 unfold ifX at e1;apply `us;apply `apG;cases hq:q.1 with
  | true=>apply `HH;apply `qP
  | false=>apply `HI;apply `qP
open T in
theorem Ls0{op:`gB}{rr:R2}{f:`a7}(ho:`Vj)(hf:`Vk)(ha:`cZ)(hb:PX X b gx)(hm:`yW):`apH (gy0 ga gx f):=.mk λH₀ B₀ δ pins s σ H Q I hq193=>by
 apply `aX hq193
 apply `aZ;unfold X3 gy0 at e1;cases e2:`ei with
 | none=>apply `am;cases e1
 | some da =>
 apply `Hv
 by_cases hfl:`a3W
 rotate_left
 ·rw[`ag hfl] at e1;cases e1
 rw[`Q hfl] at e1;cases e3:`e8 with
 | none=>apply `b8;cases e1
 | some q =>
 rw[e3,`p] at e1;cases e4:f da q.1 with
 | none=>rw[e4] at e1;cases e1
 | some d =>
 apply `apI;split at e1
 rotate_left
 ·cases e1
 rename_i t hd;have hd:d=.bl t:=hd;subst hd;cases e1;refine mk0 ho `zz `a05 hm `s s σ H Q I #[da,env,e2,λx H1 s1 r1=>#[q,`apB,e3,λy H2 ev=>?_]];apply `aoQ;refine hf H2 B' x y da q.1 _ _ J.bad (ro0 hfl r1) rv e4 `Uj
 rw[V1] at r3;exact`a3Y
universe zz
universe DL
namespace L2
open Spec PyProof.Rows
section
variable{sub:`nH}
def CloseOk.other(c:`uk){b:`e}{u:`tG}(q:H b=u)(n:`a0V):`a3Z=u:=by
 apply `a0W
 apply `l1;have hb:`jQ:=λz=>by
  cases l:`v? with
  | none=>have:=`UG;apply `a3 l;cases `E
  | some so=>exact `a0X
 rw[`ev];cases l:`ld with
 | none=>exact q
 | some so=>exact `a0Y
universe zz
def FnOk.closing{P:`ak}{w:`O}{k:Nat}{f:`e}(F:`R8 k ps sp) :
  `R8 k ps (λvs H Q E=>∃a sub,`uk/\sp vs `ul Q E):=by
 refine #[λvs H Q E #[a,sub,c,q]=>`EP vs _ Q E q,λA outer s H args us vs Q E hr e hb hv hq194=>?_];let#[a,sub,c,q]:=hq194;have no:∀b,`dw->`a3Z=`f:=λb z=>`Vl z λso z=>nomatch z
 refine K2 (`yE A `da s `ul args us vs Q E hr #[`ajh,e.mod,λb o z=>#[(e.bs b o z).1,no b (e.bs b o z).2],e.bsz,e.funs,λb z=>no b (e.frf b z),e.hok.closed `UG c.at' c.ins,e.bare] hb hv q) `yJ
 skip;cases r with
 | error er=>done;exact hq
 | ok fl =>
  cases fl with
  | ret u =>
   let#[v,H',h1,h2,un,h3,h4,h5]:=hq;done;exact#[v,H',h1,h2,#[`apJ un.keep,`apJ un.slot,`apJ un.free,un.there,λb xs e1=>un.tups b xs (`Vl e1 `a0Z),λb o u e1=>un.frzs b o u (`Vl e1 `a0_),λb ps e1=>un.tbls b ps (`Vl e1 `a00)],h3,h4,h5]
  | next=>done;exact hq
  | brk=>done;exact hq
  | cont=>done;exact hq
universe L2
namespace DL
open Spec PyProof.Rows L2
def adopt{H3:Hp}{σ:St}{δ:Ds}{L:`e}{es:`i}{xs:`V}(en:`ct)(b1:`mM)(b2:`mN)(env:`bn)(at':`uq)
  (hdx:∀C dx fs,`apk->`a3_) (s13:`c1 H H3) (hLH:H L=`f) (hL3:H3 L=`Kg) (hfl:`U7) (rx:Rps K H3 B es xs) :
  `a30/\∃Hc,`a31/\`hJ K Hc `Vm/\`kr Hc `Vm /\
   AtN K Hc B σ `Vm i a `ad7 `pJ `E0/\RpN K Hc B `pJ (`afC) (`wl):=by
 apply `a2O;have c4:∀b∈as,`akg:=λb hb z=>by
  rcases `aaw b hb with q|q
  ·rw[q,hH] at z;cases z
  ·rw[q.2] at z;cases z
 have La:L∉as:=λz=>c4 L z hLH
 apply `a2R
 have c0:=`ru s13;have J:`a2S=(`y `awY):=`a2T
 have Z:`a2U:=by
  rw[`Th];apply `a2V;rw[`fr hy] at z;exact `a2W
 have a4:`a2X:=`a2Y
 have c8:`a2Z `E0 `ak_:=λk c so q1 q2=>by
  by_cases hk':k<`hX
  ·rw[`U?] at q1
   apply `a2_;exact `n `G9
  ·have hl1:=`a20
   rw[`Y] at hl1;have b3:`app:=`a21
   subst b3;rw[`zG,`n9] at q1;rw[`Ed,`zG,`n9] at q2;apply `a22
 have a2:`ac4 (`E0[k]?=`oR):=λk C dx fs e=>by
  by_cases hk':`UP
  ·rw[`U?] at e
   exact `a23
  ·rw[`Hp] at e
   cases q:k - `KP with
   | zero=>rw[q] at e;cases e
   | succ n=>rw[q] at e;cases e
 have cl:`a30:=pu0 a4 Z J (λk c so q1 q2=>by
  skip;rcases c8 k c so q1 q2 with⟨q1,q2⟩|⟨_,rfl,rfl⟩
  ·done;exact `a24
  ·done;rw[v50 La];exact hL3) a2
 obtain⟨Hc,O⟩:∃Hc,`a31:=`ad;refine#[cl,Hc,O,?_];skip;have ca:Hc a=`c (`o1 `ad6):=`a32
 have a5:∀b∈`mo,`a25:=λb hb n=>by
  rw[O];apply `l1;let#[so,q]:=t30 J hb Z;rw[`ag n,q]
 have U:`a26:=λb hb=>by
  rw[O];apply `l1;rw[`a27 (`l z (C9 a4)),xd0 hb,`a28]
 have but:But a H Hc:=#[λb u n z=>by
  apply `Va
  ·apply `Vb
   ·rcases `afF with w|w
    ·exact `L w n
    ·rw[`apK,← w.2,z]
   ·rw[`HD,hLH] at z;cases z
  ·rw[`Vn];exact s13 _ _ z,λb u xs n z=>by
  apply `Va
  ·rw[`apK] at z;cases z
  ·rw[`Vn] at z;exact s13.nf _ _ _ z]
 have gr:Gr H Hc B B:=`C9 `ur but;have c3:¬B L:=`HE hLH;have hw:RpW K Hc B `ad7 a `pJ `E0:=by
  refine#[a4,Z,ca,`js,J,`yZ ?_ (`aa #[xs,rfl,k70 (pa0 hfl) (ue0 hfl rx)] `R),a2]
  ·by_cases n:b=a
   ·exact `n n
   ·refine `q #[?_,`apK]
    apply `Vb
    ·exact`a29
    ·rw[`HD];exact c3
  ·apply `a2'
   intro z;subst e;have c1:=`a2!;subst c1;exact hdx C dx fs q2 (z▸hLH)
 let#[x,mk,a3]:=Tx0 `zA;let#[d0,Y,b0]:=v30 a3;let#[a',a6,hB,ro]:=`Be Y;rw[`gA] at a6;cases a6;have a8:`axL=`a33:=by unfold rj0;rw[a3]
 have a1:`kr Hc (`a33):=`x' Y `gA but ((`n? b0).2 _ _ _ `a3d);have c2:=`ts b1 b2 Y `gA but a1;done;rw[a8];refine#[c2,a1,#[`gA,hB,Sm0 a3 _,hw],?_];unfold K4;rw[v70];have a7:`gh=`hX:=`a3f
 exact `a3g a7
def Zg0(f:Str)(fs:`i):`C:=fs.all λn=>match n with
 | `c9=>`ao (x≠f)
 | _=>`d
def db0(i:Nat)(c f:Str)(gv:GE):GS:=fun δ=>`a2h λr=>`aW (`zD/\`c8 dv=`d/\`a34) (`a35 dv δ)
def h80(i:Nat)(c f:Str)(g:GE):GS:=`gJ λd=>`gM λns=>(S60 d).bind λes=>`ao? λp=>`apa λr=>`aW (`zD/\`U7/\`a34) (`a35 `afC `Vm)
theorem ab0{f:Str}(h:Zg0 f `_c=`d):f∉nm:=λz=>by
 unfold Zg0 at h;rw[`j5] at h;have:=h (`t f) (S4 z);simp at this
theorem gq0{f:Str}:∀{nm:`h} {xs:`V},`ep=`_->f∉nm->`a36
 | [],[],_,_=>rfl
 | [],`dC,h,_=>by cases h
 | `dC,[],h,_=>by cases h
 | n::nm,`nO,h,hn=>by
  rw[`pr] at hn;have ih:`a36:=gq0 `ia λz=>hn (`q z)
  show (`w (n=f) _ ((n,x)::`aCf))=_;rw[`ag (λz=>hn (`n `sQ)),ih];rfl
def Fm0{σ:St}{s:`u}(I:`A)(w:`Ze X.K H){C:`e}{fs:`iA}(h:`apk):`a3_:=by
 apply `aoE `bP (`bR a _ w.at');have hm:`a2?:=by
  refine `a3a;rw[`a3b];exact#[w.hd,h]
 let#[_,w,_]:=(all _ hm).2;rw[w];exact λz=>nomatch z
section
variable{gv g:GE}{f:Str}
theorem lp0(i:Nat)(hv:`apb)(hc:`HA)(hf:`HB)(hN:`dg)(hvis:`d')(hd:`aO)(hcd:`dA)
  (hs:`apc):`apd db0 gv:=.mk λH₀ B₀ δ pins s σ H De I hq195=>by
 skip;apply `gL hq195
 unfold db0 at e1;apply `aZ;done;apply `iV;apply `ape;apply `iV;skip;apply `UY;apply `UZ;clear e1;apply `U_;clear e0;cases `U0;apply `U1
 done;apply `U2
 skip;split at e1
 rotate_left
 ·cases e1
 rename_i hq;let#[a2,hn,a3,O]:=hq;subst a2;cases e1;apply `U3;done;apply `a2j;skip;have J:=`iU;apply `apf;apply `a2k;apply `HC;done;apply `a2l
 ·apply `Dp
  rw[`P] at O;exact O
 ·rw[gq0 hl (ab0 a3)]
  let#[Z,z1,z2]:=`U4 b1 b2 env s1 at' `Ml Y (n':=`a37 [dv]) (so':=`a38 v1) #[C,U,`NT,xs++[v1],rfl,`a39,`a3',hC,a1,`UW `KW (ia0 (Xu0 hn) r1)] `U5 (d:=`v) (v:=`v) `pY;apply `U6
theorem n80(i:Nat)(hv:PDF X `he g)(hc:`HA)(hf:`HB)(hN:`dg)(hvis:`d')(hd:`aO)(hcd:`dA)
  (hs:`apc):`apd h80 g:=.mk λH₀ B₀ δ pins s σ H De I hq196=>by
 skip;apply `gL hq196
 unfold h80 at e1;apply `aZ;done;apply `iV;let#[d,e2,e1]:=e1;apply `iV;skip;apply `UY;let#[es,w2,e0]:=J9 e1;clear e1;have e1:=e0;clear e0;cases Xs0 w2;apply `UZ;clear e1;apply `U_;clear e0;cases `U0;apply `U1
 done;apply `U2
 skip;split at e1
 rotate_left
 ·cases e1
 rename_i hq;let#[a4,hn,a6,O]:=hq;subst a4;cases e1;apply `U3;done;refine `afB (Ye0 `afz (z90 (R7 `afA)) hs) #[a,`mR,env,e2,λp H1 hp s1 ro=>?_];skip;let#[ys,o1,ry]:=ro;let#[cl,Hc,a3,a5,a1,J,rn]:=adopt (es:=es) en b1 b2 env at' (λC dx fs h=>Fm0 I at'.w h) s1 hp o1 hn (ue0 hn ry);done;refine#[a,`bP,(`iU).w.openOk,a,_,cl,?_];rw[← a3];skip;apply `apf;let#[C,U,nm,xs,rfl,rfl,hl,hC,a2,rx]:=`NL;apply `HC;done;refine#[`a?,`gA,a,_,`no,a,C,U,_,rfl,`aEY,q1,`Ps,?_,?_]
 ·apply `Dp
  rw[`P] at O;exact O
 ·rw[gq0 hl (ab0 a6)]
  let#[Z,z1,z2]:=a5.setN b1 b2 a1 `ta J `Ml Y (n':=`a37 [K4 (`y (`d2 [`apL,`Vo,`eh]::`aV))]) (so':=`a38 `gU) #[C,U,`NT,xs++[`gU],rfl,`a39,`a3',hC,a2,`UW `KW rn] `U5 (d:=`v) (v:=`v) `pY;apply `U6
universe zz
def Sl0(c:Str):D:=`z [`vz,`a3!]
def su0(j:Nat)(c:Str)(f:`aP):GS:=fun δ=>match f (Sl0 c) [] with
 | `c (`v,`CJ)=>`ar (`el j `a1t)
 | _=>`f
section
variable{p:Pos}
open T in
theorem Ot0(j:Nat){k:Nat}{C:`e}{f:`aP}(nd:`et)(M:Mk X.K C fa)(F:`J_ CX0 fa (spB X.K 0 f))(hb:`aRw)(hC:`NC)(hr:`zE)(hk:k+1<=n)(hm:`a_y)(hg:`a3?)
  (hi:`qH) (hy:`lS) (hdb:`aob)
  (hf:`ka) {spos:Pos} (hsw':`a4a) :
  `a4b:=.mk λH₀ B₀ δ pins s σ H De I hq197=>by
 apply `gL hq197
 unfold su0 at e1;apply `aZ;split at e1
 rotate_left
 ·cases e1
 rename_i xx ns hq;cases e1;refine Wi0 nd hi hy (Mp0 (E:=E0) M F.closing `iQ hg hm hb `R no0 hdb) hsw' hf `s s σ H De I λx dx hx Z Y=>?_
 obtain⟨H1,J⟩:∃H1,H1=`aMO:=`ad;rw[← J];have a2:H1 x=`c `a4c:=by rw[J,d8]
 have cl:`i9 H1 x `apM:=pu0 rfl (`afE) rfl (λk c so e1 e2=>by
  match k with
  | 0=>cases e1;cases e2;exact a2
  | k+1=>simp at e1) (λk C dx fs e=>by
  match k with
  | 0=>rfl
  | k+1=>simp at e)
 obtain⟨Hc,O⟩:∃Hc,Hc=`gZ H1 x `apM:=`ad;refine#[x,_,cl,?_];rw[← O];have cx:Hc x=`c (`o1 `apM):=`a32
 have U:∀b,`yf->Hc b=H1 b:=λb hb=>by
  rw[O];apply `l1;rw[`ev,xd0 (`l `aT_ hb)]
 have sm:`c1 H Hc:=#[λb o z=>by
  have n1:`yf:=T4 z hx;rw[U b n1,J,j4 n1,j4 (T4 z Z)];exact z,λb o xs z=>by
  by_cases n1:b=x
  ·rw[n1,cx] at z;cases z
  rw[U b n1,J,j4 n1] at z
  by_cases n2:b=dx
  ·rw[n2,d8] at z;cases z
  rw[j4 n2] at z;exact z]
 have a3:¬B x:=`HE hx;have w:RpW X.K Hc (`a4d) [`a3!] x [x] `aE3:=by
  refine#[rfl,`afE,cx,λb hb=>`n (L6.mp hb),rfl,`aa #[C,dx,[],[],rfl,rfl,rfl,hC,λz=>Y `Vp,`aps] `R,λk C dx fs e=>by
   match k with
   | 0=>rfl
   | k+1=>simp at e]
 refine#[`a4d,[],[],x,Sl0 c,`z (`t xx::ns),`v,`Nk,`vl,rfl,`b3,`lQ,#["",_,rfl,_,_,w],hq,λv H' but rg rv=>#[by rw[Q9] at rv;exact rv,kk _ _ ?_]]
 ·rcases z with z|z
  ·exact(`zF b z).same sm
  ·rw[z];exact .of cx (λ_ _ q=>nomatch q) λ_ q=>nomatch q
 ·have a1:`bb:=#[λb o z=>but b o (T4 z hx) (sm b o z),λb o xs z=>by
   by_cases n1:b=x
   ·rw[n1] at z;exact `L z (rg.plain o xs)
   ·exact sm.nf b o xs (but.nf b o xs n1 z)]
  exact en.takeL b1 b2 env j hx a1 rg.toL
universe zz
def Ss0(K:`x)(C:`e)(F:`h):`C:=`aL7&&W.hasDictIn K C&&`aAu&&(match `ayC with
 | `c (`c (`co s))=>s == `abS
 | _=>`m)&&F.all (λf=>match `axx with
 | `hb=>`d
 | _=>`m)&&`ayD&&`ajl
open T in
def z50{C:`e}(h:`a4e):`td/\(∀f∈F,`yz)/\`ai7/\`ajl=`d:=by
 unfold Ss0 at h;simp only[`bg] at h;let#[#[#[#[#[#[h1,h2],h3],h4],h5],h6],h7]:=h;refine#[#[h1,h2,h3,?_],λf hf=>?_,h6,h7]
 ·split at h4
  ·rename_i s e
   rw[e,`RB h4]
  ·cases h4
 ·have:=y0.mp h5 f hf
  split at this
  ·rename_i e;exact e
  ·cases `E
theorem Hi0{C:`e}(a:`jF)(h:`a4e):ClsN K c F:=#[λC' e=>by
 rw[a] at e;cases e;exact#[(z50 h).1,(z50 h).2.1]]
structure FnI(P:`ak)(w:`O)(K:`x)(mg:`a6)(base:`D)(c:Str)(k:Nat)(ps:`h)(f:`aP):Prop where
 ex:∃C fa fd,`a2z/\`jF/\Mk K C fa/\`BY/\`aH0
section
variable{p:Pos}
def jf0(j:Nat){k:Nat}{f:`aP}(nd:`et)(M:`DZ FnI c)(hr:`zE)(hk:k+1<=n)(hg:`a3?)
  (hi:`qH) (hy:`lS) (hdb:`aob) {spos:Pos}
  (hsw:`a4a)
  (hf:`ka) :
  `a4b:=by
 skip;let#[C,fa,fd,F,hC,mk,hb,hm]:=M.ex;done;exact Ot0 j nd mk F hb hC hr hk hm hg hi hy hdb (hf:=hf) (hsw':=hsw)
universe zz
universe DL
namespace ZipL
open Spec PyProof.Rows
section
variable{w:`O}{s:`u}{R:`j3}{TI TO lo S:`e}{xs:`a1}
def Im0(hh:`gF)(D:`kj)(hlo:`Hc)(st:`adA)(hn:`ug)(L:`T9)(hT:`Hb)(hI:`Ub)(c0:Nat)(res:`B)
  (gS:`dn S=`aWr)
  (hR:`a4f `aXJ) :
  `aD `dd `fS (`D5 `xs `g9 res)
   `Fq `Fr s:=by
 have O:S≠z:=C8 L.z;apply `anz;apply `am9;apply `j6 L8 hT;have h1:`zh `xs `g9=`m:=by simp[`zh,O]
 apply `aX2
 apply `aX3
 apply `aX4;apply `j6 `aX5 hI;refine `_3;apply `am';apply `fZ E4 hT ek0;apply `aX6;apply `fZ E4 hT gh0;refine `jm;show `aD _ `fS (`aX7>>=λ_=>`aX8 `xs>>=λ_ =>
  `DK `aXK) _ _ _
 refine A0 (Y1 ?_);refine `o!;show `hv (`aX9 S S) _;apply `fZ N4 gS rfl;have J:=D6 `Uc gS rfl;refine N4 J rfl ?_;have Y:=D6 `Ud J rfl;have oth:`tc S (`fF->`qs ((`s? S `Uc).update S `Ud)) :=
  `kI (`C2 (`C2 e))
 have U:lo<S:=`anw;exact A1 #[`anx,Km0 (s:=s) (lo:=lo) (h₁:=`aB) hh D L hlo hn _ hR _ 0 _ `cp _ ⟨⟩ [] rfl `lj (st.keep L oth) (`kI (`G! (B4 (E7 hb U)))) Y rfl rfl `aX']
def N60(hh:`gF)(D:`kj)(hlo:`Hc)(st:`adA)(hn:`ug)(L:`T9)(hI:`Ub)
  (gS:`dn S=`TU)
  (hR:`a4f (`ady->`m? `aj `s9)) :
  `aD `dd `fS (`aWu #[[`T S,`ro],[]])
   `Fq `Fr s:=by
 show `hv (do let old ← `aWv `xs;`aWw `xs `TV;`aWx;`a4g) s;have U:S≠z:=C8 L.z;have Z:lo<S:=`anw;apply `anz;refine A0 (by
  apply `aWz;refine A0 (i8 gS rfl (A1 (by
   show `hv (`G' S `TV>>=λ_=>`aWA>>=λ_=>`a4g) s;have g2:=D6 `NV gS rfl;have oth:`tc S (`fF->`qs `a4h):=`am!
   have J:=oth z _ (A9 U) hI;refine A0 (N4 gS rfl (A0 (`aWB (Im0 (s:=(`e4 s `a4h)) (lo:=lo) (xs:=xs) (ys:=ys) hh D hlo (st.keep L oth) hn L `aju #[f0,J] _ `aj g2 λh' tk acc c as hk Y hl hG O=>?_))));exact hR h' tk acc c as (`kI (hk b o hb (`G! (B4 (E7 hb Z))))) Y hl hG O))))
universe zz
section
variable{w:`O}{s:`u}{xs:`a1}
def Lb0{Q:`as}(hh:`gF)(hl1:`zj)(hl2:`zk)(hn:`ug)
  (h:∀(h':`D) (tk c:Nat) (as:`aY) (t:`e),`ana->`Hd->(∀a∈as,`FD/\t<a)->`qw->`U<=t ->
   `aYb->`g1 t=`c (`xZ `Nq c)->`aYc) :
  `yA `aYd `aWH:=by
 apply `aYe
 apply `aYf
 refine call_zip_2 hl1 hl2 λh1 hz hTI a7 Z a4 a6 hk=>?_
 have U:`aYg:=`aYh
 have O:`aYi:=`aYj
 have H:`aYk:=λk hk=>`l a6 (Ai1 hk _)
 have D:=`aYl (n:=`U) a1 a2;have L:ZLow (`U+4) (`U+2) (`U+3) `U `jK l1 l2 `xk:=`aYn;refine `aWF (ob=`T `xk/\s1=`a4i) λob s1 a8=>?_
 let#[rfl,rfl]:=a8;have gC:`a4j `xk=`TU:=`gl;have pu:∀b o,`agL->`a4j b=`ay:=`v5
 have st:ZSt h1 (`U+4) (`U+2) (`U+3) `U `jK l1 l2 `xk xs ys 0:=#[`n #[rfl,hz,_,_,a7],hTI,Z,a4,U,O];refine#[`aWG,A51 _ _,N60 (s:=`a4i) (lo:=`U) (xs:=xs) (ys:=ys) (`TW) D `aYm (st.keep L λb o _ e=>pu b o e) hn L #[_,pu _ _ hz] gC λh' tk a5 c as a3 J hl hG Y=>`P?];have e:a5=`Nq:=`KM Y
 rw[e] at J;refine h h' tk c as `xk (λb o q=>a3 b o `adE (pu b o (hk b o q))) hl (λa ha=>#[?_,`any]) (hG.rise.imp λh=>B4 h) (H0 `xl) (λj a hj=>`aXS) J;exact H0 (E7 `xl (`any))
universe zz
universe ZipL
namespace DL
open Spec PyProof.Rows L2
def Bn0(K:`x):`kv:=λvs H Q=>∃q1 q2 xs ys,`aYP/\`aYQ/\`aYR /\
 `aYS ((t,`o `B5)::`anF)
def ax0(hc:`iR):fr0 X `Do `xt (Bn0 X.K):=by
 apply `QV;skip;apply `aYT;cases r with
 | cons r1 r =>
  cases r with
  | cons r2 r =>
   cases r;obtain rfl:=r1;obtain rfl:=r2;apply `aYU;apply `aYV;have l1:=`amT;have l2:=`amU;done;refine ZipL.Lb0 `lB `xh `S! (`amF) λh' tk c as t hk hl ha U ht hp gt=>?_
   rw[`b5,`b5] at hl;have O:`Ug:=`aYW
   refine#[`A!,_,Inv.laidM (t':=tk) I hk λp J=>?_,rfl,`aYX];rcases `cy J with rfl|J
   ·refine#[ht,_,`q #[rfl,?_,`r!,c,jj0 as,gt]]
    rw[`P,hl];lia
   ·skip;apply `aYY
    apply `aYZ;have hz:=Ak1.mp e2;let#[u',g1,g2]:=v1.get hz.1;let#[w',g3,g4]:=v2.get hz.2;have eu:u'=u:=by
     apply `aY_
     apply `a3 f1;exact`Uh
    have ew:w'=w:=by
     apply `aY0
     apply `a3 f2;exact`Uh
    subst eu;subst ew;done;exact#[`aY1,_,`n #[e3,`zm,[u',w'],`aY2,`aY3]]
def Zb0:`N
 | `aWm=>`c (`o `aWn)
 | _=>`f
section
variable{f:`I}{p:Pos}
open T in
theorem P80(hm1:`and)(hm2:`cm `hU=`f)(hv1:`anc)(hv2:`a4k)(ha:PDA X `wF gA)(hc:`iR)(hg1:`ane)(hg2:`hg `hU)
  (e1:`gm [`apN] ((`h9 (`apN))::`mq)) (h1:`ki)
  (he:`F (`azD=`rh::`a4l) Aa) (hpl:`kt (`kz pos2 (`a4l))) :
  PDF X (`dl `aEz [`apN]) (oA gA Zb0):=.mk λB δ=>(b70 (ax0 hc) hg1 hg2 hm1 hm2 hv1 hv2 `bv `r `r `r `r e1 h1 he hpl).imp fun σ H Q hq198=>by
 apply `bi hq198
 unfold oA at h;cases e3:`eb with
 | none=>rw[e3] at h;cases h
 | some ds =>
  rw[e3] at h;apply `eY;unfold Zb0 at h;apply `Ui
  rename_i as bs;refine#[_,en,e3,λvs H1 s1 r=>?_];rw[j6] at r;let#[x,t,rfl,r1,r]:=r;rw[j6] at r;let#[y,t,rfl,r2,r]:=r;rw[c7] at r;subst r;rw[Q3] at r1 r2;let#[q1,us,rfl,Y,t1]:=r1;let#[q2,ws,rfl,O,t2]:=r2;refine#[q1,q2,us,ws,rfl,Y.to,O.to,λL as' hl U hL hf fa=>?_];have J:(`a4m)=L::as':=`aY8
  have hN:(`a4m).Nodup:=`l J (`Lj #[hL,U])
  have fr:∀p∈(`NW),H1 p.1=`f:=λp hp=>by
   have:p.1∈L::as':=`aY9
   rcases `cy `E with e|e
   ·rw[e];exact hf
   ·exact fa _ e
  have sm:`c1 H1 (u70 H1 (`NW)):=#[λb u e=>by
   apply `aY';exact e,`aY!]
  have g:Gr H1 (u70 H1 (`NW)) B (`aSC):=λb u n e=>#[λz=>`eq n (λz=>by rw[z,hf] at e;cases e),sm _ _ e]
  refine k L _ (`s5 hf) (`oD sm) #[`axl,`aY?,?_];refine jl0 (t1.mono g) (t2.mono g) hl λp hp=>#[`aZa,`j1]
  have pin:p.1∈as':=`cd (nk0 hl) (S4 hp)
  rcases z with z|z
  ·exact `GN _ z (`s5 (fa _ pin))
  ·exact hL (z▸pin)
universe zz
universe DL
namespace L2
open Spec PyProof.Rows
def Co0(K:`x):`iJ:=λx vs H Q=>∃(p:`e) (ys:`S) (z:Int) (j:Nat),`aot/\vs=`Oh/\SqL K H p (`Vq)/\`a_?
theorem cu0:∀{ys:`S} {us:`J},`bO (`Vq) us->`a_8 Int (`c (`g y t))
 | [],_,`R,m,y,h=>by cases h
 | `Uy,_,`nG,0,y,h=>by
  cases h;let#[tk,rfl]:=r;exact`aor
 | `Uy,_,`nG,m+1,y,h=>by
  let#[tk,e]:=cu0 t m y `ia;exact`a_9
theorem e30:∀ys:`S,(`Vq).all tm0=`d
 | []=>rfl
 | y::ys=>by
  rw[`ab,`nT,e30 ys];rfl
def H30:MtR X "list.index" (Co0 X.K):=by
 apply `F';skip;apply `a0a;cases rx;apply `R1;apply `RO;let#[o,n,h1,h2,h3]:=id pl;have a1:`pD=`cq:=`a0b
 have a2:j<`cq:=`a0c;have at_:`a0d `g:=λm hm=>by
  apply `a0e
  let#[t,e]:=cu0 r m ys[m] (B6 J);refine`a0f;have:`a0g:=`Hl;rw[`E] at e;have e':=A3 e
  simpa using e'
 let#[c0,dd,dt,sl]:=o;obtain rfl:c0=`h0 := h2;obtain⟨rfl,rfl⟩:dd=`f/\dt=`aan:=h3;let#[t,rfl]:=ru;have O:∀(y:Int) (tk:Tok),`a4n=`d↔y=z:=λy tk=>by
  show (eqV (`g y) `ks)=`d↔_;simp[eqV]
 have Z:`b9<`anL:=by
  have h5:`RY:=by rw[`P] at hz;exact hz
  have h6:`W<`gE:=`av
  lia
 done;refine Q1 (T := `e2) `a4o (`a0j `e2) F.entry_list_index (F.args_list_index_2 _ _) (SeqAt.list_indexAt p `b0 n `f sl (`g z t) (eqU `ks) j `xo Z ?_ ?_) (`a0k `gW e30)
 ·apply `a0l
  rw[e2,O];rw[hj] at e1;cases e1;rfl
 ·intro m hm Y
  apply `a0m;rw[e2];cases hb:`a4n with
  | false=>rfl
  | true=>apply `a0n
universe L2
namespace DL
open Spec PyProof.Rows L2
def q40:`i->`aH (`S)
 | []=>`s_
 | `bw::ds=>`Er `Vr i
 | _=>`f
def Ra0:`zg
 | `eh,`Oh=>(`Vr).bind λys=>`a0o
 | _,_=>`f
open T in
def Ny0:∀{ds:`i} {ys:`S} {xs:`V},`Vr=`c ys->`bB->xs=`Vq:=by
 intro ds
 induction ds with
 | nil =>
  intro ys xs h r;rw[c7] at r;subst r;simp only[q40] at h;cases h;rfl
 | cons d ds ih =>
  intro ys xs h r;rw[j6] at r;let#[x,r',rfl,r1,r2]:=r;cases d<;>simp only[q40] at h<;>try cases h
  rename_i s;cases e1:`Vr with
  | none=>rw[e1] at h;cases h
  | some zs =>
   rw[e1] at h;cases h;rw[Y0] at r1;subst r1;rw[ih e1 r2];rfl
open T in
theorem Jj0(ho:`alX)(ha:`GU)(hbase:`wA `Uz)
  (hfew:`F ((`qB
  &&`Tb)=`d) Aa)
  (hline:`gG) (hs:`f5) (hplain:`n2) :
  PD X (`n3 o `Uz [e]) (q70 g gA Ra0):=.mk λB δ =>
 (pe0 F.plainAttrs_list `a4o F.type_list_index H30 (ho B δ) `bv `gH hfew `iK hs `qr).imp fun σ H Q hq199=>by
  apply `bi hq199
  unfold q70 at h;cases e1:`az with
  | none=>rw[e1] at h;cases h
  | some x =>
   cases e2:`eb with
   | none=>apply `cY;cases h
   | some es =>
    apply `cY;apply `eY;unfold Ra0 at h;split at h
    ·rename_i ds z
     let#[ys,e3,h]:=`f7;cases e4:`a0s with
      | none=>rw[e4] at h;cases h
      | some j =>
       rw[e4] at h;cases h;apply `alY;rw[Q3] at r1;let#[p,xs,rfl,hq,rx]:=r1;obtain rfl:=Ny0 e3 rx;refine#[`n #[rfl,_,`n1],_,`ic,e2,`Nd];rw[j6] at r2;apply `a0t;rw[c7] at r4;subst r4;rw[Y0] at r3;subst r3;apply `a0u;refine`a0v (hq.mono `S2).to `lc
       ·rw[`jt hj,`aov h1]
       ·have J:m<`cq:=`G
        rw[`jt J] at he;exact `a0x
    ·cases h
def atC(ys:`h):`AV
 | `bw=>`a4p `g0
 | _=>`f
section
variable{a0 ix:`I}{gi gb:GE}{gA:GA}{posg p pg p5 rp:Pos}
def Nr0(ys:`h)(i:Int):`aa5 `DY i=`a4p `CF:=by
 unfold L2.atI;rw[`P];cases L2.ixN `cq i with
 | none=>rfl
 | some j=>simp
open T in
theorem Df0{ys:`h}(hK:`a0p)(hb:`dS)(hg:`fo)(hd:`aO)(hs:`SJ) :
  PD X (`mK `ND b pos) (unG (atC ys) gb):=.mk λB δ=>by
 let#[p,o,its,n,hm,hk,hc,U,J,O,hv]:=hK;refine (S80 Xt0 `a0r `f4 hs).imp fun σ H Q hq200=>?_;apply `bi hq200
 unfold unG at h;cases e2:`fL with
 | none=>rw[e2] at h;cases h
 | some dk =>
  rw[e2,`p] at h;unfold atC at h;split at h
  ·rename_i i
   cases e3:`aCj with
   | none=>rw[e3] at h;cases h
   | some y =>
    rw[e3] at h;cases h;refine#[_,en,e2,`EV];rw[Y0] at r1;subst r1;exact#[p,`ZX,i,`o5,rfl,rfl,`a0w O,`gx Nr0 e3,k _ H1 s1 `KQ]
  ·cases h
universe zz
def ym0{α:Type}(xs:`bd)(lo hi st:`aE):`bd:=(`apO `apP `apP `apP).filterMap `ay6
theorem Yu0(r:`bB):∀l:`k,`lN (`LR (ds[·]?)) (`apQ)
 | []=>by rw[`a4q,`a4q,c7]
 | i::l=>by
  have ih:=Yu0 r l;cases e:ds[i]? with
  | none =>
   have e2:`adx:=t5.mpr (`l `cb (t5.mp e));rw[`Vs e,`Vs e2];exact ih
  | some d =>
   let#[x,ex,rx]:=`qo e;rw[`HJ e,`HJ ex,j6];exact`lI rx ih
theorem a70(r:`es):∀l:`k,`bO (`apQ) (`LR (us[·]?))
 | []=>`R
 | i::l=>by
  have ih:=a70 r l;cases e:`JE with
  | none =>
   rw[`Vs e,`Vs (r.none_of e)];exact ih
  | some d =>
   let#[u,eu,ru]:=`qo e;rw[`HJ e,`HJ eu];exact `aa ru ih
section
variable{lo hi st:`r6}{tl th ts:TO}
def Bm0(K:`x)(te:TE)(tl th ts:TO):TE:=`bu te (`tQ tl λl H2=>th σ H2 λu H3=>ts σ H3 λc H4=>∃a xs,`eu/\SqL K H4 a xs/\c≠`c 0/\`nP (H4 p=`f) H4 (`a4r))
def Jy0(he:`gD)(hl:PO X lo tl)(hu:PO X hi th)(hst:PO X st ts)(hsub:`a4s):PE X `a4t (Bm0 X.K te tl th ts):=by
 apply `bm;refine `RD (thn `lA λv s1 hq201=>?_);apply `gC hq201;refine `aNJ (thn `aNK λvl s2 hq202=>?_);let#[l,H2,I2,pl,q2]:=hq202;refine thn `aNL λvu s3 hq203=>?_;let#[u,H3,I3,pu,q3]:=hq203;refine thn (hst `s s3 σ H3 _ I3 q3) λvc s4 hq204=>?_;skip;let#[c,H4,I4,pc,a,xs,ex,hx,hc,q]:=hq204;subst ex;cases r1;have I5:`a8 H4 `a4u:=I4.kept (t':=s4.toks) `_T
 let#[its,r,ht,hz]:=I5.list hx;have O:=`cb;have hg:`qc (`py `b' (`a4v)) `fQ `a4u:=by
  refine r50 ht.isList `aNM pl pu pc hc ?_ `ajO;refine#[`T _,_,I5.laid (t':=s4.toks) (o:=`a4r) `a4w `bL ?_,rfl,q _ (I5.hok.fresh `bL)];have hp:slicePick `b0 l u c=(`h7 `Vt):=by
   unfold slicePick ym0;simp
  have U:(`y `Vt)<=`pD:=by
   have:=slicePick_size_le `b0 l u c;apply `a3 hp
   apply `EB
  have J:`bO `ad9 (`Vt):=by
   unfold ym0;rw[O];exact a70 r _
  exact#[`cx J.length,`Vt,0,J,`l hp `gl]
 done;exact `ajA (ops:=[`a?,`a4v]) `aOf `ajN hg (hsub _ _)
def Zh0(g:GE)(gl gh gs:`yQ):GE:=fun δ=>`lV λd=>`aTQ λlo=>`aTR λhi=>(gs δ).bind λc=>match d with
 | `c4=>`aW (c≠`c 0) (`o (ym0 xs lo hi c))
 | _=>`f
open T in
theorem Us0{g:GE}{gl gh gs:`yQ}(he:`cX)(hl:`aV?)(hh:`aWa)(hs:PDO X st gs)(hsub:`a4s) :
  PD X `a4t (Zh0 g gl gh gs):=.mk λB δ=>(Jy0 (he B δ) (hl B δ) (hh B δ) (hs B δ) hsub).imp fun σ H Q hq205=>by
 apply `bi hq205
 unfold Zh0 at h;cases e1:`az with
 | none=>rw[e1] at h;cases h
 | some x =>
  rw[e1,`p] at h;cases e2:`D0 with
  | none=>rw[e2] at h;cases h
  | some l =>
   rw[e2,`p] at h;cases e3:`xi with
   | none=>rw[e3] at h;cases h
   | some u =>
    rw[e3,`p] at h;cases e4:gs δ with
    | none=>rw[e4] at h;cases h
    | some c =>
     rw[e4,`p] at h;split at h
     ·rename_i xs
      split at h
      ·rename_i hc
       cases h;refine`SK _ (`aWb `a3S #[c,`fs (`uf),(`afg e4),λH4 s4=>?_]);have r4:=((`r5).same s3).same s4;rw[Q3] at r4;let#[a,ys,rfl,hq,rr]:=r4;have J:=(`uf).trans s4;refine#[a,ys,rfl,`n1,hc,`xV (J.trans `gu) ?_];rw[Q3];apply `lZ p _ (`n #[(`fs J).free hp,`alg]);have:Rps X.K H4 B `ad9 (ym0 ys l u c):=by
        unfold ym0;rw[`Nc];exact Yu0 rr _
       exact this.same `gu
      ·cases h
     ·cases h
universe zz
universe DL
namespace Bt
open DL W
section
def J7:GS:=(u5 (ifD `a4x
 (u5 `a4y
 t7)
 t7)
 (u5 `Vu
 t7))
def ww0:`h:=`xN
def U6:`N:=`a4z
def xp0:GS:=(u5 (b8 `cL (gc (`t `a4A)))
 (u5 (b8 `lf `ut)
 (u5 (qx0 (ti0 (z7 `oU v8)) `hy
 (u5 `a4B
 t7))
 (u5 (b8 `nB (o2 `Vv `E2 m7))
 (u5 (yj0 6 `vp)
 (u5 (qx0 (ti0 `d6) (gN 7)
 (u5 `a4C
 (u5 `a4D
 (u5 (ifD `Vw
 (u5 `a4E
 t7)
 (u5 (ifD `apR
 (u5 `a4F
 t7)
 (u5 `a4G
 t7))
 t7))
 t7))))
 (u5 (lq0 6)
 t7)))))))
def oq0:`h:=(`a4H `a4I)
def zk0:`N:=mkN 2 oq0 xp0
def yo0:GS:=(u5 (ifD `a4J
 (u5 (Y4 (`nz (o2 (o2 `aA (`nA (`E6 `a4K)) m7) `a4K zo0)))
 t7)
 t7)
 (u5 (ifD `Vw
 (u5 (Y4 (`hx (`hx `Vv 300 m7) 150 zo0))
 t7)
 t7)
 (u5 (ifD `apR
 (u5 (Y4 (`hx (`hx `Vv 40001 m7) 20000 zo0))
 t7)
 t7)
 (u5 (Y4 (`nz (o2 (o2 `Vv (`nA (`E6 `a4L)) m7) `a4L zo0)))
 t7))))
def qw0:`h:=`HK
def z80:`N:=mkF 2 qw0 yo0
def wk0:GSB:=(o8 (Z7 (b8 `tu (dgO 0 `nC)))
 (o8 (Z7 (y40 (W9 `afK) (putL 0 `nC)))
 (o8 (`nq (dgO 0 `aFm))
 (o8 (ifB `a4M
 (o8 `a4N
 `K)
 `K)
 (o8 `a4O
 `K)))))
def nz0:`h:=`a4P
def Q7:`aP:=mkB 1 nz0 0 wk0
def xg0:GSB:=(o8 `apS
 (o8 (ifB `a4Q
 (o8 (U8 (W9 `iz))
 `K)
 `K)
 (o8 (ifB (`Vx `Pz `h1)
 (o8 (`ku (oA (`dz `PS `axM) z80))
 `K)
 `K)
 (o8 (`ku (yp0 (`dz `nC (o2 `PS (dgO 0 `afL) m7))))
 `K))))
def sn0:`h:=`a4R
def O6:`aP:=mkB 1 sn0 0 xg0
def wm0:GSB:=(o8 (`nq (gc (`t `apT)))
 (o8 (Z7 (y40 `aFa `lf))
 (o8 (`ku (kb0 `ut (z7 (O7 1 [2,3] (ti0 `d6) `dy noT (`PC (o2 (o2 `a4S (o2 `aA `aA S8) m8) `aGI m7))) v8)))
 `K)))
def q50:`h:=[`mi, `Ku, `a4I, `h5]
def zi0:`aP:=mkB 2 q50 0 wm0
def yx0:GSB:=(o8 `apS
 (o8 `a4T
 (o8 (Z7 (ifD `Vy
 (u5 `Vz
 t7)
 t7))
 (o8 (ifB `a4U
 (o8 (U8 (Xw0 `BL (T7 0 (z7 (`hx `E3 21 m7) v8) zi0)))
 `K)
 `K)
 (o8 `a4V
 (o8 (ifB `apU
 (o8 (`ku (yp0 (`dz `v1 (oA `p1 we0))))
 `K)
 `K)
 (o8 `a4W
 (o8 `a4X
 (o8 `a4Y
 (o8 (ifB `a4Z
 (o8 (`ku (yp0 (`dz `afT (gv 6))))
 `K)
 `K)
 (o8 (`ku (yp0 (z7 `afP (`dz (o2 `cH (o2 (`hx `ap 300 m9) `p0 m7) ixD) (gv 6)))))
 `K)))))))))))
def wo0:`h:=`a4_
def N8:`aP:=mkB 1 wo0 0 yx0
def vn0:GS:=(u5 (b8 `cL (oA `aFw U6))
 (u5 (yj0 3 (ed0 `a40))
 (u5 (`a41 `aQ `oU)
 (u5 (ifD (ob (dgO 3 `afH))
 (u5 (`a41 (`so `aE7) `NY)
 t7)
 t7)
 (u5 (y40 (W9 (oA (`dz (o2 (`hx `aQ 11 m9) (o2 (`hx `a42 30 py0) `aE8 m8) m7) (o2 `a43 `a44 ixD)) zk0)) (`E5 3 `aFg))
 (u5 (jm0 (Zx0 we0 (u90 1 [3] 3 1 (ti0 (z7 (dgO 3 `afL) v8)) `dy `apV)))
 t7))))))
def p70:`h:=`a45
def y80:`N:=mkF 2 p70 vn0
universe zz
universe Bt
namespace Rk
open DL W
open Bt (J7 U6 xp0 zk0 wk0 Q7 yo0 z80 xg0 O6 wm0 zi0 yx0 N8 vn0 y80)
section
def ww0:`h:=`xN
def oq0:`h:=(`a4H `aeR)
def nz0:`h:=`a4P
def qw0:`h:=`HK
def sn0:`h:=`a4R
def q50:`h:=[`mi, `Ku, `aeR, `h5]
def wo0:`h:=`a4_
def p70:`h:=`a45
abbrev t8:`h:=[`tx, `kx, `u?, `rG, `vi, `mB, `ie, `p2]
def er0:GS:=(u5 (ifD `x4
 (u5 (`HL (`dz `nC (q70 `ap `Ca Ra0)))
 t7)
 t7)
 (u5 (Y4 `aA)
 t7))
def ee0:`h:=`zJ
def sm0:`N:=mkF 2 ee0 er0
def kh0:GS:=(u5 (ifD `qQ
 (u5 `qR
 t7)
 t7)
 (u5 (ifD `HM
 (u5 `VA
 t7)
 t7)
 (u5 (M7 (O7 2 [] `uu `afJ noT `ap))
 t7)))
def qu0:`h:=`OV
def M4:`N:=mkN 1 qu0 kh0
def nd0:GS:=(u5 `zK
 (u5 (yj0 2 `aGx)
 (u5 (R6 `a46
 (u5 `a47
 (u5 (ifD `a48
 (u5 `a49
 (u5 `a4'
 (u5 `a4!
 t7)))
 t7)
 t7)) 100000)
 (u5 `zL
 t7))))
def sv0:`h:=[`J4, `ZP, "_law_waiting", `r9, "_law_ends"]
def wi0:`N:=mkN 1 sv0 nd0
def jo0:GS:=(u5 (b8 `tu (oA `mx wi0))
 (u5 (yj0 2 `vp)
 (u5 (qx0 `a4? `lf
 (u5 `a5a
 (u5 `a5b
 (u5 (ifD `a5c
 (u5 `a5d
 t7)
 (u5 (ifD `a5e
 (u5 `a5f
 (u5 `a5g
 t7))
 t7)
 t7))
 (u5 `a5h
 t7)))))
 (u5 (Y4 (cp0 (oA `dZ we0)))
 t7))))
def sl0:`h:=[`J4, `ZP, `a5i, `r9, `axt, `gj, "_law_fields"]
def vb0:`N:=mkF 1 sl0 jo0
def vc0:GS:=(u5 (ifD `qQ
 (u5 `qR
 t7)
 t7)
 (u5 (ifD `HM
 (u5 `VA
 t7)
 t7)
 (u5 `zK
 (u5 (ifD `apW
 (u5 `apX
 t7)
 t7)
 (u5 (qx0 `uu `cL
 (u5 `VB
 t7))
 (u5 `zL
 t7))))))
def v90:`h:=`apY
def z40:`N:=`apZ
def ll0:GS:=(u5 `a5j
 t7)
def rf0:`h:=`lo
def y60:`N:=`a5k
def rg0:GS:=(u5 (ifD `ap_
 (u5 `ap0
 t7)
 t7)
 (u5 `ap1
 t7))
def rz0:`h:=`ht
def ug0:`N:=`ap2
def sf0:GS:=(u5 (ifD `a5l
 (u5 `Vu
 t7)
 t7)
 (u5 (ifD `x4
 (u5 `a5m
 t7)
 t7)
 (u5 `a5n
 t7)))
def sy0:`h:=`lo
def yl0:`N:=`a5o
def yz0:GS:=(u5 `ap3
 (u5 `ap4
 (u5 (R6 `VC
 (u5 `VD
 (u5 `VE
 t7)) 100000)
 (u5 `ap5
 t7))))
def xa0:`h:=`ap6
def T9:`N:=`ap7
def wx0:GS:=(u5 `ap8
 t7)
def xj0:`h:=`xL
def M6:`N:=`ap9
def sx0:GS:=(u5 (ifD `a5p
 (u5 `a5q
 t7)
 t7)
 (u5 `a5r
 t7))
def sk0:`h:=`HN
def wy0:`N:=`a5s
def w60:GS:=(u5 `ap'
 t7)
def w50:`h:=`ex
def zs0:`N:=`ap!
def v00:GS:=(u5 (ifD `qQ
 (u5 `ap?
 t7)
 t7)
 (u5 `qR
 t7))
def v80:`h:=`ex
def yc0:`N:=`aqa
def sd0:GS:=(u5 (ifD `aqb
 (u5 `a5t
 t7)
 t7)
 (u5 (ifD `a5u
 (u5 `a5v
 (u5 `a5w
 t7))
 t7)
 (u5 `a5x
 t7)))
def so0:`h:=`a5y
def yd0:`N:=`a5z
def fh0:GS:=(u5 `zK
 (u5 `a5A
 (u5 `a5B
 (u5 `a5C
 (u5 (R6 `aqc
 (u5 `aqd
 (u5 `aqe
 (u5 (ifD `aqf
 (u5 `aqg
 t7)
 (u5 (ifD `aqh
 (u5 `aqi
 (u5 `aqj
 t7))
 t7)
 t7))
 t7))) 100000)
 (u5 `zL
 t7))))))
def fy0:`h:=`a5D
def ms0:`N:=`a5E
def p10:GSB:=(o8 (`aqk `tx)
 (o8 (`aql `kx)
 (o8 (`aql `u?)
 (o8 (`aql `rG)
 (o8 (Z7 (h80 0 `aM `vi (W0 (z7 `aqm v8))))
 (o8 (`aqk `mB)
 (o8 (`aqk `ie)
 (o8 (Z7 (db0 0 `aM `p2 `ut))
 `K))))))))
def p00:`h:=`dh
def P0:`aP:=mkB 1 p00 0 p10
def uh0:GSB:=(o8 (Z7 (R6 `a5F
 (u5 `ad'
 (u5 (popS 0 `ls)
 t7)) 100000))
 `K)
def qc0:`h:=`dh
def zd0:`aP:=mkB 1 qc0 0 uh0
def tt0:GSB:=(o8 (`ku (orG (`PD `Mm) (o2 `a5G `a5H leD)))
 `K)
def oo0:`h:=`HO
def zc0:`aP:=mkB 2 oo0 0 tt0
def qv0:GSB:=(o8 (ifB (ob `a5I)
 (o8 (`oc (on0 0 `a5J `ap))
 `K)
 `K)
 (o8 `a5K
 (o8 `a5L
 `K)))
def kg0:`h:=`HP
def V8:`aP:=mkB 2 kg0 0 qv0
def gf0:GS:=(u5 (ifD `aqn
 (u5 (Y4 `aFT)
 t7)
 t7)
 (u5 (Y4 `aE4)
 t7))
def g60:`h:=`VF
def u30:`N:=mkF 1 g60 gf0
def md0:GS:=(u5 (ifD `aqn
 (u5 (Y4 (o2 (W0 (z7 (gc (`t `pM)) v8)) `ap mulL))
 t7)
 t7)
 (u5 (ifD `a5M
 (u5 (Y4 (o2 (W0 `aFW) `ap mulL))
 t7)
 t7)
 (u5 (ifD `a5N
 (u5 (Y4 `a5O)
 t7)
 t7)
 (u5 (Y4 (o2 (W0 (z7 (gc (`t "class")) v8)) `a5O m8))
 t7))))
def mj0:`h:=`VG
def uy0:`N:=mkF 2 mj0 md0
def xq0:GSB:=(o8 (ifB (G5 (ob `aqo) (ob `aqp))
 (o8 `f8
 `K)
 `K)
 (o8 (`oc (`dN `a5P V8))
 (o8 (od0 0 3 `ap `sc `ls)
 (o8 (`oc (on0 0 `m' `aFS))
 (o8 (`oc (Y30 0 `m' (oA (z7 (oA `afQ uy0) v8) rl0)))
 (o8 `uv
 `K))))))
def r00:`h:=[`c0, `B0, `_i, `AX]
def O9:`aP:=mkB 3 r00 0 xq0
def d70:GS:=(u5 (ifD (ob `a5Q)
 (u5 (Y4 (`nA (unG Q0 `PR)))
 t7)
 t7)
 (u5 (Y4 `PR)
 t7))
def e70:`h:=`ht
def pc0:`N:=mkF 1 e70 d70
def G8:GSB:=(o8 (`nq `E3)
 (o8 (ifB (`pa `E4 `jv)
 (o8 (U8 (`dN (`dz (unG (atC `L4) (o2 `aQ `h1 m7)) (`so `h1)) O9))
 `K)
 `K)
 (o8 (ifB (`pa `NZ `aqm)
 (o8 `f8
 `K)
 `K)
 (o8 (ifB `apU
 (o8 (`oc (`dN (z7 (oA `dZ pc0) v8) V8))
 `K)
 (o8 (ifB (yb0 `a4Z (`Vx `aQ `PF))
 (o8 (`oc (`dN (z7 (yp0 (`dz `nC (o2 (`nA `PF) `aQ zo0))) v8) V8))
 `K)
 (o8 (ifB (`pa `ap `c5)
 (o8 (`oc (`dN (z7 `iz v8) V8))
 `K)
 (o8 `f8
 `K))
 `K))
 `K))
 (o8 `uv
 `K)))))
def rb0:`h:=[`c0, `AY, "rest"]
def T5:`aP:=mkB 2 rb0 0 G8
def zl0:GSB:=(o8 (`nq (o2 (o2 (plN `a5R) `jw S8) (`BK `jw) m8))
 (o8 (ifB (`Vx `ap `jw)
 (o8 (U8 (`dN `dZ T5))
 `K)
 `K)
 (o8 (ifX (orT (`zI `aem) (y20 `aCJ))
 (o8 `f8
 `K)
 `K)
 (o8 (`VH `mB `aQ)
 (o8 `uv
 `K)))))
def sh0:`h:=[`c0, `rg, `AY]
def Q5:`aP:=mkB 2 sh0 0 zl0
def bg0:GS:=(u5 (b8 `lf `cE)
 (u5 (qx0 (ti0 (z7 (o2 `ap `Py zo0) v8)) `hy
 (u5 `a5S
 t7))
 (u5 (Y4 (o2 (oA (z7 (O7 1 [1,2] (m20 `aA) `dy (`a5T) `aA) v8) V5) `c' ltD))
 t7)))
def j00:`h:=[`rG, `ie, `aaJ, "most", "place"]
def wd0:`N:=mkF 3 j00 bg0
def b20:GS:=(u5 (qx0 (gj0 `ap) `cL
 (u5 (ifD `a5U
 (u5 `aqq
 t7)
 t7)
 t7))
 (u5 (Y4 `iz)
 t7))
def cz0:`h:=[`rg, `ZJ, `pM]
def un0:`N:=mkF 2 cz0 b20
def K8:GSB:=(o8 `a5V
 (o8 (ifB `a5W
 (o8 `f8
 `K)
 `K)
 (o8 `a5X
 (o8 (ifB (ob `a5Y)
 (o8 (Z7 (Z5 `a5Z))
 (o8 (`oc (`dN `aF1 V8))
 (o8 (`VH `ie `c5)
 (o8 (`VH `p2 `ut)
 `K))))
 `K)
 (o8 `uv
 `K)))))
def s00:`h:=`a5_
def S9:`aP:=mkB 2 s00 0 K8
def i70:GS:=(u5 (Y4 (oA (`dz (Zh0 `aA (`eI `c5) V0 `a50) (Zh0 `aA `a51 V0 `a50)) Te0))
 t7)
def kw0:`h:=`VI
def uq0:`N:=mkF 1 kw0 i70
def gc0:GS:=(u5 (ifD `aqn
 (u5 (`HL (`dz `BL (kb0 `ut `d6)))
 t7)
 t7)
 (u5 (ifD `a5M
 (u5 (`HL (`dz `v1 (oA `d6 we0)))
 t7)
 t7)
 (u5 (ifD `a5N
 (u5 (`HL (`dz `afT (oA `d6 uq0)))
 t7)
 t7)
 (u5 (`HL (z7 `afP (`dz `aF2 (oA (z7 (U7 `ap `a51 V0) v8) uq0))))
 t7))))
def g90:`h:=`OZ
def M8:`N:=mkF 2 g90 gc0
def jh0:GS:=(u5 (ifD (G5 `qQ `HM)
 (u5 `qR
 t7)
 t7)
 (u5 (M7 (`afO `uu `kG))
 t7))
def z30:`h:=`ex
def uk0:`N:=mkN 1 z30 jh0
def xr0:GSB:=(Zf0 0 1 `afS (oA `a52 uk0))
def ra0:`h:=[`c0, `AX]
def K3:`aP:=mkB 1 ra0 0 xr0
def K6:GSB:=(o8 (ifB (ob (o2 `ap `afY geD))
 (o8 `f8
 `K)
 `K)
 (o8 (`nq (plN (z10 0 `xu (o2 (`nA `afY) `ap zo0))))
 (o8 (ifX (Wb0 (`zI `aCV) (X3 `aCW))
 (o8 `f8
 `K)
 `K)
 (o8 `a53
 (o8 `uv
 `K)))))
def u80:`h:=[`c0, "behind", `vU]
def V7:`aP:=mkB 2 u80 0 K6
def O3:GSB:=(o8 (ifB (`pa (`BK `g?) `c5)
 (o8 (U8 (`dN (z7 `a54 v8) V7))
 `K)
 `K)
 (o8 (`nq `a54)
 (o8 (ifB (G5 `aem (G5 (ob `aqr) (ob `aqs)))
 (o8 `f8
 `K)
 `K)
 (o8 (ifB (zw0 (ob (`afX (`dz `aQ `ut))))
 (o8 `f8
 `K)
 `K)
 (o8 (`VH `ie `aQ)
 (o8 `uv
 `K))))))
def vz0:`h:=[`c0, `rg, `ie]
def W3:`aP:=mkB 2 vz0 0 O3
def xt0:GSB:=(o8 (`nq (oA (`dz `ap (gc (`aCL))) un0))
 (o8 (ifB `aF0
 (o8 `f8
 `K)
 `K)
 (o8 `a53
 (o8 `uv
 `K))))
def rc0:`h:=`a5_
def K1:`aP:=mkB 2 rc0 0 xt0
def rn0:GSB:=(o8 (`ku (`B7 `aFQ))
 `K)
def mx0:`h:=`dh
def X7:`aP:=mkB 1 mx0 0 rn0
def yy0:GSB:=(o8 (ifX `EG
 (o8 `f8
 `K)
 `K)
 (o8 `a55
 (o8 (ifB (G5 (`pa `aQ `aqm) (`pa `aQ `Mm))
 (o8 (U8 (`dN `d6 Q5))
 `K)
 `K)
 (o8 (ifB (`pa `aQ (gc (`t `pM)))
 (o8 (U8 (`dN `d6 K1))
 `K)
 `K)
 (o8 (ifB (ob `a56)
 (o8 (U8 (`dN `d6 S9))
 `K)
 `K)
 (o8 (U8 (`dN `d6 W3))
 `K))))))
def mt0:`h:=[`c0, `rg, "want"]
def Z1:`aP:=mkB 2 mt0 0 yy0
def el0:GS:=(u5 (Y4 (m10 (yq0 isInt `aA) (Nm0 (yq0 isBool `aA))))
 t7)
def fc0:`h:=`qS
def t20:`N:=mkF 1 fc0 el0
def a80:GS:=(u5 (Y4 (m10 `aqt `a57))
 t7)
def bu0:`h:=`qS
def yg0:`N:=mkF 1 bu0 a80
universe zz
universe Rk
namespace W
open DL
def hasAll(x s:Str):`C:=x.cps.toList.all λc=>`ao (c∈`hV)
def nameS:Str := `Ds
def Zc0:Str := `Du
def isName(x:Str):`C:=(`ao (`aqu<=8)&&hasAll x nameS)&&`ao (0<`aqu)
def isWord(x:Str):`C:=`ao (`aqu<=20)&&hasAll x Zc0
def marks(x:D)(m:Str):`C:=match x with
 | `o5=>`ao (y=m)
 | _=>`m
def c40:`d9
 | `v=>`d
 | `cV=>`d
 | `z [x,`bw]=>marks x `c3&&`aqv
 | _=>`m
inductive Pt where
 | text (w:Str)|row (vs:`i)|table (ps:`cw)|rcd (c:Str) (ps:`cw)
def pr(p:`AW):D:=`z `a58
def Pt.d:Pt->D
 | `uw=>`z [`mG,`t w]
 | `qT=>`z [`Bs,`z vs]
 | `od=>`z [`m8,`K1]
 | `HQ=>`z [`mU,`ni,`K1]
def Pt.vals:`aqw
 | `VJ=>[]
 | `qT=>vs
 | `od=>`h?
 | `aqx=>`h?
def Pt.pnames:Pt->`h
 | `VJ=>[]
 | .row _=>[]
 | `od=>`id
 | `aqx=>`id
def Pt.cls:Pt->`h
 | .rcd c _=>[c]
 | _=>[]
def Pt.all(p:Pt):`h:=p.pnames++p.cls
def lk:D->`aE
 | `z [_,`bw]=>`rX
 | _=>`f
structure PsOk(ps:`cw):Prop where
 len:`aJ<=12
 names:∀p∈ps,`sC p.1=`d
 vals:∀p∈ps,c40 p.2=`d
 nd:(`id).Nodup
def Pt.Ok:Pt->Prop
 | `uw=>`a59
 | `qT=>`cz<=12/\∀v∈vs,`aqy
 | `od=>`aqz
 | `HQ=>`sC c=`d/\`aqz
def R70{n:Str}(h:`sC n=`d):`A_<=8:=by
 unfold isName at h;simp only[`bg,`zM] at h;lia
def Pt.few(p:Pt):Prop:=`Cy<=`W
def Q40{v:D}(h:`aqy):`xT∨(∃i,`Gq)∨∃i,v=`a5'/\0<=i:=by
 cases v with
 | non=>exact `mh
 | int i=>exact `q (`n #[i,rfl])
 | tup xs =>
  match xs,h with
  | [x,`bw],h =>
   simp only[c40,`bg,`zM] at h;apply `C1 x marks
   apply `j? #[i,by rw[h.1],h.2]
 | _=>cases h
def J0:Str := `a4A
def cg(i:Int):Nat:=`VK `fN 0
def cg0(i:Int)(h0:0<=i)(h1:i<36):ixD (`vd) `d_=`c (`t #[⟨cg i⟩]):=by
 have hl:J0.cps.toList.length=36:=`ba
 have hz:J0.length<=`W:=`ba
 have:=vy0 (xs:=J0.cps.toList) (i:=i) h0 (by rw[hl];omega) 0;simp only[ixD,`Q hz,`E,`k2];rfl
def Yt0(i:Int)(h0:0<=i)(h1:i<36):cg i∈`Ko:=by
 have h:`qy (n<36->`VK n 0∈`Ko):=`ba
 exact h `fN `j
def X80(i j:Int)(h0:0<=i)(h1:i<36)(h2:0<=j)(h3:j<36)(e:cg i=cg j):i=j:=by
 have h:`qy (n<36->∀m:Nat,m<36->`VK n 0=`VK m 0->n=m):=`ba
 have:=h `fN `j `jz `j e;lia
def strOf(l:`k):Str:=#[l.toArray]
def Pw0(l:`k)(h1:0<`cP)(h2:`cP<=8)(h3:∀c∈l,`HR):`sC `Bu=`d:=by
 unfold isName hasAll;have e:`a5!:=`a5?
 have e2:`a6a:=`a6b
 rw[e,e2];simp only[`bg,`zM,`j5];exact#[`a6c,`G]
def Pd0{l m:`k}(h:`BM=`bk m):l=m:=by
 unfold strOf at h;injection h with h
 simpa using C7 `aDV h
universe W
namespace W
open DL StrLaws Builtin.Str
def vr0(l:`k):`a6a:=`a6b
def yf0(l:`k):`a5!:=`a5?
def n60(sep:`k):`l3->`k
 | []=>[]
 | [p]=>p
 | p::q::r=>`a6d
universe W
namespace Rm
open DL W PySem.StrLaws
inductive Want where
 | root|value|sign|name|cls|fin
 deriving DecidableEq
variable{ws:`a6e}
structure RS where
 count:Nat
 begun:`zN
 un:`k
 names:`l3
 wait:`ah
 digits:Int
 length:Nat
 spelled:`k
variable{S1:Rm.RS}
def start:RS:=#[0,[],[],[],[`g8],0,0,[]]
def T3:`k:=`zO 10 (48+·)++`zO 26 (97+·)
def yh0:`k:=32::T3
def RS.hold(S:RS)(d:D):RS:=(`a6f (match `a5 with|[]=>`cJ|k::_=>`qU) `l4)
def wanted:Nat->Nat->`ah
 | 0,n=>`a6g
 | 1,n=>`cr n `cF
 | 2,n=>`aqA
 | _,n=>.cls::`aqA
def link(k:Nat):D:=`z `a6h
def RS.part(S:RS)(kind:Nat)(size:Int):`oe :=
 if size > (`w (kind=0) 20 12)∨`aeB then `f
 else
  let S1:=`sd
  `c { S1 with begun:=`HS++[(kind,[])],un:=`a6i::S1.un,wait:=`va kind size.toNat++`ck::`ux }
def t10(n:Int):Int:=if n%2=1 then -(n/2) - 1 else n/2
def RS.head(S:RS)(n:Int):`oe :=
 if n%4=3 then `aeF `a6j (n/4/4)
 else if `sA=`c `g8 then `f
 else if n%4=1 then `c (`hT (`g (t10 (n/4))))
 else if `a6k then `c (`hT (link (`aca n)))
 else `w (n=0) (`c `aF9) `f
def RS.digit(S:RS)(b:Nat):`oe :=
 let n:=`vM+`aDt
 if b<128 then S.head n
 else if n=0∨`a6l n then `f
 else `c `a6m
def left(names:`l3)(len:Nat)(pre:`k):`C:=`ao ((`y (`azd len))<36 ^ (len - `fJ))
def pairsOf:`i->`Vh
 | `MY=>`aqB
 | _=>[]
def O4(p:`e9):`i:=match p.1 with
 | 2=>`a6n `eE
 | 3=>`a6o `eE
 | _=>[]
def Z2(l:`k):D:=`xv
def RS.known(S:RS)(k:Nat)(inHere:`VL):`oe :=
 if `g4<=k then `f
 else
  let n:=Z2 (`a6p (`azQ - k) [])
  `w (`sA=`c `ge/\inHere n (O4 (`a6q))=`d) `f (`c (`hT n))
def RS.number(S:RS)(b:Nat)(inHere:`VL):`oe :=
 if b%2=0 then S.known `wm inHere
 else if `aqC then `f
 else `c (`LY (b/2))
def RS.letter(S:RS)(b:Nat):`oe :=
 if `aqD then `f
 else if `aqE then
  `c (`a6r (((`Es `aqF):RS).hold (Z2 `mZ)))
 else `c `LU
def RS.takes(S:RS)(b:Nat)(inHere:`VL):`oe:=match `sA with
 | `f=>`f
 | `c `g8=>S.digit b
 | `c `cF=>S.digit b
 | `c `hl=>`a6s
 | _=>`w `aqG `aqH (S.number b inHere)
def vm0:`ah->`k->`ah×`k
 | `ck::w,_::u=>`HT
 | w,u=>(w,u)
def RS.ends(S:RS):RS:=(`aqI (`a6t).1 (`a6t).2)
def eqS:`VL
 | `c9,l=>l.any λd=>match d with|`o5=>`MM|_=>`m
 | _,_=>`m
def codes:`i->`k
 | `c9::r=>`a_7++codes r
 | _=>[]
def made(p:`e9):D:=match p.1 with
 | 0=>`z [`mG,Z2 (codes p.2)]
 | 1=>`z [`Bs,`z p.2]
 | 2=>`z [`m8,`z (`a6n `tj)]
 | _=>`z [`mU,p.2.headD `v,`z (`a6o `tj)]
universe Rm
variable{ws:`a6e}{S1:Rm.RS}
namespace Bt
open DL W
theorem Y8{G:GSB}{b:D}{r:D}(hl:`n')(h:∀p,`zw `m6 (`c `aoO)):`aoR:=Y50 hl λp=>`n (h p)
def m5{G1 G2:GSB}{δ:Ds}{r:`um}(h:`akN)(k:`Tg):`a6u=r:=by unfold o8;rw[h];exact k
def j8{G1 G2:GSB}{δ:Ds}{d:D}(h:`fc=`aqJ):`a6u=`aqJ:=by unfold o8;rw[h]
def Z9{δ:Ds}(h:`UI):Z7 G δ=`eL:=by unfold Z7;rw[h]
def O8{g:GB}{δ:Ds}(h:`Sj):`a6v=Ga δ:=`a6w
def Q4{g:GB}{δ:Ds}(h:`Sk):`a6v=`DT:=`a6w
def X6{δ:Ds}{d:D}(h:`VM):U8 gx δ=`aqJ:=by unfold U8;rw[h];rfl
def U9{g:GE}{δ:Ds}{d:D}(h:`iM):W9 g δ=`c (d,δ):=by unfold W9;rw[h];rfl
def bk(k:Int)(cs:`S)(sm:`C)(m:Int)(pool:`h):D:=`dk (`n [`aqK,`aqL,`aqM,`q "many",`q "pool"]) [`my,`o6,`uy,`g m,`vL]
def zq0{ga gb:GE}{δ:Ds}{i j:Int}(h1:`ei=`N0)(h2:`fL=`c `B8)(h:0<j):o2 ga gb m7 δ=`akI:=by
 rw[`VN];show (`w (0<j) _ _)=_;rw[`bS]
def uf0(i j:Int)(h:`ax9):`a6x:=`a6y (`q h)
def Wq0{cs:`S}{g:GE}{δ:Ds}{i:Int}(s0 s1:Sl)(hδ:δ=[s0,s1,`Kp])(h:`a6z)(h0:0<=i)(h1:i<`KZ):∃c:Int,o2 `aQ g ixD δ=`aqN:=by
 refine#[cs[i.toNat]'`j,?_];have e:`aec=`a6A:=`zP
 rw[o6 e h];show atI (`a6B) i=_;rw[vy0 h0 (`l `P h1) `v];have:`fN<`KZ:=`G
 simp[`ch,`E]
def cm0(k:Int)(h0:0<=k)(hk:`aqO)(cs:`S)(hc:`uz)(sm:`C)(m:Int)(pool:`h):`a6C:=by
 have pos:0<`KZ:=`api hc;have J:∀(z:Int),(∀p:`e,∀δ:Ds,δ=`HU->(o8 (ifB `a4M (o8 `a4N `K) `K)
   (o8 `a4O `K)) δ=`c (.rt `ks δ))->0<=z->`a6C:=λz h hz=>by
  refine#[z,hz,`b1 `HU];refine `cB [`HV,`vV,.un] `aqP;refine `cB [`rB,`vV,.un] `aqP;refine `cB `HU `aqP;exact h p _ rfl
 have len:∀(s0:Sl),oA `dZ V5 `VO=`c (`g `VP):=λs0=>by
  show `gN ((`y `a6B):Int);rw[`P]
 have cond:∀s0:Sl,ob `aE6 `VO=`bC (k<`VP):=λs0=>by
  unfold ob;rw[`zQ `my (len s0)];rfl
 by_cases hlt:k<`VP
 ·have ex:∃c:Int,`a6D `ap:=by
   let#[c,hc]:=Wq0 (cs:=cs) (g:=gv 1) (δ:=`a6E) _ _ rfl rfl h0 hlt;exact#[c,λs0=>hc]
  let#[c,hc]:=ex;refine `a6F (c%(10 ^ 64+57));subst hδ;refine `gV;rw[O8 (`gy cond hlt)];refine `pb (zq0 (hc _) ?_ `r);kernel_rfl
 ·obtain⟨c,hc⟩:∃c:Int,`a6D `aE9:=by
   have em:∀s0:Sl,o2 `ap `Py m7 `VO=`sO (k%`VP):=λs0=>zq0 rfl (len s0) `c?
   let#[c,hc]:=Wq0 (cs:=cs) (δ:=`a6E) _ _ rfl (em .un) (E2 _ `c?) (E9 _ `c?);refine#[c,λs0=>?_];rw[`zQ `o6 (em .un)] at hc;rw[`zQ `o6 (em s0)];exact hc
  refine `a6F ((`aqQ+7)*48271%2147483647);subst hδ;refine `cB `HU (`aw (`og Q4 cond hlt));refine `pb (zq0 ((`aK (`g (`aqQ+7)) `aE? ?_).trans (uf0 _ 48271 `r)) rfl `r);have e3:o2 `aE! `ap S8 `HU=`c (`a6G):=by
   rw[`aK (`g (3*k)) `my (`a6H (uf0 3 k `c?))];exact uf0 _ _ `c?
  exact(`aK (`g `aqQ) (`g 7) ((o6 (x:=`g (`ay')) (y:=`a6G) (zq0 (hc _) rfl `r) e3).trans rfl)).trans rfl
universe Bt
namespace Pn
open DL W
def put:Pt->`i->Pt
 | `uw,_=>`uw
 | .row _,vs=>`qT
 | `od,vs=>`Bc (`aeu)
 | `HQ,vs=>.rcd c (`aeu)
universe Pn
namespace Gw
open DL W
def J7:GS:=(u5 (ifD `a4x
 (u5 `a4y
 t7)
 t7)
 (u5 `Vu
 t7))
def ww0:`h:=`xN
def U6:`N:=`a4z
universe Gw
namespace Gw
open DL W StrLaws
def ny0(i j:Int)(h:`ax8):`a6x:=`a6y `Rq
def Ku0(i j:Int)(h:0<j):m7 `d_ `B8=`akI:=`a6I m7
def Ox0(i j:Int)(h:`Q5):m9 `d_ `B8=`aQk:=`a6I m9
def ff0{g:GE}{δ:Ds}{d:D}(h1:`po=`oa)(h2:`iM)(h3:`cP<`W):Z5 (w00 i g) δ=`ar (`cO (`o `azY)):=by
 unfold Z5 w00;rw[h1,h2];simp only[`p];rw[`aqR];rfl
def T20(ns:`S)(k:Int)(h0:0<=k):∃z,U6 `aqS=`VQ:=by
 by_cases h:k<`gh
 ·have J:`jV<`gh:=`G
  refine#[ns[k.toNat],`zR];rw[O5 (by
   apply `a6J;rw[`bU `aqT])]
  apply `uA;show atI `aqU k=_;rw[vy0 h0 `aqT `v];simp[`ch,J]
 ·refine#[0,`gO (`ce [`Kq,`vV] rfl)]
  rw[W5 (by
   apply `a6J;rw[`bG `aqT])]
  rfl
def Di0(l:`k)(k:Int)(h0:0<=k)(h1:k<=`cP):`aEq `Bu `f (`ff)=`bk (`HW `jV):=by
 show sliceText _ _ _=_;rw[sliceText_to #[h0,`l vr0 h1],vr0];simp[`bk]
def Cz0(a b:`k):`a6K:=by
 show (#[_]:Str)=#[_];simp[`bk]
def iz0(a b:`k)(h:`a6L):m8 (`t (`bk a)) (`t (`bk b))=`c (`fB `tg):=by
 simp only[m8];rw[`Q (`gs yf0 yf0 h),Cz0]
universe Gw
namespace Gw
open DL W
structure Vk(v:D)(m:Int):Prop where
 ok:`aqy
 bd:∀i,`Gq->i.natAbs<`VR
 lk:∀k,lk v=`ff->k<m
structure Gd(p:Pt)(m:Int)(nm:`h):Prop where
 ok:p.Ok
 vk:∀v∈`lt,`VS
 nms:∀s∈`zS,s∈nm
def Qi0(l:`k)(h2:`cP<=20)(h3:∀c∈l,`aqV):isWord `Bu=`d:=by
 unfold isWord hasAll;rw[yf0,vr0];simp only[`bg,`zM,`j5];exact`a6c
def o60(xs:`i)(x:D):atI (`akT) (-1)=`c6:=by
 unfold atI ixN;rw[`dY,`Q `a6M];rw[show ((-1:Int)+((`y `akT):Int)).toNat=`_ by rw[`Y];apply `v2;lia];simp
universe Gw
namespace Bt
open DL W
def d7{g:GE}{δ:Ds}{b:`C}(h:`a6N):`a6O:=`a6P
def Q80(c:Int)(sm:`C):∃n:Int,n.natAbs<`VR/\z80 [`A6,`uy]=`Dr:=by
 cases sm with
 | true=>exact#[c%(2*10 ^ 12 - 1) - 10 ^ 12+1,`dF,`gO (d9 (`l `zT `VT))]
 | false =>
  have s0:`a6Q `a4J:=λGa G r h=>o5 `HX h
  have e0:∀j:Int,ob `a6R `aqW=`bC (c%3=j):=`aqX
  by_cases h0:c%3=0
  ·exact#[c/3%300 - 150,`dF,`gO (s0 _ _ _ (d9 (`l (`xA e0 `aqY) `VT)))]
  ·have s1:`a6Q `Vw:=λGa G r h=>o5 (`aw (`uB e0 `aqZ)) h
   by_cases h1:c%3=1
   ·exact#[c/3%40001 - 20000,`dF,`gO (s0 _ _ _ (s1 _ _ _ (d9 (`l (`xA e0 `xI) `VT))))]
   ·exact#[c/3%(2*`VR - 1) - `VR+1,`dF,`gO (s0 _ _ _ (s1 _ _ _ (o5 (`aw (`uB e0 `VU)) (`VT))))]
def vk0{gA:GA}{f:`aP}{δ:Ds}{p:`e}{b r:D}(h:`b4=`aoS)(hA:`ke)(hf:`aoL):`a6S=`c (r,`el i (`Li)):=by
 unfold T7;rw[h];show (`NI `a6T (`cO (`z [`Ht,r.2])))=_;rw[hA];show `a6T _=_;rw[hf];rfl
def br0{gA:GA}{f:`aP}{δ:Ds}{ks:KS}{vs:`i}{r:D}(h:`b4=`a1s)(hA:`ke)(hf:`aCr=`C7):`a6S=`c (r,`el i `OJ):=by
 unfold T7;rw[h];show (`NI `a6U (`cO r.2))=_;rw[hA];show `a6U _=_;rw[hf];rfl
def qb0{ft:`be}{δ:Ds}{d:D}(h:`a6V)(k:ft d δ1=`c δ2):y40 gx ft δ=`aA1:=by
 unfold y40;rw[h];show (ft d δ1).map _=_;rw[k];rfl
open Gw (Vk)
def Ha0(i:Int):c40 (`a5')=`aqv:=by
 show (`a6W&&`aqv)=_;rw[show `a6W=`d from `ba];rfl
def M20(k:Int)(h0:0<=k)(hk:`aqO)(cs:`S)(hc:`uz)(sm:`C)(m:Int)(hm:1<=m)(pool:`h):∃v,`VS/\O6 `jk []=`c (v,`rJ):=by
 let#[z,hz,hn]:=`a6X;have call:∀p:`e,Z7 `aFb (K7 sn0 0 p `jk [])=`ar `uC:=λp =>
  `a6Y
 have c8:`a6Z eqD (`bC (z%8=j)):=`a6_
 have l8:`a6Z ltD (`bC (z%8<j)):=`a6_
 by_cases q0:z%8=0
 ·refine#[`v,#[rfl,`a60,λk e=>by cases e],`aq_ `eO]
  rw[`HY c8 `aq0];apply `hD
 have s1:`a61 `uC (o8 (ifB `a4Q Ga `K) G `uC):=λp Ga G r h =>
  m5 (δ':=`uC) (`aw (`VV c8 `aq1)) h
 by_cases q4:z%8<4
 ·let#[n,O,J]:=Q80 (z/8) sm
  refine#[`eH,#[rfl,(λi e=>by cases e;exact O),λk e=>by cases e],`aq_ (s1 p _ _ _ `eO)];rw[O8 (`gy l8 q4)];refine `VW;rw[Z0 (ds:=[`g (z/8),`uy]) (`pO rfl `fv)];exact J
 ·refine#[`z [`mp,`g (z/8%m)],#[`l Ha0 (L9 (E2 _ `j)),`a60,λk e=>by cases e;exact E9 _ `j],`aq_ (s1 p _ _ _ (`cB `uC ?_))]
  ·rw[`og Q4 l8 q4]
   rfl
  ·refine `pb (wg0 (`pO rfl (zq0 (i:=z/8) (j:=m) rfl `fv `j)) (`a3O))
theorem Uo0(cs:`S)(hc:`uz)(sm:`C)(m:Int)(hm:1<=m)(pool:`h):∀(items:`i) (k:Int),0<=k->k+`dp<1000000 ->
  ∃vs:`i,`cz=`dp/\(∀v∈vs,Gw.Vk v m)/\`aax `afI=`c (vs,`rI (k+`dp))
 | [],k,_,_=>#[[],rfl,`aq2,`aw (show k+(([]:`i).length:Int)=k by simp)]
 | `aI,k,h0,hk=>by
  simp only[`X] at hk;let#[v,hv,e]:=M20 k h0 `j cs hc sm m hm `bz;let#[vs,hl,J,ih]:=`a62 ds `j;refine#[v::vs,`aq3,`j!,?_]
  ·apply `lK
   ·exact hv
   ·exact J x hx
  ·have c:T7 1 v8 O6 `af_=`c (v,[`fA,.ow (`rJ)]):=`a63
   unfold ys0;apply `a64;show `a65 `afI (`rJ) v;rw[ih,show k+1+(`bX:Int)=k+(`Sh:Int) by simp only[`X];lia];rfl
universe Bt
namespace Bt
open DL W StrLaws
def Qx0(a b:`k):`a6K:=by
 show (#[a.toArray++b.toArray]:Str)=#[(`h7 (a++b))];rw[List.append_toArray]
def K70(sep:`k):∀parts:`l3,Txt.join (`VX) (`aCt `bk)=`a66:=by
 intro parts;unfold Txt.join;rw[StrLaws.glued_eq_join]
 induction `Eh with
 | nil=>rfl
 | cons p r ih =>
  cases r with
  | nil=>rfl
  | cons q r =>
   show `bk p++`VX++PySem.Str.join (`VX) ((q::r).map `bk)=`bk (`a6d);rw[ih,Qx0,Qx0]
def Xi0{g:GE}{δ:Ds}{S:`Pl}(sep:`k)(parts:`l3)(B:Nat)(hS:S=`VX)(hg:`az=`c (`a67))(hB:∀p∈`Eh,p.length<=B)(hz:parts.length*(B+`aA0)<=16777216) :
  kb0 (gc (`t S)) `xC δ=`c (`t (`a66)):=by
 have J:∀l:`l3,(∀p∈l,p.length<=B)->((`dM `bk).map `aA_).sum<=`cP*B:=by
  intro l
  induction l with
  | nil=>intro _;simp
  | cons p l ih =>
   intro h;have:=ih `aYp
   have:=h p A8;rw[`ab,`ab,List.sum_cons,`X,yf0,Nat.add_mul];lia
 have e1:=strs_map `bk `Eh;rw[J70 (x:=`t S) (ds:=[`a67]) rfl (`aU hg rfl)];simp only[Zi0];rw[e1,`p,`Q,hS,K70];have:=J `Eh hB;rw[hS,yf0,`P];rw[Nat.mul_add] at hz;lia
theorem ku0:∀l:`k,`a68=l
 | []=>rfl
 | [c]=>rfl
 | c::d::r=>by
  show[c]++[]++n60 [] ((d::r).map `N2)=_;rw[ku0 (d::r)];rfl
def signs:`k:=(`aq4 `apT)
def Ic0(k:Int)(h0:0<=k)(hk:`aqO)(cs:`S)(hc:`uz)(sm:`C)(m:Int)(pool:`h)(n:Nat)(hn:n<=20):∃l:`k,`cP=n/\(∀c∈l,c∈`kc)/\zi0 `jk [`i6]=`c (`xv,`rJ):=by
 let#[z,hz,he]:=`a6X;obtain⟨S,hS⟩:∃S:Str,S = `apT := `ad;have J:`a69=`kc:=`a6'
 have U:signs.length=37:=`ba
 let at':`hE:=λj=>signs.getD (`PG%37).toNat 0
 have O:∀j,at' j∈`kc:=λj=>by
  apply `a6!;apply `a6?;show signs.getD _ 0∈`kc;rw[`ch,`aB9];exact L7 _
 refine#[`aq5,`a_,`Fo,`b1 `aq6]
 ·let#[j,_,rfl]:=`dH hc
  exact O j
 ·refine `cB [`HV,`c!,`_!,.un] (Z9 (`a6'))
  refine `cB `aq6 (Z9 (qb0 (`aF4 he) rfl));refine `VW;have hp:`aq5=n60 [] ((`aq5).map `N2):=(ku0 _).symm;rw[hp];refine Xi0 [] _ 1 rfl ?_ `a7a `qi;have hr:ti0 `d6 `aq6=`c (`HZ):=mi0 rfl `j `j;refine(u40 hr (`l re0 (C0 (`bc (_<=20)) `r)) (Mi0 (λj=>`fB [at' j]) λj hj=>#[`VY,rfl,rfl,?_])).trans ?_
  ·have d1:o2 `aQ `aFd m9 `VY=`sO (z/(`b9+1)):=by
    show (`aW (`fg<`b9+1/\`b9+1<1073741824) (`bZ (z/(`b9+1))))=_;rw[`VZ]
   have d2:o2 `aA `aA S8 `VY=`c (`a7b):=`a6H (`aq7);have d0:o2 `a4S (o2 `aA `aA S8) m8 `VY=`c (`g `PG):=(o6 d1 d2).trans rfl;have d3:=zq0 (gb:=`az5) d0 rfl `aF5;apply `a6!;apply `a6?;rw[`zQ (`t S) d3];show (`qM (`eD<=`W) ((atI `a69 _).map _))=_;rw[`Q (by rw[hS];decide +kernel),J,vy0 a1 (`l U a2) 0];rfl
  ·rw[`c7,`cu,`cu]
   rfl
universe Bt
namespace Bt
def Wm0:(∀d∈`aq8,∀s∈`aq8,d=0∨s=0∨d*s%13≠0)/\∀d∈`aq8,∀s∈`cn 53,d=0∨s=0∨d*s%53≠0:=`ba
def by0(p:Nat)(hp:`a7c)(a:Int)(s:Nat)(h1:1<=s)(h2:s<p)(i d:Nat)(hd:d<13)(h:`a7d=`aCu%`th):d=0:=by
 have e:(p:Int) ∣ ((d*s:Nat):Int):=by
  have:=Int.emod_emod_of_dvd `aea (Int.dvd_refl `th);have h':(`a7e)%`th=0:=by
   rw[Int.sub_emod,h,Int.sub_self];rfl
  have e2:`a7e=(`aq (d*s)):=by
   rw[Int.natCast_add,Int.add_mul,Int.natCast_mul];lia
  rw[e2] at h';exact Int.dvd_of_emod_eq_zero h'
 have e3:d*s%p=0:=Nat.mod_eq_zero_of_dvd (Int.natCast_dvd_natCast.mp e);rcases hp with rfl|rfl
 ·rcases Wm0.1 d `a7f s `a7g with z|z|z
  ·exact z
  ·lia
  ·exact `a7h
 ·rcases Wm0.2 d `a7f s `a7g with z|z|z
  ·exact z
  ·lia
  ·exact `a7h
def unlike(p:Nat)(hp:`a7c)(a:Int)(s:Nat)(h1:1<=s)(h2:s<p)(i j:Nat)(hi:i<13)(hj:j<13)(h:`a7d=(a+`b9*`r0)%`th):i=j:=by
 rcases `aXN i j with q|q
 ·have:=by0 p hp a s h1 h2 i (j - i) `j (`l (`bc (i+(j - i)=j)) h)
  lia
 ·have:=by0 p hp a s h1 h2 j `ML `j (`l (`bc (j+`ML=i)) h.symm)
  lia
universe Bt
namespace Bt
open DL W
def NB1:GS:=(u5 `a4B
 t7)
def NB2:GS:=(u5 `a4C
 (u5 `a4D
 (u5 (ifD `Vw
 (u5 `a4E
 t7)
 (u5 (ifD `apR
 (u5 `a4F
 t7)
 (u5 `a4G
 t7))
 t7))
 t7)))
def code(N:Int)(k:Nat):`k:=[`abv,`a7i]
def nmF(N:Int)(w:`k)(a k:Nat):`k:=`w (N%3=0) `a7j (`w (N%3=1) `a7k `aq9)
structure PoolB(n:Nat)(nm:`h):Prop where
 len:`ep=n
 names:∀s∈nm,`aq'
 nd:nm.Nodup
def iq0{g:GE}{gl gh:GO}{δ:Ds}{d:D}{l h:`aE}(h1:`iM)(h2:`D0=`oa)(h3:`xi=`c h):U7 g gl gh δ=slA d l h:=by
 unfold U7;rw[h1,`p,h2,`p,h3,`p]
def Xe0{g:GE}{δ:Ds}{i:Int}(h:`a6z):`eI g δ=`c (`rX):=by
 unfold someO;rw[h];rfl
def Tt0(w:`k)(i:Int)(h0:0<=i)(h1:i<=`em)(hl:`em<=100):slA `JL `f (`rX)=`c (`fB (`Mp `fN)):=by
 apply `l5
 simp only[slA];rw[`Q (`cx yf0),Gw.Di0 _ _ h0 h1]
def Gc0(N:Int)(w:`k)(hw:`V_)(a:Nat)(ha:a<7)(k:Nat)(hk:k<100)(names:`h)(hl:`a7l)(s1 s4 s8:Sl) :
  NB2 (`BN `Z1 s8)=`ar (`BN (`fa ((`lJ++[`ay?]).map `t)) `Z2):=by
 apply `l5
 have cl:(`y `rQ)=2:=rfl;refine o5 (δ':=(`BN `Z1 (.sh (`aq!)))) (X5 (d:=`aq!) (by
  rw[`aq? `vd `g ((N+`dV)%36)];exact `ara)) ?_
 refine o5 (δ':=`Ei) (X5 (d:=`CL) (by
  rw[o6 (x:=`aq!) (y:=`fB [`a7i]) rfl (by
   rw[`aK `vd (`g `aCv) rfl];exact `ara)]
  apply `V0)) ?_
 have app:∀(g:GE) (l:`k),g `Ei=`a7m ->
   u5 (Z5 (w00 6 g)) t7 `Ei=`ar (`BN (`fa ((`lJ++[`BM]).map `t)) `Z2):=λg l h=>by
  refine o5 (`V1 (l:=`CK `t) (d:=`xv) rfl h `m9) ?_;rw[`a2];rfl
 refine `arb;have c3:∀j:Int,ob `a6R `Ei=`bC (N%3=j):=`aqX
 by_cases q0:N%3=0
 ·rw[`xA c3 `aq0,show `Dt=`a7j by unfold nmF;rw[`Q q0]]
  refine `arc;rw[o6 (x:=`fB (`Mp a)) (y:=`CL) (by
   show slA `JL `f (`c `rK)=_;rw[`a7n,`c7]) rfl]
  exact `a7o
 ·rw[`uB c3 `aq1]
  refine `arb
  by_cases q1:N%3=1
  ·rw[O5 (`gy c3 q1),`a7p `a7k `Q]
   refine `arc;rw[o6 (x:=`fB (`aCw)) (y:=`CL) (by
    show slA `JL `f (`c (`dV%7))=_;rw[`a7n,`bc ((`dV%7).toNat=k%7)]) rfl]
   exact `a7o
  ·rw[`og W5 c3 q1,`a7p `aq9 `ag]
   refine `arc
   by_cases q3:35<k
   ·have e:`a7q=`c (`or):=by
     rw[o6 (x:=`d?) (y:=`d?) rfl (by
      rw[Z0 (ds:=[`jn]) (`aU (by
       apply `a7r;rw[`oh]) rfl)]
      rfl)]
     rfl
    rw[`a7s 2];rw[`Q q3];exact Tt0 _ 2 `j `V2 `V2
   ·have e:`a7q=`c (`d?):=by
     rw[o6 (x:=`d?) (y:=`kO) rfl (by
      rw[Z0 (ds:=[`rz]) (`aU (by
       apply `a7r;rw[`gP]) rfl)]
      rfl)]
     rfl
    rw[`a7s 1];rw[`ag q3];exact Tt0 _ 1 `j `V2 `V2
def code_inj(N:Int)(i j:Nat)(hi:i<72)(hj:j<72)(e:code N i=code N j):i=j:=by
 unfold code at e;injection e with e1 e2
 injection e2 with e2 _
 have e1:=`ard e1;have e2:=`ard e2;lia
theorem gw0(N:Int)(k:Nat):∀c∈`rQ,`HR:=λc hc=>by
 unfold code at hc;rcases `cy hc with rfl|hc
 ·exact `are
 ·rw[`fr hc];exact `are
theorem q10(N:Int)(k:Nat):(`y `rQ)=2:=rfl
def Hf0(N:Int)(w:`k)(hw:`V_)(a:Nat)(ha:a<7)(k:Nat):0<`a7t/\`a7t<=8:=by
 unfold nmF;split
 ·rw[`Y,`d0,q10];lia
 ·split
  ·rw[`Y,`d0,q10];lia
  ·rw[`d0,q10];split<;>lia
theorem Hw0(N:Int)(w:`k)(hm:∀c∈w,`HR)(a k:Nat):∀c∈`Dt,`HR:=λc hc=>by
 unfold nmF at hc;split at hc
 ·rcases `arf with q|q
  ·exact `a7u
  ·exact `a7v
 ·split at hc
  ·rcases `arf with q|q
   ·exact `a7u
   ·exact `a7v
  ·exact gw0 N k c (i3 hc)
def Jc0(N:Int)(w:`k)(hw:`V_)(a:Nat)(ha:a<7)(i j:Nat)(hi:i<53)(hj:j<53)(e:nmF N w a i=nmF N w a j):i=j:=by
 unfold nmF at e;split at e
 ·exact code_inj N i j `j `j (List.append_cancel_left e)
 ·split at e
  ·have:=`a7w
   simp only[`Y,`d0,q10] at this;have e2:=(List.append_inj e (`hh `d0 `d0)).2;exact code_inj N i j `j `j e2
  ·have hl:=`a7w
   rw[`d0,`d0,q10,q10] at hl;have h1:∀k,(`aq9)[0]?=`c (`abv):=λk=>by
    rw[List.getElem?_take,`Q (`arg)];rfl
   have e0:=h1 i;rw[e,h1 j] at e0;have e0:=A3 e0;have e0:=`ard e0
   by_cases q1:35<i<;>by_cases q2:35<j<;>simp only[q1,q2,`il,`hp] at hl<;>lia
def K50(N:Int)(n:Nat)(hn:n<=53):∃nm,zk0 [`Jp,`i6]=`c (`Vo)/\PoolB n nm:=by
 skip;apply `l5
 let#[δ',l1,w,s4,rfl,hw,hm]:=pz0 (f:=gN 4) (G:=NB1) (λi δ=>∃(w:`k) (s4:Sl),δ=(`arh `N5 s4)/\`em=i/\∀x∈w,x∈`Ko) (yn0 0 8) 0
  (`arh (.sh (`a7x)) .un) (by
   rintro j d δ hj ⟨w,s4,rfl,hl,hx⟩;let#[J,rfl]:=U30 hj;have J:j<8:=J;obtain⟨q,hq⟩:∃q:Int,q=N/`ari%36:=`ad;have jj:0<=`B9/\`B9<=49:=by
    have:j=0∨j=1∨j=2∨j=3∨j=4∨j=5∨j=6∨j=7:=`G
    rcases `E with rfl|rfl|rfl|rfl|rfl|rfl|rfl|rfl<;>decide
   refine#[_,(`arh (.sh (`a7y)) `rS),rfl,?_,w++[cg q],_,rfl,`aq3,λx O=>?_]
   ·refine `kl `a7y ?_ rfl
    rw[o6 (x:=`axn) (y:=`fB [cg q]) rfl (by
     rw[o6 (x:=`vd) (y:=`g q) rfl (by
      rw[o6 (x:=`g (N/`ari)) (y:=`J9) (by
       rw[o6 (x:=`Jp) (y:=`g `ari) rfl (by
        rw[`aK `a7b (`g 3) (`l (`aK `gg `gg rfl) `aq7)];rfl)]
       exact Gw.Ox0 _ _ `j) rfl]
      rw[hq];exact Gw.Ku0 _ _ `r)]
     exact `ara)]
    apply `V0
   ·rcases `dL O with q'|q'
    ·exact hx x q'
    ·rw[`fr q'];exact `are) #[[],_,rfl,rfl,λx hx=>by cases hx]
 have hw:`V_:=hw;obtain⟨a,ha⟩:∃a:Nat,`rK=N/3%7:=#[(N/3%7).toNat,`G];let#[Y,m1,s7,s8,rfl]:=pz0 (f:=gN 7) (G:=NB2) (λi δ=>∃(s7 s8:Sl),δ=[`i4,`c!,`N4,`N5,s4,`xw,`fa (((`cn i).map `arj).map `t),s7,s8]) (`HZ) 0
  `a7z (by
   rintro j d δ hj ⟨s7,s8,rfl⟩;let#[J,rfl]:=U30 hj;rw[`c7] at J;refine#[_,_,rfl,Gc0 N w hw a `j j `j ((`cn (0+j)).map `arj) `qi _ _ _,`rS,.sh (`fB (code N j)),?_];rw[`jH,`ark,`a2,`a2,`a2];rfl) #[_,_,rfl]
 rw[re0,`c7,`jH] at m1;done;refine#[`abu `arj,N6 rfl (`kl `vd rfl (`kl `a7x rfl (o5 (qm0 (items:=yn0 0 8) rfl l1) (`kl `ry (`aw ha) (`hF `a7z (o5 (qm0 (items:=`HZ) `a7A m1) `xD)))))),?_,λs hs=>?_,?_]
 ·simp
 ·let#[k,hk,rfl]:=`dH hs
  let#[h1,h2]:=Hf0 N w hw a `j k;exact Pw0 _ h1 h2 (Hw0 N w hm a k)
 ·refine `a7B n
  intro i j hi hj U e;have hi:=`BD hi;have hj:=`zU;exact U (Jc0 N w hw a `j i j `j `j (Pd0 e))
universe Bt
namespace Bt
open DL W
open Gw (Gd Vk)
def Np0:∀c∈`kc,`aqV:=`ba
def Ir0(z:Int)(sm:`C):∃n:Nat,n<=12/\∀(p:`e) (k:Int) (cs:`S) (m:Int) (pool:`h),
  Z7 (ifD `Vy
 (u5 `Vz
 t7)
 t7) (`m7 `HV `N6)=`ar (`m7 `HV `c!):=by
 cases sm with
 | true =>
  refine#[`a7C,`G,`a7D];rw[`rn,`bc ((`aq `a7C)=z/4%4)];rfl
 | false =>
  have ix:∀(s0:Sl) (t:Nat) (r:Int),`V3=`arl->([z/4%5,z/4%5,z/4%13]:`S)[t]?=`du->`a7E:=λs0 t r ht hr=>by
   have hl:t<3:=by
    have:=(`ds hr).1
    apply `EB
   rw[o6 (x:=`o (`a7F `g)) (y:=`g `arl) `Bt (`GP ht)];show atI (`a7F `bZ) `arl=_;rw[vy0 `j `qi `v,`c7,`ch,`df,hr];rfl
  have J:∀r:Int,(∀s0:Sl,`a7E)->0<=r->r<=12->∃n:Nat,n<=12/\∀(p:`e) (k:Int) (cs:`S) (m:Int) (pool:`h),
   Z7 (ifD `Vy
 (u5 `Vz
 t7)
 t7) (`m7 `a7G `N6)=`ar (`m7 `a7G `c!):=λr h h0 h1=>by
   refine#[r.toNat,`G,`a7D];rw[`l6,`bc ((`aq r.toNat)=r)];exact o5 (X5 (h _)) rfl
  have:`V3=0∨`V3=1∨`V3=2:=`G
  rcases `E with q|q|q
  ·exact `arm 0
  ·exact `arm 1
  ·exact `arm 2
def H60{δ:Ds}{p:`e}{k:Int}{cs:`S}{sm:`C}{m:Int}{vs:`i}{gi:GA}{f:`aP}{k':Int}(h0:δ[0]?=`c (`HV))(hi:`Sl)(hl:`t2)
  (hc:`a7H) (j:Nat) :
  f80 j (u90 1 [0] 0 1 gi `dy `aay) δ=`ar ((`el 0 `a7I).set j (`K_)):=by
 unfold f80 u90;rw[h0];show `ix _ (`yP _)=_;rw[hi,`p,`pn];have e:y90 1 [0] δ=`V4:=by
  show`H_++[iw0 δ[0]?]=_;rw[h0];rfl
 rw[e];show `ix _ (`uD `aeb)=_;rw[hc];rfl
def H00{ga:GE}{δ:Ds}{d r:D}(h:`ei=`a9)(hf:`n4)(hx:`e8=`arn):Xw0 ga gx δ=`c (`z [d,r],δ'):=by
 unfold Xw0;rw[h,`p,`uc,hx];rfl
def im0{np:Nat}(hp:`a7J)(i:Int)(h0:0<=i)(h1:i<np):ixD (`Vo) `d_=`c (`t (`aro))/\`aro∈nm:=by
 have hl:=hp.len;have J:`fN<`ep:=`G
 refine`yN
 ·show atI (`Ky `g0) i=_
  rw[vy0 h0 `m9 `v];simp[`ch,J]
 ·rw[`V5 (`aro=nm[i.toNat]) J]
  exact L7 J
def getD_inj{np:Nat}(hp:`a7J)(hi:i<np)(hj:j<np)(e:`a7K=`a7L):i=j:=by
 have hl:=hp.len;have h1:i<`ep:=`G
 have h2:j<`ep:=`G
 rw[`V5 (`a7K=nm[i]) h1,`V5 (`a7L=nm[j]) h2] at e;exact(B30 hp.nd).mp e
def Nl0{np:Nat}(hnp:`V6)(P:`arp)(z:Int)(st:Nat)(h1:1<=st)(h2:st<np)(m:Int)(vs:`i)(hl:`cz<=12)(hv:∀v∈vs,`VS):∃ps:`cw,`aqz/\(∀p∈ps,p.1∈`bz)/\`h?=vs /\
  ∀(s0 s2 s6:Sl),oA `aFi we0 [s0,`hP,s2,`K_,`Cs,`K0,s6]=`c (`K1):=by
 have z1:`Zn:=`av
 have Y:=P.len;obtain⟨ix,U⟩:∃ix:`hE,ix=λ(j:Nat)=>(`a7M).toNat:=`ad
 have O:∀j,`arq=`a7M:=λj=>by
  rw[U];have:=E2 (`N7) `a7N;show (`aq (_:Int).toNat)=_;lia
 have J:∀j,ix j<np:=λj=>by
  have:=E9 (`N7) (`bc (`fg<np));have:=O j;lia
 refine#[`a7O,#[by simp;exact hl,`gz,`gz,?_],`gz,?_,λs0 s2 s6=>?_]
 ·apply `arr
  exact P.names _ (`ars).2
 ·apply `arr
  have hj:=`zU;refine(hv _ ?_).ok;rw[`V5 (`El=vs[j]) hj];exact L7 hj
 ·rw[`cu]
  refine `a7B `cz;intro i j hi hj Z e;have hi:=`BD hi;have hj:=`zU;have e:=getD_inj P (J i) (J j) e;have e:(`aq (ix i))=`arq:=`art
  rw[O,O] at e;exact Z (unlike np hnp (`_B) st h1 h2 i j `j `j e)
 ·apply `arr
  exact(`ars).2
 ·rw[`cu]
  refine n9 `aS λi h1 h2=>?_
  have hi:i<`cz:=`CR
  simp[`ch,hi]
 ·rw[Z0 (ds:=[`o ((`a7O).map pr)]) (`aU (u40 (items:=n70 vs) (by
   show `nD (`c [`jN vs]) Wj0=_;rfl) (by unfold n70;rw[`P,`l7];lia) (by
   rw[ud0 (`TP (`z [`jj,v]) (pr (`Mq (ix `jz) "",v))) (λd hd=>by
    unfold n70 at hd;let#[j,hj,rfl]:=`gi;have hj:=`zU;refine#[[`rS,.sh (`El),`hP,`Cs,`K0],rfl,rfl,?_];refine wg0 (`aU (d:=`t (`aCy)) ?_ (`aU (d:=`El) rfl rfl)) `PI;rw[o6 (x:=`vL) (y:=`g `arq) rfl (by
     rw[O];refine zq0 (i:=`N7) (j:=`o7) ?_ ?_ `j
     ·rw[o6 (x:=`g (`_B)) (y:=`g (`b9*`Kz)) rfl (`l (`aK `gg `_C rfl) `aq7)]
      rfl
     ·apply `aru
      rw[`P,Y])]
    exact(`ars).1)]
   unfold n70;rw[`cu,`cu];refine C7 `c (c9 `alm);show pr (`Mq (ix (`b9).toNat) "",`El)=_;rw[`c7];rfl)) rfl)]
  rfl
def H80(k:Int)(h0:0<=k)(hk:k<900000)(cs:`S)(hc:`uz)(sm:`C)(m:Int)(hm:1<=m)(np:Nat)(hnp:`V6)(pool:`h)(P:`arp):`a7P:=by
 skip;have z1:`Zn:=`av
 have U:=P.len;let#[z,hz,hn]:=`aCs `j;let#[n,c0,b0]:=Ir0 z sm;have fin:∀(q:Pt) (k':Int),k<=k'->k'<=k+14->Gd q m `bz->(∀p:`e,∃δ',yx0 `a7Q=`c (.rt q.d δ')/\δ'[0]?=`c `a7I)->`a7P:=λq k' a1 a2 a3 a4=>#[q,k',a1,a2,a3,Y8 rfl a4]
 have head:∀(p:`e) (G:GSB) (r:`um),G `arv=r->(o8 `apS
 (o8 `a4T
 (o8 (Z7 (ifD `Vy
 (u5 `Vz
 t7)
 t7)) G))) `a7Q=r:=λp G r h=>by
  refine `cB (`m7 `rB .un) (`a6Y);refine `cB (`m7 `rB `N6) `Oc;exact m5 (b0 p _ _ _ _) h
 have c4:∀(s0 s2 s3 s4 s5 s6:Sl) (j:Int),ob `aF8 [s0,`hP,s2,s3,s4,s5,s6]=`bC (z%4=j):=λ_ _ _ _ _ _ j=>`o'
 by_cases q0:z%4=0
 ·let#[l,hl,b2,hw]:=Ic0 `ef `j `j cs hc sm m `bz `arw `j
  done;refine fin (.text `Bu) (k+1+1) `j `j #[Gw.Qi0 l `j λc hc=>Np0 c (b2 c hc),`aq2,λs hs=>by cases hs] λp=>#[(`m7 (`aR (`rI (k+1+1))) `c!),head p _ _ `eO,rfl]
  rw[`HY c4 `aq0];refine j8 (X6 (H00 (d:=`mG) rfl rfl (vk0 (p:=p) (b:=`rJ) (ds:=[`pQ `arw]) rfl (`aU (by
   show `gN (`abx);rw[`bc ((`aq `arw)=`abx)]) rfl) hw)))
 let#[vs,a7,hv,a6]:=`a62 (`HZ) (`V7);have rl:(`y `HZ)=n:=`V7
 rw[rl] at a7 a6;have J:`a61 `V8 (o8 (ifB `a4U Ga `K) (o8 `a4V G) `arv):=λp Ga G r h=>by
  refine `cB `arv (`aw (`VV c4 `aq1));exact m5 (Z9 (H60 (p:=p) rfl `a7A (`cx rl) a6 3)) h
 by_cases q1:z%4=1
 ·done;refine fin (`qT) `KA `j `j #[#[`G,λv h=>(hv v h).ok],hv,λs hs=>by cases hs] (`arx `V8 `eO)
  rw[O8 (`gy c4 q1)];apply `hD
 obtain⟨st,a8⟩:∃st:Nat,`Kz=1+`ary:=#[(1+`ary).toNat,`cN `a7R];have Y:1<=st/\st<np:=by
  have a1:=`a7R;have a2:=E9 (z/156) (`bc (`fg<`LS));lia
 let#[ps,pk,pin,b1,b3]:=Nl0 hnp P z st Y.1 Y.2 m vs `j hv;have O:∀(p:`e) (Ga G:GSB) (r:`um),G `V9=r->(o8 (ifB `apU Ga `K)
 (o8 `a4W
 (o8 `a4X
 (o8 `a4Y G)))) `V8=r:=λp Ga G r h=>by
  refine `cB `V8 (`aw (`og Q4 c4 q1));refine `cB (`_? `Cs .un) (Z9 (X5 (d:=`vL) `fv));refine `cB (`_? `Cs `K0) (Z9 (X5 (d:=`_C) ?_))
  ·rw[o6 (x:=`d?) (y:=`g (`ary)) rfl (zq0 (i:=z/156) (j:=`LS) rfl (by
    rw[o6 (x:=`arz) (y:=`d?) (by
     apply `aru;rw[`P,U]) rfl]
    rfl) `j),a8]
   rfl
  ·exact m5 (Z9 (X5 (b3 _ _ _))) h
 have a5:∀v∈`h?,`VS:=λv h=>hv v (b1▸h)
 have Z:∀s∈`id,`uE:=λs h=>by
  let#[p,hp,rfl]:=`dH h;exact pin p hp
 by_cases q2:z%4=2
 ·done;refine fin (`od) `KA `j `j #[pk,a5,λs hs=>Z s (by simpa [Pt.all,Pt.cls,Pt.pnames] using hs)] (`arx `V9 (O p _ _ _ `eO))
  rw[O8 (`gy c4 q2)];exact `pb `arA
 ·have i0:=E2 (z/300) `a7N
  have i1:=E9 (z/300) (`bc (`fg<`o7));let#[e1,e2]:=im0 P (`af0) i0 i1;done;refine fin (.rcd `a7S ps) `KA `j `j #[#[P.names _ e2,pk],a5,λs hs=>?_] (`arx `V9 (O p _ _ _ (m5 (δ':=`V9) (`aw (`og Q4 c4 q2)) (`VW))))
  ·rcases `dL hs with q|q
   ·exact Z s q
   ·rw[`HD];exact e2
  ·refine `V' (`aU (d:=`t `a7S) ?_ `kP) `a7T
   rw[o6 (x:=`vL) (y:=`g (`af0)) rfl (zq0 (i:=z/300) (j:=`o7) rfl (by
    apply `aru;rw[`P,U]) `j)]
   exact e1
theorem Wo0(cs:`S)(hc:`uz)(sm:`C)(m:Int)(hm:1<=m)(np:Nat)(hnp:`V6)(pool:`h)(P:`arp):∀(items:`i) (k:Int),0<=k->k+14*`dp<900000 ->
  ∃(ps:`aL) (k':Int),`aJ=`dp/\(∀p∈ps,`aCz)/\`aax `apV=`c (`N8,`Ek)
 | [],k,_,_=>#[[],k,rfl,`aq2,rfl]
 | `aI,k,h0,hk=>by
  skip;simp only[`X] at hk;let#[p,k1,a1,a2,hp,e]:=H80 k h0 `j cs hc sm m hm np hnp `bz P;let#[ps,k2,hl,J,ih]:=Wo0 cs hc sm m hm np hnp `bz P ds k1 `j `j;done;refine#[`n8,k2,`aq3,`j!,?_]
  ·apply `lK
   ·exact hp
   ·exact J x hx
  ·have c:T7 1 v8 N8 `af_=`c (p.d,[`fA,.ow `a7U]):=`a63
   unfold ys0;apply `a64;show `a65 `apV `a7U p.d;rw[ih];rfl
def O70(xs:`i)(k:Nat):cutD xs (`c `dV) `f=`OH:=by
 unfold cutD sIx;simp only[];rw[`H0,`c7]
 by_cases q:k<=`_
 ·rw[`H1 q,`a7V]
 ·rw[`arB,`aCB `bL,`a7W,`a7X]
def comp_own{δ:Ds}{k:Int}{cs:`S}{sm:`C}{m:Int}{vs:`i}{gi:GA}{f:`aP}{k':Int}(h0:`b4=`nm `jk)(hi:`Sl)(hl:`t2)
  (hc:`a7H) :
  u90 1 [i] i 1 gi `dy `aay δ=`c (`Bv,`cO (`Ek)):=by
 unfold u90;rw[h0];show (`yP _)=_;rw[hi,`p,`pn];have e:y90 1 [i] δ=`V4:=by
  show`H_++[iw0 `b4]=_;rw[h0];rfl
 rw[e];show (`uD `aeb)=_;rw[hc];rfl
def Jw0{δ:Ds}{d:D}(h:`VM):jm0 gx δ=`sG:=by unfold jm0;rw[h];rfl
def Ht0{f:`N}{δ:Ds}{d r:D}(h:`VM)(hf:f [d]=`du):Zx0 f gx δ=`arn:=by
 unfold Zx0;rw[h,`p];show (f [d]).map _=_;rw[hf];rfl
def bk3(cs:`S)(sm:`C):D:=`dk (`n [`aqK,`aqL,`aqM]) [`kO,`o6,`uy]
def bk4(cs:`S)(sm:`C)(m:Int):D:=`dk (`n [`aqK,`aqL,`aqM,`q "many"]) [`kO,`o6,`uy,`g m]
def Dh0(ns:`S)(hl:`gh<=1000)(s:Nat)(hs:s<=1000):∃(ps:`aL) (pool:`h),1<=`aJ/\`arC/\`arD<=53/\(∀p∈ps,`a7Y)/\y80 `arE=`c (`a7Z):=by
 skip;have z1:`oK 5000:=`av
 obtain⟨f,hf⟩:∃z,U6 `arE=`VQ:=Gw.T20 ns `r0 `j;obtain⟨cs,Z⟩:∃cs,cs=`a7_++[f]:=`ad;have cne:`uz:=`gn Z
 obtain⟨sm,a2⟩:∃sm:`C,sm=`ao (f/8%8=3):=`ad;obtain⟨np,a4,a1⟩:∃np:Nat,(`V6)/\∀δ:Ds,`a70->o2 `a43 `a44 ixD δ=`c (`arz):=by
  have ix:∀δ:Ds,`a70->o2 `aFo `g? m7 δ=`sO (f/5%2):=fun δ h=>zq0 (i:=f/5) (j:=2) (`aw (o6 h rfl)) rfl `r
  have:f/5%2=0∨f/5%2=1:=`G
  rcases `E with q|q
  ·exact#[13,`mh,fun δ h=>`aw (`jZ `a71 `kO `a72)]
  ·exact#[53,`vl,fun δ h=>`aw (`jZ `a71 `d? `a72)]
 let#[pool,J,P]:=K50 (f/11%(`arF)) np `j;obtain⟨m,Y,a5⟩:∃m:Nat,`m_=(`a73)/\1<=m/\m<=60:=#[(`a73).toNat,`arg,`arg];let#[ps,k',U,a3,O]:=Wo0 cs cne sm `m_ `j np a4 `bz P (`a74) 0 `j (`V7);have rl:(`y `a74)=m:=`V7
 rw[rl] at U;done;refine#[ps,`bz,`G,`G,`cN P.len,λp hp=>`l U (a3 p hp),`V!];refine `iW `H2 (X5 (d:=`g f) (`l (`bD `arE) hf));refine `ce (`N9 `a75) ?_
 ·have e1:o2 `aFj `aFk m8 `H2=`a6A:=by
   rw[o6 (x:=`d1 `a7_) (y:=`o [`g f]) (by
    rw[iq0 (d:=`mu) (l:=`a76) (h:=`f) rfl rfl rfl];show `V? (cutD `aqU (`a76) `f);rw[O70,`arG]) rfl]
   simp only[m8];rw[`Q (by rw[`P,`le];apply `v2;lia),Z,`a2];rfl
  have e2:o2 `aFl `jv eqD `H2=`c (`uy):=`aw a2
  have e3:ed0 `a40 `H2=`c `a75:=by
   unfold ed0;rw[show tj0 `nC `c5 `aFn `H2=`c [(`mp,`kO),(`aE5,`o6),(`aFc,`uy)] from by
    unfold tj0;rw[e1,e2];rfl]
   kernel_rfl
  unfold yj0;rw[e3];rfl
 refine `iW (`N9 (bk4 cs sm (1+f%8))) `fv;refine `ce `a77 ?_
 ·cases sm with
  | true =>
   rw[Y,`bl,`l6];kernel_rfl
  | false =>
   rw[Y,`dY,`rn];rfl
 refine `ce (`N9 (bk 0 cs sm `m_ `bz)) `g6
 ·refine qb0 (d:=`vL) (δ1:=`a77) (U9 ?_) `fv
  rw[Z0 (ds:=[`g (f/11%(`arF)),`arz]) (`pO (zq0 (i:=f/11) (j:=`arF) rfl `fv `r) (a1 _ rfl))];exact J
 ·exact Jw0 (Ht0 (d:=`o (`N8)) (comp_own (k:=0) rfl (mi0 (`aU (d:=`g `m_) `fv rfl) `j `j) (`cx rl) O) rfl)
universe Bt
namespace Rk
open DL W Rm
open Bt (Y8 m5 j8 Z9 O8 Q4 X6 U9 d7)
def kindS:Nat->Str
 | 0 => `JG
 | 1 => "row"
 | 2 => `JH
 | _ => `Ba
def Y5:`aG->Str
 | `g8 => `_F
 | `cF => `JB
 | `hl => `pM
 | `ge => `vU
 | .cls => "class"
 | `ck => "end"
def U3(S:RS)(k:Nat):D:=`z [`t (`rE `a78),`aer]
def inst(S:RS):D:=`z [`t `aM,`o [`t `tx,`t `kx,`t `u?,`t `rG,`t `vi,`t `mB,`t `ie,`t `p2],
 `o [`aed,K4 1,K4 2,K4 3,K4 4,`aee,`N',`xx]]
def nodes(S:RS):`i:=`arH (`aei::`su λp=>`o p.2)
def R(S:RS):D:=`z (`vz::`J!)
theorem cj0:P0 (Sl0 `aM) []=`c (`v,R `fC) :=
 Y50 rfl λp=>`q #[rfl,[`aR `wq],`c2,rfl]
section
variable(p:`e)(S:RS)(δ:Ds)
theorem yt0:dpN 0 `bq=`c `Dv:=rfl
def Vy0:`qV `tx=`a79:=`c2
def Ux0:`qV `kx=`a7':=`c2
def na0:`qV `u?=`a7!:=`c2
def ij0:`qV `rG=`c (K4 3):=`c2
def qn0:`qV `vi=`c (K4 4):=`c2
def Nz0:`qV `mB=`a7?:=`c2
def K10:`qV `ie=`a8a:=`c2
def Ol0:`qV `p2=`a8b:=`c2
def gd0:`Wa `m' `arI:=by
 unfold zh0;rw[qn0,`p,yt0];show `gN (`arJ:Int);rw[`P,`jW]
def tz0:`Wa `sc `N?:=by
 unfold zh0;rw[Ux0,`p,yt0];show `gN ((`y `vX):Int);rw[`P,`l7]
def g50:`Wa `ls `aeO:=by
 unfold zh0;rw[na0,`p,yt0];show `gN ((`y `ps):Int);rw[`P,`jW]
def ul0:`Wa `xu `PK:=by
 unfold zh0;rw[ij0,`p,yt0];show `gN (`a8c:Int);rw[`P]
universe zz
theorem tr0(S:RS):`OF X7 (`wy `uF):=Y8 rfl λp=>#[`dR,show rn0 `dR=_ from j8 (X6 (U9 (by
 rw[`aK `arI `kO (gd0 p S [])];show `fq (`aby=0);congr 2
 by_cases h:`uF
 ·rw[`fT,`bU (`a_6)]
 ·rw[`fi,`bG (λz=>h (Ax1 `j))]))),rfl]
def wq0(k:Nat):t70 (K4 k)=`ff:=by
 unfold K4 t70;exact vl0 k
def le0{es:`i}{k:Nat}{z:Int}(h:`jG=`l0):if0 ns (K4 k) `ks=atI es z:=by
 unfold if0 K4;simp only[vl0,h]
def item_tup{z:Int}(h:`k1=`f):if0 ns `o? `ks=atI ds z:=by
 unfold if0;simp only[h]
structure Ok(S:RS):Prop where
 un:∀k∈`a5,`uG
 few:`uH
 held:∀p∈`cJ,p.2.length<=1000
 wait:`hY<=100000
 names:`arK
def rr0(p:`e)(S S':RS)(δ:Ds)(k:Nat)(n:D)(h:`arL k n=nodes S'):setN 0 k n `bq=`tw::δ:=by
 show Sl.ow (`z [`g `th,`z (`vz::`arL k n)])::δ=_;rw[h];rfl
def S00{S S':RS}(h:∀k:Nat,(S'.begun.getD k `tf).1=`a78):U3 S'=U3 S:=by
 funext k
 unfold U3;rw[h]
def put(S:RS)(k:Nat)(d:D):RS:={ S with begun:=`qU }
def Lp0(S:RS)(k:Nat)(d:D)(j:Nat):((`ZI).begun.getD j `tf).1=(`ad! j `tf).1:=by
 show ((`qU).getD j `tf).1=_;rw[`ch,`ch,`l8];cases `cJ[j]? with
 | none=>rfl
 | some a =>
  by_cases q:k=j
  ·simp[q]
  ·simp[q]
def Oc0(S:RS)(k:Nat)(d:D)(q:`e9)(hk:`hk):`arL (k+5) `aCC=nodes `xy:=by
 show `arH (`aei::`a8d)=_;have e1:`a8d=(`qU).map `ayd:=by
  apply E00;intro i;rw[`df,`l8,List.getElem?_set,`df,`P]
  by_cases z:k=i
  ·subst z
   have hl:=(`ds hk).1;rw[`bl,`pn,hk];simp
  ·rw[`n_]
   simp[z]
 rw[e1,← S00 (Lp0 S k d)];show _=inst `xy::`o (`zO (`y `qU) (U3 `xy))::_;rw[`qW];rfl
def Ac0(p:`e)(S:RS)(δ:Ds)(k:Nat)(u:`k)(h:`hj):z10 0 `afS `cE `bq=`c (`aer):=by
 have e1:`a8e `bq:=by
  unfold z10;rw[na0,`p,`a8f,`p,yt0,`p];rw[`a8g];rw[h,`fl,`a2];exact `arM
 unfold z10 at e1 ⊢;rw[e1,`p,`bj (gc (`d?) (`ti::δ)=`c (`d?)),`p,yt0,`p];unfold U3;rw[item_tup rfl];rfl
theorem P20{G:GSB}{b:D}(hl:`n')(h:∀p,`zw `m6 `eL):`abl=`c (`v,b'):=Y50 hl λp=>`q #[rfl,h p]
def vu0(S:RS):RS:={ S with wait:=`l4 }
def U90(S:RS):RS:=(`N_ 0)
def Hz0(S:RS)(d:D):`rR=U90 (vu0 (match `a5 with|[]=>S|k::_=>`ZI)):=by
 skip;let#[c,b,u,n,w,dg,l,sp]:=S;done;cases u<;>rfl
def Xr0(p:`e)(S:RS)(δ:Ds)(h:`l9):popS 0 `m' `bq=`ar (`aR (R `En)::δ):=by
 unfold popS;rw[qn0,`p,yt0,`p,wq0,`p];show (`w ((`wH)=[]) `f (`c (`H3 (`uI 4 (`o (`xz `wH))))))=_;rw[`ag `ia,rr0 p S `En];cases e:`ci with
 | nil=>exact `L e h
 | cons w ws =>
  show `arH (`o (`xz (`arN `oq))::`su _)=inst `En::`o (`awL `a8h)::`o (`awq `a8h)::`aeh::`o (S.wait.tail.reverse.map `Bw)::`su _;rw[e,`fl,`a2,`H4,`Wb];rfl
def fg0(p:`e)(S:RS)(δ:Ds)(g:GE)(z:Int)(hg:`uJ=`VQ):`arO `mB=`ar (`aR (R (`N_ z))::δ):=by
 unfold t80;rw[hg,`p];kernel_rfl
def Nq0(p:`e)(S:RS)(δ:Ds)(k:Nat)(u:`k)(h:`hj)(hk:`uG)(g:GE)(d:D)(hg:`uJ=`a9)(hn:`kk)(hl:∀q∈`cJ,`Cw<=1000) :
  Z5 (on0 0 `a5J g) `bq=`ar (`a8i::δ):=by
 apply `qX
 have e:`Zg=`c S.begun[k]:=B6 hk;have hq:=hl _ (L7 hk);unfold Z5 on0;apply `Wc (Ac0 p S δ k u h) hg;have e2:`aCT=`c (`o S.begun[k].2):=by
  show `arP;rw[`df,e];rfl
 rw[e2];show `ix _ (`w (`kk/\S.begun[k].2.length<`W) _ `f)=_;rw[`Q #[hn,`G],rr0 p S `xy δ _ _ (Oc0 S k d _ e)];rfl
def mg0(S:RS)(ok:Ok S)(hw:`l9)(d:D)(hn:`kk):V8 `a' [d]=`c (`v,R `wV):=by
 refine P20 rfl λp=>#[[`axQ,`fA],?_,rfl]
 show qv0 `arQ=_;have c0:ob `a5I `arQ=`bC (0<`gY):=by
  apply `bF;rw[`aK `aeO `kO (g50 p S _)];show `fq (`fg<`ayi);congr 2;exact `Wd
 have rest:∀S1:RS,`ux=`ci->o8 `a5K (o8 `a5L `K) [`aDD,`fA]=`ar [`aR (R (U90 (vu0 S1))),`fA]:=λS1 h1=>by
  refine m5 (Z9 (Xr0 p S1 [`fA] (`l h1 hw))) (m5 (Z9 (fg0 p (vu0 S1) [`fA] `c5 0 rfl)) rfl)
 rw[Hz0];cases hu:`a5 with
 | nil =>
  refine `iy `arQ (`aV S rfl);rw[Q4 `a8j];rfl
 | cons k u =>
  refine `iy [`a8i,`fA] (`aV `xy rfl);rw[O8 `a8j];exact m5 (Z9 (Nq0 p S [`fA] k u hu (`a8k) `ap d rfl hn `abL)) rfl
def gi0{a b:`aG}:Y5 a=Y5 b↔a=b:=by
 constructor
 ·intro h
  cases a<;>cases b<;>first|rfl|exact `L h `dj
 ·rintro rfl;rfl
def jq0(p:`e)(S:RS)(δ:Ds)(w:`aG)(ws:`ah)(h:`bN):plN `aww `bq=`arR:=by
 unfold plN z10;rw[qn0,`p,`a8f,`p,yt0,`p,`aef `wH,h,`fl,`a2];have:atI (ws.reverse.map (`Bw)++[w].map `Bw) (-1)=`arR:=`arM;rw[`E];rfl
def po0(p:`e)(S:RS)(δ:Ds)(w:`aG)(ws:`ah)(h:`bN)(v:`aG):ob (`PD `a8l) `bq=`a8m:=by
 apply `bF;rw[`aK `BO `aCE (jq0 p S δ w ws h)];apply `a8n;congr 2;exact `arS
def Gb0(p:`e)(S:RS)(δ:Ds)(k:Nat)(u:`k)(h:`hj):popS 0 `ls `bq=`ar (`aR (R `a8o)::δ):=by
 unfold popS;rw[na0,`p,yt0,`p,wq0,`p];show (`w ((`ps)=[]) `f (`c (`H3 (`uI 2 `a8p))))=_;rw[`ag (`gn h),rr0 p S `a8o];show `oi::`arT::`a8p::_=`oi::`arT::`o (u.reverse.map `JM)::_;rw[h,`fl,`a2,`H4,`Wb]
def ET:GB:=`a5F
def EB:GS:=(u5 `ad'
 (u5 (popS 0 `ls)
 t7))
def Bj0(p:`e)(S:RS):ET `dR=`bC (`sA=`tl):=by
 have c0:ob `aFR `dR=`bC (0<`hY):=by
  apply `bF;rw[`aK `arI `kO (gd0 p S _)];show `fq (`fg<`aby);congr 2;exact `Wd
 unfold ET yb0;rw[c0];cases h:`ci with
 | nil=>rfl
 | cons w ws =>
  show ob _ _=_;rw[`bj (("end" : Str)=Y5 `ck),po0 p S [] w ws h `ck];simp
theorem bp0(p:`e):∀(w:`ah) (S:RS) (n:Nat),`ci=w->`em<n->`a8q<=`gY->R6 ET EB n `dR=`ar `a8r
 | w,S,0,_,h,_=>`a8s
 | w,S,n+1,hw,hn,hc=>by
  unfold R6;rw[Bj0];cases w with
  | nil =>
   have e:`H5:=by
    skip;apply `a8t;have:w=[]:=hw;subst this;done;rfl
   rw[hw,e];rfl
  | cons v ws =>
   rw[hw]
   by_cases hv:v=`ck
   ·subst hv
    rw[`bj (`ao ((`aeE).head?=`c `wp)=`d)];cases hu:`a5 with
    | nil =>
     rw[hu,`arU] at hc;simp at hc
    | cons k u =>
     have hb:EB `dR=`ar [`aR (R `arV)] :=
      `PO (Xr0 p S [] `H6) (Gb0 p `En [] k u hu)
     simp only[hb];have ih:=bp0 p ws `arV n (`az1 ws) (by simp at hn;omega) (by
      rw[hu,`arU] at hc;show _<=`zV;simp at hc;exact hc)
     rw[ih];have e:(`arV:RS).ends=`o2:=by
      skip;let#[c,b,u',nm,w,dg,l,sp]:=S;have h1:w=`hZ:=hw;have h2:u'=k::u:=hu;subst h1 h2;done;rfl
     rw[e]
   ·have e:`H5:=by
     skip;apply `a8t;have:w=v::ws:=hw;subst this;done;apply `Ft v `a8u
    rw[`bG `ajv,e]
theorem Ws0(S:RS)(hl:`zW)(hc:`l'):zd0 `a' []=`c (`v,R `o2) :=
 P20 rfl λp=>#[`a8r,show uh0 `dR=_ from m5 (Z9 (bp0 p `ci S 100000 rfl hl hc)) rfl,rfl]
def z70{f:`aP}{gA:GA}{p:`e}{S S':RS}{δ:Ds}{r:D}(hA:`a8v)(hf:`tv=`hi):Y9 0 `aM t8 gA f `bq=`c (r,`tw::δ):=by
 have h:`E7:=`c2
 unfold Y9;apply `We;rw[`bS,hA,`p];apply `Wf;rw[hf];rfl
def up0(S:RS)(kd:Nat):RS:={ S with begun:=`N!,un:=`arW }
theorem fs0(S:RS)(kd:Nat):∀k,`uG->U3 `qY k=`Of:=λk hk=>by
 unfold U3;show `a8w k;rw[`ch,`hc hk,← `ch]
def Rj0(S:RS)(kd:Nat):U3 `qY `bp=`Wg:=by
 unfold U3;show `a8w `bp;rw[`ch,`zG,`n9];rfl
def Ve0(S:RS)(kd:Nat)(hu:∀k∈`a5,`uG):nodes `qY=`oi::`o (`vX++[`Wg])::`o (`ps++[`Wg])::`a8x:=by
 show `oi::`o (`zO (`y `N!) (U3 `qY))::`o ((`arW).reverse.map (U3 `qY))::`eR::`eR::(`N!).map (`aCF)=_;rw[`Y,`dK,`ark,`a2,`H4,`fl,`a2,`H4,`a2,Rj0,
  `a8y (g:=U3 S) (λk hk=>fs0 S kd k (`BD hk)),`a8y (g:=U3 S) (l:=S.un.reverse) (λk hk=>fs0 S kd k (hu k (List.mem_reverse.mp hk)))]
 rfl
def Lz0(p:`e)(S:RS)(kd:Nat)(s2 s3:Sl)(hu:∀k∈`a5,`uG)(h1:`bp<=1000)(h2:`Wh) :
  od0 0 3 `ap `sc `ls `arX=`ar [`aR (R `qY),`r8,s2,.un]:=by
 skip;apply `qX
 obtain⟨dp,O⟩:∃dp:D,dp=`Wg:=`ad;have U:(`y `J!)=`bp+5:=by
  show (`y `abA)+5=_;rw[`P]
 obtain⟨L,hL⟩:∃L:`i->`i->`i,L=λb u=>`oi::`o b::`o u::`a8x:=`ad
 obtain⟨N0,J⟩:∃N0:`i->`i->D,N0=λb u=>`z (`vz::L b u):=`ad
 have dN:`H7 (dpN 0 `H8=`c (L b u)):=λb u δ=>`zX
 have a0:(rj0 0 `hS `arX).set 3 .un=[`aR (N0 (`vX) (`ps)),`r8,s2,.un]:=`gx J hL
 have fb:`H7 (j5 0 `aM `kx `Wi `H8=`a7'):=`a8z
 have fu:`H7 (j5 0 `aM `u? `Wi `H8=`a7!):=`a8z
 have a1:`H7 (`N1<`W->qr0 0 `sc dp `H8=`c (`aR (N0 (b++[dp]) u)::δ)):=λb u δ hb=>by
  unfold qr0;rw[fb,`p,dN,`p,wq0,`p,hL];show (`aW (`N1<`W) (`uI 1 (`o (b++[dp]))))=_;rw[`fm,J,hL];rfl
 have a2:`H7 (`zV<`W->qr0 0 `ls dp `H8=`c (`aR (N0 b (u++[dp]))::δ)):=λb u δ hb=>by
  unfold qr0;rw[fu,`p,dN,`p,wq0,`p,hL];show (`aW (`zV<`W) (`uI 2 (`o (u++[dp]))))=_;rw[`fm,J,hL];rfl
 done;unfold od0;rw[`bj (gv 1 `arX=`c (`mv)),`p,yt0,`p,`Q (`bj (`c8 (`g0 (`rE kd))=`d)),U,← O,a0,a1 _ _ _ (`hh `P `l7),`p,a2 _ _ _ (`a8A)];have e:N0 (`vX++[dp]) (`ps++[dp])=R `qY:=by
  rw[J,hL,O];show `d2 _=`z (`vz::nodes `qY);rw[Ve0 S kd hu]
 rw[e];rfl
def wd(w:`ah):`i:=w.map `aye
theorem Ok0(w:`ah):`qy ((`k3 n (wd w))=`a8B)
 | 0=>rfl
 | n+1=>by
  rw[`eV,`iL,Ok0 w n,`eV,`iL];unfold wd;rw[`a2]
theorem cl0(w:`aG):`qy ((`k3 n [w])=`cr n w)
 | 0=>rfl
 | n+1=>by rw[`eV,`iL,cl0 w n,`eV];rfl
def fv0(w:`ah)(hw:w≠[])(hl:`em<=2)(n:Nat)(hn:n<=100):mulL (`o (wd w)) `mf=`ns `a8B:=by
 show (`aW (wd w≠[]/\0<=`cl/\`cl<`gE/\`arY*`a8C<=`adO) (`jN (`k3 `a8C (wd w))))=_;have h1:wd w≠[]:=by unfold wd;simpa using hw
 have h2:`arY<=2:=by unfold wd;rw[`P];exact hl
 have h3:`arY*n<=2*100:=Nat.mul_le_mul h2 hn;rw[`Q #[h1,`G,`G,`cx `c7],`c7,Ok0]
def Ob0(kd:Nat)(hk:kd<4)(n:Nat)(hn:n<=100):uy0 `arZ=`c (`a8D):=by
 apply `l5
 have c:`a8E `c!:=`a8F
 apply `zY
 ·refine `zR;show `jY [.sh (`mG),`c!];apply `zZ;apply `uA;rw[`aK (`o (wd [`hl])) `i6 rfl,`aej [`hl],cl0];rfl
 ·refine `z_ `a8G `a8G `g6;apply `zZ;apply `uA;rw[`aK (`o (wd [`cF])) `i6 rfl,`aej [`cF],cl0];rfl
 ·refine `z_ `ar_ `ar_ (`z0 `ar_ `g6);apply `zZ;apply `uA;rw[`a8H,`a8I];rfl
 ·refine `z_ `Wj `Wj (`z0 `Wj (`z0 `Wj `nE));rw[o6 (x:=`o (wd [.cls])) (y:=`o (wd `aqA)) rfl (by
   rw[`a8H];exact `a8I)]
  simp only[m8];have hl:`Wk=n*2:=`a_
  rw[`Q (by unfold wd;rw[`P,`P,hl];simp;lia)];rfl
def T40(kd:Nat)(hk:kd<4):u30 [`mv]=`c (`ar0):=by
 apply `zY
 ·kernel_rfl
 ·kernel_rfl
 ·kernel_rfl
 ·kernel_rfl
def await(S:RS)(w:`ah):RS:={ S with wait:=w++`ci }
def Lr0(p:`e)(S:RS)(δ:Ds)(w:`aG)(hl:`zW):Z5 (on0 0 `m' (gc `CM)) `bq=`ar (`aR (R (await S [w]))::δ):=by
 have z:`a8J:=`av
 unfold Z5 on0;apply `Wc qn0 (`bj (gc `CM (`ti::δ)=`arR));show `ix _ (`aW (nrf `CM=`d/\`arJ<`W) (D.non,`uI 4 `a8K))=_;rw[`H9 `a8A,rr0 p S (await S [w])]
 ·rfl
 ·show `Wl `a8K=`Wl (`o (`arN (w::`ci)))
  rw[`fl,`a2];rfl
def K60(p:`e)(S:RS)(δ:Ds)(g:GE)(ws:`ah)(hg:`uJ=`c (`o `aek))(hl:`hY+`F4<100000):Z5 (Y30 0 `m' g) `bq=`ar (`aR (R `a8L)::δ):=by
 have z:`a8J:=`av
 have hf:∀ws:`ah,`a8M:=λws=>by
  refine pa0 ?_;unfold flats wd;rw[`j5];intro d hd;rw[List.mem_reverse] at hd;let#[w,_,rfl]:=`gi;rfl
 unfold Z5 Y30;apply `Wc qn0 hg;show `ix _ (`aW (`a8M/\`arJ+(wd ws).reverse.length<=`W) (D.non,`uI 4 `a8N))=_;rw[`Q #[hf ws,by unfold wd;rw[`P,`jW,`jW,`P];lia],rr0 p S `a8L]
 ·rfl
 ·show `Wl `a8N=`Wl (`o (`arN (ws++`ci)))
  rw[`ar1,`a2];unfold wd;rw[← `ar2];rfl
def o50(k:Nat):nrf (link k)=`d:=by
 unfold link nrf;rw[`bg];refine#[?_,rfl];show (xx0 `a6h).isNone=`d;show (`w (`a_c = "@") (`c (`dV).toNat) `f).isNone=`d;rw[`ag `dj];rfl
def lb0(S:RS)(d:D):(`B_ `rR)=`bp:=by
 unfold RS.hold;cases `a5 with
 | nil=>rfl
 | cons k u=>exact `qW ..
theorem ch0(S:RS)(d:D):(`rR).un=`a5:=rfl
theorem uo0(S:RS)(d:D):(`rR).wait=`l4:=rfl
def vh0(S:RS)(kd:Nat)(n:Nat):RS:=await `a8O (`jX)
def Jz0(S:RS)(kd n:Nat)(h1:`Wm)(h2:`H'):`aeF kd `cl=`c `Eo:=by
 unfold RS.part;rw[`ag (by
  rintro (q|q)
  ·split at q<;>split at h1<;>lia
  ·exact h2 q),`c7]
 rfl
def p60(kd n:Nat)(hn:n<=20):`a8P<=50:=by
 have hl:`Wk=n*2:=`a_
 match kd with
 | 0=>apply `Wn;rw[`qp];lia
 | 1=>apply `Wn;rw[`qp];lia
 | 2=>show `Wk<=_;rw[hl];lia
 | k+3=>show `a8Q;rw[`X,hl];lia
def kk0(S:RS)(ok:Ok S)(hw:`l9)(hl:`ar3)(hul:`Wh)(kd:Nat)(hk:kd<4)(n:Nat)(h1:`Wm)(h2:`H'):O9 `a' `arZ=`a8R:=by
 have J:n<=20:=`a8S
 refine `b1 [`a8T,`r8,`c!,.un]
 show xq0 `H!=_;have c1:ob `aqo `H!=`bI:=by
  apply `bF;rw[`jZ `i6 `ar0 `a8U];show `fq (`aaF<`cl);rw[`bG (by split at h1<;>split<;>lia)]
 have c2:ob `aqp `H!=`bI:=by
  apply `bF;rw[`a8V];show `a8W;rw[`gP]
 refine m5 (δ':=`H!) (by
  rw[Q4 (by unfold G5;rw[c1];exact c2)];rfl) ?_
 have hh:V8 `a' [`JS]=`c (`v,R `Ob):=mg0 S ok hw _ `ar4;have ca:Y9 0 `aM t8 `a5P V8 `H!=`c (`v,`a8X) :=
  z70 (`aU (wg0 (`pO rfl `Oa) `zm) rfl) hh
 refine `cB `a8X (Z9 (by unfold Z5;rw[ca];rfl));have U:=`a8Y;have few:=`LW;refine m5 (Lz0 p `Ob kd (`c!) .un (λk O=>`l U (`Da k O)) `j hul) ?_;have tl:`a8Z<=10000:=by
  rw[uo0,`Ey];lia
 refine m5 (Z9 (Lr0 p `aF7 _ `ck (`ek (`a8Z<_)))) ?_;refine m5 (Z9 (K60 p `a8O _ _ (`jX) (by
  rw[Z0 (ds:=[`a8D]) (`aU (by
   rw[`bD `arZ];exact Ob0 kd hk n `j) rfl)]
  rfl) (by
  have:=p60 kd n J;show (`y (`wp::`a8_))+_<_;rw[`X];lia))) ?_
 apply `hD
def V20(n:Int):pc0 `TQ=`sO (t10 n):=by
 have c:ob `a5Q [`rs]=`bC (n%2=1):=`o'
 by_cases h:n%2=1
 ·refine `zR
  show `a80;rw[`a81];unfold t10;rw[`bS];exact `uK
 ·refine `gO (`iW [`rs] (by show `a80;rw[`uB c `fi];rfl))
  unfold t10;rw[`cT];exact `uK
def We0(q:Nat)(hq:q<4):atC `L4 (`Cc)=`c (`t (`rE q)):=by
 rcases k4 hq with rfl|rfl|rfl|rfl
 ·kernel_rfl
 ·kernel_rfl
 ·kernel_rfl
 ·kernel_rfl
def Pt0(S:RS)(ok:Ok S)(hw:`l9)(hl:`ar3)(hul:`Wh)(kd:Nat)(hk:kd<4)(n:Nat)(h1:`Wm)(h2:`H'):T5 `a' [`g `a82]=`a8R:=by
 obtain⟨N,hN⟩:∃N:Int,N=`a82:=`ad;rw[← hN];refine `b1 [`a8T,`i4,`ve]
 apply `Wo;refine `a83;rw[O8 (by
  apply `bF;show `fq (N%4=3);rw[`oh])]
 refine `Wp (`aU (d:=`mv) ?_ (`qZ `i6)) (kk0 S ok hw hl hul kd hk n h1 h2)
 ·show `a84
  rw[`bc (N/4%4=(`aq kd))];exact We0 kd hk
 ·show `gN (N/4/4)
  rw[`bc (N/4/4=`cl)]
def pb0(S:RS)(ok:Ok S)(ws:`ah)(hw:`ar5)(N:Int)(d:D)(hn:`kk)
  (h:N%4=1/\d=`g (t10 (N/4))∨N%4=2/\`af3/\0<=N/\d=`a85∨N=0/\`sF):`ar6=`ii `wV:=by
 have J:`l9:=`aw?
 refine `b1 `Wq
 apply `Wo;have cm:∀j:Int,`a86:=`aqX
 refine `a87;refine `cB `li (by apply `ar7;rfl);refine m5 (δ':=`li) (by
  rw[Q4 (`gx `LT (`Op `cF `g8))];rfl) ?_
 have hold:∀(gA:GA),gA `li=`c [d]->o8 (`oc (`dN gA V8)) `K `li=`ar `Wq:=λgA hA=>by
  refine `Wr `Wq rfl;unfold Z5;rw[z70 hA (mg0 S ok J d hn)];rfl
 refine `iy `Wq `z1;skip;rcases h with⟨h1,rfl⟩|⟨h1,h2,h3,rfl⟩|⟨h1,rfl⟩
 ·done;rw[`HY cm `xI]
  exact hold _ (`aU (`l (`bD [`JX]) (V20 _)) rfl)
 ·done;apply `ar7
  refine `iy [`aR (R (`hT (`a85))),`i4,`ve] rfl;rw[O8 (by
   unfold yb0;rw[cm,`xI,`p,`bl];apply `bF;rw[`a88];show `a89;rw[`bU h2])]
  refine hold _ (`aU (`V' (`qZ (`g (`aq `aCH))) `zm) rfl);rw[`aK (`g (`se - 1)) `JX (`aw (`aK `N? `d? `Oa))];show `gN (`se - 1 - N/4);congr 2;omega
 ·done;apply `ar7
  apply `a8';rw[Q4 (by
   unfold yb0;rw[cm,`af2];rfl)]
  apply `a8';rw[O8 (by
   apply `bF;show `a8!;rw[`xI])]
  exact hold _ `kP
def Bx0{ga gb:GE}{δ:Ds}(h:`ei=`j0):`a8?=`j0:=`a9a
def Cx0{ga gb:GE}{δ:Ds}(h:`ei=`nV):`a8?=`fL:=`a9a
def fn0(S:RS)(w:`aG)(ws:`ah)(hw:`bN)(n:Int):zc0 `a' `TQ=`c (.bl (`a9b),R S):=by
 refine `b1 `Ws
 show tt0 `Ws=_;refine `VW;have c1:o2 `NZ `Mm eqD `Ws=`nW (`hQ):=by
  rw[`aK `BO (`t (`abB)) `a9c];show `fq (Y5 w=`abB);congr 2;exact `arS
 have c2:o2 `a5G `a5H leD `Ws=`nW (`aCI):=by
  rw[o6 (x:=`g (n*128)) (y:=`g 323) (`l (`aK `eH `Zh rfl) `af4) `fv];rfl
 by_cases hv:`hQ
 ·rw[Bx0 (`gy c1 hv),`bU (Or.inl hv)]
 ·rw[`og Cx0 c1 hv,c2]
  congr 2;exact `K2 #[`q,λz=>z.resolve_left hv]
def jb0(p:`e)(S:RS)(δ:Ds):plN `a5R `bq=`a7?:=by
 unfold plN;rw[Nz0];rfl
def Zu0(S:RS)(w:`aG)(ws:`ah)(hw:`bN)(b:Int)(hb:`z2)(h0:`Ep≠0)(hg:`a9d):`aen=`ii ((`N_ `Ep)):=by
 apply `a9e;rw[← hn] at h0 hg ⊢;refine `b1 [`aR (R `a6m),`eF,`rs]
 show zl0 `h!=_;refine m5 (δ':=`iq) (Z9 (X5 (d:=`eH) (by
  apply `a9f;rfl))) ?_
 refine m5 (δ':=`iq) (by
  rw[Q4 (by
   apply `bF;apply `ar8;rw[`gP])]
  rfl) ?_
 refine `cB `iq ?_
 ·have t1:`a9g=`a9h:=by
   apply `H?;rw[show `a9i=`bI from d7 (by
    show `z3 `ar9;rw[`aqZ])]
   rfl
  have t2:`a9j=`a9h:=by
   unfold y20 X3;rw[`a9k,`bU hg];rfl
  unfold ifX orT;rw[t1,`p];apply `a9l;rw[`dY,t2];rfl
 ·refine `a9m fg0 n
def bw0(S S':RS)(b:Int)(hb:0<=b/\b<128)(r:D)(h:T5 `a' [`Wt]=`hi):`a9n:=by
 refine `b1 [`tw,`eF,.sh (`Wt)]
 show zl0 `h!=_;refine m5 (δ':=[`bT,`eF,.sh (`Wt)]) (Z9 (X5 (d:=`Wt) (by
  rw[o6 (x:=`aF') (y:=`oE) `aF! (by
   show `gN (b%128);rw[Int.emod_eq_of_lt hb.1 hb.2])]
  rfl))) `eO
 rw[O8 (by
  apply `bF;apply `ar8;rw[`bU hb.2])]
 apply `Wu
def i30(S:RS)(w:`aG)(ws:`ah)(hw:`bN)(b:Int)(p:`e)(G:GSB)(r:`um)(h:G `Wv=r) :
  o8 (ifX `EG (o8 `f8 `K) `K) (o8 `a55 G) `h!=r:=by
 refine `iy `h! (m5 (Z9 (X5 `a9c)) h);have t:`a9o=`c (`m,`h!):=by
  unfold X3;rw[`Ww,hw];rfl
 unfold ifX;rw[t];rfl
def qj0(w v:`aG)(s0 s1:Sl):ob (o2 `aQ `a8l eqD) [s0,s1,`aac]=`a8m:=by
 apply `bF;apply `a8n;congr 2;exact `arS
def si0(S S':RS)(w:`aG)(ws:`ah)(hw:`bN)(hv:`l!)(b:Int)(r:D)(h:`a9n):`ar':=by
 apply `a9p
 show `Wx;refine `ar! w `eO;rw[O8 (by
  unfold G5;apply `ar?;apply `asa)]
 apply `Wu
def m30(S S':RS)(ws:`ah)(hw:`ci=`hl::ws)(b:Int)(r:D)(h:K1 `a' `o8=`hi):`ar':=by
 refine `b1 [`tw,`eF,`a9q]
 show `Wx;refine `ar! `hl (`iy [`bT,`eF,`a9q] `eO)
 ·rw[Q4 (by
   unfold G5;apply `ar?;rfl)]
  rfl
 ·rw[O8 (by apply `a9r;rfl)]
  apply `Wu
def nj0(p:`e)(S:RS)(δ:Ds):plN `aFZ `bq=`a8a:=by
 unfold plN;rw[K10];rfl
def Kz0(p:`e)(S:RS)(δ:Ds):ob `a56 `bq=`bC (0<`eD):=by
 apply `bF;rw[`aK `N' `kO `aeq];show `fq (`fg<`_D);congr 2;exact `Wd
def u00(S S':RS)(w:`aG)(ws:`ah)(hw:`bN)(hv:`l?)(b:Int)(r:D)
  (h:0<`eD/\S9 `a' `o8=`hi∨`fU/\W3 `a' `o8=`hi):`ar':=by
 apply `a9p
 show `Wx;refine `ar! w (`iy `Wv (`cB `Wv ?_))
 ·rw[Q4 (by
   unfold G5;apply `ar?;apply `asa)]
  rfl
 ·rw[Q4 (by apply `a9r;apply `asa)]
  rfl
 ·rcases h with⟨h0,h⟩|⟨h0,h⟩
  ·refine `gV
   rw[`HY Kz0 `aqY];apply `Wu
  ·refine `iy `Wv (`axR)
   rw[Q4 (`gx Kz0 h0)];rfl
def I30(b:Int)(h:`iX):yg0 `o8=`j0:=by
 have w:t20 `o8=`j0:=rfl;apply `Ia;show m10 `aqt `a57 [`eF]=_;unfold m10;rw[show ob `aqt [`eF]=`eK from d7 w,`p,`bl];have e1:leD `Jk `rj=`j0:=`uL (`fq (0<=b)) (`bU h.1)
 have e2:leD `rj `Mo=`j0:=`uL (`fq (`hL)) (`bU h.2)
 unfold l30;simp only[`bj (gc `Jk [`eF]=`c `Jk),`bj (gv 0 [`lm `rj]=`c `rj),`bj (gc `Mo [`lm `rj]=`c `Mo),`p,e1,e2];rfl
def next(S:RS):RS:=(`Ib:RS).ends
def Th(S:RS):Prop:=∀q∈`cJ,`asb
inductive Runs:RS->`S->RS->Prop
 | nil (S:RS):`d4 S [] S
 | cons {S S1 S':RS} {b:Int} {r:`S} (hb:`iX) (ht:`Ic) (hl:`Id) (hc:`z4) (hr:`d4 `L1 r S') (th:Th S1) (hk:`a9s):`d4 S (b::r) S'
def Runs.app{S S2:RS}{l r:`S}(h:`d4 S l S1)(h':`d4 S1 r S2):`d4 S (l++r) S2:=by
 induction h with
 | nil=>exact h'
 | cons hb ht hl hc _ th hk ih=>exact `aa hb ht hl hc (ih h') th hk
def Qm0(p:`e)(S:RS)(δ:Ds):Yj0 0 `aM `tx `cE `bq=`ar (`aR (R `Ib)::δ):=`c2
def SB:GS:=(u5 (ifD `a5U
 (u5 `aqq
 t7)
 t7)
 t7)
theorem cw0(b:Nat)(s1:Sl):∀(l:`k) (s2:Sl),(b∈l->`a9t=`c (.rt (`J?)))/\(b∉l->∃s2',`a9t=`ar [`e5,s1,s2'])
 | [],s2=>#[(λh=>by cases h),λ_=>`a9u]
 | c::l,s2=>by
  let#[i1,i2]:=cw0 b s1 l (`_d);have cc:ob `aFY `Ie=`bC (c=b):=by
   apply `bF;rw[`aK `azO `hK rfl];show `fq (`acb=`dJ);congr 2;exact `Wd
  by_cases h:c=b
  ·subst h
   refine#[`anf,λn=>`L A8 n];rw[`ab];unfold yu0;have e:`a9v=`c (.rt (`aaA)):=by
    refine d9 ?_;rw[`xA cc `Hk];exact `uK
   show `a9w `a9v;rw[e]
  ·have e:SB `Ie=`ar `Ie:=by
    refine `arb;rw[`uB cc `fi];rfl
   have st:yu0 `cL SB ((c::l).map `axp) `aCK=`aad `Ie:=by
    rw[`ab]
    conv=>lhs;unfold yu0
    show `a9w (SB `Ie);rw[e]
   rw[st];exact#[λhm=>i1 (`Mu `Wy (`a9x)),λhn=>i2 λz=>hn `asc]
def s60(b:Nat)(s:Str)(l:`k)(hs:`hV=l)(hl:`cP<=100):un0 [`hK,`ec]=`c (`w (b∈l) `J? `v):=by
 have it:∀δ:Ds,gj0 `ap (`e5::`Cv::δ)=`c `a9y:=fun δ=>by
  show `c (`kc s)=_;unfold signs;rw[hs];rfl
 let#[i1,i2]:=cw0 b (`Cv) l .un
 by_cases h:b∈l
 ·rw[`bS]
  exact `gO (d9 (qm0 (it _) (i1 h)))
 ·rw[`cT]
  let#[J,e]:=i2 h;exact `gO (o5 (qm0 (it _) e) (`uK))
def Ym0:(`aq4 `Du)=yh0:=`ba
def d50:(`aq4 `Ds)=T3:=`ba
def ko0(S:RS)(ok:Ok S)(hw:`l9)(b:Nat)(hb:`ad?):`a9z=`ii (`Ef):=by
 refine `b1 `a9A
 show xt0 `jx=_;refine m5 (δ':=`p3) (Z9 (X5 (by
  rw[`a9B,`a9C,`fm]))) ?_
 refine `cB `p3 (`aw (Q4 `fv));refine `Wr `a9A `z1;unfold Z5;rw[z70 `kP (mg0 S ok hw (`J') rfl)];rfl
universe Rk
namespace Rk
open DL W Rm StrLaws
open Bt (Y8 m5 j8 Z9 O8 Q4 X6 U9 d7)
def starts_pre(a b:`k):`afh (`bk a) (`bk b)=`asd:=by
 unfold Txt.startswith;rw[subAt_eq,vr0,vr0,yf0,yf0,`jH,`a9D]
 by_cases h:b <+: a
 ·rw[List.isPrefixOf_iff_prefix.mpr h]
  have:=h.length_le;rw[`bU `E,List.prefix_iff_eq_take.mp h];simp
 ·have hf:`asd=`m:=by
   cases q:`asd with
   | false=>rfl
   | true=>exact `L (Ay1.mp q) h
  rw[hf,Bool.and_eq_false_iff]
  by_cases hl:`N1<=`Eg
  ·right
   rw[beq_eq_false_iff_ne];intro z;exact h (z▸List.take_prefix _ _)
  ·left
   exact Y2 hl
def Me0{d:D}{δ:Ds}(h1:`aQt)(h2:`aQu):yu0 f G `jy δ=yu0 f G ds δ2:=by
 conv=>lhs;unfold yu0
 rw[h1,`p,h2]
def LB:GS:=(u5 `a5S
 t7)
theorem bv0(s0 s1 s2:Sl):∀(k:Nat) (m:Nat) (s4:Sl),∃s4',yu0 `hy LB ((`Pn m k).map λ(j:Nat)=>`bZ `b9) [s0,s1,s2,.sh (`abC),s4]=`ar [s0,s1,s2,`mH (`aq (36 ^ (m+k))),s4']
 | 0,m,s4=>#[s4,rfl]
 | k+1,m,s4=>by
  let#[s4',e]:=bv0 s0 s1 s2 k `xB (`abD);refine#[s4',?_];rw[`aos,`ab];have J:oA `afU V5 `ase=`c (`J9):=`c2
  have hb:LB `ase=`ar [s0,s1,s2,.sh (`a9E),`abD]:=by
   refine `kl `a9E ?_ rfl;rw[`jZ `abC `J9 J,`af4,`Wz];simp
  rw[Me0 (δ1:=`ase) rfl hb,`bc (m+`ef=m+1+k)];exact e
def Sa0(names:`l3)(hn:`a7l)(hl:∀n∈`lJ,`iu)(L:Nat)(pre:`k)(hp:`fJ<=L)(hL:L<=100):wd0 [`azb,`oF,`BP]=`Eu (left `lJ L pre):=by
 apply `l5
 let#[J,e]:=bv0 (`asf) (`oS) (`C') (`acd) 0 .un;rw[`jH] at e;refine `gO (`hF [`asf,`oS,`C',`mH (`aq (36 ^ 0)),.un] (o5 (δ':=[`asf,`oS,`C',.sh (`a9F),J]) (qm0 (items:=yn0 0 (`asg)) (mi0 (`qZ (`g (`asg))) `j `j) ?_) `nE))
 ·rw[o6 (x:=`oF) (y:=`g `azc) rfl (by
   rw[`bD [`BP]];show (`aW (`a9G<=`W) (`bZ (`a9G:Int)))=_;rw[yf0,`VZ])]
  rfl
 ·rw[← e]
  unfold yn0;rw[`bc ((`asg - 0).toNat=`acd),`a9H];congr 1;refine `a9I
  rw[`TO]
 ·have c:=oa0 (f:=gN 0) (gt:=`a5T) (ge:=gv 0) (δ:=[.un,`oS,`C']) (`a9J) (`UJ) (items:=`acc) (λd hd=>by
   let#[n,O,rfl]:=`gi;have Y:=hl n O;refine#[`ash,rfl,?_,`j_];show yb0 _ _ _=`c (`ao ((`wn).cps.toList.length=L)&&`_G (`wn).cps.toList);rw[vr0];unfold yb0;have t1:ob `aCp `ash=`c (`asi):=by
    apply `bF;rw[o6 (x:=`g `a9K) (y:=`oF) (by
     rw[`bD [`abE]];show (`aW (`a9L<=`W) (`bZ (`a9L:Int)))=_;rw[yf0,`VZ]) rfl]
    show `fq (`a9K=`vo);congr 2;apply `q_
   have t2:ob `aCq `ash=`c (`asj):=by
    apply `bF;show `z3 (`afh (`wn) (`Z4));rw[starts_pre]
   rw[t1,`p,t2];cases `asi<;>rfl)
  obtain⟨F,hF⟩:∃F:`i,F=((`a9M).filter `a9J):=`ad;have U:F.length=(`y (`a9N λn=>`asi&&`asj)):=by
   rw[hF,List.filter_map,`P];congr 1
  rw[o6 (x:=`g `a9O) (y:=`a9F) (by
   rw[`pR [`o F] (u40 (items:=`acc) rfl `m9 (by rw[hF];refine c.trans ?_;rw[List.map_id']))];rfl) rfl]
  show `fq (`a9O<`aCM);unfold left;congr 2;rw[U];apply `q_
universe Rk
namespace Rk
open DL W Rm
theorem sub_len'[`If]:∀{l m:`bd},`a9P
 | [],_,_,_=>`b3
 | a::l,m,hn,h=>by
  rw[`anC] at hn;have ha:=h a A8;have ih:=`WA (l:=l) (m:=m.erase a) hn.2 λb hb=>by
   have J:`jQ:=`p_ hn.1 hb
   exact(List.mem_erase_of_ne J).mpr (h b (`QB))
  rw[List.length_erase_of_mem ha] at ih;have:=List.length_pos_of_mem ha;rw[`X];lia
def words(A:`k):Nat->`l3
 | 0=>[[]]
 | k+1=>A.flatMap λc=>`a9Q
theorem bj0(A:`k):∀k,(`y `aep)=`a9R
 | 0=>rfl
 | k+1=>by
  unfold words;rw[List.length_flatMap];have:(A.map λc=>(`y `a9Q))=A.map λ_=>`a9R:=c9 λc _=>by rw[`P,bj0 A k]
  rw[`E,List.map_const',List.sum_replicate_nat,`Wz,`a0D]
theorem jc0(A:`k):∀(k:Nat) (w:`k),`em=k->(∀c∈w,c∈A)->w∈`aep
 | 0,w,h,_=>`l (List.eq_nil_of_length_eq_zero h) A8
 | k+1,[],h,_=>by cases h
 | k+1,c::w,h,hA=>l6.mpr #[c,hA c A8,`Dc w (jc0 A k w `ia (`Ig hA))]
def R10:T3.length=36:=`av
def ac0(names:`l3)(hnd:names.Nodup)(hA:∀n∈`lJ,∀c∈n,`km)(w:`k)(hw:∀c∈w,`km)(hn:w∉`lJ)(pre:`k)(hp:pre <+: w):left `lJ `em pre=`d:=by
 unfold left;refine L9 ?_;have O:(`y ((`ask).map (·.drop `fJ)))<=(`y (words T3 (`em - `fJ))):=by
  refine `WA ?_ λa ha=>?_
  ·refine `a9S
   have nd:(`ask).Nodup:=`Lj #[λz=>hn (P4.mp z).1,hnd.filter _];refine D90 ?_ (i4.mp nd);intro a b ha hb J e;have pf:∀x∈(`ask),pre <+: x:=λx hx=>by
    apply `lK
    ·exact hp
    ·have:=(P4.mp hx).2
     apply `a3 `bg;exact Ay1.mp this.2
   let#[a',rfl]:=pf a ha;let#[b',rfl]:=pf b hb;simp only[`z5] at e;exact J (`art)
  ·let#[x,hx,rfl]:=`dH ha
   apply `lK
   ·exact jc0 _ _ _ (by rw[`le]) λc hc=>hw c (l7 hc)
   ·let#[h1,h2]:=P4.mp hx
    rw[`bg,`zM] at h2;exact jc0 _ _ _ (by rw[`le,h2.1]) λc hc=>hA x h1 c (l7 hc)
 rw[bj0,R10,`P,`X] at O;lia
universe Rk
namespace Rk
open DL W Rm
open Bt (Y8 m5 j8 Z9 O8 Q4 X6 U9 d7)
def S90(names:`l3):`jf (`a9M)=`d:=by
 unfold flats;rw[`j5];intro d hd;let#[n,_,rfl]:=`gi;rfl
def ip0(p:`e)(S:RS)(δ:Ds)(gA:GA)(L:Nat)(pre:`k)(hA:gA `bq=`c `a9T)(hn:`x8)(hl:∀n∈`bs,`iu)(hp:`fJ<=L)(hL:L<=100) :
  ob (`afX gA) `bq=`c (left `bs L pre):=by
 apply `bF;unfold fnN;rw[ij0,`p,hA,`p,yt0,`p,Lm0 (wq0 3)];show (`qM (`jf (`Em)=`d/\`jf `a9T=`d) ((wd0 [`o (`Em),`oF,`BP]).bind (`a2v)))=_;rw[`Q #[S90 _,rfl],Sa0 `bs hn hl L pre hp hL];rfl
def e00(p:`e)(S:RS)(δ:Ds)(g:GE)(n:Nat)(hg:`uJ=`aeN):`arO `ie=`ar (`aR (R (`LY n))::δ):=by
 unfold t80;rw[hg,`p];kernel_rfl
def g80(p:`e)(S:RS)(δ:Ds)(g:GE)(l:`k)(hg:`uJ=`a7m):`arO `p2=`ar (`aR (R (`KB S l))::δ):=by
 unfold t80;rw[hg,`p];kernel_rfl
def fk0(S:RS)(hn:`Ih)(hl:∀n∈`bs,`iu)(L:Nat)(h1:1<=L)(h8:L<=8)(hleft:`a9U=`d):W3 `a' [`g `a9V]=`c (`jn,`a9W):=by
 obtain⟨b,hb⟩:∃b:Int,b=`a9V:=`ad;have J:b/2=`vo:=`G
 rw[← hb];refine `b1 [`aR (`a9W),`eF,`oS]
 show O3 `h!=_;refine m5 (δ':=`h!) (by
  rw[Q4 (by
   apply `bF;show `fq (b%2=0);rw[`gP])]
  rfl) ?_
 refine m5 (δ':=`z6) (Z9 (X5 (d:=`oF) (by
  show `gN `wm;rw[J]))) ?_
 refine m5 (δ':=`z6) (by
  rw[Q4 (by
   have t1:ob `Lk `z6=`bI:=d7 (by
    show `a9X;rw[`gP])
   have t2:ob `aqr `z6=`bI:=d7 (by
    apply `a9Y;rw[`gP])
   have t3:ob `aqs `z6=`bI:=d7 (by
    apply `a9Z;show `a9_;rw[`gP])
   unfold G5;rw[t1,`p,`dY,t2,`p,`dY,t3])]
  rfl) ?_
 refine m5 (δ':=`z6) (by
  rw[Q4 (by
   unfold zw0;rw[`a90,hleft];rfl)]
  rfl) ?_
 exact `a9m e00 L
def s80(p:`e)(S:RS)(δ:Ds):plN `axm `bq=`a8b:=by
 unfold plN;rw[Ol0];rfl
def Oh0(p:`e)(S:RS)(δ:Ds)(hl:`arK):Z5 `a5Z `bq=`ar (`aR (R `a91)::δ):=by
 apply `qX
 unfold Z5 on0;apply `Wc ij0 s80;show `ix _ (`aW (nrf (`xx)=`d/\`a8c<`W) (D.non,`uI 3 `a92))=_;rw[`H9 `awn,rr0 p S `a91]
 ·rfl
 ·show `oi::`eR::`eR::`a92::_=`oi::`eR::`eR::`o ((`aCP).map `Z3)::_
  rw[`a2];rfl
def fx0(S:RS)(b:Nat)(hb:`z7)(hn:`x8)(hl:∀n∈`bs,`iu)(hs:`asl)(hL:`z8)(hleft:`WB)(p:`e)(G:GSB)(r:`um)
  (h:G `asm=r) :
  (o8 `a5V
 (o8 (ifB `a5W
 (o8 `f8
 `K)
 `K)
 (o8 `a5X G))) `jx=r:=by
 apply `qX
 have sp:`a93:=by
  rw[`a94];apply `V0
 refine m5 (δ':=`p3) (Z9 (X5 (by
  rw[`asn,`aso,`fm]))) ?_
 refine m5 (δ':=`p3) (by
  rw[Q4 (by
   unfold G5;apply `a95;unfold zw0;rw[`a96,hleft];rfl)]
  rfl) ?_
 exact m5 (Z9 (g80 p S _ _ `mZ sp)) h
def Qr0(p:`e)(S:RS)(δ:Ds)(hs:`sB<=8):ob `a5Y `bq=`bC (`sB=`eD):=by
 apply `qX
 apply `bF;rw[o6 (x:=`g `a97) (y:=`N') (by
  rw[`pR [`xx] `aCQ];show (`aW (`a98<=`W) (`bZ (`a98:Int)))=_;rw[yf0,`VZ]) `aeq]
 show `fq (`a97=`_D);congr 2;apply `q_
def ba0(S:RS)(b:Nat)(hb:`z7)(hn:`x8)(hl:∀n∈`bs,`iu)(hs:`sB+1<`eD)(hL:`z8)(hleft:`WB) :
  `asp=`ii `LU:=by
 refine `b1 `asm
 show `WC;refine `a99 (`iy `asm `z1);rw[Q4 (by
  rw[Qr0 p `LU _ (`asq `asr 8),`bG];show ¬`asr=`eD;apply `mQ;lia)]
 rfl
def named(S:RS)(w:`k):RS:=(`a6r (((`Es `_e):RS).hold (Z2 w)))
def en0(S:RS)(ok:Ok S)(hw:`l9)(b:Nat)(hb:`z7)(hn:`x8)(hl:∀n∈`bs,`iu)(hs:`aqE)(hL:`z8)(hleft:`WB) :
  `asp=`ii (`vw S `mZ):=by
 obtain⟨w,J⟩:∃w,w=`vj:=`ad;have wl:`em=`eD:=by rw[J,`Y,`dK];exact hs
 refine `b1 `a9'
 show `WC;refine `a99 (`iy `a9' `z1);rw[← J];rw[O8 (by
  rw[Qr0 p `a9! _ (`ek (`em<=8)),`bU];exact wl)]
 refine m5 (Z9 (Oh0 p `a9! _ (`ek `arK))) ?_;have O:Ok `Ii:=#[`Da,`LW,`abL,ok.wait,`asq (`y `_e) 1000];refine `Wr [`aR (R ((`Ii:RS).hold (Z2 w))),`e5,`Bg] ?_
 ·unfold Z5
  rw[z70 (S:=`Ii) (`aU (s80 p `Ii _) rfl) (mg0 `Ii O hw (Z2 w) rfl)];rfl
 ·refine m5 (Z9 (e00 p _ _ `c5 0 rfl)) (m5 (Z9 (g80 p _ _ `ut [] rfl)) ?_)
  rfl
universe Rk
namespace Rk
open DL W Rm StrLaws
open Bt (Y8 m5 j8 Z9 O8 Q4 X6 U9 d7)
def Uy0:(∀n∈`cn 40,`apO `ass `ass `ass=`zO (`hG/2) (2*·)) /\
  ∀n∈`cn 40,`apO `ast `ast `ast=`zO (n/2) (2*·+1):=`ba
theorem cf0(xs:`bd)(d:α):∀l:`k,(∀i∈l,`tX)->`apQ=`dM (`Sm · d)
 | [],_=>rfl
 | i::l,h=>by
  have hi:=h i A8;rw[`HJ (B6 hi),cf0 xs d l `a9?,`ab];simp[`ch,hi]
theorem l80:∀xs:`i,`E9=(`cn (`_/2)).map λj=>(`Sm (2*j) `v,`Sm (2*j+1) `v)
 | []=>rfl
 | [a]=>by unfold pairsOf;simp
 | `MY=>by
  show `aqB=_;rw[l80 r,`X,`X,`bc ((`cb+1+1)/2=`cb/2+1),`aVL,`ab,`cu];rfl
def Nu0(xs:`i)(h:`_<40):`a'a=`E9:=by
 unfold ym0;rw[Uy0.1 _ (`lh h),Uy0.2 _ (`lh h),cf0 xs `v _ (λi hi=>by
  apply `a'b;have:=`zU;show 2*j<_;lia),cf0 xs `v _ (λi hi=>by
  apply `a'b;have:=`zU;show 2*j+1<_;lia),l80]
 refine n9 `qi `aVP
 simp
def kn0(xs:`i)(h:`_<40):uq0 `yR=`c `a'c:=by
 apply `Ia;rw[Z0 (ds:=[`o (`aCR),`o `aCS]) `Od];show `c (`d2 ((`a'a).map `adr))=_;rw[Nu0 xs h]
def Fits(kd:Nat)(held:`i):Prop:=`a'd<=30/\(kd=0->∀d∈`dv,`a'e)/\(kd=3->`dv≠[])
theorem kd0:∀l:`k,`asu=l
 | []=>rfl
 | c::l=>by
  show (`bk [c]).cps.toList++`asu=_;rw[kd0 l,vr0];rfl
def j30(kd:Nat)(hk:kd<4)(held:`i)(h:Fits kd `dv):M8 [`mv,`aaB]=`c (`gp `asv):=by
 apply `qX
 let#[hl,h0,h3]:=h;have c:`a8E `abF:=`a8F
 match kd,hk,h0,h3 with
 | 0,_,h0,_ =>
  obtain⟨l,rfl⟩:∃l:`k,`a'f:=by
   have:∀held:`i,(∀d∈`dv,`a'e)->∃l:`k,`a'f:=by
    intro held
    induction `dv with
    | nil=>exact λ_=>#[[],rfl]
    | cons d ds ih =>
     intro hd;let#[c,rfl]:=hd d A8;let#[l,rfl]:=ih `aDh
     exact#[c::l,rfl]
   exact `E `dv (h0 rfl)
  refine `zR;show `jY [.sh (`mG),`Cu (`C!)];apply `zZ;refine `uM (`V' (`qZ `xv) `PI) |>.trans ?_
  ·have hp:l=`a68:=(Bt.ku0 l).symm
   rw[`P] at hl
   conv=>rhs;rw[hp]
   refine Bt.Xi0 [] (`dM `N2) 1 rfl ?_ `a7a `qi;show `V? `C!;rw[`cu];rfl
  ·show `c (Res.rt (`d2 [`mG,`xv]))=`c (Res.rt (`d2 [`mG,Z2 (`asu)]))
   rw[kd0];rfl
 | 1,_,_,_ =>
  refine `z_ `a'g `a'g `g6;apply `zZ;exact d9 (U0 `arA)
 | 2,_,_,_ =>
  refine `z_ `asw `asw (`z0 `asw `g6);apply `zZ;exact `uM (wg0 (`pO rfl (`l (`bD [`aaB]) (kn0 `dv `j))) `PI)
 | 3,_,_,h3 =>
  cases `dv with
  | nil=>exact `L rfl (h3 rfl)
  | cons d ds =>
   refine `z_ `WD `WD (`z0 `WD (`z0 `WD `nE));refine wg0 (`aU rfl (`aU (d:=d) (by
    show atI `jy 0=_;rw[vy0 `r (`p4) `v];rfl) (`qZ (`z (`a'h `tj))))) `a7T
   rw[Z0 (ds:=`Gl) (`aU (by
    rw[Bt.iq0 (d:=`o `jy) (l:=`a'i) (h:=`f) rfl rfl rfl];show `V? (cutD `jy (`a'i) `f);rw[Bt.O70];rfl) rfl)]
   exact kn0 ds `aGp
def gb0(xs:`i):(`y `E9)<=`_:=by
 rw[l80,`P,`l7];lia
def bi0(X:D)(ps:`Vh)(hX:`aDy=`c (`z (`a'j)))(hl:`aJ<=1000):O7 1 [] `uu `dy noT `kG `af6=`ns `id:=by
 apply `qX
 refine `af' `a'j `m9
 ·apply `a'k
  rw[`a'l,hX];rfl
 ·rw[ud0 `a'm (λd hd=>by
   apply `asx;exact`asy `awx),`cu]
  rfl
def az0(kd:Nat)(hk:kd<4)(held:`i)(h:`a'd<=1000):uk0 [`gp `asv]=`ns (O4 `asv):=by
 apply `zY
 ·refine `z9;rw[O5 (by unfold G5;rw[show ob `Zw (`x6 (`gp (0,`dv)))=`eK from `c2];rfl)];exact `WE
 ·refine `z9;rw[O5 (`asz `a'n `a'n `eK)];exact `WE
 ·refine N6 rfl (o5 (δ':=[.sh (`asA)]) (by
   rw[W5 (`asz (`x6 `asA) (`x6 `asA) `bI)];rfl) `q0)
  exact bi0 _ (`h2 `dv) (`abz [`m8] _) (C0 (gb0 _) h)
 ·refine N6 rfl (o5 (δ':=[.sh (`asB)]) (by
   rw[W5 (`asz (`x6 `asB) (`x6 `asB) `bI)];rfl) `q0)
  exact bi0 _ (`a'o) (`abz [`mU,`a'p] _) (C0 (gb0 _) (by rw[`le];omega))
structure Held(q:`e9):Prop where
 kd:q.1<4
 fits:`a'q
 tr:`asb
 nr:`a'r
 fl:`jf `aaD=`d
def Qh0(S:RS)(k:Nat)(q:`e9)(hq:`hk)(h:`wJ):`a's:=by
 have e2:`a't:=by
  show `arP;rw[`df,hq];rfl
 have e1:`a'u:=by
  unfold U3;rw[`ch,hq];rfl
 rw[e1];unfold tc0 K4;simp only[vl0,`p,e2];rw[`Q #[rfl,h.tr,h.nr]]
def kj0(S:RS)(k:Nat)(u:`k)(hu:`hj)(q:`e9)(hq:`hk)(h:`wJ):`OF K3 `ace:=by
 refine `b1 `asC
 show xr0 `asC=_;have e1:`a8e `asC:=by
  unfold z10;rw[na0,`p,`bj (unG Q0 `cE [`ti,.un]=`c (`wr)),`p,yt0,`p];rw[`a8g];rw[hu,`fl,`a2];exact `arM
 unfold xr0 Zf0;rw[e1,`p,yt0,`p,Qh0 S k q hq h,`p];have e3:oA `a52 uk0 ((`cr ([`ti,`vW]:Ds).length `vW).set 1 (`asD))=`c (`ace):=by
  rw[Z0 (ds:=[`gp q]) (`aU (by
   rw[`a'v];exact j30 q.1 h.kd q.2 h.fits) rfl)]
  exact az0 q.1 h.kd q.2 (`cN h.fits.1)
 rw[e3,`p];simp only[];rw[`Q h.fl]
def Y90(p:`e)(S:RS)(δ:Ds)(g:GE)(i:Nat)(nm:`k)(hg:`uJ=`asE)(hn:`bs[i]?=`c nm):plN (z10 0 `xu g) `bq=`c `kQ:=by
 unfold plN z10;rw[ij0,`p,hg,`p,yt0,`p,`aef `Em];have hi:=(`ds hn).1;rw[`asF,`c7,`ch,`df,hn];rfl
def Xj0(S:RS)(ok:Ok S)(w:`aG)(ws:`ah)(hw:`bN)(b:Nat)(hb:`WF)(nm:`k)(hnm:`Ij)
  (hin:`asG):`aDg=`a'w:=by
 refine `b1 `a'x
 show `asH;refine m5 (δ':=`jx) (by
  rw[Q4 (by
   apply `bF;apply `asI;apply `asJ;rw[`gP])]
  rfl) ?_
 refine m5 (δ':=`nr) (Z9 (X5 (Y90 p S _ _ `asK nm (by
  apply `a'y;apply `a'z;congr 2;lia) hnm))) ?_
 refine `cB `nr ?_
 ·have t1:`a'A=`c (`ao (`rC),`nr):=by
   apply `H?;rw[`a'B,`Op w `ge];rfl
  unfold ifX Wb0;rw[t1,`p]
  by_cases hwn:`rC
  ·skip;let#[k,u,q,hu,hq,hh,O]:=hin hwn
   have t2:`a'C=`c (`m,`nr):=by
    unfold X3 gy0;apply `a'D;have e:`aGa=`nV:=by
     show (`aW (`af7/\(O4 q).all `c8=`d) (`fX (xor `m (`a'E))))=_;rw[`H9 hh.fl];congr 2;rw[`xj];cases ha:`a'E with
     | false=>rfl
     | true =>
      exfalso;let#[y,hy,he]:=y6.mp ha;have J:`c8 y=`d:=y0.mp hh.fl y hy;cases y with
      | str t =>
       have:t=`bk nm:=M0.mp he;rw[`E] at hy;exact O hy
      | non=>cases he
      | bl _=>cases he
      | int _=>cases he
      | tup _=>cases J
      | lst _=>cases J
      | dct _ _=>cases J
      | fn _ _=>cases J
    show `a'F;rw[e];rfl
   done;rw[`bU hwn];apply `a'G;rw[`bl,t2];rfl
  ·rw[`bG hwn]
   rfl
 ·refine `Wr `a'x `z1
  unfold Z5;rw[z70 `kP (mg0 S ok `H6 `kQ rfl)];rfl
def W90(S:RS)(ok:Ok S)(w:`aG)(ws:`ah)(hw:`bN)(b:Nat)(hb:`WF)(nm:`k)(hnm:`Ij)
  (hin:`asG):W3 `a' [`g `asL]=`a'w:=by
 obtain⟨c,hc⟩:∃c:Int,c=`asL:=`ad;rw[← hc];refine `b1 [`aCU,`kL,.un]
 show O3 [`bT,`kL,.un]=_;refine `gV;rw[O8 (by
  apply `bF;apply `asM;rw[`oh])]
 refine `Wp (`qZ `hK) (`a'H Xj0);show `gN (c/2);congr 2;lia
universe Rk
namespace Bw
open DL W
def yz0:GS:=(u5 `ap3
 (u5 `ap4
 (u5 (R6 `VC
 (u5 `VD
 (u5 `VE
 t7)) 100000)
 (u5 `ap5
 t7))))
def xa0:`h:=`ap6
def T9:`N:=`ap7
def rg0:GS:=(u5 (ifD `ap_
 (u5 `ap0
 t7)
 t7)
 (u5 `ap1
 t7))
def rz0:`h:=`ht
def ug0:`N:=`ap2
def wx0:GS:=(u5 `ap8
 t7)
def xj0:`h:=`xL
def M6:`N:=`ap9
def w60:GS:=(u5 `ap'
 t7)
def w50:`h:=`ex
def zs0:`N:=`ap!
def v00:GS:=(u5 (ifD `qQ
 (u5 `ap?
 t7)
 t7)
 (u5 `qR
 t7))
def v80:`h:=`ex
def yc0:`N:=`aqa
def vc0:GS:=(u5 (ifD `qQ
 (u5 `qR
 t7)
 t7)
 (u5 (ifD `HM
 (u5 `VA
 t7)
 t7)
 (u5 `zK
 (u5 (ifD `apW
 (u5 `apX
 t7)
 t7)
 (u5 (qx0 `uu `cL
 (u5 `VB
 t7))
 (u5 `zL
 t7))))))
def v90:`h:=`apY
def z40:`N:=`apZ
universe Bw
namespace Bw
open DL W
def cr0{g:GE}{δ:Ds}{b:`C}(h:`a6N):`a6O:=`a6P
def dgf:Nat->Nat->`S
 | 0,_=>[]
 | f+1,r=>`a'I
def dg(r:Nat):`S:=dgf r r
theorem Om0:∀(f g r:Nat),r<=f->r<=g->dgf f r=dgf g r
 | 0,0,_,_,_=>rfl
 | 0,g+1,r,h,_=>by
  have:r=0:=Nat.le_zero.mp h;subst this;rfl
 | f+1,0,r,_,h=>by
  have:r=0:=Nat.le_zero.mp h;subst this;rfl
 | f+1,g+1,r,h1,h2=>by
  show (`a'I)=`w (r=0) [] (`ir::dgf g `pP)
  by_cases z:r=0
  ·rw[`Q z,`Q z]
  ·rw[`n_,`n_,Om0 f g `pP `j `j]
theorem Gf0:dg 0=[]:=rfl
def Dw0(r:Nat)(h:r≠0):dg r=`ir::dg `pP:=by
 obtain⟨n,rfl⟩:∃n,r=n+1:=#[r - 1,`G];show (`w (n+1=0) [] ((`aq (128+`hG%128))::dgf n (`hG/128)))=_;rw[`cT,Om0 n (`hG/128) (`hG/128) `j `bL];rfl
def hi(r:Nat):`S:=(dg r).reverse
def R00:hi 0=[]:=by unfold hi;rw[Gf0];rfl
def Fn0(r:Nat)(h:r≠0):hi r=hi `pP++[`ir]:=by unfold hi;rw[Dw0 r h,`fl]
def bs(n:Nat):`S:=hi `WG++[`Ik]
def Et0:∀(m r:Nat),r<2 ^ m->(`y (hi r))<=m:=by
 intro m
 induction m with
 | zero =>
  intro r h;have h2:r=0:=by
   simp at h;exact h
  subst h2;rw[R00];exact `gT
 | succ m ih =>
  intro r h
  by_cases h0:r=0
  ·subst h0;rw[R00];exact `b3
  ·rw[Fn0 r h0,`Y]
   have:2 ^ `xB=2 ^ m*2:=`Wz 2 m;have:=ih `pP `j;apply `v2;lia
def O10(n:Nat)(h:`Il):`a'J:=by
 unfold bs;rw[`Y];have:=Et0 2600 `WG (`a'K);apply `v2;lia
def WT:GB:=`VC
def WB:GS:=(u5 `VD
 (u5 `VE
 t7))
def wt(a b:Sl)(r:Nat):WT [a,b,`aCY]=`bC (0<r):=by
 show `bC (`fg<`k4)=_
 by_cases h:0<r
 ·rw[`fT,`oh]
 ·rw[`fi,`gP]
theorem wh(a:Sl):∀(m r:Nat) (o:`S) (f:Nat),r<2 ^ m->m<f->`asN+m<`W ->
  ∃s,R6 WT WB f `a'L=`ar [a,.ow (`d1 (o++dg r)),s]
 | m,r,o,0,_,hf,_=>`L hf `aeg
 | m,r,o,f+1,hr,hf,hl=>by
  by_cases h0:r=0
  ·subst h0
   unfold R6;rw[wt,Gf0,`cg];exact`ad
  ·cases m with
   | zero=>simp at hr;lia
   | succ m =>
    have hb:WB `a'L=`ar [a,.ow (`d1 (o++[`ir])),`mH `WH]:=by
     have e1:(128:Int)+`k4%128=`ir:=`G
     have e2:`k4/128=`WH:=`G
     refine o5 (`V1 (l:=`ayg) (d:=`g (128+`k4%128)) rfl rfl `m9) ?_;rw[`a2,← e1,← e2];rfl
    have h2:r/128<2 ^ m:=by
     have:2 ^ `xB=2 ^ m*2:=`Wz 2 m;lia
    let#[s,e]:=wh a m `pP (o++[`ir]) f h2 `j `a6M;refine#[s,?_];unfold R6;rw[wt,`oh];simp only[hb];rw[e,Dw0 r h0,`ca];rfl
def nh0(n:Nat)(h:`Il):`a'M:=by
 apply `WI
 have h2:n/128<`Ks:=`a'K;let#[s,e]:=wh (`c!) 2600 `WG [`Ik] 100000 h2 `r (`ek (1+2600<_));refine N6 rfl ?_;have e1:`cl%128=`Ik:=`G
 have e2:`cl/128=`a'N:=`G
 refine `iW [`c!,`fa [`g `Ik],.un] (`GP e1);refine `kl (`g `a'N) (`GP e2) ?_;refine o5 e `q0;show `V? ((`Ik::dg `WG).map `bZ).reverse;rw[← `ar2,`fl];rfl
inductive Vb:`WJ
 | non:Vb `v
 | lk (j:Nat) (h:j<1000):Vb `oG
 | int (z:Int) (h:`asO):Vb `ks
def fold(z:Int):Nat:=if z<0 then (-2*z - 1).toNat else (2*z).toNat
def fold_lt(z:Int)(h:`asO):`Dw<2 ^ 2502:=by
 unfold fold;have e:`a'O=4*`abH:=`ba
 generalize (2:Nat) ^ 250=w at h e;split<;>lia
def jy0(z:Int):`a'P:=by
 by_cases h:z<0
 ·refine `zR
  rw[O5 (`uL `a'Q `fT)];apply `uA;rw[`aK (`g (-2*z)) `d? (`l (`aK (`g (-2)) `gW rfl) `q1)];have:`a'R=-2*z - 1:=`a'S `bS
  rw[`E];rfl
 ·refine `gO (o5 (δ':=[`hP]) (`aw (W5 (`uL `a'Q `fi))) `nE)
  rw[`aK `or `gW rfl,`q1];have:`a'R=2*z:=`a'S `cT
  rw[`E]
def sg(s:Str):`S:=s.cps.toList.map `a'T
def Xo0(s:Str):(`y (sg s))=`vv:=by unfold sg;rw[`P];rfl
def Mw0(s:Str):xw0 `dy noT `aFz [.un] (`kc s)=`c `azS:=by
 unfold signs;rw[ud0 (`TP `c9 (`g (`aq (x.cps.toList.headD 0)))) (λd hd=>by
  let#[c,hc,rfl]:=`gi;exact`asy `xc)]
 unfold sg;rw[`cu,`cu];rfl
theorem Zo0(s:Str)(h:`asP):`a'U :=
 N6 rfl (S7 (z00 (u40 (items:=`kc s) rfl (by unfold signs;rw[`P];exact h) (Mw0 s))))
def J00(a b:`S)(h:`a6L):qt0 (`o (a.map `g)) (`o (b.map `g))=`c (`d1 (a++b)):=by
 simp only[qt0];rw[`Q (`gs `P `P h),`a2]
def Ft0{g:GE}{δ:Ds}{l e:`S}(h1:`po=`c `a'V)(h2:`az=`ns (e.map `g))(h3:`a'W):`a'X=`ar (`cO (`d1 (l++e))):=by
 unfold Z5 u60;rw[h1,h2];simp only[`p];rw[`Q (`gs `P `P h3),`a2];rfl
def Kn0{g:GE}{δ:Ds}{e:`i}(h1:`po=`oa)(h2:`az=`c (`o e))(h3:`a'W):`a'X=`ar (`cO (`o (l++e))):=by
 unfold Z5 u60;rw[h1,h2];simp only[`p];rw[`aqR];rfl
def Ib(d:D):Prop:=`a'Y∨Vb d
theorem small(h:`Bj n):`Il:=N3 h `dj
def bq0{g:GE}{δ:Ds}{s:Str}(h:`az=`c `gc)(hs:`asP):`a'Z=`c (`a'_):=by
 rw[Z0 (ds:=`Oi) `a'0];simp only[V5];rw[`Q hs]
def cnt:Pt->Nat
 | `uw=>`em
 | `qT=>`cz
 | `od=>`aJ
 | `aqx=>`aJ
def kn:Pt->Nat
 | `VJ=>0
 | .row _=>1
 | `Bc _=>2
 | .rcd _ _=>3
def two(p:`AW):`i:=`a58
def its:`aqw
 | `VJ=>[]
 | `qT=>vs
 | `od=>`jp
 | `HQ=>`ni::`jp
def tx:Pt->`S
 | `uw=>sg w
 | _=>[]
structure Gp(p:Pt):Prop where
 cnt:`q2
 len:`asQ<=50
 it:∀d∈`fO,Ib d
def Dd0{p:Pt}(h:Gp p):(`y (tx p))<=20:=by
 cases p with
 | text w=>show (`y (sg w))<=20;rw[Xo0];exact h.cnt
 | _=>exact `b3
def Ky0(p:Pt):`fI<=3:=by cases p<;>simp[kn]
def J40{p:Pt}(h:`q2)(δ:Ds):oA `aFC V5 (`WK::δ)=`c (`g `asR):=by
 have z:`z':=`av
 cases p with
 | text w =>
  have h:`em<=20:=h;exact bq0 rfl `j
 | row vs=>rfl
 | table ps =>
  apply `a'1;rw[`P];rfl
 | rcd c ps =>
  apply `a'1;rw[`P];rfl
def An0(p:Pt)(δ:Ds):oA `aFD `aFE (`WK::δ)=`c (`a'2):=by
 cases p<;>kernel_rfl
def By0(a b:Nat):4*`rK+`dJ=(`aq (4*a+b)):=`G
def Tm0{p:Pt}(h:`q2):`a'3:=by
 apply `Ia
 change o2 _ _ _ [`WK]=_
 rw[o6 (x:=`g (4*`asR)) (y:=`a'2) (by
  rw[`jZ `ri (`g `asR) (J40 h _)];exact `q1) (An0 p _),← By0]
 rfl
def Sv0{p:Pt}(h:`q2):`a'4:=by
 have z:`z':=`av
 cases p with
 | text w =>
  have h:`em<=20:=h;refine `z9;rw[`l6];refine `JO;rw[`bD [`t w]];exact Zo0 w `j
 | row vs=>exact `iY [`WL] `ma `xD
 | table ps=>exact `iY [`Ok] `ma `xD
 | rcd c ps=>exact `iY [`Et] `ma `xD
def HB:GS:=(u5 `VB
 t7)
theorem xb0:∀ps:`cw,`a'5
 | []=>rfl
 | `n8=>by rw[`Im,`Y,xb0 ps,`X];show 2+_=_;lia
def Kb0{ps:`cw}{p:`AW}(h:`aYO):`a'6++two p=`aet `t4:=by
 rw[`a'7,h,List.flatMap_append];simp
def b00(a:Sl)(pre:`i)(ps:`cw)(hl:`fJ+2*`aJ<=`W)(s:Sl):∃s',yu0 `cL HB (`B') `a'8=`ar [a,`fa (pre++`jp),s']:=by
 let#[δ',l1,l2]:=pz0 (f:=gN 2) (G:=HB) (λi δ=>∃s,δ=[a,`fa (pre++`aet i),s]) (`B') 0 `a'8 (by
  rintro j d δ hj ⟨s,rfl⟩;rw[`df] at hj;cases hp:ps[j]? with
  | none=>rw[hp] at hj;cases hj
  | some p =>
   rw[hp] at hj;cases hj;have J:=(`ds hp).1;rw[`jH];refine#[_,_,rfl,o5 (Kn0 (l:=pre++`a'6) (e:=two p) rfl rfl (by
    rw[`Y,xb0,`d0];show _+2<=_;lia)) rfl,.sh (pr p),?_]
   rw[`ca,Kb0 hp];rfl) #[s,`a_]
 let#[s',rfl]:=l2;refine#[s',?_];rw[l1,`jH,`P,`WM]
def Sx0{p:Pt}(h:Gp p):`a'9:=by
 have z:`z':=`av
 have hc:=h.cnt;cases p with
 | text w=>kernel_rfl
 | row vs =>
  refine `iY [`WL,.un,.un] `ma `J3;rw[`l6];rfl
 | table ps =>
  have hc:`WN:=hc;let#[s',e]:=b00 (`Ok) [] ps (by simp only[`mz];lia) .un;refine `iY `a'' `ma (`In `a'' (`hF `a'! (`In `a'! `a'?)))
 | rcd c ps =>
  have hc:`WN:=hc;let#[s',e]:=b00 (`Et) [`ni] ps `PH .un;refine `iY `a!a `ma (`In `a!a (`hF [`Et,`pN,.un] (o5 (δ':=[`Et,`fa [`ni],.un]) (`aw `l6) `a'?)))
structure Gq(p:Pt):Prop where
 cnt:`q2
 vals:∀v∈`lt,Vb v
 names:∀s∈`zS,`tk
 few:`Cy<=12
theorem Un0{ps:`cw}(h1:∀v∈`h?,Vb v)(h2:∀s∈`id,`tk):∀d∈ps,`a!b:=λd hd=>#[h2 _ `a!c,h1 _ `a!c]
theorem Rn0{ps:`cw}(h:∀d∈ps,`a!b):∀d∈`jp,Ib d:=λd hd=>by
 skip;apply `a!d;let#[q1,q2]:=h p hp;unfold two at hm;rcases `Wy with rfl|hm
 ·done;exact `n #[_,rfl,q1]
 ·done;rw[`asS];exact `q q2
def Gq.gp{p:Pt}(h:Gq p):Gp p:=by
 let#[h1,h2,h3]:=h;cases p with
 | text w=>exact#[h1,`b3,λd hd=>by cases hd]
 | row vs=>exact#[h1,by have:`cz<=20:=h1;show `cz<=50;lia,λd hd=>`q (h2 d hd)]
 | table ps =>
  apply `a!e
  exact#[h1,by have:`WN:=h1;show `Oj<=50;rw[xb0];lia,Rn0 hp]
 | rcd c ps =>
  apply `a!e
  refine#[h1,by have:`WN:=h1;show `asT<=50;rw[`X,xb0];lia,`q3];apply `oj
  ·exact `n #[_,rfl,h3 c (D4 _ (`asU))]
  ·exact Rn0 hp d hd
def web(ps:`aL):D:=`a7Z
def Lk(m:Nat)(v:D):Prop:=∀j:Nat,v=`Bh->j<m
theorem Kk0(h:i<m):Lk m `Oz:=λj e=>by
 apply `z!
 injection e with _ e
 injection e with e _
 apply `z!
 lia
universe Bw
namespace K22
open DL W
theorem sub_len:∀{l m:`k},`a9P
 | [],m,_,_=>`b3
 | a::l,m,h,hs=>by
  let#[h1,h2]:=E5.mp h;let#[m1,m2,rfl]:=List.append_of_mem (hs a A8);have:=`a!f (m:=m1++m2) h2 λb hb=>by
   have:=hs b (`QB);rcases `dL `E with q|q
   ·exact B3.mpr (`nJ)
   ·rcases `cy q with rfl|q
    ·exact `L hb h1
    ·exact B3.mpr (`q q)
  simp only[`Y,`X] at this ⊢;lia
def nd(l:`k):`i:=`dM λ(i:Nat)=>`bZ `r2
def tgs(vs:`i):`k:=vs.filterMap λv=>match v with|`Io=>`c `jz|_=>`f
def jw0(a b:`k):nd `tg=nd a++nd b:=by unfold nd;rw[`a2]
def Fk0(a:`k):(nd a).reverse=nd a.reverse:=by unfold nd;rw[`ar2]
def fz0(a:`k):(`y (nd a))=`Eg:=by simp[nd]
def Fa0(o:`k)(x:Nat):((nd o).any λy=>eqF y `EI)=`ao (x∈o):=by
 unfold nd;rw[List.any_map,`yw,`apD,`zM];constructor
 ·rintro⟨y,hy,e⟩
  have e:`ao ((y:Int)=`r4)=`d:=e;have e:=o0 e;have:y=x:=`G
  subst this;exact hy
 ·intro h
  exact#[x,h,show `ao (`r4=`r4)=`d from L9 rfl]
def M90(o:`k):((nd o).all λd=>`c8 d)=`d:=by
 unfold nd;rw[`amQ,`j5];exact `al?
def Cd0(o:`k)(x:Nat):yr0 `d `EI (`o (nd o))=`nW (x∉o):=by
 simp only[yr0];rw[`H9 (M90 o),Fa0];congr 2
 by_cases h:x∈o<;>simp[h]
def lkv(f:`hE):D->D
 | `Io=>`z [`mp,`pQ (f `jz)]
 | v=>v
def rel(f:`hE)(p:Pt):Pt:=`Ip p (`Ew (lkv f))
theorem Qk0{vs:`i}(h:`d2 `aw0∈vs):j∈tgs vs:=t9.mpr #[_,h,by apply `nt]
def Ml0(p:Pt)(vs:`i)(h:`cz=`Cy):(`Ip p vs).vals=vs:=by
 cases p with
 | text w=>exact(Ax1 h).symm
 | row us=>rfl
 | table ps =>
  show `a!g;refine B21 ?_;have h':`cz=`WO:=h;simp only[`P] at h' ⊢;lia
 | rcd c ps =>
  show `a!g;refine B21 ?_;have h':`cz=`WO:=h;simp only[`P] at h' ⊢;lia
universe K22
namespace Km
open DL W K22
def yz0:GS:=(u5 `ap3
 (u5 `ap4
 (u5 (R6 `VC
 (u5 `VD
 (u5 `VE
 t7)) 100000)
 (u5 `ap5
 t7))))
def xa0:`h:=`ap6
def T9:`N:=`ap7
def rg0:GS:=(u5 (ifD `ap_
 (u5 `ap0
 t7)
 t7)
 (u5 `ap1
 t7))
def rz0:`h:=`ht
def ug0:`N:=`ap2
def ll0:GS:=(u5 `a5j
 t7)
def rf0:`h:=`lo
def y60:`N:=`a5k
def wx0:GS:=(u5 `ap8
 t7)
def xj0:`h:=`xL
def M6:`N:=`ap9
def sx0:GS:=(u5 (ifD `a5p
 (u5 `a5q
 t7)
 t7)
 (u5 `a5r
 t7))
def sk0:`h:=`HN
def wy0:`N:=`a5s
def w60:GS:=(u5 `ap'
 t7)
def w50:`h:=`ex
def zs0:`N:=`ap!
def v00:GS:=(u5 (ifD `qQ
 (u5 `ap?
 t7)
 t7)
 (u5 `qR
 t7))
def v80:`h:=`ex
def yc0:`N:=`aqa
def sf0:GS:=(u5 (ifD `a5l
 (u5 `Vu
 t7)
 t7)
 (u5 (ifD `x4
 (u5 `a5m
 t7)
 t7)
 (u5 `a5n
 t7)))
def sy0:`h:=`lo
def yl0:`N:=`a5o
def sd0:GS:=(u5 (ifD `aqb
 (u5 `a5t
 t7)
 t7)
 (u5 (ifD `a5u
 (u5 `a5v
 (u5 `a5w
 t7))
 t7)
 (u5 `a5x
 t7)))
def so0:`h:=`a5y
def yd0:`N:=`a5z
def vc0:GS:=(u5 (ifD `qQ
 (u5 `qR
 t7)
 t7)
 (u5 (ifD `HM
 (u5 `VA
 t7)
 t7)
 (u5 `zK
 (u5 (ifD `apW
 (u5 `apX
 t7)
 t7)
 (u5 (qx0 `uu `cL
 (u5 `VB
 t7))
 (u5 `zL
 t7))))))
def v90:`h:=`apY
def z40:`N:=`apZ
def fh0:GS:=(u5 `zK
 (u5 `a5A
 (u5 `a5B
 (u5 `a5C
 (u5 (R6 `aqc
 (u5 `aqd
 (u5 `aqe
 (u5 (ifD `aqf
 (u5 `aqg
 t7)
 (u5 (ifD `aqh
 (u5 `aqi
 (u5 `aqj
 t7))
 t7)
 t7))
 t7))) 100000)
 (u5 `zL
 t7))))))
def fy0:`h:=`a5D
def ms0:`N:=`a5E
universe Km
namespace Km
open DL W K22
open Bw (bs sg cnt kn its tx fold Vb Gp Gq)
def pd(ks:`gw):D:=`dk `Kh `asV
def ix{α:Type}[`If]:`bd->α->Nat
 | [],_=>0
 | b::l,a=>`w (b=a) 0 (`WP+1)
theorem k80[`If]:∀{l:`bd} {a:α},a∈l->`WP<`cP
 | [],_,h=>by cases h
 | b::l,a,h=>by
  unfold ix;rw[`X]
  by_cases e:b=a
  ·rw[`f6];lia
  ·have:=k80 (l:=l) (a:=a) `WQ
   rw[`eZ];lia
theorem Kc0[`If]:∀{l:`bd} {a:α},a∈l->l[`WP]?=`kK
 | [],_,h=>by cases h
 | b::l,a,h=>by
  unfold ix
  by_cases e:b=a
  ·rw[`f6,e];rfl
  ·rw[`eZ,`aoN]
   exact Kc0 `WQ
theorem Zs0:∀(ks:`gw) (s:Nat) (k:za0),`WR->`a!h s=`c (`g (`aq (s+`WS)))
 | [],s,k,h=>by cases h
 | a::ks,s,k,h=>by
  rw[`X,`aos];show (if a=k then `c (`bZ `r0) else `a!h (s+1))=_;unfold ix
  by_cases e:a=k
  ·rw[`f6,`f6]
   rfl
  ·have hk:`WR:=`axS
   rw[`eZ,`eZ,Zs0 ks (s+1) k hk,`bc (s+1+`WS=s+(`WS+1))]
def Xq0{ks:`gw}{k:za0}(h:`WR):ta0 ks `asV k=`c (`pQ `WS):=by
 rw[`a9H,Zs0 ks 0 k h,`jH]
def ib0(ks:`gw)(k:za0):`D_=`d↔`WR:=by
 unfold xi0;rw[`apD];constructor
 ·rintro⟨x,hx,e⟩
  rw[← `aov e];exact hx
 ·intro h
  exact#[k,h,L9 rfl]
def Zm0{ks:`gw}{k:za0}(h:k∉ks):`D_=`m:=by
 cases e:`D_ with
 | false=>rfl
 | true=>exact `L ((ib0 ks k).mp e) h
def Oi0{ks:`gw}{k:za0}(h:k∉ks):(`dk `a1A (wu0 ks `asV k `a!i):D)=pd (ks++[k]):=by
 unfold wt0 wu0 pd;rw[Zm0 h,`lY,`lY,`Y,`dK,`ark,jw0];rfl
theorem idx_map[`If][`JK β](f:α->β)(a:α):∀l:`bd,(∀b∈l,f b=f a->b=a)->ix (`dM f) (f a)=`WP
 | [],_=>rfl
 | b::l,h=>by
  rw[`ab];unfold ix
  by_cases e:b=a
  ·rw[`f6,`Q (`art)]
  ·rw[`eZ,`ag (λz=>e (h b A8 z)),`asW f a l λc hc=>h c (A6 _ hc)]
def kb(B:`k):`gw:=B.map `a!j
def kt(T:`h):`gw:=T.map `a!k
def kb_mem(B:`k)(j:Nat):`a!l∈kb B↔`g':=by
 unfold kb;rw[`a!m];constructor
 ·rintro⟨k,hk,e⟩
  have:`dV=`b9:=`WT
  have:k=j:=`G
  rw[← `E];exact hk
 ·exact λh=>#[j,h,rfl]
def o20(T:`h)(s:Str):`aev∈kt T↔`mV:=by
 unfold kt;rw[`a!m];constructor
 ·rintro⟨k,hk,e⟩
  have:k=s:=`WT
  rw[← `E];exact hk
 ·exact λh=>#[s,h,rfl]
theorem Da0(B:`k)(j:Nat):ix `vf `a!l=`wW:=`asW (`a!j) j B λb _ e=>by
 have:`dJ=`b9:=`WT
 lia
theorem Fs0(T:`h)(s:Str):ix `vD `aev=`Mv:=`asW (`a!k) s T λb _ e=>`WT
def Oa0(B:`k):`Iq=`bY:=by unfold kb;rw[`P]
def kt_len(T:`h):`Ev=`jA:=by unfold kt;rw[`P]
structure Wb(ps:`aL):Prop where
 len:0<`aJ/\`arC
 it:∀p∈ps,Gq p
 lk:∀p∈ps,∀v∈`lt,Bw.Lk `aJ v
def It(n:Nat)(d:D):Prop:=`a'Y∨`sF∨(∃z:Int,d=`gW/\`asO)∨∃j:Nat,d=`Bh/\j<n
def It.of{v:D}(h:Vb v)(hl:Bw.Lk n v):It n v:=by
 cases h with
 | non=>exact `q `dI
 | lk j _=>exact `ze #[j,rfl,hl j rfl]
 | int z hz=>apply `j? (`n #[z,rfl,hz])
def hb(ps:`aL)(B:`k)(T:`h):D->`S
 | `ec=>`WU
 | `Io=>if `asX then bs (4*(`bY - 1 - ix B `jz)+2) else bs (4*(4*cnt `WV+kn `WV)+3)++tx `WV
 | `gW=>bs (4*`Dw+1)
 | _=>bs 0
theorem nh0(n:Nat)(h:`Il):`a'M:=Bw.nh0 n h
theorem Zo0(s:Str)(h:`asP):`a'U:=Bw.Zo0 s h
theorem Tm0{p:Pt}(h:`q2):`a'3:=Bw.Tm0 h
theorem Sv0{p:Pt}(h:`q2):`a'4:=Bw.Sv0 h
theorem Sx0{p:Pt}(h:Gp p):`a'9:=Bw.Sx0 h
theorem jy0(z:Int):`a'P:=Bw.jy0 z
theorem Ry0(ks:`gw):ws0 [pd ks]=`c `a!i:=rfl
def H40(T:`h)(s:Str):um0 `m `gc `KD=`Eu `a!n:=by
 show `z3 (xor `m (`a!o));rw[`xj]
 by_cases h:`mV
 ·rw[`a!p,`fT]
 ·rw[`a!q,`fi]
def Lu0(B:`k)(j:Nat):um0 `d `Bm `KE=`a!r:=by
 show `z3 (xor `d (xi0 `vf `WW))
 apply `Ir
 ·rw[`aC3 ((`WX).mpr h),`WY];rfl
 ·rw[Zm0 (λz=>h ((`WX).mp z)),`fT];rfl
def Lk0{T:`h}{s:Str}(h:`mV):nc0 `KD `gc=`c (`a!s):=by
 show `a!t=_;rw[`a!u,Fs0]
def Os0{B:`k}(h:`g'):nc0 `KE `Bm=`c (`a!v):=by
 show ta0 `vf (nd (`cn `Iq)) `WW=_;rw[Xq0 ((`WX).mpr h),Da0]
def Ji0(T:`h)(hT:`WZ)(s:Str)(hs:`tk)(ps:`aL)(B:`k):wy0 `a!w=`c (`d1 `asY):=by
 apply `WI
 have ht:ob `aFB `W_=`c `a!n:=by
  unfold ob;rw[`aK `ec `v3 rfl,H40];rfl
 show _=`c (`jN ((`WU).map `g))
 by_cases h:`mV
 ·rw[`fT] at ht
  rw[`bS];have J:=k80 h;refine `z9;show `jY `W_;rw[O5 ht];refine `JO;rw[Z0 (ds:=[`g (`aq `azU)]) (`aU (by
   rw[o6 (x:=`or) (y:=`g (`asZ - 1 - `aC6)) rfl (by
    rw[o6 (x:=`g (`asZ - 1)) (y:=`a!s) (by
     rw[`aK (`g `asZ) `d? (by rw[`bD [`v3],Ry0,kt_len])];rfl) (by rw[`aK `v3 `ec rfl,Lk0 h])]
    rfl),`q1]
   congr 2;lia) rfl)]
  exact `W0
 ·rw[`fi] at ht
  rw[`cT];refine N6 rfl (o5 (δ':=`W_) (by
   show `jY `W_;rw[W5 ht];rfl) `q0)
  have h1:=Bw.O10 `K3 `pc;have h2:=Bw.Xo0 s;rw[o6 (x:=`d1 (bs `K3)) (y:=`aC_) (by
   rw[Z0 (ds:=[`g (`aq (2*`vv+1))]) (`aU (by
    rw[o6 (x:=`g (2*`aC0)) (y:=`d?) (by
     rw[`jZ `or `a'_ (Bw.bq0 rfl `j)];exact `q1) rfl]
    apply `W1;congr 2) rfl)]
   exact `W0) (`l (`bD `Oi) (Zo0 s `j))]
  exact `a!x
def Xl0(B:`k)(j:Nat):y60 `Mw=`a!r:=by
 apply `Ia;unfold m10;rw[`bj (ob `rP (S5 rf0 `Mw)=`eK),`p,`bl];rw[`aK `gg `kR rfl];exact Lu0 B j
def ix0{d:D}(h:isTup d=`m)(B:`k):y60 [d,`kR]=`nV:=by
 apply `Ia;unfold m10;rw[`bj (ob `rP (S5 rf0 [d,`kR])=`c (isTup d)),h];rfl
def L00(X:D):yl0 [`v,X]=`c (`as_):=`c2
def K20(z:Int)(X:D):yl0 [`gW,X]=`c (`g (`aq (4*`Dw+1))):=by
 refine `W2 `a!y (o5 (δ':=`a!y) `HX `nE);rw[o6 (x:=`g (4*`azR)) (y:=`d?) (by
  rw[`jZ `ri `aCZ (by rw[`bD `Oh,jy0])];exact `q1) rfl]
 apply `W1;congr 2
def Ps0{B:`k}(h:`g'):yl0 `Mw=`c (`a!z):=by
 have J:=k80 h;refine `W2 [`pd,`a!A] `g6;rw[`zT];apply `uA;rw[o6 (x:=`g (4*`a!B)) (y:=`or) (by
  rw[o6 (x:=`ri) (y:=`g `a!B) rfl (by
   rw[o6 (x:=`g (`aew - 1)) (y:=`a!v) (by
    rw[`aK (`g `aew) `d? (by rw[`bD [`kR],Ry0,Oa0])];rfl) (by rw[`aK `kR `gg rfl,Os0 h])]
   rfl)]
  exact `q1) rfl]
 apply `W1;congr 2;omega
def G3{ps:`aL}(hj:`jg):ixD `Jm `Bm=`c (`i').d/\`i'∈ps:=by
 constructor
 ·show atI (`N8) `b9=_
  rw[`asF,`c7];simp[`ch,hj]
 ·rw[`ch,`jt hj]
  exact L7 hj
def Sz0(l:`S):`jf (`dM `bZ)=`d:=by
 unfold flats;rw[`amQ,`j5];exact `al?
def Vp0{ps:`aL}(hw:`e_){B:`k}{T:`h}(hB:`z?)(hT:`WZ){d:D}(hd:`sp):yd0 `a!C=`c (`d1 `sD)/\(`y `sD)<=2700:=by
 skip;apply `WI
 have one:`qy (`Il->`a'J):=Bw.O10;rcases hd with⟨s,rfl,hs⟩|rfl|⟨x,rfl,hx⟩|⟨j,rfl,hj⟩
 ·done;refine#[`z9,?_]
  ·rw[`zT]
   refine `JO;rw[`bD `a!w];exact Ji0 T hT s hs ps B
  ·show (`y `WU)<=2700
   split
   ·have:=one `axT `pc;lia
   ·have:=one `K3 `pc
    have:=Bw.Xo0 s;rw[`Y];lia
 ·done;refine#[`iY `as0 `HX (`ce `as0 `q0),?_]
  ·show `jY `as0
   rw[W5 (`W3 `a!D)];rfl
  ·rw[`pR [`as_] (by apply `aGd;exact L00 _)]
   exact nh0 0 `pc
  ·exact C0 (one 0 `pc) `j
 ·have hf:4*fold x+1<`Ks:=by
   have:=Bw.fold_lt x hx;have e:8*`a'O<`Ks:=`ba
   generalize (2:Nat) ^ 300=w at e;lia
  done;refine#[`iY `as1 `HX (`ce `as1 `q0),?_]
  ·show `jY `as1
   rw[W5 (`W3 `a!E)];rfl
  ·rw[`pR [`g (`aq (4*fold x+1))] (by apply `aGf;exact K20 x _)]
   exact nh0 _ hf
  ·exact C0 (one _ hf) `j
 ·have J:∀G:GS,ifD `aqb G t7 `W4=`ar `W4:=λG=>`awt
  have ht:ob `aFF `W4=`as2:=`W3 `a!F;have O:`ayh=`a!G:=by
   unfold hb;apply `nt
  done;rw[O];let#[w1,w2]:=G3 hj;have hq:=`q4
  apply `Ir
  ·rw[`WY] at ht
   rw[`bS];refine#[N6 rfl (o5 (J _) (`ce `W4 `q0)),?_]
   ·rw[W5 ht];rfl
   ·rw[`pR [`a!z] (`l `aGg (Ps0 h))]
    exact `W0
   ·exact C0 (one _ `pc) `j
  ·rw[`fT] at ht
   rw[`cT];apply `a!H;have hc:=hq.cnt;have U:=Bw.Ky0 p;have h1:=one (4*(`Ms)+3) `pc;have h2:=Bw.Dd0 hq.gp;refine#[N6 rfl (o5 (J _) `J3),`axV];rw[O5 ht];refine `kl p.d ?_ `q0
   ·rw[`aC!]
    exact w1
   ·rw[o6 (x:=`d1 (bs (4*(`Ms)+3))) (y:=`aC2) (by
     rw[Z0 (ds:=[`g (`aq (4*(`Ms)+3))]) (`aU (by
      rw[o6 (x:=`g (4*`azT)) (y:=`g 3) (by
       rw[`jZ `ri `aC1 (`l `as3 (Tm0 hc))];exact `q1) rfl]
      apply `W1;congr 2) rfl)]
     exact `W0) (`l `as3 (Sv0 hc))]
    exact `a!x
def nB(B:`k):D->`k
 | `Io=>`w `asX B (B++[`jz])
 | _=>B
def nT(T:`h):D->`h
 | `ec=>`as4
 | _=>T
def nW(ps:`aL)(B:`k)(W:`i):D->`i
 | `Io=>`w `asX W (its `WV++W)
 | _=>W
def pk(ps:`aL):Nat->`k->`h->`i->`S
 | 0,_,_,_=>[]
 | _+1,_,_,[]=>[]
 | f+1,B,T,d::W=>`sD++pk ps f (`Aa) (nT T d) (`Is)
def st(ps:`aL)(o:`S)(B:`k)(T:`h)(W:`i)(s:Sl):Ds:=[`eP,`aes,`as5,`abK,`fa `CO,s]
def PT:GB:=`aqc
def PB:GS:=(u5 `aqd
 (u5 `aqe
 (u5 (ifD `aqf
 (u5 `aqg
 t7)
 (u5 (ifD `aqh
 (u5 `aqi
 (u5 `aqj
 t7))
 t7)
 t7))
 t7)))
def Tk0(ps:`aL)(o:`S)(B:`k)(T:`h)(W:`i)(s:Sl):PT `a!I=`bC (0<`wY):=by
 show `bC (`fg<(W.reverse.length:Int))=_;rw[`jW];congr 1
 by_cases h:0<`wY
 ·rw[`fT,`oh]
 ·rw[`fi,`gP]
def Gw0{T:`h}{s:Str}(hT:`WZ)(a b c e:Sl):Z5 `aFK `as6=`ar (`W5 (pd (kt `Ot))):=by
 have zs:`z':=`av
 have e1:gz0 3 `jo `aFJ `as6=`qM (`Ev<`W) (if `a!o=`d then (`a!t).map λr=>(r,(`as6:Ds)) else `c (`a!J,(`W5 (`dk (`n (wt0 `vD `Ol)) (wu0 `vD (nd (`cn `Ev)) `Ol (`a!J)))))):=rfl
 unfold Z5;rw[e1,`Q (`cx kt_len)];show `ix _ _=`c (`H3 (`W5 (pd (kt (`as4)))))
 by_cases h:`mV
 ·rw[`Q (`a!p),`a!u,`bS]
  rfl
 ·rw[`a!q,`lY,Oi0 `aC5,`cT]
  show `c (`H3 (`W5 (pd (kt T++[`q s]))))=_;unfold kt;rw[`a2];rfl
def Gu0{B:`k}(hB:`z?)(hj:`Dx)(a b c e:Sl):y40 `aFN `aFO [a,b,`as5,c,e,`pd]=`ar [a,b,.ow (pd (kb `k8)),c,e,`pd]:=by
 have zs:`z':=`av
 show `ix `H3 (`aW (`Iq<`W) ([a,b,.ow (`dk (`n (wt0 `vf `WW)) (wu0 `vf (nd (`cn `Iq)) `WW (`pQ `Iq))),c,e,`pd]:Ds))=_;rw[`Q (`cx Oa0),Oi0 (λz=>hj ((`WX).mp z))];unfold kb;rw[`a2];rfl
def Hk0{ps:`aL}(hw:`e_){o:`S}{B:`k}{T:`h}{W:`i}{d:D}(s:Sl)(hB:`z?)(hT:`WZ)(hd:`sp)(ho:`asN<=12000000)(hW:`wY<=10000) :
  PB `a!K=`ar (st ps `as7 (`Aa) (nT T d) (`Is) `v8):=by
 have zs:`as8:=`av
 let#[i1,i2]:=Vp0 hw hB hT hd;have p1:y40 (ot0 4) `nB `a!K=`ar `a!L:=by
  unfold st y40 ot0;rw[`fl];show `a!M [`eP,`aes,`as5,`abK,`fa (`xz `a!N),s] `a!N;rw[`a!O,`Wb];rfl
 have p2:Z5 `aFI `a!L=`ar (`wX `as7 `v8) :=
  Bw.Ft0 (l:=o) (e:=`sD) rfl (Jl0 (`l (`bD `a!C) i1) (Sz0 _)) `j
 refine o5 p1 (o5 p2 ?_);skip;apply `a!P
 ·done;refine `ce (st ps (o++`vZ `pA) B (nT T `pA) W (.sh `pA)) rfl
  rw[`zT];exact o5 (Gw0 hT _ _ _ _) rfl
 ·done;apply `a!Q
  rw[`wU];apply `a!Q;rw[W5 (`as9 `a!D)];rfl
 ·done;apply `a!R
  rw[`wU];apply `a!R;rw[W5 (`as9 `a!E)];rfl
 ·let#[w1,w2]:=G3 hj
  have ht:ob `aFL (`aC')=`as2 :=
   `as9 `a!F
  apply `a!S
  apply `a!T
  have e3:nT T `oG=T:=rfl;done;rw[e1,e2,e3]
  apply `Ir
  ·rw[`bS,`bS]
   rw[`WY] at ht;refine `a!U;rw[`wU];refine `a!U;rw[W5 ht];rfl
  ·rw[`cT,`cT]
   rw[`fT] at ht;have hq:=`q4;apply `a!H;have J:=hq.gp.len;have p4:Z5 `aFP (st ps `acg `k8 T W (`pd))=`ar (`aC?):=by
    refine(Bw.Kn0 (l:=`CO) (e:=(`fO).reverse) rfl (by
     rw[Z0 (ds:=[`o (`fO)]) (`aU (by
      rw[`a!V];exact Sx0 hq.gp) rfl)]
     rfl) (`hh `jW `jW)).trans ?_
    unfold st;rw[`ar1];rfl
   refine `a!W;rw[`wU];refine `a!W;rw[O5 ht];exact `PO (Gu0 hB h _ _ _ _) p4
universe Km
namespace Km
open DL W K22
open Bw (bs sg cnt kn its tx fold Vb Gp Gq two)
def lkd(j:Nat):D:=`Bh
theorem Re0{P:`WJ}(hs:`a!X){ps:`cw}(h1:∀v∈`h?,P v)(h2:∀s∈`id,`tk):∀d∈`jp,P d:=λd hd=>by
 apply `a!d;unfold two at hm;rcases `Wy with rfl|hm
 ·exact hs _ (h2 _ `a!Y)
 ·rw[`asS];exact h1 _ `a!Y
def J90{P:`WJ}(hs:`a!X){p:Pt}(hn:∀s∈`zS,`tk)(hv:∀v∈`lt,P v):∀d∈`fO,P d:=by
 cases p with
 | text w=>intro d hd;cases hd
 | row vs=>exact hv
 | table ps=>exact Re0 hs hv `a!Z
 | rcd c ps =>
  intro d hd;apply `oj
  ·exact hs c (hn c (D4 _ (`asU)))
  ·exact Re0 hs hv (`a!Z) d hd
theorem Wb.its{ps:`aL}(hw:`e_){p:Pt}(hp:p∈ps):∀d∈`fO,`sp :=
 J90 (λs h=>`n #[s,rfl,h]) (`aDa).names λv hv=>.of (`a!_ v hv) (hw.lk p hp v hv)
def Nc0{ps:`aL}(hw:`e_):∀(M f:Nat) (o:`S) (B:`k) (T:`h) (W:`i) (s:Sl),`azX->M<f->M<=4000->`asN+2700*M<=11000000->`jA+M<=20000->`uN->(∀x∈B,`uO)->(∀d∈W,`sp) ->
  (`y (o++pk ps f B T W))<=11000000/\∃B' T' s',R6 PT PB f `a!I=`ar (st ps (o++pk ps f B T W) B' T' [] s'):=by
 intro M
 induction M with
 | zero =>
  intro f o B T W s h1 h2 _ h4 _ _ _ _;have:W=[]:=k7.mp `j;subst this;apply `a!0;rw[pk,`cg];refine`a!1;unfold R6;rw[Tk0,`bG `aS]
 | succ M ih =>
  intro f o B T W s h1 h2 h3 h4 h5 hn J hW;skip;apply `a!0;cases W with
  | nil =>
   done;rw[pk,`cg];refine`a!1;unfold R6;rw[Tk0,`bG `aS]
  | cons d W =>
   rw[`X] at h1;have hd:=hW d A8;have O:∀d∈W,`sp:=λe he=>hW e (A6 _ he)
   have a3:`bY<=`aJ:=by
    have:=`a!2 hn J
    rwa [y8] at this
   have a1:=hw.len.2;have sp:=Hk0 hw s (o:=o) (B:=B) (T:=T) (W:=W) (d:=d) `j `j hd `j `j;let#[_,i2]:=Vp0 hw (B:=B) (T:=T) `j `j hd;have Z:(`y `Is)+51*(`aJ - (`y `Aa))<=M/\(`y (nT T d))<=`jA+1/\(`Aa).Nodup/\(∀x∈`Aa,`uO)/\∀e∈`Is,It `aJ e:=by
    skip;apply `a!P
    ·done;refine#[`aDb,?_,hn,J,O]
     show (`y (`w (x∈T) T (T++[x])))<=_;split
     ·lia
     ·apply `mQ;lia
    ·done;exact`a!3
    ·done;exact`a!3
    ·apply `a!S
     apply `a!T
     done;rw[e1,e2]
     apply `Ir
     ·rw[`bS,`bS]
      exact#[`G,`aey,hn,J,O]
     ·rw[`cT,`cT]
      let#[_,w2]:=G3 hj;have a2:=(`q4).gp.len;have Y:`a!4:=y9.mpr #[hn,`a_,`a!5];have U:∀x∈`mn,`uO:=λx hx=>by
       apply `uP
       ·exact J x z
       ·rw[`ew];exact hj
      have hl2:`a!6<=`aJ:=by
       have:=`a!2 Y U
       rwa [y8] at this
      refine#[?_,`aey,Y,U,λe he=>?_]
      ·rw[`Y] at hl2 ⊢
       rw[`Y];simp only[`dK] at hl2 ⊢;lia
      ·rcases `dL he with z|z
       ·exact `xE w2 e z
       ·exact O e z
   let#[k1,k2,k3,k4,k5]:=Z;have:=ih g `as7 (`Aa) (nT T d) (`Is) `v8 k1 `j `j `as' `j k3 k4 k5;apply `a3 `ca;let#[q0,B',T',s',q]:=`E;done;refine#[q0,B',T',s',?_];unfold R6;rw[Tk0,`bU (`p4)];simp only[sp];exact q
def pak(ps:`aL)(r:Nat):`S:=pk ps 100000 [] [] [lkd r]
def Ju0{ps:`aL}(hw:`e_):ms0 `ED=`c (`d1 (pak ps 0))/\(`y (pak ps 0))<=11000000:=by
 have J:=hw.len.2;let#[q0,B',T',s',q]:=Nc0 hw 3500 100000 [] [] [] `PM .un `PH `r `r `aS `aS U1 (λx hx=>by cases hx) (λd hd=>by
  rw[`x9];exact `ze #[0,rfl,hw.len.1])
 rw[`kV] at q0 q;refine#[N6 rfl ?_,q0];refine `hF [`eP,`pN,.un,.un,.un,.un] (`hF [`eP,`pN,`as!,.un,.un,.un] (`hF [`eP,`pN,`as!,`as!,.un,.un] (`hF (st ps [] [] [] `PM .un) `a!7)))
theorem my0(f:D->D):∀ps:`cw,`aaE (`aGl f)=`a!8
 | []=>rfl
 | `n8=>by
  rw[`ab,`ab,`ab,`d!,my0 f ps,`ab]
theorem pp0(f:D->D)(hf:∀s,f `gc=`ec):∀ps:`cw,(`a!8).flatMap two=`az0 f
 | []=>rfl
 | `n8=>by
  rw[`ab,`Im,pp0 f hf ps,`Im,`a2];show[`ach,f p.2]++_=[f (`t p.1),f p.2]++_;rw[hf]
def Yg0(π:`hE)(p:Pt):cnt `W6=`vq/\kn `W6=`fI/\tx `W6=tx p/\its `W6=`as?/\`a!9/\(`K4).all=`zS:=by
 have hv:`a!9:=Ml0 p _ (by rw[`P]);cases p with
 | text w=>exact#[rfl,rfl,rfl,rfl,hv,rfl]
 | row vs=>exact#[`uL ((`y (`k_ `h3))=`cz) `P,rfl,rfl,rfl,hv,rfl]
 | table ps =>
  have e:rel π (`od)=`Bc (`Om):=C7 `_H (my0 `h3 ps);refine`a!'
  ·rw[e];show `a!!;rw[`P]
  ·rw[e];exact `a!?
  ·rw[e];show `a?a++[]=`id++[];rw[`cu];rfl
 | rcd c ps =>
  have e:rel π (`HQ)=.rcd c (`Om):=C7 (`Ka c) (my0 `h3 ps);refine`a!'
  ·rw[e];show `a!!;rw[`P]
  ·rw[e]
   show `Mt::_=`Mt::`aGk;rw[← `a!?]
  ·rw[e];show `a?a++[c]=`id++[c];rw[`cu];rfl
def m60(π:`hE)(j:Nat):lkv π `kM=lkd (π j):=by unfold lkd lkv;apply `nt
def Ke0(B:`k)(j:Nat):`a?b=`aex:=by unfold nB lkd;apply `nt
def J20(ps:`aL)(B:`k)(W:`i)(j:Nat):nW ps B W `kM=`aGh:=by unfold nW lkd;apply `nt
def Sj0(ps:`aL)(B:`k)(T:`h)(j:Nat):`W7=`a!G:=by
 unfold hb lkd;apply `nt
def laid(ps:`aL)(L:`k):`aL:=`aDw
def I60{ps:`aL}(hw:`e_)(h0:`a?c)(hL:∀k∈L,k<`aJ)(hc:∀k∈L,∀i∈tgs `a?d,i∈L):Wb (laid ps L):=by
 have hl:(`y (laid ps L))=`Ex:=by unfold laid;rw[`P]
 refine#[`l hl h0,`gz,λp hp v hv=>?_]
 ·skip;apply `a?e
  let#[_,w2]:=G3 (hL k hk);have hq:=`q4;let#[r1,_,_,_,r5,r6]:=`a?f;done;refine#[`l r1 hq.cnt,λv hv=>?_,`l r6 hq.names,`gs r5 `P hq.few];rw[r5] at hv;apply `a?g;have hb:=`W8 u hu;cases hb with
  | non=>exact `v
  | lk i _ =>
   apply `a?h;exact .lk _ (`cN `a?i)
  | int z hz=>exact `g z hz
 ·skip;apply `a?e
  let#[_,w2]:=G3 (hL k hk);let#[_,_,_,_,r5,_]:=`a?f;rw[r5] at hv;apply `a?g;have hb:=(`q4).vals u hu;done;rw[hl];cases hb with
  | non=>exact λj e=>nomatch e
  | lk i _ =>
   apply `a?h;exact Bw.Kk0 (`a?i)
  | int z hz=>exact λj e=>nomatch e
universe Km
namespace Rk
open DL W Rm StrLaws
open Bw (bs hi)
def q00{S:RS}{w:`aG}(hw:`bN)(hv:`jl):`H5:=by
 skip;apply `a?j;have:w'=`oq:=hw;subst this;done;apply `Ft w `a8u
theorem do0{S:RS}{w:`aG}(hw:`bN)(hv:`jl):next S=`Ib:=q00 (S:=`Ib) hw hv
theorem Runs.one{S:RS}{b:Int}(hb:`iX)(ht:`Ic)(hl:`Id)(hc:`z4)(th:Th S1)(hk:`a9s):`d4 S [b] `L1:=`aa hb ht hl hc (`Oy) th hk
def s30{S:RS}(th:Th S){d:D}(hd:`l2):Th `wV:=by
 cases hu:`a5 with
 | nil =>
  unfold Th RS.hold;rw[hu];exact th
 | cons k u =>
  intro q hq;unfold RS.hold at hq;rw[hu] at hq;let#[i,hi]:=`ata;rw[`l8] at hi;cases e:`cJ[i]? with
  | none=>rw[e] at hi;cases hi
  | some y =>
   have hy:=th y (C9 e);rw[e] at hi
   by_cases z:k=i
   ·simp[z] at hi
    rw[← hi];show trs (y.2++[d])=`d;have:∀l:`i,`W9->`a?k:=by
     intro l
     induction l with
     | nil=>intro _;show `a?l;rw[hd];rfl
     | cons a l ih =>
      intro h;unfold trs at h;apply `qI;show `a?m;rw[h.1,ih h.2];rfl
    exact `E _ hy
   ·simp[z] at hi
    rw[← hi];exact hy
def Iv0(S:RS)(w:`aG)(ws:`ah)(hw:`bN)(hv:`l!)(hd:`uQ)(hl:`zW)(hc:`l')(th:Th S):∀r:Nat,(`hQ∨r*128<=323)->∃c,`d4 S (hi r) (`vG `k4 c):=by
 intro r
 induction r using Nat.strongRecOn with
 | ind r ih =>
  intro hg
  by_cases h0:r=0
  ·subst h0
   rw[Bw.R00];refine`a?n;have e:((`vG `wK `gd):RS)=S:=by
    skip;apply `a?j;have:dg=0:=hd;subst this;done;rfl
   rw[e];exact `It
  ·let#[c,h]:=ih `pP `j `a?o
   refine`atb;rw[Bw.Fn0 r h0];refine h.app ?_;obtain⟨S1,J⟩:∃S1:RS,S1=(`vG `WH c):=`ad;have e1:S1.digits*128+`ir%128=`k4:=by
    rw[J];show `WH*128+`ir%128=`k4;lia
   have w1:`ux=`oq:=`RF
   have ht:Z1 (R S1) [`g `ir]=`ii `atc:=by
    refine si0 S1 _ w ws w1 hv _ _ ?_;have:=Zu0 S1 w ws w1 `ir `j (`cx e1) (by rw[e1];rcases hg with z|z;exact `fG;right;lia);apply `a3 e1;exact `E
   have:=`Iu (b:=`ir) `j ht (`l J hl) `a?p `a?q;rw[← J];have e2:next `atc=(`vG `k4 (c+1)):=`a?r `atc (`BZ);apply `a3 e2;exact `E
def Wn0(S:RS)(w:`aG)(ws:`ah)(hw:`bN)(hv:`l!)(hd:`uQ)(hl:`zW)(hc:`l')(N:Nat)(hg:`hQ∨N<=323)
  (th:Th S) (S2:RS) (hl2:S2.wait.length<100000) (hc2:S2.wait.count `ck<=S2.un.length) (th2:Th S2)
  (ht:∀c,T5 (R `Ab) [`g `it]=`ii `Iv):`Iw (bs N) `Iv:=by
 let#[c,h]:=Iv0 S w ws hw hv hd hl hc th (N/128) `a?o;refine`atb;unfold bs;refine h.app ?_;have t:=`Iu (S:=`Ab) (S1:=`Iv) (b:=`W') `j (si0 `Ab `Iv w ws hw hv _ _ (bw0 `Ab `Iv `W' `j _ (by
  have e:((`Ab:RS).digits*128+`W')=`it:=by
   show `awR*128+`W'=`it;lia
  rw[e];exact ht c))) hl2 hc2 th2
 exact t
def V70(z:Int):t10 (`aq `W!)=z:=by
 unfold t10 Bw.fold
 by_cases h:z<0
 ·rw[`bS,`Q `c?]
  omega
 ·rw[`cT,`ag `c?]
  omega
def To0(S:RS)(ok:Ok S)(ws:`ah)(hw:`ar5)(hd:`uQ)(hl:`Ix)(hc:`l')(th:Th S)(N:Nat)(d:D)(hn:`kk)(htr:`l2)
  (h:`it%4=1/\d=`a?s∨`a?t d `sF):`Iw (bs N) ((`ej `rR c)):=by
 refine Wn0 S `cF ws hw `nU hd `j hc N `dI th `wV ?_ ?_ (s30 th htr) λc=>?_
 ·rw[uo0,`Ey];lia
 ·rw[uo0,ch0,hw]
  rw[hw] at hc;have:`E' (`Mx::ws)=`Iy:=`gn `uR
  show `Iy<=_;lia
 ·have:=pb0 `Ab `atd ws hw `it d hn h
  exact `E
def Qz0(S:RS)(ok:Ok S)(w:`aG)(ws:`ah)(hw:`bN)(hv:`l!)(hd:`uQ)(hl:`hY<=9000)(hul:`Wh)(hc:`l')(th:Th S)(kd n:Nat)(hk:kd<4)(h1:`Wm)(h2:`H'):`Iw (bs (`ael)) ((`ej `r1 c)):=by
 have J:n<=20:=`a8S
 have Y:=p60 kd n J;have O:`a?u:=by
  rw[`a?v];intro z
  apply `zY
  ·have:=`W?;cases `E
  ·have:=`W?;cases `E
  ·apply `Xa;apply `Ac;simp at hm
  ·apply `ate
   ·cases z
   ·apply `Xa
    apply `Ac;simp at hm
 have U:`Iy<=`gY:=by
  rw[hw,`uR] at hc;lia
 have e1:`a?w=`jX++`hZ:=by
  show `jX++([`ck]++`l4)=_;rw[hw];rfl
 refine Wn0 S w ws hw hv hd `j hc _ (by rcases hv with rfl|rfl;right;split at h1<;>lia;exact `mh) th `Eo ?_ ?_ (λq hq=>by
  rcases `dL (show q∈`a?x from hq) with z|z
  ·exact s30 th rfl q z
  ·rw[`ew];rfl) λc=>?_
 ·rw[e1,`Y,`X]
  have:`hY=`F4+1:=`a?y
  lia
 ·rw[e1,`atf,`uR,O]
  have:(`r1).un.length=`gY+1:=rfl;rw[`E];simp;lia
 ·have:=Pt0 (`vG ((`ael)/128:Nat) c) `atd (by show `l9;rw[hw];simp) (`ek `ar3) hul kd hk n h1 h2
  exact `E
universe Rk
namespace Rk
open DL W Rm StrLaws
open Bw (bs hi sg)
def Pq0(n:Nat)(h:n<128):bs n=[`cl]:=by
 unfold bs;rw[`bc (n/128=0),Bw.R00,`bc (n%128=n)];rfl
def count_tail{w:`aG}(hv:`jl):`E' `oq=`Iy:=by
 rw[`uR];simp[hv]
def So0(S:RS)(ok:Ok S)(w:`aG)(ws:`ah)(hw:`bN)(hv:`l?)(h0:`fU)(hl:`Ix)(hc:`l')(th:Th S)(h60:`atg)(b:Nat)(hb:`WF)(nm:`k)(hnm:`Ij)
  (hin:`asG):`Iw (bs (2*b)) ((`ej `Og c)):=by
 apply `Iz
 rw[`a?z];refine#[`vY,?_];have:=`Iu (S:=S) (S1:=`Og) (b:=`asL) `j (`a?A (`a'H W90)) `a?B (by
  rw[uo0,ch0,hw];rw[hw,`ath] at hc;exact hc) (`ati)
 exact `E
def Xx0(S:RS)(ok:Ok S)(w:`aG)(ws:`ah)(hw:`bN)(hv:`l?)(hl:`Ix)(hc:`l')(th:Th S)(h60:`Ih)(hln:∀n∈`bs,`iu)(nm:`k)(h8:`ep<=8)(hnd:`a?C)(hA:∀n∈`bs,∀c∈n,`km)(hN:∀c∈nm,`km)(hni:`a?D) :
  ∀(rest sp:`k) (c:Nat),sp++`aV=nm->`aV≠[]->∃c',`d4 `a?E (rest.map `Oo) ((`ej `sE c'):RS).ends:=by
 apply `Iz
 have U:∀b∈T3,`hL:=`av
 intro rest
 induction `aV with
 | nil=>intro sp c _ h;exact `L0
 | cons b rest ih =>
  intro sp c he _;obtain⟨S1,J⟩:∃S1:RS,S1=`a?E:=`ad;rw[← J];have hb:`z7:=hN b (by rw[← he];simp);have a1:=`Vn;have Y:`atj+(`w2+1)=`ep:=by rw[← he,`Y,`X]
  have O:left `bs `ep `Xb=`d:=ac0 `bs hnd hA nm hN hni `Xb #[`aV,`axc];have w1:`ux=`oq:=`RF
  rw[`ab]
  by_cases hr:`aV=[]
  ·subst hr
   refine`atb;have Z:`aag=nm:=he;have ht:=en0 S1 (`EO J `atd) (`gn w1) b hb `a?F `a?G (by rw[J];show `atj+1=`ep;simpa using Y) `a?H `a?I;have e1:`vw S1 (`aDe)=`atk:=by
    rw[J];show `vw _ `Xb=_;rw[Z];rfl
   rw[e1] at ht;have e2:(`sE).wait=`l4:=rfl;have e3:(`sE).un=`a5:=rfl;exact `Iu (S:=S1) (S1:=`atk) (b:=`dJ) `j `a?J (by show (`sE).wait.length<100000;rw[e2,`Ey];lia) (by
    show (`sE).wait.count `ck<=(`sE).un.length;rw[e2,e3,hw];rw[hw,`ath] at hc;exact hc) (s30 (S:=(`Es (`bs++[nm]))) th rfl)
  ·let#[c',h]:=ih `Xb (c+1) `atl hr
   refine#[c',?_];have a2:0<`w2:=`api hr;have ht:=ba0 S1 b hb `a?F `a?G (`x7 J (`atj+1<`ep)) `a?H `a?I;have e2:next `a?K=(`aez `aag (c+1)):=`a?r `a?K hf;refine `aa `j `a?J (`x7 J `zW) `a?p ?_ `a?q;rw[e2];exact h
def Nb0(S:RS)(ok:Ok S)(w:`aG)(ws:`ah)(hw:`bN)(hv:`l?)(h0:`fU)(hsp:`lk)(hl:`Ix)(hc:`l')(th:Th S)(h60:`Ih)(hln:∀n∈`bs,`iu)(nm:`k)(h1:1<=`ep)(h8:`ep<=8)(hnd:`a?C)(hA:∀n∈`bs,∀c∈n,`km)(hN:∀c∈nm,`km)(hni:`a?D) :
  `Iw (bs (2*`ep+1)++`Ky `Oo) `atk:=by
 apply `Iz
 let#[c,h]:=Xx0 S ok w ws hw hv hl hc th h60 hln nm h8 hnd hA hN hni nm [] (`vY) rfl (by intro z;rw[z] at h1;simp at h1);refine#[c,Runs.app ?_ h];rw[`a?z];have ht:=fk0 S h60 hln `ep h1 h8 (ac0 `bs hnd hA nm hN hni [] (List.nil_prefix));have:=`Iu (S:=S) (S1:=`atm) (b:=(`aq (2*`ep+1))) `j (`a?A ht) (`ek `zW) hc th;have e2:next `atm=(`aez [] `vY):=(do0 (S:=`atm) hw hf).trans (`KM hsp);apply `a3 e2;exact `E
def wv0(S:RS)(k:Nat)(l:`k)(ws:`ah):RS:=(`a6f (`Bi k λp=>(p.1,p.2++`C!)) ws)
def modify_id(f:`uS)(hf:∀a,f a=a)(l:`bd)(k:Nat):`IA=l:=by
 have:f=id:=funext hf;rw[`E];exact List.modify_id k l
def v10(f g:`uS)(l:`bd)(k:Nat):(`IA).modify k g=l.modify k (λa=>g (f a)):=by
 apply E00;intro i;rw[`l8,`l8,`l8];cases l[i]? with
 | none=>rfl
 | some a =>
  by_cases q:k=i
  ·simp[q]
  ·simp[q]
def Tr0:∀(l:`k) (S:RS) (k:Nat) (u:`k) (ws:`ah),Ok S->`hj->`ci=`atn->(∀q∈`cJ,`a?L)->`uQ->`Ix->`l'->Th S->(∀c∈l,`Xc)->∃c,`d4 `o2 (`a?M) ((`ej (wv0 S k l ws) c):RS).ends:=by
 have U:∀b∈yh0,`hL:=`av
 intro l
 induction l with
 | nil =>
  intro S k u ws ok hu hw hq hd _ _ _ _;refine`a?n;have e:((`ej (wv0 S k [] ws) `gd):RS)=S:=by
   skip;let#[c,b,u',nm,w',dg,le,sp]:=S;have e1:w'=ws:=hw;have e2:dg=0:=hd;subst e1 e2;done;unfold wv0;simp only[];rw[modify_id _ (`a?N)]
  rw[e];exact `Oy
 | cons b l ih =>
  intro S k u ws ok hu hw hq hd hl hc th hs;have J:`ci=`hl::(`atn):=by rw[hw,`X,`eV];rfl
  have hb:=hs b A8;have a1:=`Vn;have ht:=ko0 S ok (`gn J) b hb;have hk:=`a8k;obtain⟨S1,O⟩:∃S1:RS,S1=(`ej `Ef `vY):=`ad;have b1:`HS=`Bi k λp=>(p.1,p.2++[`J']):=by
   rw[O];unfold RS.hold;rw[hu]
  have w1:`ux=`atn:=by rw[O];show `l4=_;rw[J];rfl
  have u1:S1.un=k::u:=`l O hu
  have Y:∀q∈`HS,`a?L:=λq hm=>by
   rw[b1] at hm;let#[i,hi]:=d6.mp hm;rw[`l8] at hi;cases e:`cJ[i]? with
   | none=>rw[e] at hi;cases hi
   | some q0 =>
    have:=hq q0 (C9 e);apply `a3 `X;rw[e] at hi
    by_cases z:k=i
    ·simp[z] at hi
     rw[← hi];simp;lia
    ·simp[z] at hi
     rw[← hi];lia
  have Z:Ok S1:=#[λj hj=>by
   rw[b1,`qW];rw[u1,← hu] at hj;exact `Da j hj,`gs b1 `qW `LW,λq hm=>`cN (Y q hm),`a?O,`l O ok.names]
  have c1:`z4:=by
   rw[w1,u1,← hu];rw[J,`LX `r] at hc;exact hc
  let#[c,h]:=ih S1 k u ws Z u1 w1 Y (`aw O) (`a?O) c1 (`l O `ati) (`Ig hs)
  refine#[c,?_];have e3:((`ej (wv0 S1 k l ws) c):RS)=`a?P:=by
   unfold wv0;rw[b1,v10,O];apply `Xd;rfl
  rw[e3] at h;rw[q00 J `r,`ab];have:=Runs.cons (S:=S) (S1:=`Ef) (b:=`dJ) (r:=`a?M) (S':=(`a?P:RS).ends) `j (m30 S _ _ J _ _ ht) `a?B (by
   rw[uo0,ch0,J];rw[J,`LX `r] at hc;exact hc) (by
   unfold next;rw[O] at h;exact h) (`ati)
  exact `E
universe Rk
namespace Rk
open DL W Rm StrLaws
open Bt (Y8 m5 j8 Z9 O8 Q4 X6 U9 d7)
def Hq0(S:RS)(kd:Nat)(hk:kd<4)(n:Int)(h:`a?Q):O9 `a' `a?R=`kW:=by
 refine `b1 `Xe
 show xq0 `Xe=_;have c1:ob `aqo `Xe=`bC `aeA:=by
  apply `bF;rw[`jZ `eH `ar0 `a8U];rfl
 have c2:ob `aqp `Xe=`bC `aeB:=by
  apply `bF;rw[`a8V];show `a8W;congr 2;apply `q_
 refine `gV;rw[O8 (by
  unfold G5;rw[c1,`p,c2]
  by_cases h1:`aeA
  ·rw[`xI];rfl
  ·rw[`VU,`bU (`Xf h1)];rfl)]
 apply `hD
theorem h50(S:RS)(p:`e)(N:Int)(j:Int):`a86:=`o'
def Yx0(S S':RS)(N:Int)(h0:0<=N)(h3:N%4=3)(r:D)(h:O9 `a' [`a?S,`g (N/4/4)]=`hi):`ar6=`hi:=by
 refine `b1 [`tw,`i4,`ve]
 apply `Wo;refine `a83;rw[O8 (`gy h50 h3)];refine `Wp (`aU (d:=`a?S) ?_ (`aU (d:=`g (N/4/4)) rfl rfl)) h;show `a84;rw[`bc (N/4%4=(`aq `aDf))];exact We0 _ `j
def Ub0(S:RS)(w:`aG)(ws:`ah)(hw:`bN)(N:Int)(h3:N%4≠3)(h:`A9∨(N%4≠1/\¬(N%4=2/\`af3)/\N≠0)):`ar6=`kW:=by
 refine `b1 `li
 apply `Wo;refine `a87;refine `cB `li (`aw (`og Q4 h50 h3))
 by_cases hr:`A9
 ·refine `gV
  rw[O8 (by rw[`LT,`a?T,`bU hr])];apply `hD
 ·let#[h1,h2,h4]:=`Xf hr
  refine m5 (δ':=`li) (by
   rw[Q4 (by rw[`LT,`a?T,`bG hr])];rfl) `eO
  rw[`VV h50 `VU];refine `gV;rw[Q4 (by
   unfold yb0;rw[h50,`p]
   by_cases h5:N%4=2
   ·rw[`bU h5,`bl]
    apply `bF;rw[`a88];show `a89;rw[`bG λz=>h2 #[h5,z]]
   ·rw[`bG h5];rfl)]
  refine `gV;rw[Q4 (by
   apply `bF;show `a8!;rw[`bG h4])]
  apply `hD
def Ns0(S:RS)(w:`aG)(ws:`ah)(hw:`bN)(b:Int)(hb:`z2)(h:`Ep=0∨¬(`a9d)):`aen=`kW:=by
 apply `a9e;rw[← hn] at h;refine `b1 `iq
 show zl0 `h!=_;refine m5 (δ':=`iq) (Z9 (X5 (d:=`eH) (by
  apply `a9f;rfl))) ?_
 refine m5 (δ':=`iq) (by
  rw[Q4 (by
   apply `bF;apply `ar8;rw[`gP])]
  rfl) `eO
 have t1:`a9g=`c (`ar9,`iq):=by
  apply `H?;rw[show `a9i=`c (`ar9) from `o'];rfl
 have t2:`a9j=`c (!`a9b,`iq):=by
  unfold y20 X3;rw[`a9k];rfl
 unfold ifX orT;rw[t1,`p]
 by_cases h0:n=0
 ·rw[`aqY]
  rfl
 ·rw[`aqZ]
  apply `a9l;rw[`dY,t2,`bG (`Xf h0)];rfl
def Hd0(S:RS)(b:Nat)(hb:b∉yh0):`a9z=`kW:=by
 apply `a?U
 show xt0 `jx=_;refine m5 (δ':=`PL) (Z9 (X5 (by
  rw[`a9B,`a9C,`ev]))) `eO
 rw[O8 `fv];apply `hD
def O50(S:RS)(b:Nat)(hn:`x8)(hl:∀n∈`bs,`iu)(hs:`asl)(hL:`z8)(h:`aqD):`asp=`kW:=by
 by_cases hb:`z7
 ·have J:=`Xf λz=>z hb
  refine `b1 `p3
  show `WC;have sp:`a93:=by
   apply `qX
   rw[`a94];apply `V0
  refine m5 (δ':=`p3) (Z9 (X5 (by
   rw[`asn,`aso,`fm]))) `eO
  rw[O8 (by
   unfold G5;apply `a95;unfold zw0;rw[`a96,J];rfl)]
  apply `hD
 ·apply `a?U
  show `WC;refine m5 (δ':=`PL) (Z9 (X5 (by
   rw[`asn,`aso,`ev]))) `eO
  rw[O8 (by
   unfold G5;rw[show ob `afV `PL=`eK from `c2];rfl)]
  apply `hD
def Ph0(S:RS)(hn:`atg)(hl:∀n∈`bs,`iu)(b:Nat)(hb:b%2=1)(h:`aqC):`a?V=`kW:=by
 obtain⟨L,hL⟩:∃L:Nat,L=b/2:=`ad;rw[← hL] at h;refine `b1 `Ad
 show O3 `jx=_;refine m5 (δ':=`jx) (by
  rw[Q4 (by
   apply `bF;apply `a?W;rw[`gP])]
  rfl) ?_
 refine m5 (δ':=`Ad) (Z9 (X5 (d:=`oF) (by
  show `a?X;congr 2;lia))) ?_
 have t1:ob `Lk `Ad=`bC (L=0):=d7 (by
  show `a9X;congr 2;apply `q_)
 have t2:ob `aqr `Ad=`bC (8<L):=d7 (by
  apply `a9Y;congr 2;apply `q_)
 have t3:ob `aqs `Ad=`bC `abs:=d7 (by
  apply `a9Z;show `a9_;congr 2;apply `q_)
 by_cases hA:L=0∨8<L∨`abs
 ·refine `gV
  rw[O8 (by
   unfold G5;rw[t1,t2,t3]
   by_cases a:L=0
   ·rw[`bU a];rfl
   ·rw[`bG a]
    by_cases a2:8<L
    ·rw[`bU a2];rfl
    ·rw[`bG a2,`bU (`Mu (hA.resolve_left a) a2)];rfl)]
  apply `hD
 ·have J:`a9U=`m:=by
   rcases h with h|h|h|h
   ·exact `L `Rq hA
   ·exact `L (`q `Rq) hA
   ·exact `L (`q (`q h)) hA
   ·exact h
  refine m5 (δ':=`Ad) (by
   rw[Q4 (by
    unfold G5;rw[t1,t2,t3,`bG λz=>hA (`fG),`bG λz=>hA (`Xg),`bG λz=>hA (`q (`q z))];rfl)]
   rfl) `eO
  rw[O8 (by
   unfold zw0;rw[`a90,J];rfl)]
  apply `hD
def Qj0(S:RS)(b:Nat)(hb:`g4<=b):`a?Y:=by
 refine `b1 `jx
 show `asH;refine `gV;rw[O8 (by
  apply `bF;apply `asI;apply `asJ;rw[`oh])]
 apply `hD
def J80(nm:`k)(l:`i)(hl:`a?Z)(h:`A7∈l):yr0 `m `kQ (`vk)=`j0:=by
 show (`aW (`af7/\`a?Z) (`fX (xor `m (l.any `aCX))))=_;rw[`H9 hl];congr 2;rw[`xj];exact y6.mpr #[_,h,`FZ rfl]
def Tl0(S:RS)(ws:`ah)(hw:`ci=`ge::ws)(b:Nat)(hb:`WF)(nm:`k)(hnm:`Ij)
  (k:Nat) (u:`k) (q:`e9) (hu:`hj) (hq:`hk) (hh:`wJ) (hni:`A7∈O4 q):`a?Y:=by
 refine `b1 `nr
 show `asH;refine m5 (δ':=`jx) (by
  rw[Q4 (by
   apply `bF;apply `asI;apply `asJ;rw[`af2])]
  rfl) ?_
 refine m5 (δ':=`nr) (Z9 (X5 (Y90 p S _ _ `asK nm (by
  apply `a'y;apply `a'z;congr 2;omega) hnm))) `eO
 have t1:`a'A=`a?_:=by
  apply `H?;rw[`a'B,`Op `ge `ge];rfl
 have t2:`a'C=`a?_:=by
  unfold X3 gy0;apply `a'D;show `a'F;rw[J80 nm _ hh.fl hni];rfl
 unfold ifX Wb0;rw[t1,`p];apply `a'G;rw[`bl,t2];rfl
def fp0(S S':RS)(b:Nat)(hb:b%2=0)(r:D)(h:V7 `a' [`a?0]=`hi):`a?V=`hi:=by
 refine `b1 [`tw,`e5,.un]
 show O3 `jx=_;refine `gV;rw[O8 (by
  apply `bF;apply `a?W;rw[`oh])]
 refine `Wp (`qZ `a?0) h;show `a?X;congr 2
def S40(S:RS)(hw:`uF)(b:Int):`Xh:=by
 refine `b1 `h!
 show `Wx;refine `gV;have t:`a9o=`c (`d,`h!):=by
  unfold X3;rw[`Ww,hw];rfl
 unfold ifX;rw[t];rfl
universe Rk
namespace Rk
open DL W Rm
open Bw (bs its)
open Km (hb nB nT nW pk lkd It Wb)
inductive Pk (ps:`aL):`k->`h->`i->`k->`h->`a?1
 | nil (B:`k) (T:`h):Pk ps B T [] B T []
 | str {B:`k} {T:`h} {s:Str} {ds:`i} {B':`k} {T':`h} {b:`S} (h:Pk ps B `Ot ds B' T' b):`A' (`ec::ds) (`asY++b)
 | val {B:`k} {T:`h} {d:D} {ds:`i} {B':`k} {T':`h} {b:`S} (hd:`ato) (h:`mb):`A' `jy (`sD++b)
 | old {B:`k} {T:`h} {j:Nat} {ds:`i} {B':`k} {T':`h} {b:`S} (hj:`g') (h:`mb):`A' (`hN::ds) (`W7++b)
 | new {B:`k} {T:`h} {j:Nat} {ds:`i} {B1 B':`k} {T1 T':`h} {b1 b:`S} (hj:`Dx) (h1:Pk ps `k8 T (`Dy) B1 T1 b1) (h2:Pk ps B1 T1 ds B' T' b):`A' (`hN::ds) (`W7++(b1++b))
theorem pj0{B:`k}(hn:`uN)(hj:`Dx):`a!4:=y9.mpr #[hn,`a_,`aDc hj]
def Fc0{d:D}(hd:`ato):`hN≠d:=by
 rcases hd with rfl|⟨z,rfl⟩<;>exact λz=>nomatch z
def co0(h:lkd i=`hN):i=j:=by
 unfold lkd at h;injection h with h
 injection h with _ h
 injection h with h _
 injection h with h
 lia
def Pk.pre{ps:`aL}{B B':`k}{T:`h}{b:`S}(h:`mb):∃N,B'=B++N:=by
 induction h with
 | nil B T=>exact`a?2
 | str _ ih=>exact ih
 | val _ _ ih=>exact ih
 | old _ _ ih=>exact ih
 | new _ _ _ i1 i2 =>
  let#[N,rfl]:=i1;let#[M,rfl]:=i2;exact#[_,by rw[`ca,`ca]]
def Pk.nodup{ps:`aL}{B B':`k}{T:`h}{b:`S}(h:`mb):`uN->B'.Nodup:=by
 induction h with
 | nil B T=>exact id
 | str _ ih=>exact ih
 | val _ _ ih=>exact ih
 | old _ _ ih=>exact ih
 | new hj _ _ i1 i2=>exact λhn=>i2 (i1 (`atp))
open T in
def Pk.links{ps:`aL}{B B':`k}{T:`h}{b:`S}(h:`mb):(∀j,`hN∈ds->j∈B')/\∀k∈B',k∉B->∀j,`aDj->j∈B':=by
 induction h with
 | nil B T=>exact#[(λj h=>by cases h),λk hk hn=>`L hk hn]
 | str _ ih=>exact`a?3 λz=>nomatch z
 | val hd _ ih=>exact`a?3 (Fc0 hd)
 | old hj h ih =>
  apply `atq;refine#[λi hi=>?_,ih.2];rcases `cy hi with z|z
  ·rw[co0 z]
   let#[N,rfl]:=h.pre;exact D7 _ hj
  ·exact ih.1 i z
 | new hj h1 h2 i1 i2 =>
  apply `Xi;let#[N,e1]:=h1.pre;let#[M,e2]:=h2.pre;have m1:∀x∈B1,x∈B':=λx hx=>`l e2 (D7 _ hx)
  have J:j∈B1:=`gn e1
  refine#[λi hi=>?_,λk hk hn i hi=>?_]
  ·rcases `cy hi with z|z
   ·rw[co0 z];exact m1 _ J
   ·exact i2.1 i z
  ·by_cases hk1:k∈B1
   ·by_cases hkj:k=j
    ·subst hkj
     exact m1 _ (i1.1 i hi)
    ·exact m1 _ (i1.2 k hk1 (λz=>by
      apply `Xj
      ·exact hn z
      ·exact hkj `Vp) i hi)
   ·exact i2.2 k hk hk1 i hi
def eb0(h:It n `kM):j<n:=by
 skip;rcases h with⟨s,e,_⟩|e|⟨z,e,_⟩|⟨i,e,hi⟩
 ·cases e
 ·cases e
 ·cases e
 ·done;rw[co0 (j:=i) e];exact hi
def Pk.range{ps:`aL}(hw:`e_){B B':`k}{T:`h}{b:`S}(h:`mb):`Ae->`Xk->∀j∈B',`jg:=by
 induction h with
 | nil B T=>exact λh _=>h
 | str _ ih=>exact `atr
 | val _ _ ih=>exact `atr
 | old _ _ ih=>exact `atr
 | new hj _ _ i1 i2 =>
  intro h hd;have J:=`ats;refine i2 (i1 (`j!) λd m=>`xE `Or d m) `Dd
  apply `uP
  ·exact h x z
  ·rw[`ew];exact J
open T in
def Pk.steps{ps:`aL}(hw:`e_){B B':`k}{T:`h}{b:`S}(h:`mb):`Ae->`Xk->∃n,`a?4/\∀(f:Nat) (W:`i),pk ps (n+f) B T `af8=b++pk ps f B' T' W:=by
 induction h with
 | nil B T=>exact λ_ _=>#[0,`a_,λf W=>`att]
 | str _ ih =>
  intro h hd;apply `atu
  apply `atv;apply `atw;rfl
 | val hd' _ ih =>
  intro h hd;apply `atu
  apply `atv;apply `atw;rcases hd' with rfl|⟨z,rfl⟩<;>rfl
 | old hj _ ih =>
  rename_i B T j ds B' T' b _;intro h hd;apply `atu
  apply `atv;apply `atw;show `a?5 (n+f);rw[Km.Ke0,Km.J20,`IB,`IB]
 | new hj p1 p2 i1 i2 =>
  apply `Xi;intro h hd;have J:=`ats;have O:∀x∈`mn,`uO:=λx hx=>by
   apply `uP
   ·exact h x z
   ·rw[`ew];exact J
  have hI:=`xE `Or;let#[n1,a1,a2]:=i1 O hI;let#[n2,c1,c2]:=i2 (p1.range hw O hI) `Dd
  have U:=`a?6;refine#[`aeC,by rw[`Y,`dK] at a1;rw[`X];lia,`aGi];rw[`a?7,`ca,`ca,← c2 f W,← a2 `Os `af8];show `a?5 (n1+`Os);rw[Km.Ke0,Km.J20,`IC,`IC]
def Pk.ex{ps:`aL}(hw:`e_):∀(m:Nat) (ds:`i) (B:`k) (T:`h),`azW<=m->`uN->`Ae->`Xk->∃B' T' b,`mb:=by
 intro m
 induction m with
 | zero =>
  intro ds
  induction ds with
  | nil=>apply `a?8
  | cons d ds ih =>
   intro B T hm hn hB hd;skip;apply `a?9
   apply `a?'
   ·apply `a?!
    done;exact`a??
   ·apply `Af
    done;exact`baa
   ·apply `Af
    done;apply `bab
   ·by_cases hj':`g'
    ·apply `Af
     done;exact`bac
    ·done;exfalso
     have:=`af? `atx (m:=`PP) λy hy=>`lh (by
      rcases `dL hy with z|z
      ·exact hB y z
      ·rw[`ew];exact hj)
     rw[`l7,`Y,`dK] at this;omega
 | succ m im =>
  intro ds
  induction ds with
  | nil=>apply `a?8
  | cons d ds ih =>
   intro B T hm hn hB hd;skip;apply `a?9
   apply `a?'
   ·apply `a?!
    done;exact`a??
   ·apply `Af
    done;exact`baa
   ·apply `Af
    done;apply `bab
   ·by_cases hj':`g'
    ·apply `Af
     done;exact`bac
    ·have O:∀x∈`mn,`uO:=λx hx=>by
      apply `uP
      ·exact hB x z
      ·rw[`ew];exact hj
     have hI:=`xE `aty;let#[B1,T1,b1,h1]:=im (`Dy) `k8 T (by apply `mQ;omega) `atx O hI;let#[N,e1]:=h1.pre;let#[B',T',b,h2]:=im ds B1 T1 (by rw[e1];simp only[`Y,`dK];omega) (h1.nodup `atx) (h1.range hw O hI) J;done;exact#[B',T',_,.new hj' h1 h2]
def K40{ps:`aL}(hw:`e_):∃L T b1,`atz/\`bad/\L.Nodup/\(∀k∈L,k<`aJ)/\(∀k∈L,`bae)/\∃N,L=0::N:=by
 skip;have J:=`Xl;apply `baf
 have hI:=`bag;let#[L,T,b1,h]:=Pk.ex hw 60 (`LZ) [0] [] `j `aS hB hI;have hn:=`bah;have hr:=`atA hw hB hI;apply `Xm;apply `bai;let#[n,a1,a2]:=hp.steps hw `baj `bak;have hl:`bal:=by
  have:=`Xn hn (hr y hy)
  rwa [y8] at this
 have O:n<=100000:=by simp only[`X,`mz] at a1;lia
 done;refine#[L,T,b1,h,?_,hn,hr,λk hk j hj=>?_,N,hN]
 ·have:=a2 `Ez []
  rw[`bam,`cg] at this;show pk ps 100000 [] [] `PM=_;rw[`E];have e:pk ps `Ez L T []=[]:=by
   generalize `Z5=m;cases m<;>rfl
  rw[e,`cg,`cg]
 ·by_cases z:k∈[0]
  ·rw[`ew] at hj
   exact h.links.1 j hj
  ·exact h.links.2 k hk z j hj
universe Rk
namespace Rk
open DL W Rm StrLaws
open Bw (bs its two kn cnt Vb Gq)
open Km (hb nB nT nW pk lkd It Wb)
open K22 (lkv rel)
theorem i60:∀(ps:`cw) (pre:`i) (d:D) (rest:`i),`ban->∃ps1 q ps2,ps=ps1++q::ps2/\(pre=ps1.flatMap two/\d=`B?∨pre=ps1.flatMap two++[`B?]/\d=q.2)
 | [],pre,d,`aV,h=>by
  cases pre<;>cases h
 | q::ps,pre,d,`aV,h=>by
  have h:`MA::q.2::`jp=`EA:=h
  match pre,h with
  | [],h =>
   apply `ID
   exact#[[],q,ps,rfl,`n #[rfl,h1.symm]]
  | [x],h =>
   apply `ID
   injection h2 with h2 h3
   exact#[[],q,ps,rfl,`q #[`GP h1,h2.symm]]
  | x::y::pre,h =>
   apply `ID
   injection h2 with h2 h3
   let#[ps1,q',ps2,e,hh]:=`atB h3;refine#[q::ps1,q',ps2,`aLh,?_];subst h1 h2;apply `atC
   ·left
    exact`bao
   ·right
    exact`bao
def pw(n:Nat):`ah:=`PJ
def c30(n:Nat):pw `hG=`ge::`cF::pw n:=by
 unfold pw;rw[`eV,`iL];rfl
def Pn0(n:Nat):(`y (pw n))=2*n:=by
 induction n with
 | zero=>rfl
 | succ n ih=>rw[c30,`X,`X,ih];lia
theorem mp0:∀(a b:Nat),(pw (a+b)).drop (2*a)=pw b
 | 0,b=>`att
 | a+1,b=>by
  rw[`bc (a+1+b=(a+b)+1),c30,`bc (2*`wc=2*a+1+1)];exact mp0 a b
def xb0(ps:`cw):`a'5:=by
 induction ps with
 | nil=>rfl
 | cons q ps ih =>
  rw[`Im,`Y,ih,`X];show 2+_=_;lia
theorem n00:∀ps:`cw,`bap=`mk λp=>(`ach,p.2)
 | []=>rfl
 | q::ps=>by
  show (`MA,q.2)::`bap=_;rw[n00 ps];rfl
theorem t40:`atD `l2 `W9
 | [],_=>rfl
 | d::l,h=>by
  unfold trs;rw[`Xo,t40 `t_];rfl
theorem k20:`atD `kk (vf0 l=`d)
 | [],_=>rfl
 | d::l,h=>by
  unfold vf0;rw[`Xo,k20 `t_];rfl
theorem cc0(π:`hE)(s:Str):lkv π `gc=`ec:=rfl
def d80{d:D}(h:It n d)(π:`hE):tr (lkv π d)=`d/\nrf (lkv π d)=`d:=by
 skip;rcases h with⟨s,rfl,_⟩|rfl|⟨z,rfl,_⟩|⟨j,rfl,_⟩
 ·done;exact`k!
 ·done;exact`k!
 ·done;exact`k!
 ·done;rw[show lkv π `oG=lkd (π j) from `Xp π j]
  exact#[rfl,o50 _]
def Sc0(p:Pt):`fI<4:=`cN (Bw.Ky0 p)
def pk0{p:Pt}(hp:p.Ok):`asQ<=25:=by
 cases p with
 | text w=>exact `b3
 | row vs=>have:=hp.1;show `cz<=25;lia
 | table ps=>have:=`q5 hp;show `Oj<=25;rw[xb0];lia
 | rcd c ps=>have:=`q5 hp.2;show `asT<=25;rw[`X,xb0];lia
def stage(p:Pt)(hp:p.Ok)(hq:Gq p)(hI:∀d∈`fO,It n d)(ht:`Xq)(pre:`i)(d:D)(rest:`i)(h:`fO=`EA):∃w wr,`atE=w::wr/\((∀s,d≠`ec)->`hQ) /\
  ∀s,d=`ec->w=.cls∨`rC/\∀π,Held `baq/\`xF ∉O4 `baq:=by
 skip;have a3:∀x∈pre,It n x:=λx hx=>hI x (`l h (D7 _ hx))
 have a4:`fJ<=24:=by
  have:=pk0 hp;rw[h,`Y,`X] at this;lia
 have hv:=`W8;have hs:∀(s:Str),`xF=`ec:=λs=>rfl
 have Y:∀(v:D),Vb v->∀s,v≠`ec:=λv hv s e=>by subst e;cases hv
 have a1:∀π,trs (`Dz)=`d:=fun π=>t40 λx hx=>by
  apply `ama;exact(`bar).1
 have a2:∀π,vf0 (`Dz)=`d:=fun π=>k20 λx hx=>by
  apply `ama;exact(`bar).2
 have fl:∀ps:`cw,`jf (`mk `aDk)=`d:=λps=>by
  unfold flats;rw[`j5];intro x hx;let#[y,_,rfl]:=`dH hx;rfl
 have U:∀(J:`cw) (π:`hE),`sR (`h2 ((J.flatMap two).map `h3))=`bas:=λJ π=>by
  rw[← `aDo,n00,`cu,`cu];rfl
 have Z:∀(J O:`cw) (q:`AW),(`sR (J++q::O)).Nodup->`MA ∉`bas:=λJ O q nd z=>by
  let#[y,hy,e]:=`dH z;apply `z!
  rw[`a2,`ab] at nd;exact(y9.mp nd).2.2 y.1 (`Dc y hy) q.1 A8 e
 cases p with
 | text w=>done;exact `Xr
 | row vs =>
  have h:vs=`EA:=h;done;refine#[`cF,`cr `w2 `cF,?_,`j_,λs e=>?_]
  ·show (`bat).drop `fJ=_
   rw[List.drop_replicate,h,`Y,`X,`bc (`fJ+(`w2+1) - `fJ=`w2+1),`eV]
  ·exact `L e (Y d (hv d (by show d∈vs;rw[h];simp)) s)
 | table ps =>
  have h:`ban:=h;let#[J,q,O,e,hh]:=`atB h;apply `bau
  apply `atC
  ·done;refine`bav (`ek (2<4)) #[`Xs (`y `Dz),`h',`h']
   ·apply `Xt
    rw[a,xb0,hl,mp0,c30]
   ·show `baw
    rw[a,U];exact fl J
   ·show `bax
    rw[a,U,hs,← es,b];exact Z J O q (`cd e (PsOk.nd hp))
  ·done;apply `bay
   ·apply `Xt
    apply `baz;rfl
   ·refine `baA
    show d∈`h?;rw[b,e];simp
 | rcd c ps =>
  have h:`azf=`EA:=h;cases pre with
  | nil =>
   done;apply `ID
   exact#[.cls,`PN,rfl,λz=>`L h1.symm (z c),λs _=>`mh]
  | cons x pre =>
   done;apply `ID
   skip;subst h1;let#[J,q,O,e,hh]:=`atB h2;apply `bau
   apply `atC
   ·done;refine`bav (`ek (3<4)) #[`Xs (`y ((`Mt::pre).map `h3)),`h',`aJA]
    ·apply `Xt
     rw[a,xb0,hl,mp0,c30]
    ·show `baw
     rw[a,U];exact fl J
    ·show `bax
     rw[a,U,hs,← es,b];exact Z J O q (`cd e (PsOk.nd hp.2))
   ·done;apply `bay
    ·apply `Xt
     apply `baz;rfl
    ·refine `baA
     show d∈`h?;rw[b,e];simp
def hl(π:`hE):`aqw
 | `uw=>`atF `BQ
 | p=>`as?
def ua0(ps:`aL)(π:`hE)(j:Nat):`e9:=(`pz,hl π `oH)
def P50(π:`hE)(p:Pt):`gp (`fI,hl π p)=(`K4).d:=by
 cases p with
 | text w =>
  show `d2 [`mG,Z2 (codes (`atF `BQ))]=_;rw[kd0];rfl
 | row vs=>rfl
 | table ps =>
  show `d2 [`m8,`baB]=`d2 [`m8,`baC];apply `baD;rfl
 | rcd c ps =>
  show `d2 [`mU,`ni,`baB]=`d2 [`mU,`ni,`baC];apply `baD;rfl
def ir0{w:Str}(h:`a59):`IE<=20/\∀c∈`baE,`Xc:=by
 unfold isWord at h;rw[`bg,`U8] at h;have e:`IE=`em:=rfl;refine#[`G,`Fo];have:=y0.mp h.2 c hc;rw[← Ym0];have h3:`aqV:=`baF
 exact h3
def Vs0{w:Str}(h:`sC w=`d):1<=`IE/\`IE<=8/\∀c∈`baE,`km:=by
 unfold isName at h;rw[`bg,`bg,`U8,`U8] at h;have e:`IE=`em:=rfl;refine#[`dF,`dF,`Fo];have:=y0.mp h.1.2 c hc;rw[← d50];have h3:`HR:=`baF
 exact h3
universe Rk
namespace Rk
open DL W Rm StrLaws
open Bw (bs sg its two kn cnt tx Vb Gq)
open Km (hb nB nT nW pk lkd It Wb ix)
open K22 (lkv rel)
structure Wf(ps:`aL)(pool:`h):Prop where
 wb:`e_
 pl:`arD<=60
 pn:∀s∈`bz,`aq'
 ok:∀p∈ps,p.Ok
 nm:∀p∈ps,∀s∈`zS,`uE
structure Inv(pool:`h)(B:`k)(T:`h)(S:RS):Prop where
 len:`bp=`bY
 few:`z?
 nms:`bs=`baG
 tnd:T.Nodup
 tin:∀s∈T,`uE
 d0:`uQ
 l0:`fU
 s0:`lk
 un:∀k∈`a5,`uG
 unl:`gY<=`bp
 held:∀q∈`cJ,`aeD
 wl:`hY<=60*`bp+1
 wc:`awl=`gY
 th:Th S
section
variable{ps:`aL}{B:`k}{T:`h}{S:RS}
theorem Inv.tl(W:`ok)(I:`q6):`jA<=60:=C0 (`WA `IF `IG) W.pl
def Inv.okS(W:`ok)(I:`q6):Ok S:=by
 have h1:=`fb;have h2:=I.few;have h3:=I.wl;have h4:=I.tl W;exact#[I.un,`G,λq hq=>`cN (`Xu q hq),`G,`hh `ol `P]
def Inv.wlen(I:`q6):`baH:=by
 have h1:=`fb;have h2:=I.few;have h3:=I.wl;lia
def Lj0{d:D}(h:`W9)(hd:`l2):`a?k:=by
 induction l with
 | nil=>show `a?l;rw[hd];rfl
 | cons a l ih =>
  unfold trs at h;apply `qI;show `a?m;rw[h.1,ih h.2];rfl
theorem dq0{l:`bd}{k:Nat}{f:`uS}{P:α->Prop}{a:α}(h:∀x∈l,P x)(ha:`baI)(hf:P (f a)):∀x∈`IA,P x:=λx hx=>by
 let#[i,hi]:=d6.mp hx;rw[`l8] at hi;cases e:l[i]? with
 | none=>rw[e] at hi;cases hi
 | some y =>
  rw[e] at hi
  by_cases z:k=i
  ·subst z
   rw[ha] at e;cases e;simp at hi;rw[← hi];exact hf
  ·simp[z] at hi
   rw[← hi];exact h y (C9 e)
def kv0{l:`bd}{k:Nat}{f:`uS}{a:α}(ha:`baI):(`IA)[k]?=`c (f a):=by
 rw[`l8,ha];simp
structure Aft(S S1:RS)(k:Nat)(d:D):Prop where
 bg:`HS=`qU
 un:S1.un=`a5
 wt:`ux=`l4
def pl0{k:Nat}{u:`k}(hu:`hj)(d:D):`aDs=`qU:=by
 unfold RS.hold;rw[hu]
def Inv.aft(I:`q6){k:Nat}{d:D}(A:`Ov d){T1:`h}(hq:`hk)(hl:`Xv){w:`aG}(hw:`bN)(hf:`jl)
  (hn:S1.names=T1.map `aDp) (h1:T1.Nodup) (h2:∀s∈T1,`uE) (h3:S1.digits=0) (h4:S1.length=0) (h5:`azZ=[]) (htr:`l2):`Ow T1:=by
 have bl:`a6i=`bp:=by rw[A.bg,`qW]
 refine#[`l bl `fb,I.few,hn,h1,h2,h3,h4,h5,`alm,`gs bl A.un I.unl,?_,?_,?_,?_]
 ·rw[bl]
  rw[A.un] at hj;exact I.un j hj
 ·rw[A.bg]
  exact dq0 (P:=`baJ) (f:=`Zx) `Xu hq (by show (`y `ab?)<=30;apply `mQ;omega)
 ·rw[bl,A.wt,`Ey]
  have:=I.wl;omega
 ·rw[A.wt,A.un,hw]
  have:=I.wc;rw[hw,`ath] at this;exact `E
 ·unfold Th
  rw[A.bg];exact dq0 (P:=λq=>`asb) (f:=`Zx) I.th hq (Lj0 (I.th q (C9 hq)) htr)
def Er0{B M:`k}(h:`g'):ix (B++M) j=`wW:=by
 induction B with
 | nil=>cases h
 | cons a B ih =>
  rw[`ib];unfold ix
  by_cases e:a=j
  ·rw[`f6,`f6]
  ·rw[`eZ,`eZ,ih `WQ]
def Ei0{B M:`k}(h:`Dx):ix (B++j::M) j=`bY:=by
 induction B with
 | nil =>
  rw[`kV];unfold ix;rw[`bl];rfl
 | cons a B ih =>
  rw[`ib];unfold ix;have h1:a≠j:=`p_ h A8
  rw[`RK,ih λz=>h `asc,`X]
def b50{s t:Str}(h:`hV=`Ll):s=t:=by
 have:`bk `hV=`bk `Ll:=by rw[h]
 exact `E
def Lt0{T:`h}(h:T.Nodup):(`baG).Nodup:=by
 refine `a9S;exact(i4.mp h).imp λhn e=>hn (b50 e)
def Ln0(W:`ok)(I:`q6){k:Nat}{u:`k}(hu:`hj)(hq:`hk)(hl:`Xv){w:`aG}(hw:`bN)(s:Str)(hs:`uE)
  (hv:w=.cls∨`rC/\`wJ/\`xF ∉O4 q):`Xw `asY (`Ow `Ot/\`baK):=by
 have ok:=`atG;have hf:`jl:=`baL hv
 have O:`l?:=by rcases hv with h|⟨h,_⟩;exact `q h;exact `n h
 have a2:=I.wlen;have a3:=I.tl W;have a1:`g4=`jA:=by rw[`ol,`P]
 let#[n1,n8,nS]:=Vs0 (W.pn s hs);show `Xw `WU (`Ow (`as4)/\`baK)
 by_cases h:`mV
 ·rw[`bS,`bS]
  have Y:=Km.k80 h;have Z:=Km.Kc0 h;let#[c,r]:=So0 S ok w ws hw O I.l0 `c? `Xx I.th `c? `acf `c? `hV (by
   rw[a1,show `aGb - `acf=`Mv by omega,`ol,`df,Z];rfl) (λz=>by
   rcases hv with h|⟨_,h1,h2⟩
   ·rw[h] at z;cases z
   ·exact#[k,u,q,hu,hq,h1,h2])
  have A:Aft S (`ej (`hT (`xF)) c) k `gc:=`baM;exact`baN hf rfl
 ·rw[`cT,`cT]
  have U:`hV ∉`bs:=λz=>by
   rw[`ol] at z;let#[t,ht,e]:=`dH z;exact h (b50 e▸ht)
  have tnd:(`abJ).Nodup:=y9.mpr #[`IF,`a_,`a!5];have tin:∀x∈`abJ,x∈`bz:=λx hx=>by
   apply `uP
   ·exact `IG x z
   ·rw[`ew];exact hs
  have Y:`jA<60:=by
   have:=`WA tnd tin;rw[`Y,`dK] at this;have:=W.pl;omega
  have J:∀n∈`bs,`iu/\∀c∈n,`km:=λn hn=>by
   rw[`ol] at hn;let#[t,ht,rfl]:=`dH hn;let#[_,a,b]:=Vs0 (W.pn t (`IG t ht));exact#[`dF,b]
  let#[c,r]:=Nb0 S ok w ws hw O I.l0 I.s0 `c? `Xx I.th `c? (λn hn=>(J n hn).1) `hV n1 n8 (`l `ol (Lt0 `IF)) (λn hn=>(J n hn).2) nS U;have A:Aft S (`ej (`vw S `hV) c) k `gc:=by
   refine#[?_,rfl,rfl];show ((`baO:RS).hold (`xF)).begun=_;exact pl0 (S:=`baO) hu _
  refine#[_,r,I.aft A hq hl hw hf ?_ tnd tin rfl rfl rfl rfl,A];show `aDq=_;rw[`ol,`a2];rfl
def Y00(W:`ok)(I:`q6){k:Nat}{u:`k}(hu:`hj)(hq:`hk)(hl:`Xv)(hw:`ar5)(L:`k)(hL:∃M,L=B++M)(d:D)
  (hd:`sF∨(`Db)∨∃j:Nat,`g'/\d=`hN):`Xw `sD (`baP/\`Ov (lkv `hW d)):=by
 skip;have ok:=`atG;have Y:=I.wlen;have fin:∀(N:Nat) (d':D),nrf d'=`d->tr d'=`d->(`it%4=1/\d'=`a?s∨`a?t d' (d'=`v))->`Xw (bs N) (`baP/\`Ov d'):=λN d' hn J h=>by
  let#[c,r]:=To0 S ok ws hw I.d0 `c? `Xx I.th N d' hn J h;have A:Aft S (`ej (`hT d') c) k d':=`baM;exact`baN `r J
 rcases hd with rfl|⟨z,rfl⟩|⟨j,hj,rfl⟩
 ·done;exact fin 0 `v rfl rfl (`q (`aM8))
 ·done;refine fin (4*`W!+1) `ks rfl rfl (`n #[`dF,?_])
  rw[show (`aq (4*`W!+1))/4=(`W!:Int) by omega,V70]
 ·have O:=Km.k80 hj
  have U:=`fb;let#[M,rfl]:=hL;done;rw[`Xp,Er0 hj,Km.Sj0,`IB];refine fin `aC8 (lkd (`wW)) `ar4 rfl (`q (`n #[`dF,`dF,`dF,?_]));show link (`wW)=_;congr 1;omega
def dg0(A:`bd)(x:α)(f:`uS)(n:Nat)(hn:n=A.length):(A++[x]).modify n f=A++[f x]:=by
 subst hn
 induction A with
 | nil=>rfl
 | cons a A ih =>
  rw[`ib,`X,`ib,← ih];rfl
def Ll0(A N:`bd)(k:Nat)(f:`uS)(h:k<A.length):`baQ=A.modify k f++N:=by
 induction A generalizing k with
 | nil=>cases h
 | cons a A ih =>
  cases k with
  | zero=>rfl
  | succ k =>
   have:=ih k (by rw[`X] at h;lia);show a::`baQ=_;rw[`E];rfl
def Sq0(kd n:Nat)(hk:kd<4):`a?u:=by
 rw[`a?v];intro z
 apply `zY
 ·have:=`W?;cases `E
 ·have:=`W?;cases `E
 ·apply `Xa;apply `Ac;simp at hm
 ·apply `ate
  ·cases z
  ·apply `Xa
   apply `Ac;simp at hm
def enter(W:`ok)(I:`q6){w:`aG}(hw:`bN)(hv:`l!)(hun:∀k u,`hj->∃q,`hk/\`Xv)(j:Nat)(hj:`jg)(h60:`bY<60) :
  ∃S1,`d4 S (`aC9) `aeH/\Inv `bz `k8 T S1/\S1.un=`atH /\
   `HS=`Xy++[(`pz,if `pz=0 then hl (λx=>x) `oH else [])] /\
   `ux=(`w (`pz=0) [] (`va (`pz) (cnt `oH)))++`hZ:=by
 have ok:=`atG;have a8:=I.wlen;have a1:=`fb;have a5:`jl:=`BZ
 have O:=W.ok _ `aty;generalize `i'=p at O ⊢;have hc:`vq<=(`w (`fI=0) 20 12):=by
  cases p with
  | text t =>
   have:=(`baR).1;show t.length<=20;exact `E
  | row vs=>exact O.1
  | table ps=>exact `q5 O
  | rcd c ps=>exact `q5 O.2
 have a3:`q2:=by split at hc<;>lia
 have b1:=I.unl;let#[c,r]:=Qz0 S ok w ws hw hv I.d0 `j `j `Xx I.th `KF `KG (Sc0 p) hc `j;obtain⟨S0,J⟩:∃S0:RS,S0=(`ej (vh0 S `KF `KG) c):=`ad;rw[← J] at r;have a4:=`a8Y;have b0:S0.begun=`Xy++[(`fI,[])]:=by
  rw[J,← a1];rfl
 have u0:S0.un=`atH:=by
  rw[J,← a1];show `baS;rw[a4]
 have w0:S0.wait=`L_++`hZ:=by
  rw[J];show `L_++([`ck]++`l4)=_;rw[hw];rfl
 have a2:`Iy=`gY:=by
  have:=I.wc;rw[hw,`LX a5] at this;exact `E
 have a7:`hY=`F4+1:=`a?y
 have hh:∀q∈`Xy,`aeD:=by
  cases hu:`a5 with
  | nil =>
   unfold RS.hold;rw[hu];exact `Xu
  | cons k u =>
   let#[q,q1,q2]:=hun k u hu;rw[pl0 hu];exact dq0 (P:=`baJ) (f:=`az2) `Xu q1 (`asq (`y (q.2++[`DA])) 30)
 have U:(`B_ `axX)=`bY:=`l lb0 a1
 have I0:Inv `bz `k8 T S0:=by
  have Y:S0.begun.length=`Xz:=`Ec b0 U
  refine#[`gx Y `Y,`KC,`l J `ol,`IF,`IG,`zX,`l J I.l0,`l J I.s0,λk hk=>?_,?_,`ud,?_,?_,`ud]
  ·rw[Y]
   rw[u0] at hk;rcases `atI with z|z
   ·lia
   ·have:=I.un k z
    lia
  ·rw[Y,u0,`X]
   lia
  ·rw[b0] at hq
   apply `XA
   ·exact hh q z
   ·rw[`ew];exact `b3
  ·rw[Y,w0,`Y,`X]
   have:=p60 `KF `KG a3;have:=I.wl;lia
  ·rw[w0,u0,`atf,Sq0 _ _ (Sc0 p),`uR,`X,a2]
   simp
  ·rw[b0] at hq
   apply `XA
   ·exact `baT
   ·rw[`ew];rfl
 by_cases h0:`fI=0
 ·cases p with
  | text t =>
   have a6:=`baR;let#[c',r']:=Tr0 `Ll S0 `bY `a5 (`hZ) (I0.okS W) u0 (by
    rw[w0];rfl) (λq hq=>`cN (I0.held q hq)) I0.d0 (`cN I0.wlen) (K0 I0.wc) I0.th a6.2
   refine#[(`ej `_f c'),`af9,?_,u0,?_,?_]
   ·have bb:`atJ=`Xy++[(0,`baU `BQ)]:=by
     show `baV;rw[b0,`baW];rfl
    have Z:`IH=`Xz:=`Ec bb U
    have w1:`baX<=60*(`Xz)+1:=by
     rw[`X];have:=I.wl;lia
    refine#[by show `IH=_;rw[Z,`Y];rfl,I0.few,I0.nms,I0.tnd,I0.tin,rfl,I0.l0,I0.s0,λk hk=>?_,?_,`ud,?_,?_,`ud]
    ·show k<`IH
     rw[Z];have:=I0.un k hk;have:=I0.len;rw[`Y,`dK] at this;lia
    ·show `baY<=`IH
     rw[Z,u0,`X];lia
    ·have hq:q∈`atJ:=hq
     rw[bb] at hq;apply `XA
     ·exact hh q z
     ·rw[`ew]
      show (`y (`baU _))<=30;rw[`P];lia
    ·show `baX<=60*`IH+1
     rw[Z];exact w1
    ·show `E' `aeE=`baY
     rw[u0,`uR,`X,a2];simp
    ·have hq:q∈`atJ:=hq
     rw[bb] at hq;apply `XA
     ·exact `baT
     ·rw[`ew]
      exact t40 λd hd=>by apply `II;rfl
   ·show `baV
    rw[b0,`baW];rfl
   ·rfl
  | row _=>cases h0
  | table _=>cases h0
  | rcd _ _=>cases h0
 ·have ht:tx p=[]:=by cases p with|text _=>exact `L rfl h0|_=>rfl
  rw[ht,`cg,`RL,`RL];exact#[S0,r,I0,u0,b0,w0]
universe zz
universe Rk
namespace Rk
open DL W Rm StrLaws
def Nm(l:`k):Prop:=1<=`cP/\`cP<=8/\∀c∈l,`km
def Ft(n:Nat):`aG->`WJ
 | `hl,d=>∃c,`Xc/\d=Z2 [c]
 | `cF,d=>`sF∨(∃z,d=`gW)∨∃j,j<n/\d=link j
 | `ge,d=>`baZ
 | .cls,d=>`baZ
 | _,_=>`bW
inductive Fts (n:Nat):`ah->`i->Prop
 | nil:Fts n [] []
 | cons {w:`aG} {ws:`ah} {d:D} {ds:`i}:`IJ->`Ag->Fts n (`oq) `jy
def Ft.mono(h:n<=m){w:`aG}{d:D}(f:`IJ):Ft m w d:=by
 skip;cases w with
 | value =>
  rcases f with f|f|⟨j,hj,f⟩
  ·done;exact `n f
  ·done;exact `q (`n f)
  ·done;apply `j? #[j,`G,f]
 | root=>done;exact f
 | sign=>done;exact f
 | name=>done;exact f
 | cls=>done;exact f
 | fin=>done;exact f
def Fts.mono(h:n<=m)(f:`Ag):Fts m ws ds:=by
 induction f with
 | nil=>exact `R
 | cons a _ ih=>exact `aa (a.mono h) ih
def Fts.snoc(f:`Ag){w:`aG}{d:D}(h:`IJ):Fts n (ws++[w]) (ds++[d]):=by
 induction f with
 | nil=>exact `aa h `R
 | cons a _ ih=>exact `aa a ih
def Fts.len(f:`Ag):`F4=`bX:=by
 induction f with
 | nil=>rfl
 | cons a _ ih=>rw[`X,`X,ih]
def Ft.tr{w:`aG}{d:D}(h:`IJ):`l2:=by
 cases w with
 | value=>rcases h with rfl|⟨z,rfl⟩|⟨j,_,rfl⟩<;>rfl
 | sign=>apply `Ah;rfl
 | name=>apply `Ah;rfl
 | cls=>apply `Ah;rfl
 | root=>exact `kT
 | fin=>exact `kT
def Ft.nr{w:`aG}{d:D}(h:`IJ):`kk:=by
 skip;cases w with
 | value =>
  rcases h with rfl|⟨z,rfl⟩|⟨j,_,rfl⟩
  ·done;rfl
  ·done;rfl
  ·done;exact o50 j
 | sign=>apply `Ah;done;rfl
 | name=>apply `Ah;done;rfl
 | cls=>apply `Ah;done;rfl
 | root=>done;exact `kT
 | fin=>done;exact `kT
def Fts.trs(f:`Ag):`Vd=`d:=by
 induction f with
 | nil=>rfl
 | cons a _ ih =>
  show (DL.tr _&&DL.trs _)=`d;rw[a.tr,ih];rfl
def Fts.nrs(f:`Ag):`UN:=by
 induction f with
 | nil=>rfl
 | cons a _ ih =>
  show (nrf _&&vf0 _)=`d;rw[a.nr,ih];rfl
def lim(kd:Nat):Nat:=`aab
def Pq(N:Nat)(q:`e9)(todo:`ah):Prop:=∃n done,q.1<4/\n<=lim q.1/\`va q.1 n=done++`g!/\Fts N done q.2
inductive Opens (N:Nat) (bg:`zN):`k->`ah->Prop
 | nil:`fy N bg [] []
 | cons {k:Nat} {q:`e9} {us:`k} {todo ws:`ah}:`IK->Pq N q `g!->`ba_->`ba0->`fy N bg (k::us) (`Kt)
def Oj0(kd:Nat):`IL<=20:=by unfold lim;split<;>lia
def Pq.mono{N M:Nat}(h:N<=M){t:`ah}(p:`XB):Pq M q t:=by
 let#[n,d,a,b,c,e]:=p;exact#[n,d,a,b,c,e.mono h]
def Opens.mono{N M:Nat}(h:N<=M){u:`k}{w:`ah}(o:`uT):`fy M bg u w:=by
 induction o with
 | nil=>exact `R
 | cons a b c _ ih=>exact `aa a (b.mono h) c ih
def Opens.same{N:Nat}{bg':`zN}{u:`k}{w:`ah}(o:`uT)(h:∀j∈u,∀q,bg[j]?=`f'->bg'[j]?=`f'):`fy N bg' u w:=by
 induction o with
 | nil=>exact `R
 | cons a b c _ ih=>exact `aa (h _ A8 _ a) b c (ih `a9?)
def Opens.un{N:Nat}{u:`k}{w:`ah}(o:`uT):∀k∈u,k<bg.length:=by
 induction o with
 | nil=>intro k hk;cases hk
 | cons a b c _ ih =>
  intro k hk;rcases `atI with rfl|hk
  ·exact(`ds a).1
  ·exact ih k hk
def Opens.len{N:Nat}{u:`k}{w:`ah}(o:`uT):∀m,(∀k∈u,k<m)->`zV<=m:=by
 induction o with
 | nil=>intro m _;exact `b3
 | cons a b c _ ih =>
  intro m hm;have h1:=hm _ A8;have h2:=ih _ c;rw[`X];lia
def R30(kd n:Nat):`wp ∉`jX:=by
 have hf:`qy (`wp ∉`PJ):=λn hm=>by
  apply `ba1;apply `Ac;simp at hm
 intro h
 match kd with
 | 0=>cases `XC
 | 1=>cases `XC
 | 2=>exact `XD
 | k+3 =>
  rcases `C3 with h|h
  ·cases h
  ·exact `XD
def Tn0(kd n:Nat):Want.root∉`jX:=by
 have hf:`qy (Want.root∉`PJ):=λn hm=>by
  apply `ba1;apply `Ac;simp at hm
 intro h
 match kd with
 | 0=>cases `XC
 | 1=>cases `XC
 | 2=>exact `XD
 | k+3 =>
  rcases `C3 with h|h
  ·cases h
  ·exact `XD
def Pq.todo{N:Nat}{t:`ah}(p:`XB):t.length<=50/\`ck ∉t/\`g8 ∉t/\`Cw<=50:=by
 let#[n,d,a,b,c,e]:=p;have h1:=p60 q.1 n (C0 b (Oj0 _));have h2:=e.len;rw[c,`Y] at h1;refine#[`G,λz=>R30 q.1 n `ba2,λz=>Tn0 q.1 n `ba2,`G]
def Opens.wl{N:Nat}{u:`k}{w:`ah}(o:`uT):`em<=51*`zV/\`a8q=`zV:=by
 induction o with
 | nil=>exact#[`gT,rfl]
 | cons a b c _ ih =>
  have h1:=b.todo;refine`yN
  ·rw[`Y,`X,`X]
   have:=ih.1;have:=h1.1;lia
  ·rw[`atf,`arU,ih.2,List.count_eq_zero.mpr h1.2.1,`X,`jH]
def Opens.pq{N:Nat}{u:`k}{w:`ah}(o:`uT){k:Nat}(h:`IK)(hk:k∈u):∃t,`XB:=by
 induction o with
 | nil=>cases hk
 | cons a b c _ ih =>
  rcases `atI with e|hk
  ·rw[← e,h] at a;cases a;exact#[_,b]
  ·exact ih hk
structure Gi(S:RS):Prop where
 few:`uH
 op:`cJ=[]/\`a5=[]/\`ci=[`g8]/\`bs=[]/\`fU∨`atK/\`fy `bp `cJ `a5 `ci
 cl:`atL `hk `a5 `bp
 nl:`atg
 nm:∀n∈`bs,Nm n
 dg:0<=`Bq
 l8:`z8
 sp:`ba3∨`asl/\`Ih/\∀c∈`rA,`km
 ln:`eD≠0->∃w ws,`bN/\(`l?)
 dv:`Bq≠0->∃w ws,`bN/\(`l!)
theorem L60:Gi `fC where
 few:=`av
 op:=`n #[rfl,rfl,rfl,rfl,rfl]
 cl:=λk q h=>`ba4
 nl:=`av
 nm:=λn h=>`ba4
 dg:=`av
 l8:=`av
 sp:=`n `k!
 ln:=`atM
 dv:=`atM
def Gi.pq{S:RS}(G:Gi S){k:Nat}(h:`hk):∃t,Pq `bp q t:=by
 by_cases hk:k∈`a5
 ·rcases G.op with⟨e,_⟩|⟨_,o⟩
  ·rw[e] at h;cases h
  ·exact o.pq h hk
 ·exact#[[],G.cl k q h hk]
def Gi.wl{S:RS}(G:Gi S):`baH/\`l'/\`gY<=60/\∀k∈`a5,`uG:=by
 skip;apply `ba5
 ·done;rw[e2,e3]
  exact#[`av,`av,`av,λk hk=>by cases hk]
 ·have h1:=o.wl
  have h2:=o.len _ o.un;have h3:=`q7;done;exact#[`G,`G,`G,o.un]
def Gi.ok{S:RS}(G:Gi S):Ok S:=by
 have w:=G.wl;have few:=`q7;have nl:=G.nl;refine#[w.2.2.2,few,`ud,`G,`G];let#[k,hk]:=`ata;let#[t,p]:=G.pq hk;have:=p.todo.2.2.2;lia
def Opens.top{N:Nat}{u:`k}{w:`aG}{rest:`ah}(o:`fy N bg u (`K5))(hf:`jl):∃k us q todo ws,u=k::us/\`IK/\`ba6/\`aV=`Kt/\`ba_/\`ba0:=by
 generalize e:`K5=l at o;cases o with
 | nil=>cases e
 | @cons k q us todo ws a b c o =>
  cases `g! with
  | nil=>cases e;exact `ba7
  | cons t todo=>cases e;exact#[k,us,q,`g!,ws,rfl,a,b,rfl,c,o]
def O60{l:`bd}{k:Nat}{f:`uS}(h:j≠k):(`IA)[j]?=l[j]?:=by
 rw[`l8];cases l[j]? with
 | none=>rfl
 | some x =>
  show `c (`w (k=j) (f x) x)=`c6;rw[`ag `a9x]
def Pq.snoc{N:Nat}{w:`aG}{todo:`ah}(p:`ba6){d:D}(h:Ft N w d):Pq N (q.1,`ab?) `g!:=by
 let#[n,dn,a,b,c,e]:=p;exact#[n,dn++[w],a,b,`gx c `ca,e.snoc h]
def Gi.open'{S:RS}(G:Gi S){w:`aG}{rest:`ah}(hw:`XE)(hr:`IM):`atK/\`fy `bp `cJ `a5 (`K5):=by
 skip;rcases G.op with⟨_,_,e,_⟩|⟨a,o⟩
 ·rw[e] at hw;cases hw;done;exact `L rfl hr
 ·rw[hw] at o;done;exact#[a,o]
def Gi.aft{S T:RS}(G:Gi S){M:Nat}(hM:`bp<=M){w:`aG}{rest:`ah}(hw:`XE)(hr:`IM)(hf:`jl){d:D}(hd:Ft M w d)
  (e1:`ba8) (e2:T.un=`a5) (e3:`ba9):T.begun.length=`bp/\`atK/\`fy M `Ox T.un T.wait/\`atL (`Ox[k]?=`f') T.un M:=by
 skip;let#[O,o]:=`ba';let#[k,us,q,todo,ws,hu,hq,p,he,J,o']:=o.top hf;have eb:`Ox=`qU:=by rw[e1,pl0 hu]
 have hk:∀j∈us,j≠k:=λj hj=>`cN (J j hj)
 done;refine#[by rw[eb,`qW],O,?_,?_]
 ·rw[e2,e3,hu,he]
  refine `aa (`l eb (kv0 hq)) ((p.mono hM).snoc hd) J ?_;refine(o'.mono hM).same λj hj q' h=>?_
  rw[eb,O60 (hk j hj)];exact h
 ·intro j q' h hj
  rw[e2] at hj;have U:j≠k:=λz=>hj (`gs hu z A8)
  rw[eb,O60 U] at h;exact(G.cl j q' h hj).mono hM
def Gi.held{S T:RS}(G:Gi S){w:`aG}{rest:`ah}(hw:`XE)(hr:`IM)(hf:`jl){d:D}(hd:Ft `bp w d)
  (e1:`ba8) (e2:T.un=`a5) (e3:`ba9) (n1:T.names.length<=60) (n2:∀n∈T.names,Nm n) (d0:T.digits=0) (l0:`jA=0) (s0:T.spelled=[]):Gi T:=by
 let#[a,b,c,d']:=G.aft `bL hw hr hf hd e1 e2 e3;refine#[`l a `q7,`q #[λz=>b (k7.mp (by rw[← a,z];rfl)),`l a c],`l a d',n1,n2,`l d0 (Int.le_refl _),`cx l0,`n #[l0,s0],`ba!,λh=>`L d0 h]
def Gi.part{S:RS}(G:Gi S){w:`aG}{rest:`ah}(hw:`XE)(hv:`l!)(kd n:Nat)(hk:kd<4)(hn:n<=`IL)(h60:`bp<60)(l0:`fU)(s0:`lk):Gi `Eo:=by
 have J:`aDr=`bp:=lb0 _ _;have U:`fy (`bp+1) `On `a5 `aV/\`atL (`On[k]?=`f') `a5 (`bp+1):=by
  rcases hv with rfl|rfl
  ·skip;apply `ba5
   ·rw[e3] at hw
    cases hw;have e:`On=[]:=by unfold RS.hold;rw[e2];exact e1
    done;rw[e,e2];exact#[`R,λk q h=>by cases h]
   ·rw[hw] at o
    let#[k,us,q,todo,ws,hu,hq,p,_]:=o.top `r;done;exact `L A8 p.todo.2.2.1
  ·let#[a,b,c,d]:=G.aft (T:=`sd) (m3 _) hw `r `r (d:=`JS) (`q (`q #[_,b4 _,rfl])) rfl rfl `IN
   have e3:`a8_=`aV:=`axd
   rw[e3] at c;exact#[c,d]
 have eb:(`r1).begun=`a?x:=rfl;have eu:(`r1).un=`arW:=by
  show `baS;rw[J]
 have ew:`a?w=`jX++`ck::`aV:=by
  show `jX++([`wp]++`l4)=_;rw[hw];rfl
 have el:(`B_ `r1)=`bp+1:=`Ec eb J
 have Y:=G.wl.2.2.2;refine#[`cx el,`q #[(λz=>by rw[z] at el;cases el),?_],?_,G.nl,G.nm,Int.le_refl _,?_,`n `yN,`ba!,`atM]
 ·rw[el,eu,ew]
  refine `aa (q:=`_E) (by rw[eb,`Hp,J,`n9];rfl) #[n,[],hk,hn,rfl,`R] Y (U.1.same λj hj q h=>?_);rw[eb,`hc `am4];exact h
 ·intro k q h O
  rw[eu] at O;rw[el];rw[eb] at h;have h1:k≠`bp:=λz=>O `amM
  have h2:=`am4;rw[`Y,J,`dK] at h2;rw[`hc (`cx J)] at h;exact U.2 k q h λz=>O `asc
 ·show `z8
  exact G.l8
 ·exact l0
 ·exact s0
def Mq0{N:Nat}{u:`k}{w:`ah}(o:`uT)(h:∀k q,`IK->k∉u->`XF):`fy N bg (`HT).2 (`HT).1/\(∀k q,`IK->k∉(`HT).2->`XF)/\(`HT).1.head?≠`tl:=by
 induction o with
 | nil=>exact#[`R,h,λz=>by cases z]
 | @cons k q us todo ws a b c o ih =>
  cases `g! with
  | nil =>
   show `fy N bg (vm0 ws us).2 (vm0 ws us).1/\_;refine ih λj q' h1 h2=>?_
   by_cases e:j=k
   ·rw[e,a] at h1
    cases h1;exact b
   ·exact h j q' h1 λz=>by apply `ate;exact e z;exact h2 z
  | cons t todo =>
   have ht:t≠`ck:=λz=>b.todo.2.1 `amM
   have e:`IO=(t::(`Kt),k::us):=by
    cases t with
    | fin=>exact `Xr
    | root=>rfl
    | value=>rfl
    | sign=>rfl
    | name=>rfl
    | cls=>rfl
   show `fy N bg (`IO).2 (`IO).1/\(∀k' q,bg[k']?=`f'->k'∉(`IO).2->`XF)/\(`IO).1.head?≠`tl;rw[e];exact#[`aa (todo:=t::`g!) a b c o,h,λz=>ht `Sn]
def Gi.ends{S:RS}(G:Gi S):Gi `o2/\S.ends.wait.head?≠`tl:=by
 skip;rcases G.op with⟨e1,e2,e3,e4,e5⟩|⟨a,o⟩
 ·have:`H5:=by
   unfold RS.ends;rw[e2,e3];show ((`aqI [`g8] []):RS)=S;rw[← e2,← e3]
  done;rw[`E];exact#[G,`Qe e3]
 ·let#[x,y,z]:=Mq0 o G.cl
  by_cases h:`sA=`tl
  ·have h1:`fU:=A00 λz=>by
    let#[w,ws,e,hv]:=G.ln z;rw[e] at h;cases h;apply `ba?
   have h2:`uQ:=A00 λz=>by
    let#[w,ws,e,hv]:=G.dv z;rw[e] at h;cases h;apply `ba?
   done;exact#[#[`q7,`q #[a,x],y,G.nl,G.nm,G.dg,G.l8,G.sp,λz=>`L h1 z,λz=>`L h2 z],z]
  ·have e:`H5:=by
    cases hw:`ci with
    | nil =>
     unfold RS.ends;rw[hw];have:vm0 [] `a5=([],`a5):=`O4 `a5
     rw[`E];show ((`aqI [] `a5):RS)=S;rw[← hw]
    | cons w ws=>exact q00 hw λz=>h (`gx hw z)
   done;rw[e];exact#[G,h]
theorem Gi.next{S:RS}(G:Gi S):Gi (next S)/\(next S).wait.head?≠`tl:=Gi.ends (S:=`Ib) (`bba G.op G.sp)
universe Rk
namespace Rk
open DL W Rm StrLaws
open Bt (Y8 m5 j8 Z9 O8 Q4 X6 U9 d7)
def Tk(m:`aP)(ds:`i)(S:RS):`oe->Prop
 | `c S'=>`atN=`ii S'/\Gi S'/\S'.count=`gd
 | `f=>`atN=`kW
def Tk.lift{m m':`aP}{ds':`i}{S:RS}{o:`oe}(h:Tk m ds S o)(k:∀r S',`atN=`hi->m' `a' ds'=`hi):Tk m' ds' S o:=by
 cases o with
 | none=>exact k _ _ h
 | some S'=>exact#[k _ _ h.1,h.2]
def pairs_len(n:Nat):(`aaa `azl)=2*n:=by
 induction n with
 | zero=>rfl
 | succ n ih =>
  rw[`eV,`iL,`Y,ih];show 2+2*n=_;lia
def bb0(kd n:Nat)(h:n<=`IL):`a8P<=25:=by
 have J:=Oj0 kd
 match kd,h with
 | 0,h=>apply `Wn;rw[`qp];lia
 | 1,h=>apply `Wn;rw[`qp];lia
 | 2,h =>
  have:n<=12:=h;show `Wk<=_;rw[pairs_len];lia
 | k+3,h =>
  have:n<=12:=h;show `a8Q;rw[`X,pairs_len];lia
theorem Fts.pairs{N:Nat}:∀(n:Nat) (ws todo:`ah) (ds:`i),Fts N ws ds->`atO=ws++`g!->∀x∈`a'h `eE,∃l,Nm l/\x=Z2 l
 | n,[],_,_,`R,_=>λx hx=>by cases hx
 | n,[_],_,_,`aa _ `R,_=>λx hx=>by cases hx
 | 0,`dC,_,_,_,h=>by cases h
 | n+1,a::b::ws,`g!,_,`aa (d:=d) fa (`aa (d:=e) fb f),h=>λx hx=>by
  rw[`eV,`iL] at h;have h':`Mr::`Mx::`atO=a::b::(ws++`g!):=h;injection h' with e1 h'
  injection h' with e2 h'
  rcases `Zl with hx|hx
  ·rw[← e1] at fa
   rw[hx];exact fa
  ·exact `atP n ws `g! _ f h' x hx
def M30(h:∀x∈l,`bbb):`jf l=`d:=by
 induction l with
 | nil=>rfl
 | cons a l ih =>
  let#[n,_,e]:=h a A8;have h2:=ih `t_
  rw[e];show (`c8 (Z2 n)&&`jf l)=`d;rw[h2];rfl
def Pq.names{N:Nat}{t:`ah}(p:`XB):∀x∈O4 q,`bbb:=by
 skip;apply `atQ;let#[kd,ds]:=q
 apply `zY
 ·done;intro x hx;cases hx
 ·done;intro x hx;cases hx
 ·done;exact `atP n dn t ds f e
 ·done;intro x hx;have hx:x∈`sR (`h2 (`adS 1)):=hx;cases f with
  | nil=>cases hx
  | @cons w ws d ds a f =>
   have e':`af1::`atO=w::(ws++t):=e;injection e' with e1 e2
   exact `atP n ws t ds f e2 x hx
def Pq.held{N:Nat}{t:`ah}(p:Pq N q (`ge::t)):`wJ:=by
 have J:=p.names;apply `atQ;have hl:=`bbc;have hf:=f.len;rw[e,`Y] at hl;refine#[hk,`bbd,f.trs,f.nrs,M30 J]
 ·rw[h0] at e
  have:`Mr∈`bbe:=by
   rw[`bj (`bbe=`va 0 n),e];exact D4 _ A8
  cases (D9.mp `E).2
 ·rw[h3] at e
  intro hz;rw[hz] at f;cases f;cases e
def Rv0{S:RS}(G:Gi S){w:`aG}(hw:`bN)(hv:`l?)(h0:`fU)(hs:`lk)(b:Nat):`uU V7 (S.known b eqS):=by
 unfold RS.known
 by_cases hb:`g4<=b
 ·rw[`fm]
  exact Qj0 S b hb
 ·rw[`ev]
  obtain⟨nm,J⟩:∃nm,`Ij:=#[_,B6 `c?];have U:=G.nm nm (C9 J);have eg:`a6p `asK []=nm:=`gx `ch J
  simp only[eg];skip;have hr:`IM:=`BZ
  apply `Iz
  let#[Z,o]:=`ba';let#[k,us,q,todo,a1,hu,hq,p,he,Y,o']:=o.top hf;done;have eq:`a6q=q:=by rw[hu,`ch];show `cJ[k]?.getD _=q;rw[hq];rfl
  rw[eq,hw]
  by_cases hc:(`oq).head?=`c `ge/\eqS `kQ `aaD=`d
  ·rw[`akr]
   have O:`rC:=A3 hc.1;subst O;refine Tl0 S ws hw b `c? nm J k us q hu hq p.held ?_;let#[y,hy,e]:=y6.mp hc.2;cases y with
   | str t =>
    have:`bk nm=t:=o0 e;rw[← `E] at hy;exact hy
   | _=>cases e
  ·rw[`yM]
   refine`yH (Xj0 S G.ok w ws hw b `c? nm J λO=>?_)
   ·subst O
    refine#[k,us,q,hu,hq,p.held,λhm=>hc `P?];exact y6.mpr #[_,hm,L9 rfl]
   ·exact `XG hw hr hf (d:=`A7) (`bbf #[nm,U,rfl]) rfl rfl `IN G.nl G.nm rfl h0 hs
def Tj0{S:RS}(G:Gi S){w:`aG}(hw:`bN)(hv:`l?)(h0:`fU)(hs:`lk)(b:Nat):`uU W3 `bbg:=by
 apply `bbh
 have nl:=G.nl;unfold RS.number
 by_cases h2:b%2=0
 ·rw[`akP]
  exact(Rv0 G hw hv h0 hs `wm).lift λr S' h=>fp0 S S' b h2 r h
 ·rw[`ag h2]
  by_cases h:`aqC
  ·rw[`bS]
   exact Ph0 S G.nl hl b `j h
  ·rw[`cT]
   have h1:b/2≠0:=`NJ
   have h8:b/2<=8:=w20 λz=>h (`Xg)
   have O:`g4≠60:=λz=>h (`q (`Xg))
   have J:`abt=`d:=by
    cases e:`abt with
    | true=>rfl
    | false=>exact `L (`ze e) h
   have e:=fk0 S `j hl `wm `j h8 J;rw[`bc (2*`wm+1=b)] at e;refine#[e,#[`q7,?_,G.cl,G.nl,G.nm,G.dg,h8,`q #[?_,`ek `Ih,?_],`bbi,G.dv],rfl]
   ·skip;rcases G.op with⟨_,_,z,_⟩|o
    ·rw[z] at hw;cases hw;done;rcases hv with z|z<;>cases z
    ·done;exact `q o
   ·show `sB<b/2
    rw[hs];show 0<b/2;lia
   ·intro c hc
    have hc:c∈`rA:=hc;rw[hs] at hc;cases hc
def Tq0{S:RS}(G:Gi S){w:`aG}(hw:`bN)(hv:`l?)(h0:0<`eD)(b:Nat):`uU S9 `aqH:=by
 apply `bbh
 have nl:=G.nl;have l8:=G.l8;let#[a1,Y,Z]:=G.sp.resolve_left λz=>`cN z.1
 have hr:`IM:=`BZ
 apply `Iz
 unfold RS.letter
 by_cases h:`aqD
 ·rw[`bS]
  exact O50 S b `j hl a1 l8 h
 ·rw[`cT]
  have hb:`z7:=A00 `NJ
  have O:`WB:=by
   cases e:`aae with
   | true=>rfl
   | false=>exact `L (`q e) h
  have J:∀c∈`vj,`km:=λc hc=>by
   rcases `arf with z|z
   ·exact Z c z
   ·rw[`ew];exact hb
  by_cases he:`aqE
  ·rw[`Q he]
   have U:Nm `mZ:=#[`KC,`KC,J];refine`yH (en0 S G.ok `H6 b hb `j hl he l8 O);refine `XG hw hr hf (d:=Z2 `mZ) (`bbf `aVH) rfl rfl `IN ?_ ?_ rfl rfl rfl
   ·show (`y `aqF)<=60
    apply `mQ;lia
   ·intro n hn
    have hn:n∈`aqF:=hn;rcases `dL hn with z|z
    ·exact G.nm n z
    ·rw[`ew];exact U
  ·rw[`ag he]
   refine#[ba0 S b hb `j hl `j l8 O,(`bba ?_ (`q #[?_,Y,J])),rfl]
   ·exact G.op
   ·show `asr<`eD
    apply `mQ;lia
def Iy0(kd:Nat):`aaF=(`aq `IL):=by unfold lim;split<;>rfl
def Mf0{S:RS}(G:Gi S){w:`aG}(hw:`bN)(hv:`l!)(l0:`fU)(s0:`lk)(kd:Nat)(hk:kd<4)(n:Int)(hn:0<=n):Tk O9 `a?R S (`bbj):=by
 have few:=`q7;have wl:=G.wl
 by_cases h:`a?Q
 ·have e:`bbj=`f:=by unfold RS.part;exact `bS
  rw[e];exact Hq0 S kd hk n h
 ·obtain⟨m,rfl⟩:∃m:Nat,n=`m_:=#[`s6,`G]
  have h1:m<=`IL:=by
   have:=mt Or.inl h;apply `a3 Iy0;lia
  have h2:`H':=`ao_
  rw[Jz0 S kd m h1 h2];exact#[kk0 S G.ok `H6 `j `j kd hk m h1 h2,G.part hw hv kd m hk h1 `j l0 s0,rfl]
def Mz0{S:RS}(G:Gi S){w:`aG}(hw:`bN)(hv:`l!)(l0:`fU)(s0:`lk)(n:Int)(hn:0<=n):Tk T5 `TQ S (S.head n):=by
 unfold RS.head
 by_cases h3:n%4=3
 ·rw[`aqR]
  exact(Mf0 G hw hv l0 s0 `a6j `c? (n/4/4) `c?).lift λr S' h=>Yx0 S S' n hn h3 r h
 ·rw[`ag h3]
  by_cases hr:`A9
  ·rw[`Q (`gx hw hr)]
   exact Ub0 S w ws hw n h3 (`n hr)
  ·have J:=hv.resolve_left hr
   subst J;rw[`ag (by rw[hw];exact λz=>nomatch z)];have held:∀d,Ft `bp `cF d->Gi `wV:=λd hd=>`XG hw `r `r hd rfl rfl `IN G.nl G.nm rfl l0 s0
   by_cases h1:n%4=1
   ·rw[`RJ]
    exact`bbk (`n #[h1,rfl]) (`q (`n `ad))
   ·rw[`RK]
    by_cases h2:`a6k
    ·rw[`akP]
     exact#[pb0 S G.ok ws hw n _ `ar4 (`q (`n #[h2.1,h2.2,hn,rfl])),`dv _ (`q (`q #[_,`dF,rfl])),rfl]
    ·rw[`ag h2]
     by_cases h4:n=0
     ·rw[`Q h4]
      exact`bbk (`q (`q #[h4,rfl])) `dI
     ·rw[`ag h4]
      exact Ub0 S `cF ws hw n h3 (`q #[h1,h2,h4])
def ah0{S:RS}(G:Gi S){w:`aG}(hw:`bN)(hv:`l!)(l0:`fU)(s0:`lk)(b:Nat):`uU Q5 (S.digit b):=by
 have dg:=G.dg;unfold RS.digit
 by_cases hb:b<128
 ·have e:`bbl=`dJ:=`G
  simp only[`fm,e];exact(Mz0 G hw hv l0 s0 (`vM+`dJ) `j).lift λr S' h=>bw0 S S' `dJ `bbm r h
 ·have e:`bbl=`dJ%128:=`G
  simp only[`ev,e];have hh:`bbn↔`hQ:=`EO hw #[λz=>A3 z,λz=>`aw z]
  by_cases h:`atR=0∨`a6l (`atR)
  ·rw[`bS]
   refine Ns0 S w ws hw `dJ `j (h.imp id λz y=>z (y.imp hh.mpr λq=>?_));lia
  ·rw[`cT]
   refine#[Zu0 S w ws hw `dJ `j (`NJ) ?_,#[`q7,G.op,G.cl,G.nl,G.nm,`ek (0<=`atR),G.l8,G.sp,G.ln,`bbi],rfl];have:=Decidable.not_not.mp (mt Or.inr h);exact this.imp hh.mp λq=>`G
def takes_all{S:RS}(G:Gi S)(hf:`bbo)(b:Nat):`uU Z1 `bbp:=by
 unfold RS.takes;cases hw:`ci with
 | nil=>exact S40 S hw b
 | cons w ws =>
  have O:(`A9∨`hQ∨w=`hl)->`ba3:=λh=>by
   have l0:`fU:=A00 λz=>by
    let#[w',U,e,hv]:=G.ln z;rw[hw] at e;cases e;rcases hv with rfl|rfl<;>rcases h with h|h|h<;>cases h
   refine#[l0,?_];rcases G.sp with z|z
   ·exact z.2
   ·rw[l0] at z;exact `bbq
  have J:(`l?)->`uU Z1 (`w `aqG `aqH `bbg):=λhv=>by
   by_cases h0:`aqG
   ·rw[`ajH]
    exact`bbr (Tq0 G hw hv h0 b) (`n #[h0,h])
   ·rw[`RL]
    have l0:`fU:=`G
    have s0:`lk:=by
     rcases G.sp with z|z
     ·exact z.2
     ·rw[l0] at z;exact `bbq
    exact`bbr (Tj0 G hw hv l0 s0 b) (`q #[l0,h])
  cases w with
  | root =>
   let#[l0,s0]:=O `dI;exact`bbs `dI `dI
  | value =>
   let#[l0,s0]:=O (`q `dI);exact`bbs `nU `nU
  | sign =>
   let#[l0,s0]:=O (`q `nU);show `uU Z1 `a6s
   by_cases hb:`ad?
   ·rw[`fm]
    exact#[m30 S _ ws hw b _ (ko0 S G.ok `H6 b hb),`XG hw `r `r (d:=`J') #[b,hb,rfl] rfl rfl `IN G.nl G.nm rfl l0 s0,rfl]
   ·rw[`ev]
    exact m30 S S ws hw b _ (Hd0 S b hb)
  | name=>exact J `dI
  | cls=>exact J `nU
  | fin=>rw[hw] at hf;exact `ba7
universe Rk
namespace Rk
open DL W Rm StrLaws
open Bw (bs hi sg its two kn cnt tx)
theorem bo0{N:Nat}:∀(n:Nat) {ds:`i},Fts N (`a6g) ds->∃l:`k,ds=`dM (`BQ)/\`cP=n/\∀c∈l,`Xc
 | 0,_,h=>by cases h;exact#[[],rfl,rfl,λc hc=>by cases hc]
 | n+1,_,h=>by
  skip;rw[`eV] at h;cases h with
  | cons a f =>
   let#[l,e1,e2,e3]:=bo0 n f;let#[c,hc,e]:=a;done;refine#[c::l,`gx e e1,by rw[`X,e2],`j!];apply `lK
   ·exact hc
   ·exact e3 x hx
universe Rk
namespace Rk
open DL W Rm StrLaws
open Bw (bs hi sg its two kn cnt tx)
open Km (hb nB nT nW pk lkd ix)
def zs(l:`k):`S:=`dM `a'T
section
variable{F:`zN}{ps:`aL}{S:RS}{l:`k}{b:Nat}
def Opens.done{N:Nat}{u:`k}(o:`fy N bg u []):u=[]:=by
 generalize hl:([]:`ah)=w at o;cases o with
 | nil=>rfl
 | cons a b c o=>exact `L hl `aS
theorem mb0(a c:`k):zs `XH=zs a++zs c:=`a2
universe zz
universe Rk
namespace Rk
open DL W Rm StrLaws
open Bw (bs hi sg its two kn cnt tx)
open Km (hb nB nT nW pk lkd ix It Wb)
def okr(m:Nat):Nat->`a?1
 | r,[]=>r<=m
 | r,b::l=>`atS l `XI
def rl:Nat->`S->Nat
 | r,[]=>r
 | r,b::l=>`bbt l l
theorem P60:∀{r:Nat} {l:`S},`IP->r<=m
 | _,[],h=>h
 | _,`dC,h=>h.1
theorem ru0:∀{r:Nat} {a c:`S},okr m r `XH↔okr m r a/\okr m (rl r a) c
 | r,[],c=>#[λh=>#[P60 h,h],λh=>h.2]
 | r,b::a,c=>by
  show (`atS `XH (okr m 0 `XH))↔(`atS a (okr m 0 a))/\okr m (`bbt a a) c
  by_cases h:`z2
  ·simp only[`bS]
   rw[ru0];apply `bbu
  ·simp only[`cT]
   rw[ru0];apply `bbu
theorem wj0{k:Nat}:∀{r r':Nat} {l:`S},`IP->r'<=r+k->okr (m+k) r' l
 | r,r',[],h,hr=>by have h:r<=m:=h;show r'<=m+k;lia
 | r,r',b::l,h,hr=>by
  apply `amb;refine`bbv
  by_cases hb:`z2
  ·rw[`fm] at h2 ⊢
   exact `IQ
  ·rw[`ev] at h2 ⊢
   exact `IQ
theorem I50{r r':Nat}{l:`S}(h:`IP)(hr:r'<=r):okr m r' l:=wj0 (k:=0) h hr
theorem Kx0{r:Nat}{l:`S}(h:`IP):rl r l<=m:=P60 (ru0 (c:=[]).mp (`l `cg h)).2
theorem gr0{r:Nat}{l:`S}(h:`IP)(n:Nat):okr m r (`HW n):=(ru0.mp (`l `IR h)).1
theorem Zy0{l:`S}(h:`XI)(n:Nat):okr m 0 (`Cx n):=I50 (ru0.mp (`l (`IR n l) h:okr m 0 (`HW n++`Cx n))).2 `lj
def Uf0{l:`S}(h:`XI)(i j:Nat)(x:Int):okr (m+`xB) 0 (`HW i++[x]++`XJ):=by
 have h1:=gr0 h i;have h2:=Zy0 h j;have h3:=Kx0 h1;rw[`ca];refine ru0.mpr #[`bbw,?_];show (_<=_/\if 128<=x then okr _ _ (`XJ) else okr _ 0 (`XJ));refine`bbv;split
 ·exact `IQ
 ·exact `IQ
def Hc0{l:`S}(h:`XI)(i j:Nat):okr (m+`xB) 0 (`HW i++`XJ):=by
 have h1:=gr0 h i;have h2:=Zy0 h j;have h3:=Kx0 h1;exact ru0.mpr #[`bbw,`IQ]
universe Rk
namespace Rk
open DL W Rm StrLaws
open Bw (bs hi sg its two kn cnt tx Vb Gq)
open Km (hb nB nT nW pk lkd ix It Wb)
def Gi.end'{E:RS}(G:Gi E)(hE:`wd):`atT≠[]/\∀(k:Nat) (q:`e9),`atT[k]?=`f'->Pq `bbx q []:=by
 skip;rcases G.op with⟨_,_,e3,_⟩|⟨a,o⟩
 ·rw[hE] at e3;cases e3
 ·rw[hE] at o
  done;exact#[a,λk q h=>G.cl k q h (by rw[o.done];exact λz=>by cases z)]
universe Rk
namespace Rk
open DL W Rm StrLaws
open Bw (bs sg its two kn cnt tx Vb Gq)
open Km (hb nB nT nW pk lkd It Wb ix)
open K22 (lkv rel)
def R50{p:Pt}(h:`Xq):(`y `L_)=`asQ:=by
 cases p with
 | text w=>exact `L0
 | row vs=>show (`y `bat)=`cz;rw[`qp]
 | table ps=>show (`y `PN)=`Oj;rw[Pn0,xb0]
 | rcd c ps=>show (`y (`af1::`PN))=`asT;rw[`X,Pn0,`X,xb0]
def nt0{l:`bd}{a:α}{r:`bd}(h:`Cx n=a::r):`Cx `hG=r:=by
 rw[← `aDn,h];rfl
def X50(S:RS)(k:Nat)(u:`k)(ws:`ah)(hu:`hj)(hw:`ci=`hZ):`o2=({ S with un:=u,wait:=ws }:RS).ends:=by
 skip;let#[c,b,u',nm,w',dg,l,sp]:=S;have e1:u'=k::u:=hu;have e2:w'=`hZ:=hw;subst e1 e2;done;rfl
section
variable{ps:`aL}
theorem N00(W:`ok){p:Pt}(hp:p∈ps):∀s:Str,`g0 s∈`fO->`uE:=λs hs=>by
 have hv:=(`bby).vals;have hn:=W.nm p hp;have J:∀qs:`cw,`bbz->`g0 s∈`atU->s∈`Mz:=λqs hv h=>by
  let#[q,hq,hm]:=l6.mp h;unfold two at hm;rcases `Wy with e|hm
  ·apply `z!
   exact e▸`atV
  ·have:=hv q.2 (`atV)
   rw[← `asS] at this;cases `E
 cases p with
 | text w=>cases hs
 | row vs=>exact `L (hv _ hs) `Ut
 | table qs=>exact `bbA
 | rcd c qs =>
  rcases `cy hs with e|hs
  ·apply `z!
   exact hn s (D4 _ (`l e `asU))
  ·exact `bbA
structure Done(ps:`aL)(pool:`h)(L:`k)(S S':RS)(k:Nat)(u:`k)(ws:`ah)(ds:`i)(B B':`k)(T':`h):Prop where
 inv:Inv `bz B' T' S'
 un:S'.un=k::u
 wt:S'.wait=`hZ
 bg:S'.begun=`Bi k (λq=>(q.1,q.2++ds.map `xH))++(B'.drop `bY).map `aeJ
open T in
def sim(W:`ok)(L:`k){B B':`k}{T:`h}{b:`S}(h:`mb):∀(S:RS) (k:Nat) (u:`k) (ws:`ah) (p:Pt) (pre:`i),`q6->`uN->`Ae->(∃M,L=B'++M) ->
  `hj->`Zg=`c (`fI,`Z6 `xH)->p∈ps->`Xq->`fO=pre++ds->`ci=`atE++`hZ ->
  ∃S',`d4 `o2 b S'.ends/\Done ps `bz L S S' k u ws ds B B' T':=by
 induction h with
 | nil B T =>
  apply `IS;have e:`atE=[]:=List.drop_eq_nil_of_le (by rw[R50 h0,he,`cg];exact `gT);rw[e] at hw;refine#[S,`Oy,I,hu,hw,?_];rw[`yY,`nl,`nl,`cg,modify_id _ `a?N]
 | str h ih =>
  rename_i B T s ds B' T' b;apply `IS;apply `aeG `gc;rw[s1] at hw;have hl:`XK:=by
   have:=`XL;apply `XM;lia
  have hs:`uE:=N00 W hp s (`gn he);have c1:`jl:=`baL (s3 s rfl)
  let#[S1,r,I1,A]:=Ln0 W I hu hk (`atW) hw s hs (by
   rcases s3 s rfl with z|⟨z,q⟩
   ·exact `fG
   ·exact `q #[z,q `hW])
  apply `atX `Oi hL;refine`bbB (`l (q00 hw c1) `af9);rw[D'.bg,A.bg,v10];apply `Xd;rfl
 | val hd h ih =>
  rename_i B T d ds B' T' b;apply `IS;apply `aeG d;have U:`hQ:=s2 λs e=>by rcases hd with rfl|⟨z,rfl⟩<;>cases e
  subst U;rw[s1] at hw;have hl:`XK:=by
   have:=`XL;apply `XM;lia
  apply `atY;apply `Xm;apply `bbC d (by rcases hd with z|z;exact `fG;exact `Xg);apply `atX [d] `atZ;apply `bbD;rw[D'.bg,A.bg,v10];apply `Xd
 | old hj h ih =>
  apply `atq;apply `IS;apply `bbE;apply `bbF
  subst U;rw[s1] at hw;have hl:`XK:=by
   have:=`XL;apply `XM;lia
  apply `atY;apply `Xm;apply `bbC `kM (`q (`q #[j,hj,rfl]));apply `atX [`hN] `atZ;apply `bbD;rw[D'.bg,A.bg,v10];apply `Xd
 | new hj h1 h2 i1 i2 =>
  apply `Xi;apply `IS;apply `bbE;apply `bbF
  subst U;rw[s1] at hw;have hw:`ci=`cF::(`Ai):=hw;have hl:`XK:=by
   have:=`XL;apply `XM;lia
  have a1:`jg:=eb0 (`Aj hp `kM (`gn he));have Z:=`atp;have Y:∀x∈`mn,`uO:=λx hx=>by
   apply `uP
   ·exact hB x z
   ·rw[`ew];exact a1
  have b0:`bY<60:=by
   have:=`Xn Z (Y y hy)
   rw[`l7,`Y,`dK] at this;have:=`at_;lia
  apply `atY;let#[N1,a4]:=h1.pre;let#[N2,a3]:=h2.pre;have hπ:`XN=`bY:=by
   rw[hM,a3,a4,`ca,`ca,`ca];exact Ei0 hj
  have a6:=(`sf a1).2;have hI:=`Aj a6;let#[S1,r,I1,u1,O,w1]:=enter W I hw `nU (λk' u' e=>by
   rw[hu] at e;cases e;exact#[_,hk,`atW]) j a1 b0
  have a8:=pl0 hu (`DA);have a7:k<`bbG:=by
   rw[`qW];exact I.un k `aCD
  have a2:`bbG=`bY:=`l `qW `fb
  have c3:B1.drop `bY=j::B1.drop `a!6:=by
   rw[a4,`z5,`ca,`z5];rfl
  obtain⟨S2,r2,I2,u2,w2,c4⟩:∃S2,`bbH/\Inv `bz B1 T1 S2/\S2.un=`atH/\S2.wait=`ck::(`Ai)/\`at0=`bbI:=by
   by_cases ht:`pz=0
   ·have b2:`Dy=[]:=by
     cases e:`i' with
     | text _=>rfl
     | row _=>rw[e] at ht;cases ht
     | table _=>rw[e] at ht;cases ht
     | rcd _ _=>rw[e] at ht;cases ht
    rw[`am7] at O w1;rw[b2] at h1;cases h1;refine`bbJ;rw[O,a8,`z5];congr 1;show[_]=[`bbK];unfold ua0;rw[ht];cases e:`i' with
    | text _=>rfl
    | row _=>rw[e] at ht;cases ht
    | table _=>rw[e] at ht;cases ht
    | rcd _ _=>rw[e] at ht;cases ht
   ·rw[`ag ht] at O w1
    rw[a8] at O;let#[S2,r2,D2]:=i1 S1 `bY `a5 (`Ai) `oH [] I1 Z Y #[N2++M,by rw[hM,a3,`ca]] u1 (by rw[O,`Hp,a2,`n9];rfl) a6 ht rfl w1;apply `bbL;rw[D2.bg,O,dg0 _ _ _ _ a2.symm,c3,`ab,`ca];congr 1;show (`pz,[]++(`Dy).map `xH)::_=`bbK::_;congr 1;unfold ua0;cases e:`i' with
    | text _=>rw[e] at ht;exact `Xr
    | row _=>rfl
    | table _=>rfl
    | rcd _ _=>rfl
  obtain⟨S3,J⟩:∃S3:RS,S3={ S2 with un:=`a5,wait:=`Ai }:=`ad;have e3:`aeI=S3.ends:=`l J (X50 S2 `bY `a5 _ u2 w2)
  have c0:S3.begun.length=`at1:=`l J I2.len
  have I3:Inv `bz B1 T1 S3:=by
   have c2:=I2.wc;have l2:=I2.wl;have n2:=I2.unl;rw[w2,u2,`uR,`X] at c2;rw[w2,`X] at l2;rw[u2,`X] at n2;refine#[c0,I2.few,`l J I2.nms,I2.tnd,I2.tin,`l J I2.d0,`l J I2.l0,`l J I2.s0,`j!,?_,`l J I2.held,?_,?_,`l J I2.th]
   ·rw[J] at hx ⊢
    exact I2.un x (`l u2 (A6 _ hx))
   ·rw[J]
    show `gY<=`at2;lia
   ·rw[J]
    show (`y `Ai)<=60*`at2+1;lia
   ·rw[J]
    show `E' `Ai=`gY;simp at c2 ⊢;lia
  have b3:S3.begun=`bbI:=`l J c4
  have a5:lkv `hW `kM=`DA:=`gx `Xp hπ
  let#[S',r',D']:=i2 S3 k u ws p (pre++[`hN]) I3 (h1.nodup Z) (h1.range W.wb Y hI) `atZ (`l J hu) (by
   rw[b3,`hc a7,kv0 hk,`a2,`H4,a5]) hp h0 `atl (by
   rw[J,`Y,`dK,nt0 s1])
  refine`bbB ?_
  ·rw[`aGm,Km.Sj0,`IC]
   refine r.app (r2.app ?_);rw[e3];exact r'
  ·rw[D'.bg,b3,Ll0 _ _ _ _ a7,v10,`ca]
   congr 1
   ·congr 1
    funext q
    rw[`ab,a5,`ca];rfl
   ·rw[← `a2]
    congr 1;rw[a3,`z5,`bbM (by rw[a4];simp only[`Y];lia)]
universe zz
universe Rk
namespace Rk
open DL W Rm StrLaws
open Bt (Y8 m5 j8 Z9 O8 Q4 X6 U9 d7)
open Bw (bs sg its two kn cnt tx Vb Gq)
open Km (hb nB nT nW pk lkd It Wb ix)
open K22 (lkv rel)
structure Whl(q:`e9):Prop where
 kd:q.1<4
 fits:`a'q
 tr:∀d∈q.2,`l2
 nr:`a'r
def R20(S:RS)(k:Nat)(q:`e9)(hq:`hk)(h:`ll):`a's:=by
 have e2:`a't:=by
  show `arP;rw[`df,hq];rfl
 have e1:`a'u:=by
  unfold U3;rw[`ch,hq];rfl
 rw[e1];unfold tc0 K4;simp only[vl0,`p,e2];rw[`Q #[rfl,t40 h.tr,h.nr]]
theorem bn0(S:RS):∀(ks:`k) (qs:`zN),`jc=`at3->(∀(i k:Nat) (q:`e9),ks[i]?=`ff->qs[i]?=`f'->`hk)->`bbN->`_8 `Dv (ks.map `JM)=`c (`i! λq=>`abG)
 | [],[],_,_,_=>rfl
 | [],`dC,h,_,_=>by cases h
 | `dC,[],h,_,_=>by cases h
 | `lW,q::qs,h,hat,hw=>by
  have ih:=bn0 S ks qs `ia (λi k' q' h1 h2=>hat `fE k' q' h1 h2) (`Ig hw)
  rw[`ab,`ab];unfold partsOf;rw[R20 S k q (hat 0 k q rfl rfl) (hw q A8),ih];rfl
theorem gs0:∀(xs:`i),(∀d∈xs,`l2)->∀q∈`E9,tr q.1=`d/\tr q.2=`d
 | [],_,q,hq=>by cases hq
 | [a],_,q,hq=>by cases hq
 | `MY,h,q,hq=>by
  rcases `cy (show q∈`aqB from hq) with rfl|hq
  ·exact#[h a A8,h b (A6 _ A8)]
  ·exact gs0 r (λd hd=>h d (A6 _ (A6 _ hd))) q hq
def fu0(a b:D)(ha:tr a=`d)(hb:tr b=`d):tr (`z [a,b])=`d:=by
 show trs [a,b]=`d;exact t40 λd hd=>by
  apply `oj
  ·exact ha
  ·rw[`x9];exact hb
def Yc0(xs:`i)(h:∀d∈xs,`l2):tr `a'c=`d:=by
 show trs _=`d;exact t40 λd hd=>by
  apply `at4;exact fu0 _ _ (`bbO).1 (`bbO).2
def Jv0(h:`ll):tr (`gp q)=`d:=by
 skip;let#[kd,held]:=q;have ht:=h.tr
 rcases k4 h.kd with rfl|rfl|rfl|rfl
 ·done;exact fu0 _ _ rfl rfl
 ·done;exact fu0 _ _ rfl (show trs `dv=`d from t40 ht)
 ·done;exact fu0 _ _ rfl (Yc0 `dv ht)
 ·done;show trs [`g0 `Ba,`a'p,`z ((`a'o).map `tj)]=`d;refine t40 `q3
  skip;apply `oj
  ·done;rfl
  apply `oj
  ·cases `dv with
   | nil=>done;rfl
   | cons a r=>done;exact ht a A8
  ·done;rw[`x9]
   exact Yc0 _ λd hd=>ht d (l7 hd)
def In0(S:RS)(hl:`uH)(h:∀q∈`cJ,`ll)(p:`e):la0 0 `sc 1 [] `dy `PQ `dR=`c (`aeM,`dR):=by
 apply `l5
 unfold la0;rw[Ux0,`p,yt0,`p,wq0,`p];show `uD (`_8 `Dv (`vX))=_;rw[bn0 S (`azN) `cJ (by rw[`l7]) (λi k q h1 h2=>by
  let#[a,b]:=`ds h1;rw[List.getElem_range] at b;rw[← b];exact h2) h,`p]
 have e:O7 1 [] (λ_=>`c (`su `bbP)) `dy noT `PQ (`cr ([`ti]:Ds).length .un)=`c (`o `aaH):=by
  refine u40 rfl `m9 ?_;have J:∀qs:`zN,`bbN->xw0 `dy noT `PQ [.un] (`i! `bbP)=`c (`i! `gp):=by
   intro qs
   induction qs with
   | nil=>exact `j_
   | cons q qs ih =>
    intro hq;have h1:=hq q A8;rw[`ab];unfold xw0;have e1:oA (z7 `kG `Ca) M8 [`asD]=`c (`gp q):=by
     rw[`a'v];exact j30 q.1 h1.kd q.2 h1.fits
    simp only[`bj (gN 0 (`aDv) [.un]=`c [`asD]),`p,noT,e1,ih (`Ig hq)];rfl
  exact J `cJ h
 rw[e,`p];simp only[];rw[`Q (t40 λd hd=>by apply `at4;exact Jv0 (h q hq))]
def Nn0{ps:`aL}(W:`ok)(hj:`jg)(π:`hE):Whl (ua0 ps π j):=by
 have hp:=`aty;have ho:=W.ok _ hp;have hI:=`Aj hp;have J:=pk0 ho;unfold ua0;generalize `i'=p at ho hI J;have gen:`Xq->(`fI=3->`fO≠[])->Whl (`fI,`as?):=λh0 h3=>by
  refine#[Sc0 p,#[`Xs (`y (`azi _)),λz=>`L z h0,λz=>`br (h3 z)],`q3,k20 `q3]
  ·let#[x,hx,rfl]:=`gi
   exact(`bbQ).1
  ·let#[x,hx,rfl]:=`gi
   exact(`bbQ).2
 cases p with
 | text w =>
  have hw:=`bbR;refine#[`ek (0<4),#[`Xs (`y (`atF _)),λ_ d hd=>?_,λz=>nomatch z],`q3,k20 `q3]
  ·apply `II
   exact`bbS
  ·apply `II
   rfl
  ·apply `II
   rfl
 | row vs=>apply `bbT
 | table qs=>apply `bbT
 | rcd c qs=>exact gen `h' λ_ z=>nomatch z
def L30{ps:`aL}(W:`ok){T:`h}{b1:`S}(h:`atz)(hp:`bad):∃S,`d4 `fC (`Ou) S/\`uF/\`a5=[]/\`uH/\(∀q∈`cJ,`ll)/\`bbU=`bbV:=by
 skip;have O:=`at_;have hB:∀j∈[0],`jg:=λj hj=>`l (`fr hj) O.1
 have hI:=`Aj `bbW;have hr:=`atA W.wb hB hI;apply `Xm;have I0:Inv `bz [] [] `fC:=#[rfl,`a_,rfl,U1,(λs hs=>by cases hs),rfl,rfl,rfl,(λk hk=>by cases hk),`av,(λq hq=>by cases hq),`av,`av,λq hq=>by cases hq];let#[S1,r,I1,u1,J,w1]:=enter W I0 (w:=`g8) (ws:=[]) rfl `dI (λk u e=>by cases e) 0 O.1 `aS;have a1:(start.hold (link ([]:`k).length)).begun=[]:=rfl;rw[a1,`kV] at J;obtain⟨S2,r2,I2,u2,w2,U⟩:∃S2,`bbH/\Inv `bz L T S2/\S2.un=[0]/\S2.wait=[`ck]/\`at0=L.map `aeJ:=by
  by_cases ht:kn (`sg)=0
  ·have Z:`LZ=[]:=by
    cases e:`sg with
    | text _=>rfl
    | row _=>rw[e] at ht;cases ht
    | table _=>rw[e] at ht;cases ht
    | rcd _ _=>rw[e] at ht;cases ht
   rw[`am7] at J w1;rw[Z] at h;cases h;refine`bbJ;rw[J];show[_]=[ua0 ps (ix [0]) 0];unfold ua0;rw[ht];cases e:`sg with
   | text _=>rfl
   | row _=>rw[e] at ht;cases ht
   | table _=>rw[e] at ht;cases ht
   | rcd _ _=>rw[e] at ht;cases ht
  ·rw[`ag ht] at J w1
   let#[S2,r2,D2]:=sim W L h S1 0 [] [] (`sg) [] I1 `aS hB `a?2 u1 (`zX) `bbW ht rfl w1;apply `bbL;rw[D2.bg,J,hN];show[(kn (`sg),[]++(`LZ).map (lkv (ix ([0]++N))))]++N.map _=ua0 ps (ix ([0]++N)) 0::N.map _;rw[List.singleton_append];congr 1;unfold ua0;cases e:`sg with
   | text _=>rw[e] at ht;exact `Xr
   | row _=>rfl
   | table _=>rfl
   | rcd _ _=>rfl
 have e2:`aeI=`bbX:=`aw (X50 S2 0 [] [] u2 w2)
 rw[e2] at r2;have Y:`d4 `fC (`Ou) `bbX:=by
  rw[hp,Km.Sj0,`lY];exact Runs.app r r2
 done;refine#[_,Y,rfl,rfl,by show `at2<=60;rw[I2.len];exact I2.few,`ud,?_]
 ·have hq:q∈`at0:=hq
  rw[U] at hq;let#[j,hj,rfl]:=`dH hq;exact Nn0 W (hr j hj) _
 show `d2 (S2.begun.map `gp)=`bbY;rw[U,`cu,`cu];congr 1;refine `a9I
 exact P50 _ _
universe Rk
namespace Km
open DL W K22
open Bw (bs sg cnt kn its tx fold Vb Gp Gq two)
def Xm0{p:Pt}(h:Gq p):p.few/\`XO:=by
 apply `WI
 have hc:=h.cnt;have:`XO:=by
  cases p with
  | text w=>exact `b3
  | row vs=>exact hc
  | table ps=>show `WO<=20;rw[`P];exact hc
  | rcd c ps=>show `WO<=20;rw[`P];exact hc
 exact#[C0 `E `j,`E]
universe Km
namespace Rk
open DL W Rm StrLaws
open Bt (d7)
open Bw (bs sg its two kn cnt tx Vb Gq)
open Km (hb nB nT nW pk lkd It Wb ix)
open K22 (lkv rel tgs nd)
mutual
def nob:`d9
 | `fz=>`XP
 | `c4=>`XP
 | `b6=>`m
 | `qz=>`m
 | `qA=>`m
 | _=>`d
def lh0:`wa
 | []=>`d
 | `nO=>nob x&&`XP
end
mutual
theorem Xv0:∀(x y:D),nob x=`d->nob y=`d->`ub=`d->x=y
 | `v,y,_,h2,h=>by cases y<;>first|rfl|(apply `IT)
 | `F9,y,_,h2,h=>by
  cases y with
  | int b=>rw[deq] at h;rw[`P7 h]
  | bl b=>simp[nob] at h2
  | _=>apply `IT
 | `jU,y,_,h2,h=>by
  cases y with
  | str b=>rw[deq] at h;rw[`P7 h]
  | _=>apply `IT
 | `b6,_,h1,_,_=>`at5
 | `qz,_,h1,_,_=>`at5
 | `qA,_,h1,_,_=>`at5
 | `fz,y,h1,h2,h=>by
  cases y with
  | tup ys =>
   rw[deq] at h;rw[nob] at h1 h2;rw[`bbZ]
  | _=>apply `IT
 | `c4,y,h1,h2,h=>by
  cases y with
  | lst ys =>
   rw[deq] at h;rw[nob] at h1 h2;rw[`bbZ]
  | _=>apply `IT
theorem ce0:∀(xs ys:`i),`XP=`d->lh0 ys=`d->`Tf=`d->xs=ys
 | [],[],_,_,_=>rfl
 | [],`dC,_,_,h=>`bb_
 | `dC,[],_,_,h=>`bb_
 | `nO,y::ys,h1,h2,h=>by
  rw[xy0,`bg] at h;rw[lh0,`bg] at h1 h2;rw[Xv0 x y h1.1 h2.1 h.1,ce0 xs ys h1.2 h2.2 h.2]
end
theorem Zr0:`atD (nob d=`d) (lh0 l=`d)
 | [],_=>by rw[lh0]
 | d::l,h=>by
  rw[lh0,`Xo,Zr0 `t_];rfl
theorem j20:∀{l:`i} {n:Nat},(∀d∈l,`ue)->`rV l n=`d
 | [],_,_=>by rw[`rV]
 | d::l,n,h=>by
  rw[`rV,`Xo,j20 `t_];rfl
structure Sm(d:D)(n:Nat):Prop where
 nb:nob d=`d
 ln:`ue
theorem Sm.tup(h:∀d∈l,Sm d n):Sm (`z l) `hG:=#[`l nob (Zr0 λd hd=>(h d hd).nb),`l `e6 (j20 λd hd=>(h d hd).ln)]
theorem Sm.str(s:Str)(n:Nat):Sm `gc n:=`bb0
theorem Sm.int(s:Int)(n:Nat):Sm (`g s) n:=`bb0
theorem Sm.two{a b:D}(ha:Sm a n)(hb:Sm b n):Sm (`z [a,b]) `hG:=`z λd hd=>by
 apply `oj
 ·exact ha
 ·rw[`x9];exact hb
def Sm.val{v:D}(h:Vb v)(n:Nat):Sm v `hG:=by
 cases h with
 | non=>exact#[`aDx,`fd `e6]
 | lk j _=>exact `IU (`g _ _)
 | int z _=>exact `g _ _
def Bd0{p:Pt}(hv:∀v∈`lt,Vb v)(n:Nat):Sm p.d (n+4):=by
 have pairs:∀qs:`cw,`bbz->Sm (`z (`i! pr)) (n+3):=λqs h=>`z λd hd=>by
  apply `at4;exact `IU (.val (h q.2 (`atV)) n)
 cases p with
 | text w=>exact `IU `bb1
 | row vs=>exact `IU (`z λd hd=>.val (hv d hd) `hG)
 | table qs=>exact `IU (`bb2)
 | rcd c qs =>
  exact `z λd hd=>by
   skip;apply `oj
   ·done;exact `ZQ
   apply `oj
   ·done;exact `ZQ
   ·done;rw[`x9];exact `bb2
theorem Ea0{ps:`aL}(hw:`e_):Sm `Jm 50:=Sm.tup (n:=49) λd hd=>by
 let#[p,hp,rfl]:=`gi;exact Bd0 `a!_ 45
def Sm.eq{x y:D}(hx:Sm x 50)(hy:Sm y 50)[`lT (x=y)]:jp0 x y=`c `aLC:=by
 show (`aW `al5 (`fX (`ub)))=_;rw[`Q #[hx.ln,hy.ln]]
 by_cases h:x=y
 ·rw[`fT,← h,DL.lr0 x 50 hx.ln]
 ·rw[`fi]
  cases e:`ub with
  | false=>rfl
  | true=>exact `L (Xv0 x y hx.nb hy.nb e) h
def Ul0(p:Pt)(h:`XO):M4 `wL=`c (`o `lt):=by
 apply `l5
 have hc:∀(X:D) (qs:`cw),`bb3->`at3<=20->O7 2 [] `uu `afJ noT `ap `af6=`ns `r3:=λX qs hX hl=>by
  apply `bb4
  ·apply `a'k
   rw[`a'l,hX];rfl
  ·rw[ud0 (`TP (`z [_,b]) b) (λd hd=>by
    apply `asx;exact#[[.sh (`B?),.sh q.2],rfl,rfl,rfl]),`cu]
   rfl
 cases p with
 | text w =>
  refine `z9;rw[`l6];exact `WE
 | row vs =>
  refine `iY [`WL] `ma `J3;rw[`l6];exact `WE
 | table qs =>
  apply `XQ;rw[`P] at h;refine `iY `bb5 `ma (`In `bb5 `bb6)
 | rcd c qs =>
  apply `XQ;rw[`P] at h;refine `iY `bb7 `ma (`In `bb7 `bb6)
def cx0(X:D)(s:`af Sl)(qs:`cw)(i:Nat)(hi:gv i s=`c X)(hX:`bb3)(hl:`at3<=20):O7 1 [] (tupI (o2 (gv i) `jM ixD)) `dy noT `kG s=`c (`Ln):=by
 apply `l5
 apply `bb4
 ·show `nD (o2 (gv i) `jM ixD s) _=_
  rw[`aK X `wr hi,hX];rfl
 ·rw[ud0 `a'm (λd hd=>by
   apply `asx;exact`asy (pr q)),`cu]
  rfl
theorem W10:∀(qs:`cw) (vs:`i),(`aGs vs).map (`aY4)=(`aGq vs).map pr
 | [],_=>rfl
 | q::qs,[]=>rfl
 | q::qs,v::vs=>by
  rw[`ab,`d!,`ab,`ab,`d!,`ab,W10 qs vs];rfl
universe Rk
namespace Rk
open DL W Rm StrLaws
open Bt (d7)
open Bw (bs sg its two kn cnt tx Vb Gq)
open Km (hb nB nT nW pk lkd It Wb ix)
open K22 (lkv rel tgs nd)
theorem Ur0:∀L:`k,`at6=`c (`bb8)
 | []=>rfl
 | k::L=>by
  show `Er `at6 (`aq k)=_;rw[Ur0 L];rfl
theorem U50(j:Nat):∀L:`k,j∈L->(`bb8).findIdx? (λy=>`ao (y=`b9))=`c (`XN)
 | [],h=>by cases h
 | k::L,h=>by
  rw[`ab,List.findIdx?_cons];unfold ix
  by_cases e:k=j
  ·rw[`f6,`oh]
   rfl
  ·rw[`eZ,`gP,U50 j L `WQ]
   rfl
def Gi0{v:D}(h:Vb v)(L:`k)(hl:∀j:Nat,v=`hN->j∈L):sm0 [v,`Bb]=`c (lkv `hW v):=by
 cases h with
 | non=>exact `W2 [`h8,`nu] (d9 rfl)
 | int z _=>exact `W2 [`hP,`nu] (d9 rfl)
 | lk j _ =>
  rw[show lkv `hW `oG=lkd (`XN) from `Xp _ _];refine `zR;rw[`zT];refine `uM (`V' (`qZ (`pQ `XN)) `zm);rw[Iw0 (d:=`Bb) (ds:=[`gg]) rfl `kP];show `uD `at6=_;rw[Ur0,`p,U50 j L (hl j rfl)];rfl
def U60(a b:`i):tgs `tg=tgs a++tgs b:=by unfold tgs;rw[List.filterMap_append]
def U20{p:Pt}:tgs (`fO)=tgs `lt:=by
 have J:∀qs:`cw,tgs (`atU)=tgs (`r3):=λqs=>by
  induction qs with
  | nil=>rfl
  | cons q qs ih =>
   rw[`Im,U60,ih];show tgs [`B?,q.2]++tgs _=tgs ([q.2]++`r3);rw[U60];rfl
 cases p with
 | text w=>rfl
 | row vs=>rfl
 | table qs=>exact J qs
 | rcd c qs=>exact J qs
def Wc0(j:Nat)(ds:`i):tgs (`hN::ds)=j::`K7:=by
 unfold tgs lkd;rw[`ahA];apply `nt
def Rg0{d:D}(h:(∃s,d=`ec)∨`ato)(ds:`i):tgs `jy=`K7:=by
 rcases h with⟨s,rfl⟩|rfl|⟨z,rfl⟩<;>rfl
theorem c70(ds:`i):(`y `K7)<=`bX:=List.length_filterMap_le ..
def NT:GB:=`a46
def NB':GS:=(u5 `a47
 (u5 (ifD `a48
 (u5 `a49
 (u5 `a4'
 (u5 `a4!
 t7)))
 t7)
 t7))
def ns5(ps:`aL)(B W:`k)(s3 s4:Sl):Ds:=[`eP,.ow (`at7),.ow `EC,s3,s4]
def S70(ps:`aL)(B W:`k)(d3 s4:Sl):NT `bb9=`bC (W≠[]):=by
 have hl:`bb':=by
  rw[`e6];exact j20 λd hd=>by
   let#[k,_,rfl]:=`gi;simp[`e6]
 have he:dv0 `EC `hS=`nW (W≠[]):=by
  show (`aW (`bb'/\`xG `hS) (`fX (!deq `EC `hS)))=_;rw[`Q #[hl,by simp[`e6,`rV]],deq];cases W with
  | nil=>simp[K22.nd,xy0]
  | cons w W =>
   rw[`fl,`XR];cases e:`aaG with
   | nil=>simp[xy0,K22.nd]
   | cons a r=>simp[xy0,K22.nd]
 show ob `aFp (frz `bb9)=_;apply `bF;rw[`aK `Z7 `rp rfl];exact he
def Hm0{ps:`aL}(hw:`e_)(hj:`jg)(s1 s2 s4:Sl):O7 1 [] `aFu `dy `x4 `r_ [`eP,s1,s2,`rS,s4]=`c (`aci):=by
 apply `l5
 let#[w1,w2]:=`abM;have hq:=`q4;have J:=`bb!;generalize `i'=p at w1 w2 hq J;apply `bb?
 ·show `nD (oA `aFt M4 _) Zk0=_
  rw[`a!V,Ul0 p J];rfl
 ·have O:∀vs:`i,(∀v∈vs,Vb v)->xw0 `dy `x4 `r_ [.un] vs=`c (nd (tgs vs)):=by
   intro vs
   induction vs with
   | nil=>exact `j_
   | cons v vs ih =>
    intro hv;have ih:=ih (`Ig hv)
    unfold xw0;cases hv v A8 with
    | non =>
     simp only[`bj (gN 0 D.non `H_=`c [`h8]),`p,`bj (ob `rP [`lm `v]=`bI)];exact ih
    | int x _ =>
     simp only[`bj (gN 0 (`bZ x) `H_=`c [`abI]),`p,`bj (ob `rP [`lm (`g x)]=`bI)];exact ih
    | lk i _ =>
     simp only[`bj (gN 0 (`bca) `H_=`c [.sh `Oz]),`p,`bj (ob `rP `bcb=`eK),`bj (o2 `aA `cE ixD `bcb=`asE),ih];rw[`bj (`bca=lkd i),Wc0];rfl
  exact O `lt `W8
def Uh0{ps:`aL}(hw:`e_){B W:`k}(hj:`jg)(hB:`z?)(hW:`wY<=200000)(s3 s4:Sl):∃s4',NB' `bcc=`ar (ns5 ps (`aex) ((`w `g' [] `Lm)++W) `wb s4'):=by
 have zs:`z':=`av
 have p1:y40 (ot0 2) `lf `bcc=`ar (`XS):=by
  unfold ns5 y40 ot0;rw[`fl,`XR];show `a!M [`eP,.ow (`at7),`fa (`xz `bcd),s3,s4] `bcd;rw[`a!O,`Wb];rfl
 have c:dm0 `aFr (`XS)=`as2:=by
  show ob `aFq (frz (`XS))=_;apply `bF;rw[`aK `gg `at7 rfl];exact K22.Cd0 B j
 apply `Ir
 ·refine#[s4,?_]
  rw[`bS,`bS];refine o5 p1 (`ce `XS rfl);rw[`uB c `WY];rfl
 ·rw[`cT,`cT]
  let#[_,w2]:=`abM;have O:=(Km.Xm0 (`q4)).2;have J:=c70 `axr;refine#[`aGo,o5 p1 `bce];rw[`a81];refine `ce (ns5 ps `k8 W `wb s4) (o5 (X5 (d:=`aci) (Hm0 hw hj _ _ _)) `bce)
  ·refine(`V1 (l:=nd B) (d:=`gg) rfl rfl (`cx `XT)).trans ?_
   unfold ns5;rw[`XR];rfl
  ·generalize `Lm=E at J
   show yj0 2 `aFv [`eP,`fa (nd `k8),.sh `EC,`rS,.sh (`bcf)]=_;unfold yj0;rw[o6 (x:=`Z7) (y:=`o (nd E).reverse) rfl (`aw (`bD [`bcf]))];simp only[qt0];rw[`Q (by rw[`XT,`jW,`jW,`XT];lia)];unfold ns5;rw[`ar1,`XR `CO,K22.Fk0];rfl
def k00{gt:GB}{δ:Ds}(h1:`g2=`eK)(h2:`UI):R6 gt G `hG δ=`al3:=by
 conv=>lhs;unfold R6
 rw[h1];simp only[h2]
open T in
def Pk.order{ps:`aL}(hw:`e_){B B':`k}{T:`h}{b:`S}(h:`mb):`uN->`Ae->`Xk->∃n,`a?4/\∀(f:Nat) (W:`k) (s3 s4:Sl),`wY+`bX+51*`Oq<=51*`bY+100000->∃s3' s4',R6 NT NB' (n+f) (`K6 (`at8) s3)=R6 NT NB' f (ns5 ps B' W s3' s4'):=by
 have O:∀{B:`k},`uN->`Ae->`z?:=λ{B} hn hB=>by
  have:=`Xn hn (hB y hy)
  apply `a3 `l7;have:=`Xl;lia
 induction h with
 | nil B T=>exact λ_ _ _=>#[0,`a_,λf W s3 s4 _=>#[s3,s4,`att]]
 | str _ ih =>
  intro hn hB hd;apply `at9
  exact`bcg (`n `ad)
 | val hd' _ ih =>
  intro hn hB hd;apply `at9
  exact`bcg (`q hd')
 | old hj p ih =>
  apply `atq;intro hn hB hd;apply `at9
  let#[N,hN]:=p.pre;have a5:`bY<=`Oq:=`hh hN `Y
  refine#[n+1,`p4,`bch];rw[`X] at hl;have Z:=c70 ds;let#[s4',e]:=`bci (hB j hj);let#[a,c,q]:=h2 f W `wb s4' `j;refine#[a,c,?_];rw[Wc0,`ib,`azk,`bcj,`IB,`IB,`kV];exact q
 | new hj p1 p2 i1 i2 =>
  apply `Xi;intro hn hB hd;have J:=`ats;have Y:=`atp;have U:∀x∈`mn,`uO:=λx hx=>by
   apply `uP
   ·exact hB x z
   ·rw[`ew];exact J
  have hI:=`xE `Or;let#[n1,a1,a2]:=i1 Y U hI;let#[n2,c1,c2]:=i2 (p1.nodup Y) (p1.range hw U hI) `Dd
  let#[N1,a3]:=p1.pre;let#[N2,a4]:=p2.pre;have a8:`Xz<=`at1:=by rw[a3,`Y,`Y,`dK];lia
  have a7:`at1<=`Oq:=`hh a4 `Y
  have a6:=`a?6;rw[`Y,`dK] at a1 a2;refine#[`aeC,`p4,`bch];rw[`X] at hl;have Z:=c70 ds;let#[s4',e]:=`bci J;rw[`IC,`IC] at e;let#[t3,t4,q1]:=a2 `Os (`at8) `wb s4' `as';let#[v3,v4,q2]:=c2 f W t3 t4 `j;refine#[v3,v4,?_];rw[Wc0,`ib,`a?7,`bcj,← U20,q1,q2]
def Ww0{ps:`aL}(hw:`e_){T:`h}{b1:`S}(h:`atz):`bck:=by
 have J:=`Xl;apply `bai;let#[n,a1,a2]:=hp.order hw U1 `baj `bak;apply `baf
 have hl:`bal:=by
  have:=`Xn (`bah) (`atA hw hB (`bag) y hy)
  rwa [y8] at this
 simp only[`X,`mz] at a1;let#[s3,s4,q]:=a2 `Ez [] .un .un `PH;have e:R6 NT NB' `Ez `bcl=`ar `bcl:=by
  rw[`bc (`Z5=(99999 - n)+1)];unfold R6;rw[S70];rfl
 rw[`bam,e] at q;exact `iY [`eP,`pN,.un,.un,.un] rfl (`hF (ns5 ps [] [0] .un .un) `a!7)
def R1:GS:=(u5 `a5d
 t7)
def R2:GS:=(u5 `a5f
 (u5 `a5g
 t7))
def R3:GS:=(ifD `a5c R1
 (u5 (ifD `a5e R2 t7) t7))
def Bk0(p:Pt)(h:`XO)(f:D->D)(a b c d s6:Sl):∃s6',R3 [a,b,c,d,`WK,`bcm,s6]=`ar [a,b,c,d,.sh (`Ip p (`Ew f)).d,`bcm,s6']:=by
 apply `l5
 cases p with
 | text w =>
  refine`bcn;show `jY `bco;rw[`rn];refine `ce `bco rfl;rw[`rn];rfl
 | row vs =>
  refine`bcn;show `jY [a,b,c,d,`WL,`Cu (`k_ f),s6];rw[`l6];exact `kl (`Ip (`qT) (`k_ f)).d `arA rfl
 | table qs =>
  apply `XQ;rw[`P] at h;refine`bcp;show `jY [a,b,c,d,`aDz,`at',s6];rw[`rn];refine `ce (`bcq (`Bc qs)) rfl;rw[`l6];apply `bcr;rw[o6 (x:=`z [`m8]) (y:=`bcs) rfl (wg0 (`aU (by
   rw[Z0 (ds:=`bct) (`aU (by
    rw[`bcu];apply `bcv;rw[W10]) rfl)]
   rfl) rfl) `at!)]
  rfl
 | rcd cl qs =>
  apply `XQ;rw[`P] at h;refine`bcp;show `jY [a,b,c,d,.sh (`Ka cl qs).d,`at',s6];rw[`rn];refine `ce (`bcq (.rcd cl qs)) rfl;rw[`l6];apply `bcr;rw[o6 (x:=`z [`mU,`t cl]) (y:=`bcs) rfl (wg0 (`aU (by
   rw[Z0 (ds:=`bct) (`aU (by
    rw[`bcu];apply `bcv;rw[W10]) rfl)]
   rfl) rfl) `at!)]
  rfl
def DB:GS:=(u5 `a5a
 (u5 `a5b
 (u5 R3
 (u5 `a5h
 t7))))
def Aa0{d:D}(h:`Kb[j]?=`a9):∃k:Nat,L[j]?=`ff/\d=`g3:=by
 unfold K22.nd at h;rw[`df] at h;cases e:L[j]? with
 | none=>rw[e] at h;cases h
 | some k=>rw[e] at h;exact#[k,rfl,`ano]
def K80{ps:`aL}(hw:`e_)(hn:L.Nodup)(hL:∀k∈L,k<`aJ)(hc:∀k∈L,`bae)(hnum:`bck):vb0 `ED=`c (`bbV):=by
 skip;have zs:`oK 9000:=`av
 have a2:`Ex<=60:=by
  apply `bcw
  apply `a3 `l7;have:=`Xl;lia
 let#[δ',l3,l4]:=pz0 (f:=gN 3) (G:=DB) (λi δ=>∃s3 s4 s5 s6:Sl,δ=[`eP,`nu,`fa ((`acj i).map `DB),s3,s4,s5,s6]) `Kb 0 `bcx (by
  rintro j d δ hj ⟨s3,s4,s5,s6,rfl⟩;let#[k,hk,rfl]:=Aa0 hj;have O:=C9 hk;rw[`jH];let#[w1,w2]:=`sf (hL k O);have hq:=`q4;have Y:=hc k O;have e1:(`acj `t4).map (`DB)=`az3 (`DB)++[(`Z8).d]:=by rw[`a'7,hk,`a2];rfl
  generalize `CN=p at w1 w2 hq Y e1;have U:=`bb!;have Z:∀i,lkd i∈`lt->i∈L:=λi hi=>Y i (by
   have J:∀qs:`cw,lkd i∈`r3->lkd i∈`atU:=λqs h=>by
    let#[q,hq,e]:=`dH h;exact l6.mpr #[q,hq,by unfold two;rw[e];simp]
   cases p with
   | text w=>cases hi
   | row vs=>exact hi
   | table qs=>exact J qs hi
   | rcd c qs=>exact A6 _ (J qs hi))
  let#[a1,hr]:=Bk0 p U `xH (`eP) (`nu) (`bcy) (`jI) s6;refine#[[`eP,`nu,`bcy,`jI,s4,s5,s6],_,rfl,`kl p.d ?_ (`kl `bcz ?_ (`PO hr (`V1 (l:=`aDB) (d:=`bcA) rfl rfl (`a09)))),`jI,.sh `bcA,.sh (`bcz),a1,`ao8]
  ·rw[`aK `vN `g3 rfl]
   exact w1
  ·apply `bb?
   ·show `nD (oA `rF M4 _) Zk0=_
    rw[`as3,Ul0 p U];rfl
   ·exact ud0 `xH λv hv=>#[[.sh v,`nu],rfl,rfl,by
     rw[`bD [v,`Bb]];exact Gi0 (`W8 v hv) L λi e=>Z i (e▸hv)]) #[.un,.un,.un,.un,rfl]
 let#[s3,s4,s5,s6,rfl]:=l4;rw[`XT,`jH,`WM] at l3;done;refine `gO (o5 (δ':=[`eP,`nu,.un,.un,.un,.un,.un]) (X5 (`l (`bD `ED) hnum)) (`hF `bcx (o5 (qm0 (items:=nd L) rfl l3) `nE)));show oA `dZ we0 [`eP,`nu,.sh (`bcB),rs0 s3,rs0 s4,rs0 s5,rs0 s6]=_;rw[`bD [`bcB]];show `c (`d2 _)=`c (`bbY);rw[`cu];rfl
universe Rk
namespace L2
open Spec PyProof.Rows
section
variable{k:Nat}{f C:`e}{ds:`J}{E:XK}{m:Str}{p:Pos}{t:TA}
def Ta0{pins:`aC}{σ:St}{H:Hp}{s:`u}{Q:VK}{us:`J}{vs:`V}(F:`Un)(hr:`nQ)(hb:`lF)(hd:`lG)
  (I:`A) (r:`tM) (h:sp `k0 H Q `Um):`aMD:=by
 apply `ajj;apply `aME
 refine `aMF _;skip;cases r with
 | error ex =>
  apply `aZW;done;exact `aZX I.call' I.fpW
 | ok fl =>
  cases fl with
  | ret u=>done;exact I.after hq
  | next=>done;apply `iH
  | brk=>done;apply `iH
  | cont=>done;apply `iH
def Nd0{pl:`iE}(he:`tU)(c:`tS)(hm:`Ri)(F:`Un)(hr:`nQ)(hb:`lF)(hd:`lG)(ha:`ql)
  (hst:`dB) (hpl:`eU)
  (ht:`F (`aMK=(do
   let ov ← `oC
   `nR
   let (f,`iI) ← `qm
   `Rj)) Aa) :
  PE X `acF (`bu ta λx H1=>∃a dx fs,`eu/\`F2/\`F0/\`aMz `Um):=by
 apply `bm;refine `Rk λu s1 hq206=>?_;skip;let#[x,H1,I1,rx,a,dx,fs,ex,ea,l,q]:=hq206;subst ex;apply `qk;done;apply `Rl;refine `aML λus s2 hq207=>?_;let#[vs,H2,I2,r,q2]:=hq207;refine `aMM;exact Ta0 (us:=`a?::us) (vs:=`a?::vs) F hr hb hd I2 `aMN q2
def Rd0{pl:`iE}(he:`tU)(c:`tS)(hm:`Ri)(F:`Un)(hr:`nQ)(hb:`lF)(hd:`lG)
  (ht:`F (`a1!=(do
   let ov ← `oC
   `nR
   let (f,`iI) ← `qm
   `UX)) Aa) :
  PE X `adX (`bu ta (`a1? `Um)):=by
 apply `bm;refine `Rk λu s1 hq208=>?_;skip;apply `a2a hq208;subst ex;apply `qk;done;apply `Rl;exact `a2b (Ta0 (us:=`en) (vs:=`en) F hr hb hd (I1.closed cl) `akh q)
def Qo0{ae:`I}{k:Nat}{C f:`e}{fd:`fY}{tl:`J}{np cpos pos:Pos}{t:TE}(hm:`an5=`vA)(ri:∀h:`D,X.K.In h->XC.Ri h C tl f)(cl:`aBS)(hbase:`a_l)
  (F:`lH `cD X.w X.K `cm `fe CX0 k f fd `hs (Yd0 C)) (hb:`A8 X.K fd `hs []) (hr:`ajm) (hcalm:`ed) (hg:`adL) (ha:PE X ae t)
  (hd:`Up)
  (he:`bcC) (hbt:`bcD) :
  PS X `bcE (λ_ σ H=>t σ H λv H1=>∃n:Int,v=`eH/\`zo/\∀dx,`aji->nw0 X σ (upd H1 dx `x0) C `Mh):=by
 intro pins s σ H D I a2;rw[arm_exec_Raise];simp only[evalOpt,`ix];refine A0 (Y3 (Qq0 (C:=C) (tl:=tl) `gH (I.ok.hd hcalm) (A0 (D0 (wpAny_Call_ofName (`ahY ?_)) (λv s₃ h₃=>A0 (Y3 (A1 h₃))) `tF))));rw[he,hbt];unfold callWith;refine A0 (D3 (C90 (P8 (thn (`b2 ha _ a2) λu s1 hq209=>?_))));skip;let#[v,H1,I1,r1,n,a1,hn,wish]:=hq209;done;refine b5 (A0 (Y3 ?_));skip;subst a1;let#[tk,rfl]:=r1;let#[nm,q,N,bs,a8,sn,sub,ab,b0,dd,k0,k1,k2,k3,k5,a7,hC]:=(`aZ6).obj;let#[hh,g,d,t',os]:=s1;have fl:(`OA:`af (`C×`K!)).any `eE=`m:=rfl;done;simp only[fl];apply `j6 wpAny_keeperOf_exc hC;refine A0 (XC.Rl0 (ri _ `DM) (λh' e mk=>?_) (`CH ((1:Nat)<=`W)));have new:=mk.new;have I2:`a8 H1 `XU:=`KJ (t':=t') mk.keeps;have fp:FpW X `s H1 e:=I1.fpW new (I1.dead new);have Y:=Nk0 mk;let#[oe,_,Z,_]:=id Y;have I3:`a8 `bcF `XU:=I2.track fp Y #[oe,Z] `an7;have O:H1 e=`f:=fp.1;have sp:Yd0 C `an8 `bcF (λv H'=>`xT/\∃dx,`NA/\`aji/\H'=`aft H1 `x0) `yK :=
  #[e,n,rfl,d8,hn,λdx n1 n2=>#[rfl,dx,n1,by rw[j4 n1] at n2;exact n2,by rw[Jn0]]]
 have vals:`bO [V.ref e,`vH n] `XV:=`aa rfl (`aa `aor `R);have bd:=hb `XU `XV I3.kIn rfl;rw[`cg] at bd;refine P2 (K2 (`yE _ `g5 `XU _ #[`XV,[]] `XV `an8 _ `yK (hr.make C _ _) (I3.env0.make C _ _) bd vals sp) `yJ);skip;cases r with
 | error ex=>done;exact hq.elim
 | ok fl =>
  cases fl with
  | next=>done;apply `iH
  | brk=>done;apply `iH
  | cont=>done;apply `iH
  | ret u =>
   let#[v,H2,I4,ru,a6,dx,n1,n2,a4]:=I3.after hq;subst a6 a4;obtain rfl:u=`aj:=ru;have U:upd (upd H1 e `at?) dx `x0 e=`c `at?:=by rw[j4 (A9 n1),d8]
   let#[J,_,_]:=I4.hok e _ U;done;refine#[rfl,A0 (D3 (v0 (A1 #[e,`r?,rfl,cl _ I4.kIn,J,?_])))];skip;have I5:`a8 (upd H1 dx `x0) s':=I4.forget U (`bcG) λb hb=>by
    apply `iN dx
    ·subst z;rw[d8,d8]
    ·rw[j4 z,j4 z,j4 hb]
   let#[a3,a5,g1,g2,g3,g4,g5,g6,g7]:=J;done;exact wish dx n2 `s s' e I5 #[a3,a5,g1,g2,g3,g4,g5,#[`bcG,fp.2],_,g6,`mh]
universe zz
universe L2
namespace DL
open Spec PyProof.Rows L2
inductive DXB where
 | ok (r b':D)|ex (c:Str) (n:`aE) (b':D)
inductive RXB where
 | ok (r:ResB)|ex (c:Str) (n:`aE) (δ:Ds)
abbrev GZB:=Ds->`aH RXB
def Bu0(X:Cx)(H₀:Hp)(B₀:BS)(D:Ends):RXB->Prop
 | .ok r=>Kp0 X.K `ae `ac D r
 | `Ur=>`a_p
def tXB(X:Cx)(H₀:Hp)(B₀:BS)(δ:Ds)(G:GZB):TS:=`SO `D' Bu0 X
structure PSXB(X:Cx)(st:`a4)(G:GZB):Prop where
 mk::go:`io PS st `bcH
structure PSsXB(X:Cx)(st:`b7)(G:GZB):Prop where
 mk::go:`io PSs st `bcH
def sw0(G:GZ):GZB:=fun δ=>match G δ with
 | `nv=>`nv
 | `nw=>`nw
 | _=>`f
def Wd0(G:GSB):GZB:=`a_m
def Zn0:GZB:=`a_n
def uz0(G1 G2:GZB):GZB:=fun δ=>match `fc with
 | `nv=>`v'
 | r=>r
def o00(gt:GTX)(Ga Gb:GZ):GZ:=`apE
def qp0(c:Str)(g:GE):GZ:=fun δ=>`lV λd=>match d with
 | `eH=>`aW `zo (.ex c `MD δ)
 | _=>`f
section
variable{c ae:`I}{st:`a4}{as bs:`b7}{Gz Za Zb:GZ}{Gs:GSB}{G1 G2:GZB}{gt:GTX}{g:GE}
open T in
theorem T50(h:PSX X st Gz):PSXB X st (sw0 Gz):=.mk λH₀ B₀ δ pins s σ H D I hq210=>by
 apply `hC hq210
 unfold sw0 at e;split at e
 ·rename_i δ' e1
  cases e;apply `UH
 ·rename_i c n δ' e1
  cases e;apply `UH
 ·cases e
theorem Eo0(h:PSB X st Gs):PSXB X st (Wd0 Gs):=.mk λH₀ B₀ δ pins s σ H D I hq211=>by
 apply `hC hq211
 unfold Wd0 at e;cases e1:Gs δ with
 | none=>rw[e1] at e;cases e
 | some r1 =>
  rw[e1] at e;cases e;apply `UH
theorem bs0:PSsXB X [] Zn0:=.mk λH₀ B₀ δ pins s σ H D I hq212=>by
 apply `hC hq212
 cases e;apply `SR
theorem lu0(h1:PSXB X st G1)(h2:PSsXB X `aV G2):`SS PSsXB uz0:=.mk λH₀ B₀ δ pins s σ H D I hq213=>by
 skip;apply `hC hq213
 unfold uz0 at e;cases e1:`fc with
 | none=>rw[e1] at e;cases e
 | some r1 =>
  rw[e1] at e;cases r1 with
  | ex c n δ'=>cases e;done;apply `qJ
  | ok r1 =>
   cases r1 with
   | nx δ'=>done;apply `an?
   | rt d δ'=>cases e;done;apply `qJ
theorem T00(hc:`apF)(ha:PSsX X as Za)(hb:PSsX X bs Zb):PSX X `bcI (o00 gt Za Zb):=.mk λH₀ B₀ δ pins s σ H D I hq214=>by
 apply `aX hq214
 unfold o00 at e1;apply `us;apply `apG;cases hq:q.1 with
  | true=>apply `HH;apply `qP
  | false=>apply `HI;apply `qP
open T in
theorem ft0{r:`e}{k:Nat}{np cpos:Pos}(T:IniC `cD X.w X.K `cm `fe cn r k)(hr:`qC)(hk:k+1<=m)(ha:PD X ae g)(hcalm:`iR)(hg:`a_d)
  (hd:`Up)
  (he:`bcC) (hbt:`bcD) :
  PSX X `bcE (qp0 cn g):=.mk λH₀ B₀ δ pins s σ H D I hq215=>by
 let#[r',en,e1,kk]:=hq215
 unfold qp0 at e1;apply `aZ;apply `UU;split at e1
 ·rename_i n
  split at e1
  ·rename_i hn
   cases e1;let#[C,f,fd,a,ri,F,hb]:=T.ex;refine Qo0 a.mg ri a.cl Lg0 F hb `iQ hcalm hg `zz hd he hbt `s s σ H D I #[_,env,e2,`EV];rw[Y0] at r1;refine#[n,r1,hn,λdx z=>?_];have J:=`apB;exact kk σ _ C `Mh (J.grow (W8 z)) a.ns #[dx,B,rfl,nn0 J.same z,d8,b1,b2,(`kB).same (W8 z),λy=>`zq dx y z]
  ·cases e1
 ·cases e1
universe zz
def j90(K:`x)(j:Nat)(f:`f9):Sp:=λvs H Q E=>∃(B:BS) (ds:`i) (us:`V) (p:`e) (b:D) (r:DXB),`nZ/\B p/\vs=`aoI/\`un/\`aoJ/\`aoK/\`sz=`du/\match r with
 | `pS=>∀v H',`zr->`aoM->`awz
 | `q8=>∀C od H',`zr->`aoM->`a_s
def EndBX(G:GZB)(δ:Ds)(j:Nat)(p:`e):DXB->Prop
 | .ok r b'=>(`zw δ (`i7 `aoO))∨(r=`v/\`zw δ `nv)
 | `q8=>`zw δ `nw
def gm0{δ:Ds}{p:`e}{b:D}(e1:`la=`aoS)(e2:`la=`ZE):b=b':=by
 rw[e1] at e2;have e8:=A3 e2;injection e8 with e9
 unfold v5 at e9;injection e9 with e10
 exact`a1p
def EndBX.one{G:GZB}{δ:Ds}{p:`e}{r r':DXB}(h:`OB δ r)(h':`OB δ r'):r=r':=by
 skip;cases r with
 | ok d b =>
  cases r' with
  | ok d' b' =>
   done;apply `a1q
   ·have e5:=A3 e3
    injection e5 with e5
    injection e5 with e6 e7
    subst e7;rw[e6,`aua]
   ·cases e3
   ·cases e3
   ·have e5:=A3 e3
    injection e5 with e5
    injection e5 with e7
    subst e7;rw[rn,J,`aua]
  | ex c n b' =>
   let#[δ2,e3,e4]:=h';done;rcases h with⟨δ1,e1,e2⟩|⟨rn,δ1,e1,e2⟩<;>rw[e1] at e3<;>cases e3
 | ex c n b =>
  let#[δ1,e1,e2]:=h;cases r' with
  | ok d' b'=>done;rcases h' with⟨δ2,e3,e4⟩|⟨J,δ2,e3,e4⟩<;>rw[e1] at e3<;>cases e3
  | ex c' n' b' =>
   let#[δ2,e3,e4]:=h';rw[e1] at e3;have e5:=A3 e3;done;injection e5 with h1 h2 h3
   subst h1 h2 h3;rw[`aua]
def i90(n:Nat)(N:`h)(j:Nat)(G:GZB)(b:D)(ds:`i):`aH DXB:=(`a1m `bcJ)
def U70{G:GZB}{b:D}{r:DXB}(h:`bcK):`n'/\`bcL:=by
 unfold i90 at h;split at h
 ·rename_i hh
  have e:=A3 h;have:=x8 hh.2;apply `a3 e;exact`a1o
 ·cases h
def iy0{G:GZB}{b:D}{r:DXB}(hl:`n')(h:`bcL):`bcK:=by
 have hh:`n'/\`bcJ:=#[hl,r,h];unfold i90;rw[dif_pos hh];exact C7 `c (`a1r)
section
variable{P:`ak}{w:`O}
open T in
def Dt0{st:`a4}{k:Nat}{G:GZB}(F:`y1)(S:`yL)(hjp:`jg)
  (body:`LG PSsXB `a_u) :
  `qK `ef ps (j90 K j (i90 `aJ N j G)):=by
 let#[oc,od,kV,doc,pm,an,cdv,ct,a4,rfl,lk,a1]:=F.ex;refine Ti0 lk a1 S `aEn (λA outer s H vs Q E hr zQ=>?_)
 ·let#[B,ds,us,p,b,r,_,_,hv,_,hr,_,h,_]:=zQ;apply `a1d
  have:=(U70 h).1;lia
 ·let#[B,ds,us,p,b,r,hb,hp,hv,hj,rs,ro,h,q]:=zQ;subst hv
  apply `a1f;have en:=`a1g;have he:=(U70 h).2 p;cases r with
  | ok r b' =>
   rcases he with⟨δ',e,e'⟩|⟨rn,δ',e,e'⟩
   ·apply `a1h
    apply `aoQ;apply `Hq;apply `Hr;apply `Hs;apply `a1i
   ·apply `a1j
    apply `a1k;apply `Hq;apply `Hr;apply `Hs;apply `a1l
  | ex c n b' =>
   let#[δ',e,e']:=he;refine#[_,en,e,fun σ' H' C od' en' nn x pins s1 ea I lie=>?_];refine A0 (I.noted rfl lie λh' I' Y=>?_);let#[B',c1,c2,J,xd]:=xdB en' x;apply `Hq;apply `Hr;apply `Hs;have xs:XdS H H' od' n:=by
    cases n with
    | none=>trivial
    | some k =>
     let#[dx,B2,q1,q2,q3,_]:=x;let#[a2,U,Z,a3]:=xd;obtain rfl:dx=a2:=`a2H q1
     refine#[dx,q1,?_,q3]
     by_cases z:dx=a
     ·subst z;exact `L hB Z
     ·simpa only [z,`hp] using q2
   refine`a_w Y.mono (q C od' H' (oe0 `Pq) `afw nn xs);rcases `anZ with y|y
   ·exact `a_x
   ·exact y
universe zz
structure FnTX(P:`ak)(w:`O)(K:`x)(mg:`a6)(base:`D)(c m:Str)(k:Nat)(ps:`h)(F:`h)(f:`f9):Prop where
 ex:∃C fa fd,`qK k ps (j90 K 0 f)/\`a2A
def k60(f:`f9)(b:D)(ds:`i):`Y2:=match `sz with
 | `bcM=>`bcN
 | _=>`f
def Rq0{f:`f9}{b:D}{q:D×D}(h:k60 f b ds=`f'):`sz=`c (.ok q.1 q.2):=by
 unfold k60 at h;split at h
 ·rename_i e;cases h;exact e
 ·cases h
section
variable{P:`ak}{w:`O}
def Hp0{k:Nat}{f:`f9}(F:`qK k ps (j90 K j f)):`Z k ps (spB K j `aub):=by
 have cv:∀{vs H Q E},spB K j `aub vs H Q E->j90 K j f vs H Q `yK:=λ{vs H Q E} #[B,ds,us,p,b,b',r,hb,hp,hv,hj,rs,ro,h,q]=>#[B,ds,us,p,b,.ok r b',hb,hp,hv,hj,rs,ro,Rq0 h,q]
 refine#[λvs H Q E h=>`EP vs H Q _ (cv h),λA outer s H args us vs Q E hr e0 hb r sp=>K2 (`yE A `da s H args us vs Q _ hr e0 hb r (cv sp)) `yJ];skip;cases r with
 | error ex =>
  let#[_,_,_,_,_,_,_,_,_,_,z]:=hq;done;exact `eq
 | ok fl =>
  cases fl with
  | ret u=>done;exact hq
  | next=>done;exact hq
  | brk=>done;exact hq
  | cont=>done;exact hq
def FnTX.plain{m:Str}{k:Nat}{f:`f9}(C:FnTX P w K mg `au c m k ps F f):FnT P w K mg `au c m k ps F `aub:=by
 let#[C',fa,fd,Fo,h]:=C.ex;exact#[C',fa,fd,Hp0 Fo,h]
universe zz
def vw0(i:Nat)(c:Str)(F:`h)(gA:GA)(f:`f9):`Ak:=fun δ=>`zx λb=>if vt0 c F b.1=`d then `t3 λds=>`aB7 λr=>match r with
 | `pS=>(`pS,`bcO)
 | `q8=>(`q8,`bcO) else `f
def pg0(g:`Ak):GZ:=fun δ=>`auc λr=>match r.1 with
 | .ok _ _=>.ok (.nx r.2)
 | `MC=>`bcP
def Y80(g:`Ak):GZ:=fun δ=>`auc λr=>match r.1 with
 | .ok d _=>.ok (.rt d)
 | `MC=>`bcP
def tZT(X:Cx)(H₀:Hp)(B₀:BS)(δ:Ds)(g:`Ak):TE:=fun σ H Q=>∃r,`D'/\`az=`du/\match r.1 with
 | .ok d _=>`aVw X.K d
 | `MC=>∀H' C od,`hJ X.K H' r.2->`NC->XdX X.K `ae `ac H' σ r.2 od n->`axH
structure PZT(X:Cx)(e:`I)(g:`Ak):Prop where
 mk::go:`io PE e (tZT X `ae `ac δ g)
section
variable{gA:GA}{m:Str}{g:`Ak}
theorem Zw0(i:Nat){pl:`iE}{k:Nat}{f:`f9}(C:`bcQ)(hr:`zE)(hk:k<=n)(ha:`lR)(hN:`n0)(hv:`uo)(hd:`qL)(hcd:`up)
  (hst:`dB) (hpl:`eU)
  (ht:`F (`a2C=(do
   let ov ← `Ea
   `nR
   let (f,`iI) ← `qm
   `Rj)) Aa) :
  PZT X `adY (vw0 i c F gA f):=.mk λH₀ B₀ δ pins s σ H Q I hq216=>by
 skip;apply `gL hq216
 unfold vw0 at e1;apply `aZ;apply `bcR;apply `zy;split at e1
 rotate_left
 ·cases e1
 rename_i hfl;let#[d0,hi,a2]:=`n!;apply `UA;cases e3:`aoT with
 | none=>apply `b8;cases e1
 | some q =>
 apply `b8;let#[a,U,hB,ro]:=`pp;let#[h1,h2]:=`n? a2;let#[x,ns,as,sos,C',dx,fs,a8,w,a7,Z,a4]:=`apl;have a6:C'=Ca:=`bcS
 subst a6;apply `U9;done;refine`b2 (Nd0 (pl:=pl) `U' cl a3 Fo `iQ hb `R (aa0 `bv) hst hpl ht) Q (`U! U (`NM w.hd a7) a4);rw[c2];refine`aow;show j90 X.K 0 f `a2E H1 _ _;rw[`cg];refine#[B,ds,vs,a,bm.1,q,`zq,hB,rfl,`b3,r1,`bcT,e3,?_];cases q with
 | ok d b' =>
  cases e1;intro v H' hh Y rv;have O:`zs:=`UK;apply `bcU;exact `apm `bcV J
 | ex cn n b' =>
  cases e1;intro Cx od H' hh Y nn xx C3 q;cases q;have O:`zs:=`UK;apply `bcU;refine kk H' Cx od `bcV nn ?_;cases n with
  | none=>trivial
  | some n =>
   let#[a1,q1,x1,x2]:=xx;exact#[a1,B,q1,`a0F,x2,b1,b2,J,λz=>`zq a1 z x1]
theorem Og0(i:Nat){pl:`iE}{k:Nat}{f:`f9}(C:`bcQ)(hr:`zE)(hk:k<=n)(hN:`n0)(hv:`uo)(hd:`qL)(hcd:`up)
  (ht:`F (`a2F=(do
   let ov ← `Ea
   `nR
   let (f,`iI) ← `qm
   `UX)) Aa) :
  PZT X `adZ (vw0 i c F v8 f):=.mk λH₀ B₀ δ pins s σ H Q I hq217=>by
 skip;apply `gL hq217
 unfold vw0 at e1;apply `aZ;apply `bcR;apply `zy;split at e1
 rotate_left
 ·cases e1
 rename_i hfl;let#[d0,hi,a1]:=`n!;apply `a2G;cases e3:f bm.1 [] with
 | none=>apply `b8;cases e1
 | some q =>
 apply `b8;let#[a,O,hB,ro]:=`pp;let#[h1,h2]:=`n? a1;let#[x,ns,as,sos,C',dx,fs,a7,w,a6,Z,a4]:=`apl;have a2:C'=Ca:=`bcS
 subst a2;apply `U9;done;refine`b2 (Rd0 (pl:=pl) `U' cl a3 Fo `iQ hb `R ht) Q (`U! O `a2D a4);rw[c2];show j90 X.K 0 f `en H _ _;refine#[B,[],[],a,bm.1,q,`zF,hB,rfl,`b3,`lQ,h1,e3,?_];cases q with
 | ok d b' =>
  cases e1;intro v H' hh U rv;apply `bcW;exact `apm `bcX J
 | ex cn n b' =>
  cases e1;intro Cx od H' hh U nn xx C3 q;cases q;apply `bcW;refine kk H' Cx od `bcX nn ?_;cases n with
  | none=>trivial
  | some n =>
   let#[Y,q1,x1,x2]:=xx;exact#[Y,B,q1,nn0 `fs x1,x2,b1,b2,J,λz=>`zF Y z x1]
theorem Xn0(h:PZT X e g)(hs:`ah9):PSX X `ah' (pg0 g):=.mk λH₀ B₀ δ pins s σ H D I hq218=>by
 skip;apply `aX hq218
 unfold pg0 at e1;cases e2:`az with
 | none=>apply `am;cases e1
 | some q =>
  apply `am;let#[q1,q2]:=q;cases q1 with
  | ok d b'=>cases e1;done;exact `TJ `l_ #[_,en,e2,λv H' ev=>k σ H' ev.s]
  | ex c n b'=>cases e1;done;exact `TJ `l_ `bcY
theorem N40(h:PZT X e g):PSX X `QU (Y80 g):=.mk λH₀ B₀ δ pins s σ H D I hq219=>by
 skip;apply `aX hq219
 unfold Y80 at e1;cases e2:`az with
 | none=>apply `am;cases e1
 | some q =>
  apply `am;let#[q1,q2]:=q;cases q1 with
  | ok d b' =>
   cases e1;done;refine `t8 `l_ #[_,en,e2,`ay5];apply `ob;exact `a3M
  | ex c n b'=>cases e1;done;exact `t8 `l_ `bcY
universe zz
def sz0(gt:GTX)(Ga Gb:GS):GS:=`apE
def zm0(gx:GX)(gb:GE)(f:`a7):GX:=`ih `y8 ((gb r.2).bind λy=>(f r.1 y).map `apC)
def de0(ga gb:GX):GX:=fun δ=>`bcZ λr=>match r.1 with
 | `jn=>gb r.2
 | `rz=>`c (`rz,r.2)
 | _=>`f
section
variable{a c:`I}{rest:`bM}{as bs:`b7}{gt:GTX}{ga gb:GX}{g:GE}{Ga Gb:GS}
theorem ma0(hc:`apF)(ha:`aRL)(hb:`aRM):`SV PSD sz0:=.mk λH₀ B₀ δ pins s σ H D I hq220=>by
 apply `aX hq220
 unfold sz0 at e1;apply `us;apply `apG;cases hq:q.1 with
  | true=>apply `HH;apply `qP
  | false=>apply `HI;apply `qP
theorem mm0{op:`gB}{rr:R2}{f:`a7}(ho:`Vj)(hf:`Vk)(ha:`XW)(hb:PD X b g)(hm:`yW):PX X `qd `bc_:=.mk λH₀ B₀ δ pins s σ H Q I hq221=>by
 skip;apply `aX hq221
 unfold zm0 at e1;apply `us;let#[y,e3,e1]:=`cG;cases e4:f q.1 y with
 | none=>rw[e4] at e1;cases e1
 | some d =>
 rw[e4] at e1;cases e1;done;refine `bc0 Uv0
 ·let#[B,env,kk]:=h
  apply `bc1
 ·apply `ob
  refine`bc2;exact `bc3 d (k w H3 (`xY `bc4 c1 c2 (`hM `EE) J))
open T in
theorem wr0{op:`gB}{rr:R2}{f:`a7}(ho:`Vj)(hf:`Vk)(ha:`XW)(hb:PD X b g)(hm:`yW):`apH `bc_:=.mk λH₀ B₀ δ pins s σ H Q I hq222=>by
 apply `aX hq222
 unfold X3 zm0 at e1;cases e2:`e8 with
 | none=>apply `am;cases e1
 | some q =>
 apply `Hv;cases e3:g q.2 with
 | none=>apply `b8;cases e1
 | some y =>
 rw[e3,`p] at e1;cases e4:f q.1 y with
 | none=>rw[e4] at e1;cases e1
 | some d =>
 apply `apI;split at e1
 rotate_left
 ·cases e1
 rename_i t hd;have hd:d=.bl t:=hd;subst hd;cases e1;refine `bc0 mk0
 ·let#[B,env,kk]:=h
  apply `bc1
 ·apply `ob
  refine`bc2;refine `bc3 _ ?_
  rw[V1] at J;exact#[t,J,k H3 `bc4]
theorem Or0{op}(h:`XW):PX X `ah3 gx:=`Vi Ql0
theorem P30(ha:PX X a ga)(hb:PX X `yr gb):PX X `ys (de0 ga gb):=.mk λH₀ B₀ δ pins s σ H Q I hq223=>by
 apply `aX hq223
 unfold de0 at e1;apply `us;refine`b2 (Rh0 `zv `Pu) Q `bc5;apply `ob;split at e1
 ·rename_i hq
  rw[hq,V1] at rv;exact#[`d,rv,#[r,ev.s,e1,k]]
 ·rename_i hq
  rw[hq,V1] at rv;cases e1;exact#[`m,rv,k _ _ (`xY ev.s c1 c2 env `wj)]
 ·cases e1
universe zz
universe DL
namespace Qk
open DL W Rk
open Bt (J7 U6 xp0 zk0 wk0 Q7 yo0 z80 xg0 O6 wm0 zi0 yx0 N8 vn0 y80)
section
def v40:GZB:=(uz0 (sw0 (o00 (y20 `EG)
 (z20 `XX
 t90)
 t90))
 (uz0 `bc6
 Zn0))
def ur0:`h:=`dh
def M5:`f9:=`bc7
def q60:GS:=(u5 `bc8
 (u5 (ifD `bc9
 (u5 `bc'
 t7)
 t7)
 (u5 `bc!
 t7)))
def q30:`h:=`bc?
def wl0:`N:=`bda
def td0:GS:=(u5 `aud
 (u5 `aue
 (u5 `auf
 (u5 (ifD `aug
 (u5 `bdb
 t7)
 t7)
 (u5 (ifD `bdc
 (u5 `bdd
 t7)
 t7)
 (u5 (ifD `bde
 (u5 `bdf
 t7)
 t7)
 (u5 (ifD `bdg
 (u5 `bdh
 t7)
 t7)
 (u5 `bdi
 t7))))))))
def q20:`h:=`bdj
def wn0:`N:=`bdk
universe zz
universe Qk
namespace Qk
open DL W Rk Rm
open Bt (Y8 m5 j8 Z9 O8 Q4 X6 U9 d7)
def lc0{G1 G2:GZB}{δ:Ds}{r:`aH RXB}(h:`bdl)(k:`Tg):`auh=r:=by unfold uz0;rw[h];exact k
def f90{G1 G2:GZB}{δ:Ds}{d:D}(h:`fc=`bdm):`auh=`bdm:=`bdn
def lo0{G1 G2:GZB}{δ:Ds}{n:`aE}(h:`bdo):`auh=`nw:=`bdn
def rv0{G1 G2:GZ}{δ:Ds}{r:`Uq}(h:`bdl)(k:`Tg):`aui=r:=by unfold z20;rw[h];exact k
def tx0{G1 G2:GZ}{δ:Ds}{n:`aE}(h:`bdo):`aui=`nw:=`bdp
def ds0{G1 G2:GZ}{δ:Ds}{d:D}(h:`fc=`E?):`aui=`E?:=`bdp
def jz0{δ:Ds}(h:`UI):okZ G δ=`nv:=by unfold okZ;rw[h];rfl
def oi0(p:`e)(S:RS)(δ:Ds)(hc:`q9):qp0 `e3 `aah `bq=`c (`OC `bq):=by
 have hn:(`_I).natAbs.log2<1920:=by
  show S.count.log2<1920;have:`gd<2 ^ 1920:=N3 hc `dj
  by_cases z:`gd=0
  ·rw[z];decide
  ·exact(Nat.log2_lt z).mpr `E
 unfold qp0;rw[show plN `aGt `bq=`a79 from `bdq,`p];simp only[];rw[`Q hn]
def GB1:GZ:=(z20 (o00 (orT `auj `XY)
 (z20 `XX
 t90)
 t90)
 (z20 `bdr
 (z20 `bds
 t90)))
def Vo0(p:`e)(S S1:RS)(s1:Sl)(b:Int)(hb:`iX)(t:`C)(ht:`Kr=`c (.bl t,R S1)):orT `auj `XY `pT=`c (!t,`bdt):=by
 have e1:`Eq `agd `pT=`c (`m,`pT):=by
  unfold DL.liftT zw0;rw[show ob `agc `pT=`eK from d7 (I30 b hb)];rfl
 unfold orT;rw[e1,`p];show `aF?=_;rw[`dY];unfold y20 X3;rw[z70 (ds:=`o8) `kP ht];rfl
def Eb0(p:`e)(S S1:RS)(s1:Sl)(b:Int)(hb:`iX)(ht:`Ic)(hl:`Id)(hc:`z4) :
  GB1 `pT=`i7 (.nx `auk):=by
 refine rv0 (δ':=`bdt) (by unfold o00;rw[Vo0 p S S1 s1 b hb `d ht];rfl) ?_;refine rv0 (jz0 (Qm0 p S1 _)) (rv0 (δ':=`auk) (jz0 ?_) rfl);unfold Z5;rw[z70 (S:=`bdu) (ds:=[]) rfl (Ws0 `bdu hl hc)];rfl
def Ef0(p:`e)(S:RS)(s1:Sl)(b:Int)(hb:`iX)(ht:`Xh)(hc:`q9) :
  GB1 `pT=`bdv:=by
 refine `XZ;unfold o00;rw[Vo0 p S S s1 b hb `m ht,`p];show z20 _ t90 _=_;exact `bdw
def Zt0{p:`e}{S:RS}{s1:Sl}{b:Int}{l:`i}(hb:`iX)(ht:`Ic)(hl:`Id)(hc:`z4)(s2:Sl) :
  `bdx=`EF l `auk:=by
 have e:`bdy:=rfl;show `uD `aeL=_;rw[e,`p,Eb0 p S S1 s1 b hb ht hl hc]
def W00{p:`e}{S:RS}{s1:Sl}{b:Int}{l:`i}(hb:`iX)(ht:`Xh)(hc:`q9)(s2:Sl) :
  `bdx=`bdv:=by
 have e:`bdy:=rfl;show `uD `aeL=_;rw[e,`p,Ef0 p S s1 b hb ht hc]
def qg0(S:RS)(hw:`uF)(hl:`uH)(h:∀q∈`cJ,`ll):`bdz:=by
 refine iy0 rfl λp=>`n `bdA
 show v40 `dR=_;refine lc0 (δ':=`dR) ?_ (f90 ?_)
 ·have t:`bdB=`c (`m,`dR):=by
   unfold y20 X3;rw[`Ww,hw];rfl
  unfold sw0 o00;rw[t];rfl
 ·unfold Wd0
  rw[show U8 `aGu `dR=`c (.rt (`aeM) `dR) from X6 (In0 S hl h p)];rfl
def iv0(S:RS)(hw:`l9)(hc:`q9):`bdC:=by
 refine iy0 rfl λp=>`bdA
 show v40 `dR=_;refine lo0 ?_;have t:`bdB=`c (`d,`dR):=by
  unfold y20 X3;rw[`Ww,`bG hw];rfl
 unfold sw0 o00;rw[t,`p,`bl];unfold z20;rw[oi0 p S [] hc]
def Md0(s0:Sl):`bdD
 | `pS=>(`pS,`bdE)
 | `q8=>(`q8,`bdE)
def s50{f:`f9}{gA:GA}{S:RS}{s0:Sl}{r:DXB}(hA:gA `bdF=`ov)(hf:`tv=`du):vw0 1 `aM t8 gA f `bdF=`c (Md0 s0 r):=by
 have h:`E7:=`c2
 unfold vw0;apply `We;rw[`bS,hA,`p];apply `Wf;rw[hf];cases r<;>rfl
universe Qk
namespace Qk
open DL W Rk Rm
def X40{N:Nat}(p:`XF):`ll:=by
 skip;apply `atQ;rw[`cg] at e;subst e;have hl:=`bbc;have hf:=f.len;done;refine#[hk,`bbd,`q3,f.nrs]
 ·rw[h0] at f
  let#[l,e1,_]:=bo0 n f;rw[e1];intro d hd;apply `II;exact`bbS
 ·rw[h3] at f
  intro z;rw[z] at f;cases f
 ·have:=f.trs
  exact(show ∀{l:`i},`W9->∀d∈l,DL.tr d=`d from λ{l} h=>by
   induction l with
   | nil=>exact λd hd=>by cases hd
   | cons a l ih =>
    have h:(DL.tr a&&trs l)=`d:=h;apply `qI;intro d hd;apply `oj
    ·exact h.1
    ·exact ih h.2 d hd) `E d hd
universe Qk
namespace Ta
open DL W K22
def N20(xs:`i)(n:Nat):cutD xs `f `OD=`BT:=by
 unfold cutD;show (`jq 0).take (sIx `_ `_ `OD - 0)=_;rw[`a9D,Nat.sub_zero];unfold sIx;simp only[];rw[`H0,`c7]
 by_cases h:`aul
 ·rw[`H1 h]
 ·rw[`arB,`WM,`bdG]
def Lq0(xs:`i)(n:Nat):cutD xs `OD `f=`jq n:=by
 unfold cutD;show (`jq (`bdH)).take (`_ - `bdH)=_;unfold sIx;simp only[];rw[`H0,`c7]
 by_cases h:`aul
 ·rw[`H1 h,`a7V]
 ·rw[`arB,`yY,`a7X,`a7W]
def lx0{g gh:GE}{δ:Ds}{xs:`i}(h1:`IV)(h2:`bdI):U7 g V0 `aum δ=`c (`o `Fw):=by
 unfold U7 someO;rw[h1,h2,← N20];rfl
def rq0{g gh:GE}{δ:Ds}{xs:`i}(h1:`IV)(h2:`bdI):U7 g `aum V0 δ=`c (`o `ag4):=by
 unfold U7 someO;rw[h1,h2,← Lq0];rfl
universe Ta
namespace Ta
open DL W K22
def add_l{xs ys:`i}(h:`Nf):m8 `kw `rL=`aBj:=by
 simp only[m8];rw[`bS]
universe Ta
namespace Rk
open DL W Rm StrLaws
open Bt (d7)
open Bw (bs sg its two kn cnt tx Vb Gq)
open Km (lkd It Wb ix)
open K22 (lkv rel tgs nd)
open Gw (Gd Vk)
def Go0{p:Pt}(h:p.Ok):`Cy<=12:=by
 cases p with
 | text w=>exact `b3
 | row vs=>exact h.1
 | table qs=>show `bdJ;rw[`P];exact `q5 h
 | rcd c qs=>show `bdJ;rw[`P];exact `q5 h.2
def Kf0{v:D}(hn:n<=60)(h:Vk v `cl):Vb v/\Bw.Lk n v:=by
 skip;rcases Q40 h.ok with rfl|⟨i,rfl⟩|⟨i,rfl,hi⟩
 ·done;exact#[`v,λj e=>nomatch e]
 ·done;refine#[`g i ?_,λj e=>nomatch e]
  have h1:=h.bd i rfl;have h2:(10:Nat) ^ 60<`abH:=`ba
  exact E7 h1 h2
 ·have:=h.lk i rfl
  obtain⟨k,rfl⟩:∃k:Nat,i=`dV:=#[`fN,`G];done;exact#[.lk k `j,Bw.Kk0 `j]
structure Dw(ps:`aL)(pool:`h):Prop where
 len:1<=`aJ/\`arC
 pl:`arD<=60
 gd:∀p∈ps,`a7Y
def Dw.wf{ps:`aL}(h:Dw ps `bz):Wf ps (pool.filter `bdK):=by
 have hl:=`nX;have J:∀p∈ps,∀s∈`zS,`aq':=λp hp s hs=>by
  have ho:=`aun;cases p with
  | text w=>cases hs
  | row vs=>cases hs
  | table qs =>
   have hs:s∈`Mz++[]:=hs;rw[`cg] at hs;apply `bdL;exact PsOk.names ho q hq
  | rcd c qs =>
   have hs:s∈`Mz++[c]:=hs;rcases `dL hs with hs|hs
   ·apply `bdL
    exact PsOk.names ho.2 q hq
   ·rw[`fr hs];exact ho.1
 refine#[#[`G,`gz,λp hp v hv=>(`bdM).2],C0 (List.length_filter_le _ _) h.pl,λs hs=>(P4.mp hs).2,λp hp=>`aun,λp hp s hs=>P4.mpr #[(`abN).nms s hs,`bdN]];have ho:=`aun;refine#[?_,λv hv=>(`bdM).1,λs hs=>C0 (R70 (`bdN)) `j,Go0 ho];cases p with
 | text w=>exact`bbR
 | row vs=>exact C0 ho.1 `j
 | table qs=>exact C0 (`q5 ho) `j
 | rcd c qs=>exact C0 (`q5 ho.2) `j
universe Rk
namespace Qk
open DL W Rk Rm
def Ly0(c:Int)(h0:0<=c)(y:Int):∃x:Nat,x<=255/\wl0 [`A6,`g y]=`c `EI:=by
 skip;obtain⟨es,J⟩:∃es:`S,es=[y+1,128,129,0,2,3,7,255,y - 1,y+4,y+128,97,32,127]:=`ad;have hl:`ho=14:=`zX
 have e1:b8 `cL `aGv [`kL,.sh (`g y),.un]=`ar `bdO:=`zX
 by_cases h:c%2=0
 ·obtain⟨j,hj⟩:∃j:Nat,`b9=c/2%14:=#[(c/2%14).toNat,`G]
  have O:j<14:=`G
  obtain⟨z,hz⟩:∃z,es[j]?=`c z:=#[_,`Hl];done;refine#[(z%256).toNat,`G,`gO (o5 e1 `g6)];rw[O5 (by
   refine `auo;apply `asM;rw[`fT])]
  apply `uA;rw[o6 (x:=`gW) (y:=`aaI) (by
   rw[`aq? `aDF `g (c/2%14),← hj];show atI (es.map `bZ) `b9=_;rw[`asF,`c7,`ch,`df,hz];rfl) rfl]
  show `gN (z%256);congr 2;lia
 ·done;refine#[(c/2%256).toNat,`G,`gO (o5 e1 (`ce `bdO `nE))]
  ·rw[W5 (by
    refine `auo;apply `asM;rw[`fi])]
   rfl
  ·show `gN (c/2%256)
   congr 2;lia
structure Bn(m:`k)(k:Nat)(m':`k):Prop where
 by':∀b∈m',`hL
 len:`bdP
 ok:okr k 0 (zs m)->okr (k+`ef) 0 (zs m')
def me0(m:`k)(n:Nat):(zs m).take n=`bdQ:=by unfold zs;rw[`bdR]
def io0(m:`k)(n:Nat):(zs m).drop n=`bdS:=by unfold zs;rw[`arG]
theorem sr0(m:`k):(`y (zs m))=`ij:=`P _
def Gr0(m:`k)(n:Nat):(`E!).take n=(`bdQ).map `bZ:=`C_ `bdR me0
def O40(m:`k)(n:Nat):(`E!).drop n=(`bdS).map `bZ:=`C_ `arG io0
def c20(m:`k)(hb:∀b∈m,`hL)(hl:`bdT)(c:Int)(h0:0<=c)(k:Nat):∃m',Bn m k m'/\`aup:=by
 skip;have zz:`as8:=`av
 obtain⟨n,hn⟩:∃n:Nat,n=`ij+1:=`ad;obtain⟨a,ha⟩:∃a:Nat,`rK=c/8%`cl:=#[(c/8%`cl).toNat,`cN (E2 (c/8) (`bc (`cl≠0)))];have a7:a<n:=`cN (E9 (c/8) (`bc (`fg<n)))
 have a2:`bdU=`bdV:=by rw[`P,sr0]
 obtain⟨y,hy⟩:∃y:Int,(`aDI)[a]?=`ee:=#[_,B6 (by rw[`Y,sr0];simp;lia)];have a5:0<=`auq:=Int.ediv_nonneg `j `j;let#[x,hx,ex]:=Ly0 (`auq) a5 y;obtain⟨L,hL⟩:∃L:D,L=`vO:=`ad;have Z:∀s2 s3 s4:Sl,o2 `wT `cE m8 `bdW=`aeN:=λs2 s3 s4=>by
  rw[`aK `bdV `d? (`uL (`c `bdU=_) a2)];show `gN (`aDH+1);congr 2;lia
 have e8:∀s2 s3 s4:Sl,o2 `ap `oU m9 `bdW=`sO (c/8):=λ_ _ _=>rfl
 have a3:o2 `aGy `aQ ixD `bdX=`c (`g y):=by
  rw[o6 (x:=`o (`bdY `g)) (y:=`ry) (by
   rw[`aq? `vO `o (([0]:`S).map `g)];rw[Ta.add_l (by rw[`P,sr0];simp;lia),← `a2]) rfl]
  show atI (`bdY `bZ) `rK=_;rw[vy0 `j (by rw[`P,`Y,sr0];simp;lia) `v,`c7,`ch,`df,hy];rfl
 obtain⟨kk,a4⟩:∃kk:Int,kk=c%8:=`ad;have st:∀{G:GS} {r:`A2},G `bdZ=r->u5 `aud (u5 `aue (u5 `auf G)) `bd_=r:=λ{G r} hG=>by
  refine `iW `bdX (X5 (d:=`ry) (by rw[`bd0,Gw.Ku0 _ _ `j,ha]));refine o5 (δ':=[`EH,`kL,`xw,.sh `EI,.un]) (X5 (d:=`g `r4) (by
   rw[Z0 (ds:=[`g (`auq),`g y]) (`pO (`l `bd0 (Gw.Ox0 _ _ `bbm)) a3)];exact ex)) ?_
  refine `kl `_J (`aw a4) hG
 obtain⟨δ,hδ⟩:∃δ:Ds,δ=`bdZ:=`ad;have g0:gv 0 δ=`c (`vO):=`zP
 have g2:`aec=`bd1:=`zP
 have a6:o2 `aQ `cE m8 δ=`c (`g (`aq (a+1))):=`zP
 have gx:W0 `p1 δ=`c (`d1 (zs [x])):=`zP
 have tk:U7 `aA V0 `ty δ=`c (`d1 (zs (`EJ))):=by rw[`_K g0 g2,Gr0]
 have d0:U7 `aA `ty V0 δ=`c (`d1 (zs (`Cz a))):=by rw[`_g g0 g2,O40]
 have d1:U7 `aA `aGA V0 δ=`c (`d1 (zs (`X_))):=by rw[`_g g0 a6,O40]
 have U:∀{g h:GE} {p q:`k},`az=`c (`d1 (zs p))->h δ=`c (`d1 (zs q))->p.length+q.length<=14000000->o2 g h m8 δ=`c (`d1 (zs (p++q))):=λ{g h p q} h1 h2 h3=>by
  rw[`VN,Ta.add_l (by rw[`P,`P,sr0,sr0];lia),← `a2,mb0]
 have b1:`bd2<=`ij:=`N3
 have b2:(`y (`Cz a))=`ij - a:=B41;have b0:(`y `X_)=`ij - `wc:=B41;have a8:`bd2=min a `ij:=`d0;have byt:∀p:`k,(∀b∈p,b∈m∨b=x)->∀b∈p,`hL:=λp h b O=>by
  rcases h b O with z|z
  ·exact hb b z
  ·lia
 have J:∀(v:Int) (f:`a7) (t:`C),f `OE (`g v)=`c (.bl t)->ob (`hx `cH v f) δ=`c t:=λv f t h=>by
  refine `auo;rw[`aK `_J (`g v) (`zP)];exact h
 have a1:ltD `OE (`ri)=`nW (kk<4):=rfl;have Y:∀v:Int,eqD `OE (`g v)=`nW (kk=v):=λv=>rfl
 have fin:∀{m':`k},td0 `bd_=`c (.rt `azn)->`aup:=λ{m'} h=>V9 rfl h
 have sub:∀{p:`k} (n:Nat),(∀b∈p.take n,b∈p)/\∀b∈p.drop n,b∈p:=λ{p} n=>#[λb h=>i3 h,λb h=>l7 h]
 by_cases h4:kk<4
 ·done;refine#[`bd3++`X_,`aur,`IW]
  ·apply `aus
   ·apply `Xj
    ·exact `aut
    ·exact `q `Vp
   ·exact `bd4
  ·rw[`Y,`Y,`dK];lia
  ·have:=Uf0 ok a `wc `r4
   rw[me0,io0] at this;rw[mb0,mb0];exact `E
  ·rw[← hδ]
   refine d9 ?_;rw[O5 (J 4 ltD `d (`gy a1 h4))];exact `uM (U `bd5 d1 `Oe)
 ·have f4:∀Ga:GS,ifD `aug Ga t7 δ=`s0:=λGa=>`aw (W5 (J 4 ltD `m (by rw[a1,`bG h4])))
  have fe:∀(v:Int) (Ga:GS),kk≠v->ifD (ob (`hx `cH v eqD)) Ga t7 δ=`s0:=λv Ga h=>`aw (W5 (J v eqD `m (by rw[Y,`fi])))
  by_cases h5:kk=4
  ·done;refine#[`bd3++`Cz a,`aur,`IW]
   ·apply `aus
    ·apply `Xj
     ·exact `aut
     ·exact `q `Vp
    ·exact `n ((sub a).2 b z)
   ·rw[`Y,`Y,`dK];lia
   ·have:=Uf0 ok a a `r4
    rw[me0,io0] at this;rw[mb0,mb0];exact `E
   ·rw[← hδ]
    refine o5 `bd6 `g6;rw[O5 (J 4 eqD `d (`gy Y h5))];exact `uM (U `bd5 d0 `Oe)
  ·by_cases h6:kk=5
   ·done;refine#[`EJ++`X_,`aur,`IW]
    ·apply `aus
     ·exact `aut
     ·exact `bd4
    ·rw[`Y];lia
    ·have:=Hc0 ok a `wc
     rw[me0,io0] at this;rw[mb0];exact `E
    ·rw[← hδ]
     refine `auu `g6;rw[O5 (J 5 eqD `d (`gy Y h6))];exact `uM (U tk d1 `j)
   ·by_cases h7:kk=6
    ·done;refine#[`EJ,#[byt _ λb O=>`n (`azo b O),`G,λok=>?_],`IW]
     ·have:=wj0 (k:=k+1) (gr0 ok a) `lj
      apply `a3 me0;exact `E
     ·rw[← hδ]
      refine `auu (o5 `bd7 `g6);rw[O5 (J 6 eqD `d (`gy Y h7))];exact d9 (U0 tk)
    ·done;refine#[m,#[hb,`G,λok=>wj0 ok `lj],`IW]
     rw[← hδ];refine `auu (o5 `bd7 (o5 (fe 6 _ h7) `nE));rw[`pR [`vO] g0];rfl
universe Qk
namespace Sk
open DL W Rk
open Bt (J7 U6 xp0 zk0 wk0 Q7 yo0 z80 xg0 O6 wm0 zi0 yx0 N8 vn0 y80)
section
def zx0:GSB:=(o8 `bd8
 `K)
def xu0:`h:=`dh
def R8:`aP:=`bd9
def v20:GSB:=(o8 `bd'
 `K)
def ux0:`h:=`dh
def R0:`aP:=`bd!
universe zz
universe Sk
namespace DL
open Spec PyProof.Rows L2
def spE(K:`x)(f:`Al):Sp:=λvs H Q _=>∃(B:BS) (c:Str) (n:`aE) (a:`e) (d:D),`nZ/\vs=`en/\`ak7/\`bd?/\`t7
def u50(N:`h)(c:Str)(n:`aE):Ds:=`o9::`akH 1
def mkE(N:`h)(G:GS)(c:Str)(n:`aE):`dE:=(G `wM).bind λr=>match r with
 | .rt d=>`a9
 | _=>`f
def Gn0{n:`aE}{d:D}(h:mkE N G c n=`a9):`auv:=by
 unfold mkE at h;cases e:G `wM with
 | none=>rw[e] at h;cases h
 | some r =>
  rw[e,`p] at h;cases r<;>first|(cases h;rfl)|cases h
def G70{n:`aE}{d:D}(h:`auv):mkE N G c n=`a9:=by
 unfold mkE;rw[h];rfl
section
variable{P:`ak}{w:`O}
def b30{n:`aE}{d:D}(h:`wM[i]?=`px):`bW:=by
 unfold u50 at h;cases i with
 | zero=>cases h
 | succ i =>
  rw[`aoN,`qn] at h;apply `S5
def okE{st:`a4}{p:Str}{k:Nat}{f:`Al}{G:GS}(F:`y1)(S:`ax N [p] `rU)
  (body:`alG)
  (hf:∀c n d,`bd?->`auv):`Z `ef [p] (spE K f):=by
 apply `S6
 ·skip;let#[B,c,n,a,d,_,e,_]:=zQ;done;rw[e];rfl
 ·skip;let#[B,c,n,a,d,hb,e,r,h,q]:=zQ;done;refine#[_,`aEo `wM,?_]
  have en:`hf K H B H `ayN `wM:=by
   refine`a_v (`aEp `bea) λi J a h1 _=>`bea;rw[e];unfold L2.start u50;exact `aa #[a,rfl,r] `add
  exact#[_,en,hf c n d h,`aBf]
universe zz
def FnE(P:`ak)(w:`O)(K:`x)(mg:`a6)(base:`D)(x:Str)(k:Nat)(ps:`h)(f:`Al):Prop :=
 `alZ (`Z k ps (spE K f))
def Zp0(i:Nat)(f:`Al):GE:=fun δ=>match `b4 with
 | `PV=>f c n
 | _=>`f
section
variable{p:Pos}
open T in
def Pg0(i:Nat){k:Nat}{f:`Al}(C:`DZ FnE x)(hr:`qC)(hk:k<=m)(hg:`fo)(hdb:`aO)
  (hN:`n0) (hv:`uo) (hd:`qL) (hcd:`up)
  (he:`gm `zp (`a1x::`mq)) (hpl:`ki):PD X (`dl `ms `zp) (Zp0 i f):=by
 apply `Tc;exact .mk λB δ=>(`GG `iQ kp (O2 `kU zy0 he)).imp fun σ H Q hq224=>by
  apply `bi hq224
  unfold Zp0 at h;split at h
  ·apply `Hi
   let#[o,h1,a,rfl,r]:=`Hj;refine#[_,h1,?_];show spE X.K f (`en++[]) H _ E0;rw[`cg];exact#[B,c,n,a,d,`GN,rfl,r,h,k]
  ·cases h
universe zz
def iu0(gx gy:GX)(f:`a7):GX:=`ih `y8 (`qM (`c8 r.1=`d) ((gy r.2).bind λy=>(f r.1 y.1).map λd=>(d,y.2)))
section
variable{a:`I}{gy:GX}
open T in
theorem Qs0{op:`gB}{rr:R2}{f:`a7}(ho:`Vj)(hf:`Vk)(ha:`XW)(hb:PX X b gy)(hm:`yW):`apH (iu0 gx gy f):=.mk λH₀ B₀ δ pins s σ H Q I hq225=>by
 apply `aX hq225
 unfold X3 iu0 at e1;cases e2:`e8 with
 | none=>apply `am;cases e1
 | some q =>
 apply `Hv
 by_cases hfl:`c8 q.1=`d
 rotate_left
 ·rw[`ag hfl] at e1;cases e1
 rw[`Q hfl] at e1;cases e3:gy q.2 with
 | none=>apply `b8;cases e1
 | some y =>
 rw[e3,`p] at e1;cases e4:f q.1 y.1 with
 | none=>rw[e4] at e1;cases e1
 | some d =>
 apply `apI;split at e1
 rotate_left
 ·cases e1
 rename_i t hd;have hd:d=.bl t:=hd;subst hd;cases e1;refine mk0 ho `zv `Pu hm `s s σ H Q I (`pf λx H1 J=>#[y,J.s,e3,λz H2 ev=>?_]);let#[B1,b1,b2,U,rx]:=J.ex;let#[B',c1,c2,O,rv]:=ev.ex;refine hf H2 B' x z q.1 y.1 _ _ O.bad (ro0 hfl rx) rv e4 `Uj
 rw[V1] at r3;exact`a3Y
universe zz
universe DL
namespace Zk
open DL W Rk
open Bt (J7 U6 xp0 zk0 wk0 Q7 yo0 z80 xg0 O6 wm0 zi0 yx0 N8 vn0 y80)
section
def zx0:GSB:=(o8 `bd8
 `K)
def xu0:`h:=`dh
def R8:`aP:=`bd9
def v20:GSB:=(o8 `bd'
 `K)
def ux0:`h:=`dh
def R0:`aP:=`bd!
def to0:GZB:=(uz0 (sw0 (Yo0 `a4? `cL
 (z20 (o00 (orT (`zI `agd) `XY)
 (z20 `XX
 t90)
 t90)
 (z20 `bdr
 (z20 `bds
 t90)))))
 Zn0)
def kl0:`h:=[`c0, `Kd, "thing"]
def zr0:`f9:=i90 2 kl0 0 to0
def v40:GZB:=(uz0 (sw0 (o00 (y20 `EG)
 (z20 `XX
 t90)
 t90))
 (uz0 `bc6
 Zn0))
def ur0:`h:=`dh
def M5:`f9:=`bc7
def wb0:GZ:=(z20 `beb
 (z20 `bec
 (z20 (Y80 (vw0 1 `aM t8 v8 M5))
 t90)))
def ev0:`h:=[`Kd, "reader"]
def yv0:`Hg:=mkX 1 ev0 wb0
def q60:GS:=(u5 `bc8
 (u5 (ifD `bc9
 (u5 `bc'
 t7)
 t7)
 (u5 `bc!
 t7)))
def q30:`h:=`bc?
def wl0:`N:=`bda
def td0:GS:=(u5 `aud
 (u5 `aue
 (u5 `auf
 (u5 (ifD `aug
 (u5 `bdb
 t7)
 t7)
 (u5 (ifD `bdc
 (u5 `bdd
 t7)
 t7)
 (u5 (ifD `bde
 (u5 `bdf
 t7)
 t7)
 (u5 (ifD `bdg
 (u5 `bdh
 t7)
 t7)
 (u5 `bdi
 t7))))))))
def q20:`h:=`bdj
def wn0:`N:=`bdk
def m50:GS:=(u5 (b8 `tu (W0 (z7 (`mc `Y9) (z7 (`mc `Y') (`dz (`mc `Y!) (`mc `Y?))))))
 (u5 (b8 `tu (o2 `ap (W0 (z7 (`mc `Za) (z7 (`mc `Zb) (`dz (`mc `Zc) (`mc `Zd))))) m8))
 (u5 (ifD (G5 (ob (o2 `Bp `ap (yr0 `m))) (G5 (ob (`mc `u5)) (G5 (zw0 (ob (`mc `e3))) (zw0 (ob (exI 0 `wO `ajp))))))
 (u5 (Y4 `jM)
 t7)
 t7)
 (u5 (Y4 (atG 0 `aDP))
 t7))))
def l20:`h:=[`Ke, "_law_others"]
def y00:`Al:=mkE l20 m50
def ju0:GSB:=(o8 (`nq `iz)
 (o8 (Z7 (jt0 `wO 3 (z20 (pg0 (vw0 0 `aM t8 `d6 zr0))
 t90)
 (u5 (cpX 2 3)
 t7)))
 (o8 (ifB (ob (exN 2))
 (o8 (U8 (W9 `iz))
 `K)
 `K)
 (o8 (`ku (Zp0 2 y00))
 `K))))
def i20:`h:=[`BR, `aw3, `bed, `Ke]
def T6:`aP:=mkB 2 i20 0 ju0
def ub0:GS:=(u5 (b8 `tu `iz)
 (u5 (jt0 `wO 2 (z20 (jk0 `mx yv0)
 t90)
 (u5 (cpX 1 2)
 t7))
 (u5 (ifD (ob (exN 1))
 (u5 (Y4 `iz)
 t7)
 t7)
 (u5 (Y4 (Zp0 1 y00))
 t7))))
def n90:`h:=[`gj, `bed, `Ke]
def K5:`N:=mkF 1 n90 ub0
def jr0:GS:=(u5 (b8 `cL `c5)
 (u5 (R6 `bee
 (u5 `bef
 t7) 20000000)
 (u5 `aqq
 t7)))
def je0:`h:=[`gj, `azv, "_law_count"]
def wz0:`N:=mkF 2 je0 jr0
def ei0:GSB:=(o8 (Z7 (y40 (`X0 V0 `ty) `hy))
 (o8 (ifB (`Vx `c' `aQ)
 (o8 (ifX (`beg `c' neD (`zI (ob (yq0 isBool `cH))))
 (o8 `f8
 `K)
 `K)
 (o8 (`beh (`X0 (`eI `c') `ty))
 `K))
 `K)
 (o8 (ifX (`beg `iz q80 (X3 (zm0 (`X0 `ty V0) `c' neD)))
 (o8 `f8
 `K)
 `K)
 (o8 (`beh (`X0 (`eI `c') V0))
 `K))))
def d90:`h:=[`BR, `gj, `_h, `r9, `a5i]
def t50:`aP:=mkB 4 d90 0 ei0
def Ts0:GS:=(u5 (b8 `tu (oA (`dz `aA `g?) y80))
 (u5 (b8 `cL (oA `d6 ms0))
 (u5 (`bei (z7 `aA `afM))
 (u5 (b8 `hy (oA `aFH wn0))
 (u5 (`bei (`dz `aA `cE))
 (u5 (ifD `bej
 (u5 `bek
 (u5 `bel
 t7))
 t7)
 (u5 (b8 `nB (oA `rF K5))
 (u5 (su0 6 `aM P0)
 (u5 (b8 (gN 7) (o2 (o2 `c' `E2 m9) `aGK m7))
 (u5 (ifD `bem
 (u5 (sz0 `ben
 (u5 `md
 t7)
 t7)
 (u5 (sz0 `beo
 (u5 `md
 t7)
 t7)
 (u5 (b8 `nB `p0)
 t7)))
 (u5 (sz0 `bep
 (u5 `md
 t7)
 t7)
 t7))
 (u5 (su0 8 `aM P0)
 (u5 (sz0 `beq
 (u5 `md
 t7)
 t7)
 (u5 (ifD `ber
 (u5 (Y4 `Bp)
 t7)
 t7)
 (u5 (sz0 `bes
 (u5 `md
 t7)
 t7)
 (u5 `bet
 t7)))))))))))))))
def J10:`h:=[`oP, `J4, `aCo, `h5, `gj, `r9, `BR, `_h, "_law_beside"]
def h00:`N:=mkF 1 J10 Ts0
universe zz
universe Zk
namespace Zk
open DL W Rk Rm
open Bt (Y8 m5 j8 Z9 O8 Q4 X6 U9 d7)
open Qk (lc0 f90 lo0 rv0 tx0 ds0 jz0 oi0 GB1 Zt0 W00 qg0 iv0 s50 Md0 X40)
def Odd(d:D):Prop:=yg0 [d]=`nV
def Ih0{p:`e}{S:RS}{s1:Sl}{d:D}{l:`i}(hd:Odd d)(hc:`q9)(s2:Sl) :
  `EF (d::l) `CP=`beu:=by
 have e:`bev=`c `x!:=rfl;have t:orT `auj `XY `x!=`c (`d,`x!):=by
  unfold orT DL.liftT zw0;rw[show ob `agc `x!=`bI from d7 (`l (`bD [d]) hd)];rfl
 have g:GB1 `x!=`beu:=by
  refine `XZ;unfold o00;rw[t,`p];show z20 _ t90 _=_;exact `bdw
 show `uD `bev=_;rw[e,`p,g]
inductive Gw:RS->`i->RS->`C->Prop
 | nil (S:RS):Gw S [] S `d
 | tk {S S1 E:RS} {b:Int} {l:`i} {t:`C} (hb:`iX) (ht:`Ic) (hl:`Id) (hc:`z4) (hk:`aeo) (h:Gw `L1 l E t):Gw S `aeK E t
 | no {S:RS} {b:Int} {l:`i} (hb:`iX) (ht:`Xh) (hc:`q9):Gw S `aeK S `m
 | odd {S:RS} {d:D} {l:`i} (hd:Odd d) (hc:`q9):Gw S (d::l) S `m
def T30{p:`e}{S E:RS}{t:`C}(h:`IX):∀s2,∃s2',`EF l `CP=`c (if `nh then .ok (.nx `bew) else .ex `e3 `MB `bew):=by
 induction h with
 | nil S=>exact λs2=>`a9u
 | tk hb ht hl hc hk h ih =>
  intro s2;let#[s2',e]:=ih (.sh (`cV));refine#[s2',?_];rw[Zt0 hb ht hl hc s2];exact e
 | no hb ht hc =>
  intro s2;exact#[_,W00 hb ht hc s2]
 | odd hd hc =>
  intro s2;exact#[_,Ih0 hd hc s2]
def mq0{S E:RS}{t:`C}(h:`IX):zr0 `a' `pU=`c (`w `nh (.ok `v `i?) (.ex `e3 `MB `i?)):=by
 cases t with
 | true =>
  refine `bex
  apply `bey;refine `q #[rfl,`auw,?_,rfl];show to0 `agf=_;refine lc0 (δ':=`auw) ?_ rfl;unfold sw0 Yo0;apply `bez;rw[e];rfl
 | false =>
  refine `bex
  apply `bey;refine`yH `auw;show to0 `agf=_;refine lo0 ?_;unfold sw0 Yo0;apply `bez;rw[e];rfl
def Oe0{S E F:RS}{a b:`i}{t:`C}{u:`C}(h:Gw S a E u)(hu:u=`d)(h':Gw E b F t):Gw S `tg F t:=by
 induction h with
 | nil S=>exact h'
 | tk hb ht hl hc hk h ih=>exact `aux (ih hu h')
 | no _ _ _=>cases hu
 | odd _ _=>cases hu
theorem ln0:∀{a b:`i} {S E:RS},Gw S `tg E `d->∃F,Gw S a F `d/\Gw F b E `d
 | [],b,S,E,h=>#[S,`It,h]
 | x::a,b,S,E,h=>by
  have h:Gw S (x::`tg) E `d:=h;cases h with
  | tk hb ht hl hc hk h =>
   let#[F,h1,h2]:=ln0 h;exact#[F,`aux h1,h2]
def Jr0{S E:RS}{l:`S}(h:`d4 S l E):Gw S `a'V E `d:=by
 induction h with
 | nil S=>exact `It
 | cons hb ht hl hc hr th hk ih=>exact `aux ih
def I90{S E F:RS}(h1:Gw S l E `d)(h2:Gw S l F `d):R E=R F:=by
 have e:=(mq0 h1).symm.trans (mq0 h2);rw[`bl,`bl] at e;apply `z!
 injection e
def Byt(d:D):Prop:=∃b:Nat,`hL/\d=`hK
theorem Pz0:∀(l:`i) {S:RS},Gi S->`bbo->(∀d∈l,`beA)->`Bj (`gd+`cP)->∃E t,`IX/\Gi E/\(`nh->`m!=`gd+`cP/\∀d∈l,`ln)/\(t=`m->∃a b r,l=a++b::r/\Gw S a E `d/\`m!=`gd+`Eg/\(∀d∈a,`ln)/\`beB)
 | [],S,G,hf,hb,hc=>#[S,`d,`It,G,λ_=>#[rfl,λd hd=>nomatch hd],λz=>by cases z]
 | d::l,S,G,hf,hb,hc=>by
  rw[`X] at hc;rcases hb d A8 with⟨b,hb0,rfl⟩|hod
  ·skip;have hbi:`fg<=`dJ/\`dJ<=255:=`G
   have tk:=takes_all G hf b;cases e:`bbp with
   | none =>
    rw[e] at tk;have tk:`beC=`kW:=tk;done;exact#[S,`m,`beD,G,`Ut,`beE _ `beD]
   | some S1 =>
    rw[e] at tk;obtain⟨t1,G1,k1⟩:`beC=`axa/\Gi S1/\`aeo:=tk;have N:=G1.next;have wl:=G1.wl;have kc:(next S1).count=`vY:=`uL (`aaz+1=_) k1
    let#[E,t,g,GE,h1,h2]:=Pz0 l N.1 N.2 (`ZB hb) (`cx kc);done;refine#[E,t,`beF g,GE,`j1,`j1]
    ·let#[a1,a2]:=h1 z
     refine#[`PW a1 kc,`j!];apply `lK
     ·exact`beG
     ·exact a2 x hx
    ·skip;let#[a,c,r,e1,e2,e3,e4,e5]:=h2 z
     done;refine#[`hK::a,c,r,`ao8,`beF e2,`PW e3 kc,`j!,e5];apply `lK
     ·exact`beG
     ·exact e4 x hx
  ·exact#[S,`m,`beH,G,`Ut,`beE d `beH]
universe Zk
namespace Sk
open DL W Rk Rm
open Bt (Y8 m5 j8 Z9 O8 Q4 X6 U9 d7)
theorem ie0(S:RS):`beI:=`beJ zx0 (`pb (g50 p S []))
theorem ka0(S:RS):`beK:=`beJ v20 (`pb (`bdq))
def Gl0(p:`e)(δ:Ds):`bdD
 | `pS=>(`pS,`Li::δ)
 | `q8=>(`q8,`Li::δ)
universe Sk
namespace Zk
open DL W Rk Rm
open Bt (Y8 m5 j8 Z9 O8 Q4 X6 U9 d7)
open Qk (lc0 f90 lo0 rv0 tx0 ds0 jz0 oi0 GB1 Zt0 W00 s50 Md0 X40)
open Sk (Gl0)
theorem qg0(S:RS)(hw:`uF)(hl:`uH)(h:∀q∈`cJ,`ll):`bdz:=Qk.qg0 S hw hl h
theorem iv0(S:RS)(hw:`l9)(hc:`q9):`bdC:=Qk.iv0 S hw hc
theorem fj0(n:Int):y00 `e3 `MD=`Dr:=G70 `fv
def W70{f:`f9}{gA:GA}{p:`e}{S:RS}{δ:Ds}{r:DXB}(hA:`a8v)(hf:`tv=`du):vw0 0 `aM t8 gA f `bq=`c (Gl0 p δ r):=by
 have h:`E7:=`c2
 unfold vw0;apply `We;rw[`bS,hA,`p];apply `Wf;rw[hf];cases r<;>rfl
def ans(t:`C)(E:RS):D:=`w `nh `v `aai
def o10{S E:RS}{t:`C}(h:`IX):T6 `a' `pU=`c (ans t E,R E):=by
 have hg:=mq0 h;cases t with
 | true =>
  rw[`bl] at hg;refine `b1 `beL
  refine `beM `beL `eO
  ·unfold jt0 z20 pg0
   rw[`beN];rfl
  ·rw[O8 `Bt]
   apply `hD
 | false =>
  rw[`dY] at hg;refine `b1 `auy
  refine `beM `auy (`iy `auy (`pb (fj0 _)))
  ·unfold jt0 z20 pg0
   rw[`beN];rfl
  ·rw[Q4 `Bt]
   rfl
def cs0{G:GZ}{r:`Uq}(h:G `beO=r):z20 `beb G `ayj=r:=by
 refine rv0 (jz0 ?_) h;unfold su0;rw[cj0];rfl
def Dv0{E:RS}(h:Gw `fC l E `m):`beP:=by
 have e:`beQ:=by
  refine cs0 (`XZ);unfold pg0;rw[`beR];rfl
 apply `auz;apply `auA
def Yf0{E:RS}(h:`X1){G:GZ}{r:`Uq}(hG:G `agg=r):z20 `bec G `beO=r:=by
 refine rv0 (δ':=`agg) ?_ hG;unfold pg0;rw[`beR];rfl
def Pu0{E:RS}(h:`X1)(hw:E.wait≠[])(hc:`beS):`beP:=by
 have e:`beQ:=by
  refine cs0 (Yf0 h (`XZ));unfold Y80;rw[`Ct s50 (iv0 E hw hc)];rfl
 apply `auz;apply `auA
def Fp0{E:RS}(h:`X1)(hw:`wd)(hl:`bbx<=60)(hq:∀q∈`atT,`ll):yv0 `pU=`i7 `beT:=by
 have e:`aeQ=`i7 (.rt `beT):=by
  refine cs0 (Yf0 h (ds0 ?_));unfold Y80;rw[`Ct s50 (qg0 E hw hl hq)];rfl
 apply `auz;apply `auA
def P70{x:D}{n:Int}(h:yv0 [x]=`c (`aDJ)):K5 [x]=`Dr:=by
 refine `V!;show `beU;refine `hF `auB (`ce `beV (`ce `beV (`uM (fj0 n))))
 ·unfold jt0 z20 jk0
  apply `beW;rfl
 ·rw[`wU]
  rfl
def Ej0{x d:D}(h:yv0 [x]=`a_t):K5 [x]=`ah5:=by
 refine `V!;show `beU;refine `hF `auB (`ce `auB `g6)
 ·unfold jt0 z20 jk0
  apply `beW;rfl
 ·rw[`zT]
  exact `uK
def Uz0{E:RS}(g:`X1)(GE:Gi E)(hc:`beS):K5 `pU=`c (`X2):=by
 by_cases hw:`wd
 ·rw[`Q hw]
  exact Ej0 (Fp0 g hw GE.few λq hq=>by
   let#[k,hk]:=`ata;exact X40 ((GE.end' hw).2 k q hk))
 ·rw[`ag hw]
  exact P70 (Pu0 g hw hc)
theorem ka0(S:RS):`beK:=Sk.ka0 S
theorem ie0(S:RS):`beI:=Sk.ie0 S
universe Zk
namespace Qk
open DL W Rk Rm
open Bw (bs hi sg its two kn cnt tx)
open Km (hb nB nT nW pk lkd ix It Wb)
def eq0{S E:RS}{l:`S}(h:`d4 S l E):∀b∈l,`iX:=by
 induction h with
 | nil S=>intro b hb;cases hb
 | cons hb ht hl hc hr th hk ih =>
  intro x hx;apply `lK
  ·exact hb
  ·exact ih x hx
def Kh0{l:`S}(h:∀b∈l,`iX):zs (`dM `auC)=l/\∀b∈`dM `auC,`hL:=by
 refine#[?_,`js]
 ·unfold zs
  rw[`cu]
  conv=>rhs;rw[← List.map_id l]
  refine c9 `js
  have:=h b hb;show (`aq b.toNat)=b;lia
 ·let#[x,hx,rfl]:=`dH hb
  have:=h x hx;lia
universe Qk
namespace Zk
open DL W Rk Rm
open Bt (Y8 m5 j8 Z9 O8 Q4 X6 U9 d7 qb0 vk0)
def N80{gt:GB}{f:Nat}{δ:Ds}(h:`g2=`bI):R6 gt G (f+1) δ=`s0:=by
 unfold R6;rw[h]
def W20{g g':GB}{δ:Ds}(h:`Sj):`beX=g' δ:=`beY
def Pb0{g g':GB}{δ:Ds}(h:`Sk):`beX=`bI:=`beY
def qe0{g:GE}{δ:Ds}{xs:`i}(h:`IV):`a'Z=`c (`auD):=by
 rw[Z0 (ds:=`yR) `a'0];rfl
def S30{g h:GE}{δ:Ds}{xs:`i}{x:D}(h1:`IV)(h2:h δ=`asE)(hx:`nc):o2 g h ixD δ=`c6:=by
 rw[`VN];have hi:`tX:=(`ds hx).1;show atI xs `r2=_;rw[vy0 `j `j `v,`c7,`ch,hx];rfl
def ATt:GB:=`bee
def AB:GS:=(u5 `bef t7)
theorem d00{g h:GE}{δ:Ds}{a b:Nat}(h1:`az=`bd1)(h2:h δ=`c (`hK)):ob (o2 g h ltD) δ=`bC (a<b):=d7 (by
 rw[`VN];show `fq (`rK<`dJ);congr 2;apply `q_)
structure Alk(xs ys:`i)(c:Nat):Prop where
 l1:c<=`_
 l2:c<=`cq
 eq:∀i x y,i<c->`nc->`No=`ee->`ub=`d
def Sf0{xs ys:`i}(hx:∀d∈xs,`q')(hy:∀d∈ys,`q'):∀(f c:Nat),`auE->`_ - c<f->`beZ f:=by
 intro f
 induction f with
 | zero=>intro c _ h;exact `L h `j
 | succ f ih =>
  intro c A hf;have t1:ob `aGE `Am=`bC (c<`_):=`be_;have t2:ob `aGF `Am=`bC (c<`cq):=`be_;have stop:ATt `Am=`bI->`beZ (f+1):=λh=>#[c,A,N80 h]
  by_cases h1:c<`_
  ·by_cases h2:c<`cq
   ·have e1:xs[c]?=`c xs[c]:=B6 h1
    have e2:ys[c]?=`c ys[c]:=B6 h2;have t3:ob `aGG `Am=`be0:=d7 (by
     rw[o6 (S30 (i:=c) rfl rfl e1) (S30 (i:=c) rfl rfl e2)];show (`aW (`xG (xs[c])/\`xG (ys[c])) (`fX (`OG)))=_;rw[`Q #[hx _ (L7 h1),hy _ (L7 h2)]])
    have tt:ATt `Am=`be0:=by
     unfold ATt;rw[`be1,W20 (`gy t2 h2),t3]
    by_cases q:`OG=`d
    ·let#[c',A',e]:=ih (c+1) #[`G,`G,λi x y hi O J=>by
      by_cases z:i=c
      ·subst z
       rw[e1] at O;rw[e2] at J;cases O;cases J;exact q
      ·exact A.eq i x y `j O J] `j
     refine#[c',A',?_];rw[k00 (by rw[tt,q]) (δ':=[`ja,`rM,`mH (`aq (c+1))]) rfl,e]
    ·exact stop (by rw[tt];cases z:`OG with|true=>exact `L z q|false=>rfl)
   ·exact stop (by unfold ATt;rw[`be1,`og Pb0 t2 h2])
  ·exact stop (by unfold ATt;rw[Pb0 (by rw[t1,`VU])])
def Ms0{xs ys:`i}(hx:∀d∈xs,`q')(hy:∀d∈ys,`q')(hl:`be2):∃c:Nat,`auE/\wz0 [`c4,`vt]=`c `azP:=by
 let#[c,A,e]:=Sf0 hx hy 20000000 0 #[`b3,`b3,λi x y h=>`a8s] `j;exact#[c,A,`gO (`hF [`ja,`rM,.sh (`as_)] (o5 e (`uK)))]
def Mc0{xs ys:`i}{c:Nat}(A:`auE)(hn:n<=c)(hb:∀d∈`BT,`ln)(hi:∀d∈ys,`Db):`BT=ys.take n:=by
 have h1:=A.l1;have h2:=A.l2;apply E00;intro i
 by_cases h:i<n
 ·rw[`Rs h,`Rs h]
  have e1:`JE=`c xs[i]:=`Hl;have e2:`No=`c ys[i]:=`Hl;have q:=A.eq i _ _ `j e1 e2;let#[b,_,eb]:=hb xs[i] (C9 (i:=i) (`l (`Rs h) e1));let#[z,ez]:=hi ys[i] (L7 `j);rw[e1,e2];exact C7 `c (Xv0 _ _ (by rw[eb];simp[nob]) (by rw[ez];simp[nob]) q)
 ·rw[`be3,`be3]
def Gk0{g gl gh:GE}{δ:Ds}{xs:`i}{k q:Nat}(h1:`IV)(h2:`D0=`c `u4)(h3:`xi=`c (`Cc))(hk:k<=q)(hq:`IY):U7 g (`eI gl) `aum δ=`ns `be4:=by
 have e:cutD xs (`c `dV) (`c `Z9)=`be4:=by
  unfold cutD sIx;simp only[];rw[`H0,`H0,`c7,`c7,`H1 (a:=k) (b:=`_) `j,`H1 hq]
 unfold U7 someO;rw[h1,h2,h3,← e];rfl
def Pv0{gt:GTX}{δ:Ds}(h:`be5):ifX gt Ga `K δ=`eL:=by unfold ifX;rw[h];rfl
def j70{gt:GTX}{Ga Gb:GS}{δ:Ds}(h:`be5):sz0 gt Ga Gb δ=Gb δ':=by unfold sz0;rw[h];rfl
def y30{δ:Ds}{t:`C}(h:`e8=`c (.bl t,δ')):X3 gx δ=`be6:=by unfold X3;rw[h];rfl
def p50{g g':GTX}{δ:Ds}(h:`az=`aDK):orT g g' δ=g' δ':=by unfold orT;rw[h];rfl
def Vt0{g:GTX}{δ:Ds}{t:`C}(h:`az=`be6):y20 g δ=`c (!t,δ'):=by unfold y20;rw[h];rfl
def Sp0{g:GB}{δ:Ds}{t:`C}(h:`az=`c t):`Eq g δ=`c (t,δ):=by apply `H?;rw[h];rfl
def zz0{gb:GE}{f:`a7}{δ:Ds}{d y r:D}(h1:`VM)(h2:gb δ'=`ee)(h3:`be7):zm0 gx gb f δ=`arn:=by
 unfold zm0;rw[h1,`p,h2,`p,h3];rfl
def Oo0{ga gb:GX}{δ:Ds}{r:`aTx}(h:`ei=`c (`jn,δ'))(k:gb δ'=r):de0 ga gb δ=r:=by unfold de0;rw[h];exact k
def dc0(i:Int):neD `d_ `d_=`nV:=by
 show `z3 (!`be8);rw[`Hk];rfl
def Xa0(i:Int):eqD `d_ `d_=`j0:=by
 show `z3 `be8;rw[`Hk]
section
variable{p:`e}{S E:RS}{δ:Ds}{t:`C}{g:GE}
def Ze0(h:`gd=n):Y9 0 `aM t8 v8 R0 `bq=`c (`i6,`bT::δ):=by
 rw[`Ct z70 (ka0 S),h]
theorem es0(h:`IX)(hg:`uJ=`c (`vk)):T7 0 `xC T6 `bq=`c (ans t E,`sH::δ):=vk0 (p:=p) (b:=R S) (ds:=`pU) rfl (`aU hg rfl) (o10 h)
universe zz
def En0{E:RS}{a r:`i}{b:D}{xs:`i}{k q:Nat}(ha:`CA a)(hE:`m!=k)(hak:`Eg=k)(hx:xs=a++b::r)(hb:`beB)(hq:`IY):t50 `wq `be9=`ii E:=by
 apply `be'
 have O:`OH=b::r:=by rw[hx,← hak,`z5]
 have J:ans `m E=`g3:=by unfold ans;rw[`dY,hE]
 refine Y8 rfl λp=>?_
 by_cases h:k<q
 ·have e1:`IZ=a++`be!:=by rw[hx,List.take_append,hak,`bdG]
  obtain⟨r',er⟩:∃r',`be!=b::r':=by
   obtain⟨j,ej⟩:∃j,q - k=j+1:=#[q - k - 1,`G];exact#[r.take j,`aw ej]
  have g1:Gw `fC (`IZ) E `m:=`gs e1 er (Oe0 ha rfl (hb r'))
  refine`yH `auF;refine `cB `auF (Z9 (qb0 (es0 g1 (`OM)) (`zX)));refine `gV;rw[`HY `be? `fT];refine m5 (Pv0 (δ':=`auF) ?_) ?_
  ·rw[p50 (Sp0 (d7 (`l (`aK `g3 `g3 rfl) (dc0 _)))),`bfa]
   apply `bfb
  ·refine j8 (X6 (Oo0 (`Fa (es0 (hb r') (by rw[Gk0 (k:=k) (q:=q) rfl rfl rfl `j hq,O,er])) `bfc) ?_))
   apply `bfd
 ·have e1:`IZ=a.take q:=by rw[hx,List.take_append_of_le_length `j]
  have e2:`jq q=a.drop q++b::r:=by rw[hx,`bbM `j]
  let#[F,f1,f2]:=ln0 (a:=a.take q) (b:=a.drop q) (`l `IR ha);have g2:Gw F (`jq q) E `m:=`l e2 (Oe0 f2 rfl (hb r))
  have g3:Gw E (`OH) E `m:=`l O (hb r)
  refine`yH `bfe;refine `cB `bff (Z9 (qb0 (es0 f1 (by rw[`OM,e1])) rfl));refine `cB `bff (`aw (`VV `be? `fi));refine m5 (Pv0 (δ':=`bfe) ?_) ?_
  ·rw[`bfa,p50 (y30 (`Fa (es0 g2 `X3) (`l J (dc0 _))))]
   apply `bfb
  ·refine j8 (X6 (Oo0 (`Fa (es0 g3 `X3) `bfc) ?_))
   apply `bfd
def t00{k:Nat}{f:`aP}{gA:GA}{S:RS}{δ:Ds}{r:D}(h:`bfg)(hA:`ke)(hf:`tv=`C7):Y9 k `aM t8 gA f δ=`bfh:=by
 have hF:`E7:=`c2
 unfold Y9;rw[h];apply `We;rw[`Q hF,hA,`p];apply `Wf;rw[hf];rfl
def l00{k:Nat}{f:`aP}{gA:GA}{S:RS}{δ:Ds}{r:D}(h:`bfg)(hA:`ke)(hf:`tv=`C7):T7 k gA f δ=`bfh:=by
 unfold T7;rw[h];show (`NI (`tv).map (`el k (.ow r.2)))=_;rw[hA,`p,hf];rfl
def z9(a b:D)(fs:`i)(c:Sl)(xs:`i)(n:D)(X:D)(q:Nat)(s:Sl):Ds:=[`y9,.sh b,`X4,c,`ja,.sh n,.ow X,`L2,s]
def TB:GS:=(ifD `bem
 (u5 (sz0 `ben
 (u5 `md
 t7)
 t7)
 (u5 (sz0 `beo
 (u5 `md
 t7)
 t7)
 (u5 (b8 `nB `p0)
 t7)))
 (u5 (sz0 `bep
 (u5 `md
 t7)
 t7)
 t7))
structure Mid(xs:`i)(n:Nat)(E:RS):Prop where
 g:`CA `Fw
 le:`aul
 by':∀d∈`BT,`ln
def Kt0{g g':GB}{δ:Ds}(h:`Sk):G5 g g' δ=g' δ:=`bfi
def Bz0{g g':GB}{δ:Ds}(h:`Sj):G5 g g' δ=`eK:=`bfi
def Fi0(b:`C):neD `lg `lg=`nV:=`O4 b
def Kq0(P:Prop)[`lT P](i:Int):t60 (`w P `v `bw) `v=`nW P:=by
 by_cases h:P
 ·rw[`bS,`fT];rfl
 ·rw[`cT,`fi];rfl
section
variable{a b:D}{fs:`i}{c:Sl}{xs:`i}{q:Nat}{s:Sl}
def Eu0{E:RS}(g:`CA xs)(GE:Gi E)(hc:`m!=`_)(hb:∀d∈xs,`ln)(hq:`IY):TB (`kN (`X2) `wq s)=`ar (`kN (`auD) `i? s)/\Mid xs `_ E:=by
 refine#[?_,#[`l `WM g,`gT,λd hd=>hb d (i3 hd)]];obtain⟨w,ew⟩:∃w:D,w=`X2:=`ad;rw[← ew];let#[F,f1,f2]:=ln0 (a:=`IZ) (b:=`jq q) (`l `IR g)
 unfold TB;rw[O5 ?_]
 ·refine `ce `OL (`ce `OL (o5 (X5 `EK) rfl))
  ·refine `bfj
   rw[`I_ (`kN w (R F) s) (`bfk (`IZ) f1)];exact `bfl (`jq q)
  ·refine `bfj
   rw[`I_ `OL (y30 (zz0 (`PX E ka0 E) (y:=`auD) `EK (`l hc (dc0 _))))];apply `bfm;rw[`aK w `v rfl,ew];exact Kq0 _ _
 ·by_cases hw:`wd
  ·rw[`Q hw] at ew
   subst ew;exact Bz0 `OI
  ·rw[`ag hw] at ew
   subst ew;rw[Kt0 `OI];exact d7 (`gs (`zQ `aai `EK) hc (Xa0 _))
def Fw0{E:RS}{k:Nat}{a' r:`i}(ha:`CA a')(GE:Gi E)(hE:`m!=k)(hak:`I0=k)(hx:xs=a'++b'::r)(hb:∀r',Gw E (b'::r') E `m)(hby:∀d∈a',`ln)(hq:`IY)(hk8:`Bj k):TB (`kN `u4 `wq s)=`ar (`auG)/\Mid xs k E:=by
 apply `be'
 have J:`ZR k=a':=by rw[hx,← hak,List.take_left]
 refine#[?_,#[`l J ha,`G,`l J hby]];unfold TB;rw[W5 ?_]
 ·refine o5 (`OK `auG) rfl
  have O:=En0 ha hE hak hx hb hq;rw[`I_ `auG (Vt0 (t:=`d) (y30 (l00 (S:=`fC) (ds:=`be9) rfl rfl O)))];apply `bfm;rw[o6 (x:=`X2) (y:=`v) (by
   rw[`pR [`o a'] (by rw[`_K (xs:=xs) (n:=k) rfl rfl,J])];exact Uz0 ha GE `j) rfl]
  exact Kq0 _ _
 ·rw[Kt0 `OI]
  apply `bF;rw[`zQ `g3 `EK];show `fq (`dV=`sI);rw[`gP]
universe zz
def TC:GS:=(u5 (su0 8 `aM P0)
 (u5 (sz0 `beq
 (u5 `md
 t7)
 t7)
 (u5 (ifD `ber
 (u5 (Y4 `Bp)
 t7)
 t7)
 (u5 (sz0 `bes
 (u5 `md
 t7)
 t7)
 (u5 `bet
 t7)))))
def Ng0{gy:GX}{f:`a7}{δ:Ds}{d y r:D}(h1:`a6V)(hf:`n4)(h2:gy δ1=`c (y,δ2))(h3:`be7):iu0 gx gy f δ=`c (r,δ2):=by
 unfold iu0;rw[h1,`p,`uc,h2,`p,h3];rfl
def Il0{f:`f9}{b d:D}(h:`sz=`bcM):k60 f b ds=`bcN:=by
 unfold k60;rw[h]
def Bw0{a b w:D}{fs:`i}{c:Sl}{xs:`i}{q:Nat}{E S:RS}(M:Mid xs n E)(hfs:`bfn)(hi:∀d∈fs,`Db)(hx:∀d∈xs,`q')(hl:`be2)(hw:`uF)(h60:`uH)(hq:∀q∈`cJ,`ll)(hm:`bbU=w)(hdr:vb0 [b]=`c w)(hsm:Sm w 50):TC (`kN `mf `i? .un)=`c (.rt `Jv):=by
 have hy:∀d∈fs,`q':=λd hd=>by
  let#[z,rfl]:=hi d hd;simp[`e6]
 let#[c',A,eA]:=Ms0 hx hy hl;unfold TC;refine o5 (δ':=`kN `mf `i? (`aeP)) (by
  unfold su0;rw[cj0];rfl) ?_
 refine `ce `I1 ?_
 ·refine `OK `I1
  rw[`I_ `I1 (`bfk `Fw M.g)];exact y30 (Ng0 `bfo rfl `bfo (dc0 _))
 have t:ob `aGR (`I1)=`bC (c'<n):=d00 (`l (`bD [`c4,`vg]) eA) rfl
 by_cases h:c'<n
 ·refine d9 ?_
  rw[`xA t `fT];exact `uK
 ·refine `iW `I1 (`aw (`uB t `fi))
  have e:=Mc0 A `j M.by' hi;let#[F,f1,f2]:=ln0 (a:=fs.take n) (b:=fs.drop n) (`l `IR hfs);have eR:R E=R F:=I90 M.g (`l e f1);rw[eR];refine `ce `X5 `g6
  ·refine `OK `X5
   rw[`I_ `X5 (`bfl (fs.drop n))];exact Vt0 (t:=`d) (y30 (by
    have:=t00 (k:=6) (S:=S) (δ:=`X5) (gA:=v8) (ds:=[]) rfl rfl (tr0 S);apply `a3 (`bU hw);exact `E))
  ·unfold jm0
   haveI:`lT (w=w):=.isTrue rfl
   rw[zz0 (`PX S Il0 (qg0 S hw h60 hq)) (y:=w) (`l (`bD [b]) hdr) (by rw[hm,hsm.eq hsm,`Hk])];rfl
universe Zk
namespace Zk
open DL W Rk Rm
open Bt (Y8 m5 j8 Z9 O8 Q4 X6 U9 d7 qb0 vk0)
open Bw (its)
open Km (hb lkd)
open Qk (Kh0 eq0 sr0)
def c20(m:`k)(hb:∀b∈m,`hL)(hl:`bdT)(c:Int)(h0:0<=c):∃m':`k,(∀b∈m',`hL)/\`bdP/\`aup:=by
 let#[m',B,e]:=Qk.c20 m hb hl c h0 0;exact#[m',B.by',B.len,e]
theorem Do0{m:`k}(h:∀b∈m,`hL):∀d∈`E!,`ln:=λd hd=>by
 let#[z,hz,rfl]:=`gi;unfold zs at hz;let#[b,hb,rfl]:=`dH hz;exact#[b,h b hb,rfl]
def If0{d:D}(h:`bfp):`q':=by
 rcases h with⟨b,_,rfl⟩|h
 ·simp[`e6]
 ·apply `bfq
  rcases h with rfl|rfl|rfl|rfl|rfl|rfl<;>simp[`e6]
def Ew0{d:D}(h:d∈`ON):Odd d:=by
 apply `bfq;rcases h with rfl|rfl|rfl|rfl|rfl|rfl<;>(unfold Odd;kernel_rfl)
def Ks0{ns:`S}(k:Int)(hk:0<=k):∃c:Int,0<=c/\∀(δ:Ds) (g:GE),gv 0 δ=`c (`mu)->`az=`c (`my)->o2 (oA (z7 `aA `xC) Bt.U6) `bfr m7 δ=`aqN:=by
 let#[z,hz]:=Gw.T20 ns k hk;have hz:Bt.U6 `aqS=`VQ:=hz;refine#[z%(10 ^ 15+37),`bfs,fun δ g h1 h2=>?_];refine `I2 (`l (Z0 (ds:=`aqS) (`pO h1 h2)) hz) ?_ `r;kernel_rfl
def Ld0(ns:`S)(hl:`gh<=63):`bft:=by
 skip;have g4:`as8:=`av
 let#[ps,Z,h1,d3,f5,d1,Y]:=Bt.Dh0 ns `j 2 `j;have Y:Bt.y80 [`mu,`or]=`c `Jm:=Y;have D1:Dw ps Z:=#[#[h1,d3],`G,d1];have W:=D1.wf;obtain⟨pool,a7⟩:∃pool,`bz=Z.filter `bdK:=`ad
 rw[← a7] at W;let#[L,T,b1,h,hp,hn,hL,hc,N,hN]:=K40 W.wb;have e3:∀k∈L,∀i∈K22.tgs `a?d,i∈L:=λk hk i hi=>by
  skip;rw[← U20] at hi;let#[v,hv,e]:=t9.mp hi;let#[_,w2]:=`sf (hL k hk);have hI:=`Aj w2 v hv;rcases hI with⟨s,rfl,_⟩|rfl|⟨z,rfl,_⟩|⟨j,rfl,_⟩
  ·cases e
  ·cases e
  ·cases e
  ·simp only[`c7] at e
   cases e;done;exact hc k hk i hv
 have c3:`a?c:=by
  apply `bcw
  apply `a3 `l7;have:=`at_;exact#[`gn hN,`G]
 have wl:=Km.I60 W.wb c3 hL e3;have f3:=K80 W.wb hn hL hc (Ww0 W.wb h);let#[U,a6]:=Km.Ju0 W.wb;have U:ms0 `ED=`ns (`bfu `g):=U;let#[S,hr,hw,g7,e7,d2,a8]:=L30 W h hp;let#[ez,b3]:=Kh0 (eq0 hr);obtain⟨m,em⟩:∃m,m=`bfu `auC:=`ad;rw[← em] at ez b3;rw[← ez] at U a6 hr;have g3:`ij<=11000000:=by rw[sr0] at a6;exact a6
 obtain⟨fs,a4⟩:∃fs,fs=`E!:=`ad;have e4:`bfn:=`l a4 (Jr0 hr)
 have f0:∀d∈fs,`Db:=λd hd=>by
  rw[a4] at hd;let#[z,_,rfl]:=`gi;exact`aGj
 let#[c0,e8,e0]:=Ks0 (ns:=ns) 0 `j;let#[c1,f9,e1]:=Ks0 (ns:=ns) 1 `j;let#[m',c4,f6,O]:=c20 m b3 `j c0 e8;rw[← a4] at O U;obtain⟨ys,a5⟩:∃ys,ys=`az4 `bZ:=`ad;rw[← a5] at O;have g5:`cq=`aDG:=by rw[a5,`P,sr0]
 have a3:∀d∈ys,`ln:=`l a5 (Do0 c4)
 obtain⟨a,ea⟩:∃a:D,a=`mu:=`ad;obtain⟨w,ew⟩:∃w:D,w=`vN:=`ad;done;refine `V!;show Ts0 [`Kq,.un,.un,.un,.un,.un,.un,.un,.un]=_;rw[← ea];refine `iW [`y9,`X6,.un,.un,.un,.un,.un,.un,.un] (X5 (by rw[`bD [a,`or],ea,ew];exact Y));refine `iW (`sJ .un .un .un) (X5 (`gs (`bD [w]) ew U));refine `iW (`sJ `bfv .un .un) (X5 (e0 _ _ (`aw ea) rfl));refine `iW (`sJ `bfv `rM .un) (X5 (`l (`bD [`vg,`g c0]) O));refine `iW `auH (X5 (e1 _ _ (`aw ea) rfl));skip;obtain⟨xs,s5,f8,b0,c8⟩:∃(xs:`i) (s5:Sl),`_<=`cq+1/\(∀d∈xs,`bfp)/\ifD `bej
   (u5 `bek
   (u5 `bel t7)) t7
   `auH=`ar (`sJ `k5 `ja s5):=by
  have t:ob `aGJ `auH=`bC (c1%4=1):=d7 (by
   rw[o6 (`I2 (i:=c1) (j:=4) rfl rfl `r) rfl];rfl)
  by_cases q:c1%4=1
  ·skip;obtain⟨k,ek⟩:∃k:Nat,`dV=`bfw:=#[(`bfw).toNat,`cN (E2 (c1/4) (`bc ((`OO)≠0)))]
   have hk:k<=`cq:=`cN (E9 (c1/4) (`bc (`fg<`OO)))
   obtain⟨j,ej⟩:∃j:Nat,`b9=c1/5%6:=#[(c1/5%6).toNat,`G];have hj:j<6:=`G
   obtain⟨o,ho,eo⟩:∃o:D,o∈`ON/\`ON[j]?=`ay:=by
    have c2:j<(`_L:`i).length:=hj;exact#[_,L7 c2,B6 c2]
   done;refine#[`auI,`jI,`bfx,`q3,?_]
   ·rcases `dL hd with z|z
    ·apply `Xj
     ·exact `n (a3 d (i3 z))
     ·rw[`ew];exact `q ho
    ·exact `n (a3 d (l7 z))
   ·rw[O5 (`gy t q)]
    refine o5 (δ':=`bfy) `af! (o5 (δ':=[`y9,`X6,`X4,`k5,`Cu (`auI),`jI,.un,.un,.un]) `af! rfl)
    ·rw[ek]
     exact `I2 (i:=c1/4) (j:=`OO) (`aw (`aK `JA `ri rfl)) (`aw (`bfz ys)) `j
    ·have f4:o2 `aGL `aGM ixD `bfy=`ay:=by
      refine S30 (xs:=`_L) (i:=j) ?_ ?_ eo
      ·kernel_rfl
      ·rw[ej]
       exact `I2 (i:=c1/5) (j:=6) (`aw (`aK `JA (`g 5) rfl)) rfl `r
     have e9:`aDL+1<=`W:=`N3
     rw[o6 (x:=`o (`L3)) (y:=`o (ys.drop k)) (by
      rw[o6 (x:=`o (ys.take k)) (y:=`o [o]) (`OM) (Eg0 (`aU f4 rfl) `at!)];show (`aW `bfA (`jN (`L3)))=_;rw[`Q (show `bfA from e9)]) `X3]
     show (`aW ((`y `L3)+(`y (ys.drop k))<=`W) (`jN (`auI)))=_;rw[`Q (`bfx)]
  ·exact#[ys,.un,`G,λd hd=>`n (a3 d hd),`aw (`og W5 t q)]
 done;refine o5 c8 ?_;skip;have g6:`_<=12000002:=`G
 have e6:∀d∈xs,`beA:=λd hd=>(b0 d hd).elim `n λz=>`q (Ew0 z)
 have e5:∀d∈xs,`q':=λd hd=>If0 (b0 d hd)
 let#[E,t,g,GE,ht,hf]:=Pz0 xs L60 `r e6 (`ek (0+`_<=_));obtain⟨q,eq⟩:∃q:Nat,`Z9=`bfB:=#[(`bfB).toNat,`cN (E2 (c1/7) (`bc ((`sI+1)≠0)))];have hq:`IY:=`cN (E9 (c1/7) (`bc (`fg<`sI+1)))
 obtain⟨n,J,E',f1,f2,hM⟩:∃(n:Nat) (J:D) (E':RS),K5 `yR=`c J/\TB (`bfC)=`ar (z9 a w fs (`k5) xs `mf (R E') q .un)/\Mid xs n E':=by
  skip;cases t with
  | true =>
   let#[a1,a2]:=ht rfl;have a1:`m!=`_:=`x7 a1 (0+`_=_)
   let#[b1,b2]:=Eu0 (a:=a) (b:=w) (fs:=fs) (c:=`k5) (s:=.un) g GE a1 a2 hq;done;exact#[_,_,_,Uz0 g GE `j,b1,b2]
  | false =>
   let#[a',b',r,x1,x2,x3,x4,x5]:=hf rfl;have x3:`m!=`I0:=`x7 x3 (0+`I0=_)
   have f7:`I0<`_:=`PW x1 `Y
   let#[b1,b2]:=Fw0 (a:=a) (b:=w) (fs:=fs) (c:=`k5) (s:=.un) (xs:=xs) (q:=q) (k:=`I0) x2 GE x3 rfl x1 x5 x4 hq `j;have u:=P70 (Dv0 g);rw[x3] at u;done;exact#[_,_,_,u,b1,b2]
 done;refine `iW (`sJ `k5 `ja (.sh J)) (X5 (`l (`bD `yR) f1));refine o5 (δ':=[`y9,`X6,`X4,`k5,`ja,.sh J,`aeP,.un,.un]) (by
  unfold su0;rw[cj0];rfl) ?_
 refine o5 (δ':=`bfC) (X5 (d:=`Cc) (by
  rw[eq];exact `I2 (i:=c1/7) (j:=`sI+1) (`aw (`aK `JA (`g 7) rfl)) (`aw (`bfz xs)) `j)) ?_
 refine o5 f2 ?_;exact Bw0 hM e4 f0 e5 `j hw e7 d2 a8 (`l ew f3) (Ea0 wl)
universe Zk
namespace Zk
open L2 DL Rk
open Bt (J7 U6 xp0 zk0 wk0 Q7 yo0 z80 xg0 O6 wm0 zi0 yx0 N8 vn0 y80)
def top(i:Nat):`a4:=PySem.Challenge.pw_graphpack_k32_refused_in_pieces.main.body.getD i `auJ
def b_ValueError:`mw `L7=`c `Fi:=`ba
def b_bool:`s! `y2 `y2:=`ba
def b_int:`s! `j8 `j8:=`ba
def b_list:`anc:=`ba
def b_ord:`mw "ord"=`c `aLQ:=`ba
def b_str:`s! `j9 `j9:=`ba
def b_tuple:`a3v:=`ba
def b_zip:`a4k:=`ba
structure Txt(mg:`a6):Prop where
 b_ValueError:mg `L7=`f
 b_bool:mg `y2=`f
 b_enumerate:mg `pG=`f
 b_int:mg `j8=`f
 b_isinstance:mg `vP=`f
 b_len:mg `wz=`f
 b_list:mg `e2=`f
 b_ord:mg "ord"=`f
 b_range:mg `wf=`f
 b_reversed:mg `pe=`f
 b_str:mg `j9=`f
 b_tuple:mg `eC=`f
 b_zip:mg `hU=`f
 c_BASE:`q! "BASE" `g 128
 c_MOST_NAMES:`q! `bfD `g 60
 c_MOST_NAME_SIGNS:`q! `bfE `g 8
 c_MOST_PARTS:`q! `bfF `g 60
 c_MOST_VALUES:`q! `bfG `g 12
 c_MOST_WORD_SIGNS:`q! `bfH `g 20
 c_NAME_SIGNS:`q! `bfI `t `Ds
 c_WORD_SIGNS:`q! `bfJ `t `Du
def meth(i k:Nat):`a4:=match top i with
 | `bfK=>body.getD k `auJ
 | s=>s
def ini(i:Nat):`a4:=match top i with
 | `bfK=>body.getD 0 `auJ
 | s=>s
theorem Yz0:`ax `hs `hs (o4 `X7):=`bfL
theorem aq0:`ax `hs `hs (o4 `X8):=`bfL
theorem fsc{P:`h}(a:`aMR)(b:`aMS)(c:`aMT)(d:`aMU)(e:`QM/\(∀x∈P,`ahw)/\∀y∈`Rm,`aMV):`ax N P sc:=#[a,b,c,e.1,d,e.2.1,e.2.2]
theorem cok(a:`aPh)(b:`aPl)(c:(∀y∈`hm,`aPi)/\(∀y∈`hm,`aPj)/\(∀y∈`hm,`aPk)/\N'.Nodup/\∀k∈`cn `xa,`aPm):`t?:=#[a,c.1,c.2.1,c.2.2.1,c.2.2.2.1,b,c.2.2.2.2]
section
variable{P:`ak}{w:`O}
theorem uc0:`ax xa0 `ht (o4 `auK):=`an
theorem ej0(F:`ai `OQ `OQ `auK)(T:`al)  : `Z 1 `ht (spN K T9) :=
 okN (k:=0) (G:=yz0) F uc0 (λcdv A outer s H E hr=>(v7 (w40 1 (zp0 (v6 (Z6 `aN `om) u6)) uc0.nd)
   (v7 (`An (W7 `aN `om) uc0.nd)
   (v7 (qo0 100000 E8 (`P2 `a0)
   (v7 (S6 (o30 1 (b7 `om (Z6 `a0 `om))))
   (v7 (`An (W7 `a0 `om) uc0.nd)
   u9)))
   (v7 (Q30 (li0 `x? `bfM `aF))
   u9))))) `kn
theorem Qe0:`ax rz0 `ht (o4 `auL):=`an
theorem O30(F:`ai `X9 `X9 `auL)(T:`al)  : `Z 1 `ht (spD K ug0) :=
 okD (k:=0) (G:=rg0) F Qe0 (λcdv A outer s H E hr=>(v7 (W6 (`ko `aN v9)
   (v7 (Z3 (zn0 (M9 `tz `aN) v9))
   u9)
   u9)
   (v7 (Z3 (M9 v9 `aN))
   u9))) `c_
theorem V40:`ax e70 `ht (o4 `auM):=`an
theorem Vd0(F:`ai `X' `X' `auM)(T:`al)  : `Z 1 `ht (spD K pc0) :=
 okD (k:=0) (G:=d70) F V40 (λcdv A outer s H E hr=>(v7 (W6 `Ao
   (v7 (Z3 (zn0 (ye0 `Cd) v9))
   u9)
   u9)
   (v7 (Z3 `Cd)
   u9))) `c_
theorem Vb0:`ax fc0 `qS (o4 `auN):=`an
theorem Vh0(F:`ai `X! `X! `auN)(T:`al)  : `Z 1 `qS (spD K t20) :=
 okD (k:=0) (G:=el0) F Vb0 (λcdv A outer s H E hr=>(v7 (Z3 (Zz0 (ss0 Iz0 b_int `vE T.b_int `aN) (eh0 (Db0 (`bfN `aN)))))
   u9)) `c_
theorem Z60:`X? z30 `Ya:=`an
theorem al0(F:`ai `Yb `Yb `Ya)(T:`al)  : `Z 1 `ex (spN K uk0) :=
 okN (k:=0) (G:=jh0) F Z60 (λcdv A outer s H E hr=>(v7 (W6 (`I3 `q? `q?)
   (v7 `Yc
   u9)
   u9)
   (v7 (G6 (gk0 (sc:=o4 `Ya) (N:=z30) (N':=[`abq]) (n:=1) (caps:=[]) `iZ `r `auO (`ra [`abq]) `uV `auP))
   u9))) `kn
theorem St0:`ax bu0 `qS (o4 `auQ):=`an
theorem Sd0(F:`ai `Yd `Yd `auQ)(T:`al)(C_is_whole:`fV `X! `qS t20):`Z 2 `qS (spD K yg0) :=
 okD (k:=1) (G:=a80) F St0 (λcdv A outer s H E hr=>(v7 (Z3 (Zz0 (J1 C_is_whole hr `r `mI) (eh0 (L10 Tg0 Wg0 Tg0 Wg0 v9 `aN v9))))
   u9)) `c_
theorem ea0:`ax cz0 `aeS (o4 `auR):=`an
theorem Sh0(F:`ai `O_ `O_ `auR)(T:`al)  : `Z 1 `aeS (spD K un0) :=
 okD (k:=0) (G:=b20) F ea0 (λcdv A outer s H E hr=>(v7 (pi0 E8 rfl (Vu0 `aF) (o9 2 ea0.nd)
   (v7 (W6 (n6 W4 Z8 (`bfO `eQ) `aN)
   (v7 `bfP
   u9)
   u9)
   u9))
   (v7 (Z3 zj0)
   u9))) `c_
theorem W60:`ax g60 `VF (o4 `auS):=`an
theorem W80(F:`ai `Ye `Ye `auS)(T:`al)  : `Z 1 `VF (spD K u30) :=
 okD (k:=0) (G:=gf0) F W60 (λcdv A outer s H E hr=>(v7 (W6 `uW
   (v7 (Z3 `bfQ)
   u9)
   u9)
   (v7 (Z3 (y50 T.c_MOST_VALUES))
   u9))) `c_
theorem eg0:`ax mj0 `VG (o4 `auT):=`an
theorem em0(F:`ai `Yf `Yf `auT)(T:`al)  : `Z 1 `VG (spD K uy0) :=
 okD (k:=0) (G:=md0) F eg0 (λcdv A outer s H E hr=>(v7 (W6 `uW
   (v7 `bfR
   u9)
   u9)
   (v7 (W6 `uW
   (v7 `bfR
   u9)
   u9)
   (v7 (W6 `uW
   (v7 (Z3 `bfS)
   u9)
   u9)
   (v7 (Z3 (b7 (yk0 `Fb) `bfS))
   u9))))) `c_
theorem Xf0:`ax g90 `OZ (o4 `auU):=`an
theorem Yv0(F:`ai `OY `OY `auU)(T:`al)(C_made_pairs:`fV `Yg `VI uq0):`Z 2 `OZ (spD K M8) :=
 okD (k:=1) (G:=gc0) F Xf0 (λcdv A outer s H E hr=>(v7 (W6 `uW
   (v7 (Z3 (`me (Uu0 j9 `er)))
   u9)
   u9)
   (v7 (W6 `uW
   (v7 (Z3 (`me (`Ap `er)))
   u9)
   u9)
   (v7 (W6 `uW
   (v7 (Z3 (`me (J1 `bfT hr `r `er)))
   u9)
   u9)
   (v7 (Z3 (xm0 (v6 j9 (`tA `Yh (J1 `bfT hr `r (v6 (T8 `aF `agh R9) u6))))))
   u9))))) `c_
theorem ak0:`ax kw0 `VI (o4 `auV):=`an
theorem ao0(F:`ai `Yg `Yg `auV)(T:`al)  : `Z 1 `VI (spD K uq0) :=
 okD (k:=0) (G:=i70) F ak0 (λcdv A outer s H E hr=>(v7 (Z3 (Rm0 dl0 Qd0 `Fd T.b_zip `Fc b_zip (`tA `bfU `bfU)))
   u9)) `c_
theorem p40:`ax j00 `aeT (o4 `Yi):=`an
theorem Si0(F:`ai `O0 `O0 `Yi)(T:`al)  : `Z 1 `aeT (spD K wd0) :=
 okD (k:=0) (G:=bg0) F p40 (λcdv A outer s H E hr=>(v7 (Z4 v9 (o9 3 p40.nd))
   (v7 (pi0 E8 rfl (uv0 `Aq (v6 (zn0 `aF `auW) u6)) (o9 4 p40.nd)
   (v7 (Z4 (M9 `dX (J5 `i5 `bfV)) (o9 3 p40.nd))
   u9))
   (v7 (Z3 (qi0 tn0 vx0 (J5 `i5 (v6 (dd0 (sc:=o4 `Yi) (N:=j00) (N':=`bfW) (n:=1) (caps:=[1,2]) `iZ `r (ol0 `aN) (`ra `bfW) (`e7 (Vv0 (`auX (n6 W4 Z8 `EM `aF) (G7 (Mt0 PySem.F.slot_str_startswith PySem.F.type_str_startswith Rk0 Rp0 R40 `aN `eQ))))) (`e7 `aN)) u6)) `dX))
   u9)))) `c_
theorem pn0:`ax fy0 [`jJ] (o4 `auY):=`an
theorem G50(F:`ai `Yj `Yj `auY)(T:`al)(C_held_items:`xK `Yk `ex z40)(C_is_new:`bfX)(C_item_bytes:FnN P w K mg `au `Yl 3 `auZ yd0):`Z 4 [`jJ] (spN K ms0) :=
 okN (k:=3) (G:=fh0) F pn0 (λcdv A outer s H E hr=>(v7 (w40 1 `sq `I4)
   (v7 (w40 2 af0 `I4)
   (v7 (w40 3 af0 `I4)
   (v7 (w40 4 (zp0 (v6 (xm0 `bfY) u6)) `I4)
   (v7 (qo0 100000 E8 (`P2 (Xd0 `tB))
   (v7 (`Ar (Qu0 4) 5 `I4)
   (v7 (S6 (Xg0 1 (`au_ (M10 (pv0 C_item_bytes hr `r (v6 `aN (v6 `jr (v6 `a0 `p5))))))))
   (v7 (W6 (`bfZ `jr)
   (v7 (S6 (Ds0 3 `jr (Xd0 (`agi `p5))))
   u9)
   (v7 (W6 (G7 (Js0 (`kp C_is_new `jr `eQ)))
   (v7 (xo0 (W2 (Xd0 (`agi `eQ))) (ii0 2 `mC `bf_))
   (v7 (S6 (Xg0 4 (`au0 (tf0 C_held_items hr `r (v6 (Y6 `aN `bf_) u6)))))
   u9))
   u9)
   u9))
   u9))))
   (v7 `au1
   u9))))))) `kn
theorem Pj0:`ax rf0 `lo (o4 `au2):=`an
theorem Q90(F:`ai `OP `OP `au2)(T:`al)  : `Z 1 `lo (spD K y60) :=
 okD (k:=0) (G:=ll0) F Pj0 (λcdv A outer s H E hr=>(v7 (Z3 (Zz0 `aGW (eh0 (Jx0 `mC `oL `aF))))
   u9)) `c_
theorem ki0:`ax so0 `auZ (o4 `au3):=`an
theorem an0(F:`ai `Yl `Yl `au3)(T:`al)(C_is_new:`bfX)(C_known_head:`OX `Ym `lo yl0)(C_name_bytes:FnN P w K mg `au `Yn 2 `HN wy0)(C_number_bytes:`bf0)(C_part_number:`fV `Yo `ex zs0)(C_text_bytes:FnN P w K mg `au `Yp 2 `ex yc0):`Z 3 `auZ (spN K yd0) :=
 okN (k:=2) (G:=sd0) F ki0 (λcdv A outer s H E hr=>(v7 (W6 (`bfZ `aF)
   (v7 (`Yq C_name_bytes (v6 `aF `p5))
   u9)
   u9)
   (v7 (W6 (G7 (`au4 C_is_new))
   (v7 (Z4 (Y6 `aN `Yh) (o9 4 ki0.nd))
   (v7 (G6 (`bf1 (J1 C_part_number hr `r `Bn) C_text_bytes `Bn))
   u9))
   u9)
   (v7 (`Yq `au5 (v6 (`au4 C_known_head) u6))
   u9)))) `kn
theorem aw0:`ax sk0 `HN (o4 `au6):=`an
theorem Z90(F:`ai `Yn `Yn `au6)(T:`al)(C_number_bytes:`bf0)(C_sign_bytes:`bf2):`Z 2 `HN (spN K wy0) :=
 okN (k:=1) (G:=sx0) F aw0 (λcdv A outer s H E hr=>(v7 (W6 (H70 `mC `aN `aF)
   (v7 (`Yq `au5 (v6 (`bf3 `aN) u6))
   u9)
   u9)
   (v7 (G6 (`bf1 `EM `bf4 `mI))
   u9))) `kn
theorem ai0:`ax xj0 `xL (o4 `Yr):=`an
theorem Za0(F:`ai `OR `OR `Yr)(T:`al)  : `Z 1 `xL (spN K M6) :=
 okN (k:=0) (G:=wx0) F ai0 (λcdv A outer s H E hr=>(v7 (G6 (gk0 (sc:=o4 `Yr) (N:=xj0) (N':=[`pM]) (n:=1) (caps:=[]) `iZ `r (Vu0 `aN) (`ra [`pM]) `uV (`e7 (`bfO `mI))))
   u9)) `kn
theorem c60:`X? w50 `au7:=`an
theorem df0(F:`ai `Yo `Yo `au7)(T:`al)(K_KINDS:`au8):`Z 1 `ex (spD K zs0) :=
 okD (k:=0) (G:=w60) F c60 (λcdv A outer s H E hr=>(v7 (Z3 (b7 (M9 v9 (J5 `i5 (v6 `aGV u6))) (G30 K_KINDS `Ys)))
   u9)) `c_
theorem Z00:`X? v80 `au9:=`an
theorem am0(F:`ai `Yp `Yp `au9)(T:`al)(C_sign_bytes:`bf2):`Z 2 `ex (spN K yc0) :=
 okN (k:=1) (G:=v00) F Z00 (λcdv A outer s H E hr=>(v7 (W6 `q?
   (v7 (`Yq `bf4 `Ys)
   u9)
   u9)
   (v7 `Yc
   u9))) `kn
theorem ay0:`ax sy0 `lo (o4 `au'):=`an
theorem ar0(F:`ai `Ym `Ym `au')(T:`al)(C_folded:`fV `X9 `ht ug0):`Z 2 `lo (spD K yl0) :=
 okD (k:=1) (G:=sf0) F ay0 (λcdv A outer s H E hr=>(v7 (W6 (`agp `aN)
   (v7 (Z3 v9)
   u9)
   u9)
   (v7 (W6 `au!
   (v7 (Z3 (b7 (`bf3 `oL) v9))
   u9)
   u9)
   (v7 (Z3 (b7 (M9 v9 (J1 C_folded hr `r `mI)) v9))
   u9)))) `c_
theorem qz0:`X? v90 `au?:=`an
theorem Z30(F:`ai `Yk `Yk `au?)(T:`al)  : `Z 1 `ex (spN K z40) :=
 okN (k:=0) (G:=vc0) F qz0 (λcdv A outer s H E hr=>(v7 (W6 `q?
   (v7 `Yc
   u9)
   u9)
   (v7 (W6 `q?
   (v7 `bf5
   u9)
   u9)
   (v7 (w40 1 `sq qz0.nd)
   (v7 (W6 `q?
   (v7 (S6 (o30 1 `oL))
   u9)
   u9)
   (v7 (pi0 E8 rfl `auO (o9 2 qz0.nd)
   (v7 (S6 (Xg0 1 (w90 oy0 Tb0 `x? `PY `eQ)))
   u9))
   (v7 `au1
   u9))))))) `kn
theorem ga0:`ax ev0 `Yt (o4 `ava):=`an
theorem Vc0(F:`ai `Yu `Yu `ava)(T:`al)(M_Reader:`bf6)(C_Reader_give:`bf7)(C_Reader_web:`bf8):`qK 8 `Yt (spX K yv0) :=
 okX (k:=7) (G:=wb0) F ga0 (λcdv A outer s H E hr=>(yw0 (Xp0 (jf0 1 ga0.nd `avb hr `r))
   (yw0 (Xn0 (Zw0 1 `bf9 hr `r `mI))
   (yw0 (N40 (Og0 1 C_Reader_web hr `r))
   uj0))))
theorem fw0:`ax ww0 `xN (o4 `avc):=`an
theorem fq0(F:`ai `OT `OT `avc)(T:`al)  : `Z 1 `xN (spD K U6) :=
 okD (k:=0) (G:=J7) F fw0 (λcdv A outer s H E hr=>(v7 (W6 (`ko `aF `EM)
   (v7 (Z3 (Y6 `aN `aF))
   u9)
   u9)
   (v7 (Z3 v9)
   u9))) `c_
theorem px0:`ax nz0 `on (o4 `avd):=`an
theorem Y10(F:`ai `De `De `avd)(T:`al)  : `Z 1 `on (spB K 0 Q7) :=
 okB (k:=0) (G:=wk0) F px0 (λcdv A outer s H E hr=>(t6 (`gQ `As 1 px0.nd)
   (t6 (X4 (xo0 (W2 `I5) (Ni0 0 `mC j9)))
   (t6 (`gQ `As 2 px0.nd)
   (t6 (M3 (`ko `aF `auW)
   (t6 (`kq (Z6 (Y6 `a0 `aF) `agm))
   o7)
   o7)
   (t6 (`kq (Z6 (M9 (b7 (b7 (Z6 (Y6 `a0 (Z6 `aF `auW)) v9) (M9 (M9 v9 `aF) `aF)) v9) v9) v9))
   o7)))))) `di
theorem J6:`ax oq0 `ave (o4 `avf):=`an
theorem Z50(F:`ai `Yv `Yv `avf)(T:`al)  : `Z 1 `ave (spN K zk0) :=
 okN (k:=0) (G:=xp0) F J6 (λcdv A outer s H E hr=>(v7 (Z4 j9 (o9 2 `tm))
   (v7 (Z4 j9 `bf')
   (v7 (pi0 E8 rfl (uv0 `Aq `xJ) (o9 4 `tm)
   (v7 (Z4 (b7 `dX (`I6 `a0 (W7 `aN (b7 (M9 `dr `dr) v9)))) `bf')
   u9))
   (v7 (Z4 `OS (o9 5 `tm))
   (v7 (w40 6 `sq `tm)
   (v7 (pi0 E8 rfl (uv0 `Aq `er) (o9 7 `tm)
   (v7 (Z4 (`I6 `a0 (b7 `aN `xP)) `bf!)
   (v7 (Z4 (b7 `avg (`I6 `a0 (b7 `Cd (W7 `xP v9)))) `bf!)
   (v7 (W6 `Ao
   (v7 (`bf? `P_)
   u9)
   (v7 (W6 `Ao
   (v7 (`bf? (U4 (Z6 `xP v9)))
   u9)
   (v7 (S6 (o30 6 (T8 `avg R9 (U4 (b7 v9 (w90 Pk0 Fh0 T.b_int b_int (v6 (qi0 nl0 qk0 `xP v9) u6)))))))
   u9))
   u9))
   u9))))
   (v7 (l90 6)
   u9)))))))) `kn
theorem dw0:`ax qw0 `HK (o4 `avh):=`an
theorem cq0(F:`ai `Yw `Yw `avh)(T:`al)  : `Z 1 `HK (spD K z80) :=
 okD (k:=0) (G:=yo0) F dw0 (λcdv A outer s H E hr=>(v7 (W6 (G7 `aF)
   (v7 (`bga `aN)
   u9)
   u9)
   (v7 (W6 `Ao
   (v7 `bgb
   u9)
   u9)
   (v7 (W6 `Ao
   (v7 `bgb
   u9)
   u9)
   (v7 (`bga `Cd)
   u9))))) `c_
theorem kp0:`ax sn0 `on (o4 `avi):=`an
theorem Z80(F:`ai `I7 `I7 `avi)(T:`al)(C__law_next:`avj)(C__law_number:`fV `Yw `HK z80):`Z 2 `on (spB K 0 O6) :=
 okB (k:=1) (G:=xg0) F kp0 (λcdv A outer s H E hr=>(t6 (X4 (`Ar `avk 1 kp0.nd))
   (t6 (M3 `rb
   (t6 (Y7 (W2 zj0))
   o7)
   o7)
   (t6 (M3 (`ko `Zy v9)
   (t6 (`kq (`kp C__law_number `kH (v6 `As u6)))
   o7)
   o7)
   (t6 (`kq (`me (Z6 `kH `As)))
   o7))))) `di
theorem ov0:`ax q50 `Yx (o4 `Yy):=`an
theorem Wl0(F:`ai `Yz `Yz `Yy)(T:`al)(C__law_next:`avj):`Z 2 `Yx (spB K 0 zi0) :=
 okB (k:=1) (G:=wm0) F ov0 (λcdv A outer s H E hr=>(t6 (`gQ j9 2 ov0.nd)
   (t6 (X4 (`Ar `avk 3 ov0.nd))
   (t6 (`kq (Uu0 j9 (v6 (dd0 (sc:=o4 `Yy) (N:=q50) (N':=`bgc) (n:=1) (caps:=[2,3]) `iZ `r (uv0 `Aq `er) (`ra `bgc) `uV (`e7 (`I6 `aF (b7 (W7 `a0 (b7 `aN v9)) (M9 `aN `aN))))) u6)))
   o7)))) `di
theorem yi0:`ax wo0 `on (`avl):=`an
theorem X30(F:`ai `I8 `I8 `abP)(T:`al)(C__law_next:`avj)(C__law_value:`abO `I7 2 O6)(C__law_word:`bgd P):`Z 3 `on (spB K 0 N8) :=
 okB (k:=2) (G:=yx0) F yi0 (λcdv A outer s H E hr=>(t6 (X4 (`Ar `avk 1 `xM))
   (t6 (X4 (Z4 `EL `bge))
   (t6 (X4 (W6 (pq0 (G7 `As))
   (v7 (Z4 (Y6 (yk0 (v6 `EL (v6 `EL `bgf))) `EL) `bge)
   u9)
   u9))
   (t6 (M3 `rb
   (t6 (Y7 (De0 j9 (`ya 0 C__law_word (pab 0 `bgf))))
   o7)
   o7)
   (t6 (X4 (Nf0 0 0 3 rfl `xM (sc:=`avl) (N:=wo0) (N':=`agk) (n:=1) (caps:=[0]) `iZ `r (uv0 `Aq `eQ) `bgg (`e7 (`ya 1 C__law_value (pab 1 u6)))))
   (t6 (M3 `rb
   (t6 (`kq (`me (`Ap `p5)))
   o7)
   o7)
   (t6 (`gQ `As 4 `xM)
   (t6 (`gQ (b7 v9 (Z6 `kH (zn0 `tB v9))) 5 `xM)
   (t6 (`gQ (`Ap (v6 (dd0 (sc:=`avl) (N:=wo0) (N':=`bgh) (n:=2) (caps:=[1,4,5]) `iZ `r (Nx0 T.b_enumerate `p5) (`e7 (`bgi `bgh)) `uV (`e7 (xm0 (v6 (Y6 `dX (Z6 (b7 `L5 (M9 `aN `dr)) (J5 `i5 `p5))) `er)))) u6)) 6 `xM)
   (t6 (M3 `rb
   (t6 (`kq (`me (z8 6)))
   o7)
   o7)
   (t6 (`kq (xm0 (v6 j9 (`tA (Y6 `dr (Z6 `kH `tB)) (z8 6)))))
   o7)))))))))))) `di
theorem m00:`ax p70 `avm (o4 `YA):=`an
theorem V60(F:`ai `YB `YB `YA)(T:`al)(C__law_cell_at:`bgj)(C__law_names:`xK `Yv `ave zk0)(C__law_part:`abO `I8 3 N8):`Z 4 `avm (spD K y80) :=
 okD (k:=3) (G:=vn0) F m00 (λcdv A outer s H E hr=>(v7 (`An (`kp `aG_ `aN `er) m00.nd)
   (v7 (w40 3 (Rs0 (gp0 j9 v9 (gp0 j9 (b7 (T8 `aN (U4 `I5) R9) (yk0 `eQ)) (gp0 j9 (qi0 W4 Z8 `avn v9) Hx0)))) m00.nd)
   (v7 (`avo (b7 v9 `bgk))
   (v7 (W6 (G7 (ut0 3 `mC j9))
   (v7 (`avo (b7 v9 `avn))
   u9)
   u9)
   (v7 (`avo (tf0 C__law_names hr `r (`tA (Z6 `L5 `agm) (Y6 (yk0 `bgl) `avn))))
   (v7 (Wa0 (Ro0 zu0 oh0 `Fd `Fc (Jg0 3 0 rfl (sc:=o4 `YA) (N:=p70) (N':=`agk) (n:=1) (caps:=[3]) `iZ `r (uv0 `Aq (v6 (ut0 3 `mC j9) u6)) `bgg (`e7 (`ya 1 C__law_part (pab 1 u6))))))
   u9))))))) `c_
theorem ck0:`ax qu0 `OV (o4 `YC):=`an
theorem di0(F:`ai `OU `OU `YC)(T:`al)  : `Z 1 `OV (spN K M4) :=
 okN (k:=0) (G:=kh0) F ck0 (λcdv A outer s H E hr=>(v7 (W6 `q?
   (v7 `Yc
   u9)
   u9)
   (v7 (W6 `q?
   (v7 `bf5
   u9)
   u9)
   (v7 (G6 (gk0 (sc:=o4 `YC) (N:=qu0) (N':=`bgm) (n:=2) (caps:=[]) `iZ `r `auO (`e7 (`bgi `bgm)) `uV (`e7 `aF)))
   u9)))) `kn
theorem y70:`ax sv0 `At (o4 `YD):=`an
theorem gu0(F:`ai `YE `YE `YD)(T:`al)(C__law_values:`bgn):`Z 2 `At (spN K wi0) :=
 okN (k:=1) (G:=nd0) F y70 (λcdv A outer s H E hr=>(v7 (w40 1 `sq `I9)
   (v7 (w40 2 (zp0 `xJ) `I9)
   (v7 (qo0 100000 E8 (Ui0 (n6 (Gt0 `R9) J60 `a0 (yk0 u6)))
   (v7 (`Ar (Qu0 2) 3 `I9)
   (v7 (W6 (Ui0 (n6 Y20 (ja0 `d) `dX `aF))
   (v7 (S6 (o30 1 `dX))
   (v7 (go0 4 `I9 (sc:=o4 `YD) (N:=sv0) (N':=[`BC]) (n:=1) (caps:=[]) `iZ `r (ol0 (tf0 `bgo hr `r (v6 (Y6 `aN `dX) u6))) (`ra [`BC]) (`e7 (Vv0 `au!)) `auP)
   (v7 (Lo0 2 (w40 2 (ci0 `a0 (`au0 `dr)) `I9))
   u9)))
   u9)
   u9)))
   (v7 `au1
   u9))))) `kn
theorem V80:`ax ee0 `zJ (o4 `avp):=`an
theorem Wz0(F:`ai `YF `YF `avp)(T:`al)  : `Z 1 `zJ (spD K sm0) :=
 okD (k:=0) (G:=er0) F V80 (λcdv A outer s H E hr=>(v7 (W6 `au!
   (v7 (Z3 (`me (Jj0 `aF `Ys)))
   u9)
   u9)
   (v7 (Z3 `aN)
   u9))) `c_
theorem z60:`ax sl0 `At (`avq):=`an
theorem Z70(F:`ai `YG `YG `abQ)(T:`al)(C__law_led:`fV `YF `zJ sm0)(C__law_numbered:FnN P w K mg `au `YE 2 `At wi0)(C__law_values:`bgn):`Z 3 `At (spD K vb0) :=
 okD (k:=2) (G:=jo0) F z60 (λcdv A outer s H E hr=>(v7 (Z4 (tf0 C__law_numbered hr `r `mI) (o9 1 `wN))
   (v7 (w40 2 `sq `wN)
   (v7 (pi0 E8 rfl `bgp (o9 3 `wN)
   (v7 (Z4 (Y6 `aN `dX) `avr)
   (v7 (go0 5 `wN (sc:=`avq) (N:=sl0) (N':=`zJ) (n:=1) (caps:=[1]) `iZ `r (ol0 (tf0 `bgo hr `r `Bn)) (`ra `zJ) `uV (`e7 (`kp C__law_led `aN `er)))
   (v7 (W6 (`Bk `bgq)
   (v7 (Z4 (`me (`Ap `avs)) `avr)
   u9)
   (v7 (W6 (n6 pf0 sb0 `bgq j9)
   (v7 (go0 6 `wN (sc:=`avq) (N:=sl0) (N':=["_law_pair"]) (n:=1) (caps:=[]) `iZ `r (ik0 (Y6 `dr `tz)) (`ra ["_law_pair"]) `uV `auP)
   (v7 (Z4 (b7 (T8 `dr R9 (U4 `tz)) (xm0 (v6 (`Ap (v6 (`au_ (P80 `x? T.b_zip `PY b_zip (v6 (z8 6) `avs))) u6)) u6))) `avr)
   u9))
   u9)
   u9))
   (v7 (S6 (o30 2 `dr))
   u9)))))
   (v7 (M80 (`Ap `eQ))
   u9))))) `c_
theorem ky0:`ax q30 `avt (o4 `avu):=`an
theorem Xy0(F:`ai `YH `YH `avu)(T:`al)  : `Z 1 `avt (spD K wl0) :=
 okD (k:=0) (G:=q60) F ky0 (λcdv A outer s H E hr=>(v7 (`An (yk0 (v6 `I5 (`YI v9 v9 (`YI v9 v9 (`YI (zn0 `aF v9) `I5 (v6 `I5 (v6 v9 `bgl))))))) ky0.nd)
   (v7 (W6 `Ao
   (v7 (Z3 (Z6 (Y6 `a0 `OS) v9))
   u9)
   u9)
   (v7 (Z3 `OS)
   u9)))) `c_
theorem sa0:`ax q20 `avv (o4 `avw):=`an
theorem Wp0(F:`ai `YJ `YJ `avw)(T:`al)(C__law_byte:`fV `YH `avt wl0):`Z 2 `avv (spD K wn0) :=
 okD (k:=1) (G:=td0) F sa0 (λcdv A outer s H E hr=>(v7 (`An (Z6 `kH `bgr) sa0.nd)
   (v7 (Z4 (`kp C__law_byte (W7 `kH `bgr) (v6 (Y6 (b7 `aN (yk0 `xJ)) `a0) u6)) (o9 3 sa0.nd))
   (v7 (Z4 `Zy (o9 4 sa0.nd))
   (v7 (W6 (`ko `dr v9)
   (v7 (Z3 (b7 `bgs `bgt))
   u9)
   u9)
   (v7 (W6 `avx
   (v7 (Z3 (b7 `bgs (T8 `aN `Fe R9)))
   u9)
   u9)
   (v7 (W6 `avx
   (v7 (Z3 (b7 `agl `bgt))
   u9)
   u9)
   (v7 (W6 `avx
   (v7 (Z3 `agl)
   u9)
   u9)
   (v7 (Z3 (w90 oy0 Tb0 `x? `PY `mI))
   u9))))))))) `c_
theorem sg0:`ax l20 `YK (o4 `avy):=`an
theorem fd0(F:`ai `YL `YL `avy)(T:`al)(XT:`avz)(AT:∀c∈`bgu,`aoq):`Z 1 `YK (spE K y00) :=
 okE (k:=0) (G:=m50) F sg0 (λcdv A outer s H E hr=>(v7 (Z4 `bgv (o9 1 sg0.nd))
   (v7 (Z4 (b7 `aF `bgv) (o9 1 sg0.nd))
   (v7 (W6 (`I' (te0 (n6 a90 `bgw K9 `aF) (te0 (G7 `yb) (te0 (pq0 (G7 `yb)) (ri0 (pq0 (G7 (Ie0 0 XT b_ValueError ty_ValueError `dj `vE T.b_ValueError))))))))
   (v7 (Z3 `tz)
   u9)
   u9)
   (v7 (Z3 (Bs0 0 AT))
   u9))))) (λc n d h=>Gn0 h)
theorem th0:`ax i20 `YM (o4 `avA):=`an
theorem av0(F:`ai `YN `YN `avA)(T:`al)(XT:`avz)(C_Reader_give:`bf7)(C__law_refusal:`bgx):`Z 8 `YM (spB K 0 T6) :=
 okB (k:=7) (G:=ju0) F th0 (λcdv A outer s H E hr=>(t6 (`gQ zj0 2 th0.nd)
   (t6 (X4 (Ud0 3 XT (λpn xe=>(yw0 (Xn0 (Zw0 0 `bf9 hr `r `er))
   uj0))
   (λea=>(v7 (Vj0 2 3 th0.nd)
   u9)) th0.nd))
   (t6 (M3 (Ug0 2)
   (t6 (Y7 (W2 zj0))
   o7)
   o7)
   (t6 (`kq (Pg0 2 `bgy hr `r))
   o7))))) `di
theorem vo0:`ax n90 [`gj] (o4 `avB):=`an
theorem f60(F:`ai `YO `YO `avB)(T:`al)(XT:`avz)(C__law_refusal:`bgx)(X_unpacked:`bgz P):`Z 9 [`gj] (spD K K5) :=
 okD (k:=8) (G:=ub0) F vo0 (λcdv A outer s H E hr=>(v7 (Z4 zj0 (o9 1 vo0.nd))
   (v7 (Ud0 2 XT (λpn xe=>(yw0 (Q00 X_unpacked hr `r `mI)
   uj0))
   (λea=>(v7 (Vj0 1 2 vo0.nd)
   u9)) vo0.nd)
   (v7 (W6 (Ug0 1)
   (v7 (Z3 zj0)
   u9)
   u9)
   (v7 (Z3 (Pg0 1 `bgy hr `r))
   u9))))) `c_
theorem qs0:`ax je0 `avC (o4 `avD):=`an
theorem au0(F:`ai `YP `YP `avD)(T:`al)  : `Z 1 `avC (spD K wz0) :=
 okD (k:=0) (G:=jr0) F qs0 (λcdv A outer s H E hr=>(v7 (Z4 v9 (o9 2 qs0.nd))
   (v7 (qo0 20000000 E8 (`I' (m90 (`ko `a0 `EM) (m90 (`ko `a0 (J5 `i5 `er)) (lt0 (n6 (Qt0 `R9) Uq0 (Y6 `aN `a0) (Y6 `aF `a0))))))
   (v7 (Z4 `aGX (o9 2 qs0.nd))
   u9))
   (v7 `bfP
   u9)))) `c_
theorem gg0:`ax d90 `YQ (o4 `avE):=`an
theorem Wx0(F:`ai `YR `YR `avE)(T:`al)(C_Reader_taken:`bgA)(C__law_given:`bgB):`Z 9 `YQ (spB K 0 t50) :=
 okB (k:=8) (G:=ei0) F gg0 (λcdv A outer s H E hr=>(t6 (X4 (`Ar (`uX 0 0 (T8 `aF R9 `Fe)) 4 gg0.nd))
   (t6 (M3 (`ko `dX `a0)
   (t6 (l40 (`YS (ui0 (mo0 (n6 pf0 sb0 `dr `dX)) (ui0 (mo0 (G7 (`bfN `dr))) `bgC)))
   (t6 `dT
   o7)
   o7)
   (t6 (`bgD (`uX 0 0 (T8 `aF `bgE `Fe)))
   o7))
   o7)
   (t6 (l40 (`YS (ui0 (mo0 (n6 ml0 o80 `dr zj0)) (ui0 (wr0 pf0 sb0 (`uX 0 0 (T8 `aF `Fe R9)) `dX) `bgC)))
   (t6 `dT
   o7)
   o7)
   (t6 (`bgD (`uX 0 0 (T8 `aF `bgE R9)))
   o7))))) `di
theorem v60:`ax J10 [`oP] (o4 `xQ):=`an
theorem Gz0(F:`ai `pV `pV `xQ)(T:`al)(M_Reader:`bf6)(C_Reader_open_parts:`pt P `Au R8)(C_Reader_taken:`bgA)(C_Reader_web:`bf8)(C_Reader_whole:`avF)(C__law_alike:`fV `YP `avC wz0)(C__law_bad:`bgF P)(C__law_bent:`OX `YJ `avv wn0)(C__law_cell_at:`bgj)(C__law_drawn:FnD P w K mg `au `YG 3 `At vb0)(C__law_given:`bgB)(C__law_web:FnD P w K mg `au `YB 4 `avm y80)(C__law_whole_at:FnD P w K mg `au `YO 9 [`gj] K5)(C_pack:FnN P w K mg `au `Yj 4 [`jJ] ms0):`Z 10 [`oP] `bgG :=
 okD (k:=9) (G:=Ts0) F v60 (λcdv A outer s H E hr=>(v7 (Z4 (J1 C__law_web hr `r `aG0) (o9 1 `pu))
   (v7 (`An (tf0 C_pack hr `r `er) `pu)
   (v7 `bgH
   (v7 (Z4 (`kp C__law_bent `a0 `p5) `bgI)
   (v7 `bgH
   (v7 (W6 (`vr (Z6 `dX v9))
   (v7 (Z4 `bgJ `avG)
   (v7 (Z4 (b7 (b7 `aG3 (yk0 (v6 (`I6 (yk0 (`YI `tz K9 (v6 zj0 `bfY))) `aG1) u6))) (T8 `dr `P_ R9)) `bgI)
   u9))
   u9)
   (v7 (Z4 (J1 `bgK hr `r `Bn) `avG)
   (v7 (jf0 6 `pu `avb hr `r)
   (v7 (Z4 `bgJ (o9 7 `pu))
   (v7 (W6 (`I3 (`agp `jr) (n6 W4 Z8 `jr `tB))
   (v7 (ma0 (`uY (`YT (`uX 6 6 (T8 `dr R9 `bgL))) (`YT (`uX 6 6 (T8 `dr `bgL R9))))
   (v7 `Av
   u9)
   u9)
   (v7 (ma0 (`uY (wr0 pf0 sb0 (`P0 `aGY) `tB) (`bgM `jr))
   (v7 `Av
   u9)
   u9)
   (v7 (Z4 `tB `avG)
   u9)))
   (v7 (ma0 (`uY (l60 (pm0 (`ya 6 C__law_bad (pab 6 (v6 `dr (v6 `xP `avs)))))) (`bgM (J1 `bgK hr `r `bgN)))
   (v7 `Av
   u9)
   u9)
   u9))
   (v7 (jf0 8 `pu `avb hr `r)
   (v7 (ma0 (`uY (`YT (`ya 8 `bgO (pab 8 `bgN))) (Qs0 pf0 sb0 (J4 8 `bgP hr `r) (`P0 `bgP)))
   (v7 `Av
   u9)
   u9)
   (v7 (W6 (`ko (`kp C__law_alike `dr `eQ) `jr)
   (v7 `Av
   u9)
   u9)
   (v7 (ma0 (`uY (`YT (`uX 6 6 (T8 `a0 `P_ R9))) (l60 (pm0 `bgQ)))
   (v7 `Av
   u9)
   u9)
   (v7 (Wa0 (mm0 (Qt0 `R9) Uq0 (`P0 C_Reader_web.plain) (J1 C__law_drawn hr `r `er)))
   u9)))))))))))))))) `c_
theorem i80:`uZ p00 `Aw:=`an
theorem jx0(F:`ai `d3 `avH `Aw)(T:`al)(CN_Reader:`ey):`Z 1 `dh (spB K 0 P0) :=
 okB (k:=0) (G:=p10) F i80 (λcdv A outer s H E hr=>(t6 `avI
   (t6 `avJ
   (t6 `avJ
   (t6 `avJ
   (t6 (X4 (n80 0 (zp0 `Fb) `rm))
   (t6 `avI
   (t6 `avI
   (t6 (X4 (lp0 0 j9 `rm))
   o7))))))))) `di
theorem mz0:`ax kl0 `YU (o4 `Ax):=`an
theorem cn0(F:`ai `I! `avK `Ax)(T:`al)(CN_Reader:`ey)(C_Reader_end_parts:`pt P `Ay zd0)(C_Reader_takes:`I? `Az 6 Z1)(C_is_byte:`OX `Yd `qS yg0)(I_NoPack:`bgR):`qK 7 `YU (j90 K 0 zr0) :=
 Dt0 (k:=6) (G:=to0) F mz0 `r (λcdv A outer s H E hr=>(lu0 (T50 (Ig0 PassesOwn.leaving rfl `bgp (o9 2 mz0.nd)
   (yw0 (T00 (`uY (mo0 (pq0 (G7 (J1 C_is_byte hr `r `eQ)))) (l60 (`gR pm0 C_Reader_takes `eQ)))
   (yw0 `bgS
   uj0)
   uj0)
   (yw0 (Xp0 (Mb0 0 v9 `rm))
   (yw0 (Xp0 (S6 (`PZ C_Reader_end_parts)))
   uj0)))))
   bs0))
theorem e90:`uZ mx0 `AA:=`an
theorem e20(F:`ai `wP `avL `AA)(T:`al)(CN_Reader:`ey):`Z 1 `dh (spB K 0 X7) :=
 okB (k:=0) (G:=rn0) F e90 (λcdv A outer s H E hr=>(t6 (`kq (qi0 W4 Z8 `lu v9))
   o7)) `di
theorem lz0:`uZ xu0 `AB:=`an
theorem lj0(F:`ai `Au `avM `AB)(T:`al)(CN_Reader:`ey):`Z 1 `dh (spB K 0 R8) :=
 okB (k:=0) (G:=zx0) F lz0 (λcdv A outer s H E hr=>(t6 (Y7 (W2 `lu))
   o7)) `di
theorem ep0:`uZ ux0 `AC:=`an
theorem et0(F:`ai `xO `avN `AC)(T:`al)(CN_Reader:`ey):`Z 1 `dh (spB K 0 R0) :=
 okB (k:=0) (G:=v20) F ep0 (λcdv A outer s H E hr=>(t6 (Y7 (W2 `lp))
   o7)) `di
theorem Z40:`uZ ur0 `u_:=`an
theorem Z20(F:`ai `jJ `avO `u_)(T:`al)(CN_Reader:`ey)(C_Reader_whole:`avF)(C_made_part:`bgT)(I_NoPack:`bgR):`qK 3 `dh (j90 K 0 M5) :=
 Dt0 (k:=2) (G:=v40) F Z40 `r (λcdv A outer s H E hr=>(lu0 (T50 (T00 (l60 `bgU)
   (yw0 `bgS
   uj0)
   uj0))
   (lu0 (Eo0 (Y7 (L70 0 `Fd `Fc (sc:=o4 `u_) (N:=ur0) (N':=`ex) (n:=1) (caps:=[]) `iZ `r `ga (`ra `ex) (`e7 (`kp `bgV `oL `Ys)))))
   bs0)))
theorem ni0:`Ja mt0 `AD:=`an
theorem e50(F:`ai `Az `avP `AD)(T:`al)(CN_Reader:`ey)(C_Reader_takes_digit:`I? `AE 4 Q5)(C_Reader_takes_letter:`I? `AF 2 S9)(C_Reader_takes_name_number:`I? `AG 5 W3)(C_Reader_takes_sign:`I? `AH 2 K1)(C_Reader_whole:`avF):`Z 6 `oo (spB K 0 Z1) :=
 okB (k:=5) (G:=yy0) F ni0 (λcdv A outer s H E hr=>(t6 (l40 `bgU
   (t6 `dT
   o7)
   o7)
   (t6 (`gQ `ago 2 ni0.nd)
   (t6 (M3 (`I3 `avQ `avQ)
   (t6 (`gR Y7 C_Reader_takes_digit `er)
   o7)
   o7)
   (t6 (M3 `avQ
   (t6 (`gR Y7 C_Reader_takes_sign `er)
   o7)
   o7)
   (t6 (M3 (`P2 `lp)
   (t6 (`gR Y7 C_Reader_takes_letter `er)
   o7)
   o7)
   (t6 (`gR Y7 C_Reader_takes_name_number `er)
   o7))))))) `di
theorem tv0:`Ja sh0 `AI:=`an
theorem mf0(F:`ai `AE `avR `AI)(T:`al)(CN_Reader:`ey)(C_Reader_goes_on:`bgW P)(C_Reader_takes_head:`bgX P):`Z 4 `oo (spB K 0 Q5) :=
 okB (k:=3) (G:=zl0) F tv0 (λcdv A outer s H E hr=>(t6 (`gQ (b7 (M9 `lp `om) (Z6 `aF `om)) 2 tv0.nd)
   (t6 (M3 (`ko `aF `om)
   (t6 (`gR Y7 C_Reader_takes_head `eQ)
   o7)
   o7)
   (t6 (l40 (`uY (mo0 `bgY) (l60 (`gR pm0 C_Reader_goes_on `eQ)))
   (t6 `dT
   o7)
   o7)
   (t6 `bgZ
   (t6 `dT
   o7)))))) `di
theorem he0:`ax oo0 `HO (o4 `AJ):=`an
theorem hh0(F:`ai `Jb `avS `AJ)(T:`al)(CN_Reader:`ey):`Z 1 `HO (spB K 0 zc0) :=
 okB (k:=0) (G:=tt0) F he0 (λcdv A outer s H E hr=>(t6 (`kq (Bg0 (qi0 W4 Z8 `ago j9) (eh0 (qi0 Tg0 Wg0 (M9 `aF `om) (b7 (M9 v9 (M9 v9 `bfQ)) v9)))))
   o7)) `di
theorem se0:`ax rb0 `YV (o4 `AK):=`an
theorem lk0(F:`ai `Jc `avT `AK)(T:`al)(CN_Reader:`ey)(K_KINDS:`au8)(C_Reader_hold:`Jd)(C_Reader_takes_part:`bg_ P)(C_unfolded:`fV `X' `ht pc0):`Z 3 `YV (spB K 0 T5) :=
 okB (k:=2) (G:=G8) F se0 (λcdv A outer s H E hr=>(t6 (`gQ `kH 2 se0.nd)
   (t6 (M3 `rb
   (t6 (`gR Y7 C_Reader_takes_part (`tA (Df0 K_KINDS `bgk) `L5))
   o7)
   o7)
   (t6 (M3 `avU
   (t6 `dT
   o7)
   o7)
   (t6 (M3 `rb
   (t6 (X4 (`gR S6 `yc (v6 (J1 C_unfolded hr `r `eQ) u6)))
   o7)
   (t6 (M3 (`auX `rb (`ko `a0 `lu))
   (t6 (X4 (`gR S6 `yc (v6 (`me (zn0 (zn0 `lu v9) `a0)) u6)))
   o7)
   (t6 (M3 (`vr `aF)
   (t6 (X4 (`gR S6 `yc (v6 zj0 u6)))
   o7)
   (t6 `dT
   o7))
   o7))
   o7))
   (t6 `dT
   o7)))))) `di
theorem sq0:`ax r00 `YW (o4 `AL):=`an
theorem ld0(F:`ai `Je `avV `AL)(T:`al)(CN_Reader:`ey)(C_Reader_hold:`Jd)(C_most_held:`fV `Ye `VF u30)(C_wanted_items:`fV `Yf `VG uy0):`Z 2 `YW (spB K 0 O9) :=
 okB (k:=1) (G:=xq0) F sq0 (λcdv A outer s H E hr=>(t6 (M3 (`I3 (n6 nl0 qk0 `a0 (J1 C_most_held hr `r `er)) (n6 W4 Z8 `lu (y50 T.c_MOST_PARTS)))
   (t6 `dT
   o7)
   o7)
   (t6 (X4 (`gR S6 `yc (v6 (`me `lu) u6)))
   (Xh0 0 3 `r (Tv0 0 3 sq0.nd `aF) (fb0 0 3 `ga) (fb0 0 3 `ga)
   (t6 (X4 (S6 (c10 `ga j9)))
   (t6 (X4 (S6 (I80 `ga (`au0 (`au4 C_wanted_items)))))
   (t6 `dT
   o7))))))) `di
theorem dn0:`ax kg0 `HP (o4 `AM):=`an
theorem ca0(F:`ai `Jf `avW `AM)(T:`al)(CN_Reader:`ey):`Z 1 `HP (spB K 0 V8) :=
 okB (k:=0) (G:=qv0) F dn0 (λcdv A outer s H E hr=>(t6 (M3 `bg0
   (t6 (X4 (S6 (c10 (p90 `agn v9) `aF)))
   o7)
   o7)
   (t6 (X4 (gn0 `ga))
   (t6 `bg1
   o7)))) `di
theorem kr0:`uZ qc0 `AN:=`an
theorem kq0(F:`ai `Ay `avX `AN)(T:`al)(CN_Reader:`ey):`Z 1 `dh (spB K 0 zd0) :=
 okB (k:=0) (G:=uh0) F kr0 (λcdv A outer s H E hr=>(t6 (X4 (qo0 100000 E8 (`auX `bg0 `avU)
   (v7 (gn0 `ga)
   (v7 (gn0 `ga)
   u9))))
   o7)) `di
theorem sp0:`Ja rc0 `AO:=`an
theorem kf0(F:`ai `AH `avY `AO)(T:`al)(C_Reader_hold:`Jd)(C_sign_of:`bg2):`Z 2 `oo (spB K 0 K1) :=
 okB (k:=1) (G:=xt0) F sp0 (λcdv A outer s H E hr=>(t6 (`gQ (`kp C_sign_of `aF (v6 (dz0 T.c_WORD_SIGNS) u6)) 2 sp0.nd)
   (t6 (M3 `bg3
   (t6 `dT
   o7)
   o7)
   (t6 `bg4
   (t6 `dT
   o7))))) `di
theorem ve0:`Ja vz0 `AP:=`an
theorem qh0(F:`ai `AG `avZ `AP)(T:`al)(CN_Reader:`ey)(C_Reader_takes_known_name:`bg5 P)(C_is_left:`bg6):`Z 5 `oo (spB K 0 W3) :=
 okB (k:=4) (G:=O3) F ve0 (λcdv A outer s H E hr=>(t6 (M3 `rb
   (t6 (`gR Y7 C_Reader_takes_known_name (v6 `kH u6))
   o7)
   o7)
   (t6 (`gQ `kH 2 ve0.nd)
   (t6 (M3 (`I' (te0 `bgY (te0 (n6 nl0 qk0 `a0 (y50 T.c_MOST_NAME_SIGNS)) (ri0 (n6 W4 Z8 `lu (y50 T.c_MOST_NAMES))))))
   (t6 `dT
   o7)
   o7)
   (t6 (M3 (`bg7 (v6 `a0 `Fb))
   (t6 `dT
   o7)
   o7)
   (t6 `bgZ
   (t6 `dT
   o7))))))) `di
theorem vv0:`ax u80 `YX (o4 `AQ):=`an
theorem qy0(F:`ai `Jg `av_ `AQ)(T:`al)(CN_Reader:`ey)(C_Reader_hold:`Jd)(C_Reader_names_here:`bg8 P):`Z 4 `YX (spB K 0 V7) :=
 okB (k:=3) (G:=K6) F vv0 (λcdv A outer s H E hr=>(t6 (M3 (n6 Be0 Dm0 `aF `lu)
   (t6 `dT
   o7)
   o7)
   (t6 (`gQ (xv0 (p90 `ga (zn0 (zn0 `lu v9) `aF)) `aG4) 2 vv0.nd)
   (t6 (l40 (`YS (Ii0 (mo0 `avU) (K30 (Ls0 a90 `bgw `a0 (`PZ C_Reader_names_here)))))
   (t6 `dT
   o7)
   o7)
   (t6 `bg4
   (t6 `dT
   o7)))))) `di
theorem sj0:`uZ ra0 `AR:=`an
theorem lw0(F:`ai `Jh `av0 `AR)(T:`al)(CN_Reader:`ey)(C_made_part:`bgT)(C_pair_names:`xK `Yb `ex uk0):`Z 3 `dh (spB K 0 K3) :=
 okB (k:=2) (G:=xr0) F sj0 (λcdv A outer s H E hr=>(S10 0 1 sj0.nd `agn (pv0 C_pair_names hr `r (v6 (`kp `bgV `Yh (v6 `Yh u6)) u6)))) `di
theorem tb0:`Ja s00 `AS:=`an
theorem m40(F:`ai `AF `av1 `AS)(T:`al)(CN_Reader:`ey)(C_Reader_hold:`Jd)(C_is_left:`bg6)(C_sign_of:`bg2):`Z 2 `oo (spB K 0 S9) :=
 okB (k:=1) (G:=K8) F tb0 (λcdv A outer s H E hr=>(t6 (`gQ (`kp C_sign_of `aF `bfV) 2 tb0.nd)
   (t6 (M3 (`I3 `bg3 (`bg7 (`tA `lp (b7 `lp `a0))))
   (t6 `dT
   o7)
   o7)
   (t6 (`P1 (b7 `lp `a0))
   (t6 (M3 (n6 W4 Z8 (J5 `i5 `bg9) `lp)
   (t6 (X4 (S6 (c10 `ga `lp)))
   (t6 (X4 (`gR S6 `yc `bg9))
   (t6 `bg1
   (t6 (`P1 j9)
   o7))))
   o7)
   (t6 `dT
   o7)))))) `di
universe zz
theorem us1:`YY 1 (∃a,us=[a])
 | [a],_=>#[a,rfl]
theorem us2:`YY 2 (∃a b,us=[a,b])
 | [a,b],_=>#[a,b,rfl]
theorem us3:`YY 3 (∃a b c,us=[a,b,c])
 | [a,b,c],_=>#[a,b,c,rfl]
theorem us4:`YY 4 (∃a b c d,us=[a,b,c,d])
 | [a,b,c,d],_=>#[a,b,c,d,rfl]
def Hd(K:`x)(x:Str)(st:`a4):Prop:=∃f fd,`bg'/\`av2
theorem R5{st:`a4}{f:`e}{osl:`j2}{kV:`B}(a:`av2)(l:`Rt `bg!)(c:`cM K cdv x=`d)(k:`Rb):Hd K x st:=#[f,_,J8 l c k,a]
section
variable(P9:`ak)(w9:`O)(b9:`D){h:`D}{st:`a4}{f:`e}{m:`N}(X9:`hz)(G9:`Fn)(F9:`bg')(a9:`av2)
include X9 G9 F9 a9
theorem cD1(o:`av3)(hl:`aJ=1)(b:`bg?):`av4:=`bha
theorem cD2(o:`av3)(hl:`aJ=2)(b:`bhb):`av4:=`bhc
theorem cD3(o:`av3)(hl:`aJ=3)(b:∀(kV doc pm:`B) (an:`bt) (cdv ct u v w:`B),`O1 #[[u,v,w],[]] [u,v,w]):`av4:=(`O2 (by let#[u,v,w,rfl]:=us3 `O3;exact b _ _ _ _ _ _ _ _ _))
theorem cN1(o:`av5)(hl:`aJ=1)(b:`bg?):`av6:=`bha
theorem cN2(o:`av5)(hl:`aJ=2)(b:`bhb):`av6:=`bhc
theorem cN4(o:`av5)(hl:`aJ=4)(b:∀(kV doc pm:`B) (an:`bt) (cdv ct u v w y:`B),`O1 #[[u,v,w,y],[]] [u,v,w,y]):`av6:=(`O2 (by let#[u,v,w,y,rfl]:=us4 `O3;exact b _ _ _ _ _ _ _ _ _ _))
universe zz
def all_mk{l:`aki}{w:`O}{h:`D}(X:`hz)(G:`Fn)(hfa:mg `pV=`Kk)
  {f41 f42 f43 f44 f45 f46 f47 f48 f49 f50 f51 f52 f53 f54 f55 f56 f57 f58 f59:`e}
  {od41 an41 od42 an42 od43 an43 od44 an44 od45 an45 od46 an46 od47 an47 od48 an48 od49 an49 od50 an50 od51 an51 od52 an52 od53 an53 od54 an54 od55 an55 od56 an56 od57 an57 od58 an58 od59 an59:`bt} {sl41 sl42 sl43 sl44 sl45 sl46 sl47 sl48 sl49 sl50 sl51 sl52 sl53 sl54 sl55 sl56 sl57 sl58 sl59:`j2} {oc41 kV41 dc41 pm41 cd41 ct41 oc42 kV42 dc42 pm42 cd42 ct42 oc43 kV43 dc43 pm43 cd43 ct43 oc44 kV44 dc44 pm44 cd44 ct44 oc45 kV45 dc45 pm45 cd45 ct45 oc46 kV46 dc46 pm46 cd46 ct46 oc47 kV47 dc47 pm47 cd47 ct47 oc48 kV48 dc48 pm48 cd48 ct48 oc49 kV49 dc49 pm49 cd49 ct49 oc50 kV50 dc50 pm50 cd50 ct50 oc51 kV51 dc51 pm51 cd51 ct51 oc52 kV52 dc52 pm52 cd52 ct52 oc53 kV53 dc53 pm53 cd53 ct53 oc54 kV54 dc54 pm54 cd54 ct54 oc55 kV55 dc55 pm55 cd55 ct55 oc56 kV56 dc56 pm56 cd56 ct56 oc57 kV57 dc57 pm57 cd57 ct57 oc58 kV58 dc58 pm58 cd58 ct58 oc59 kV59 dc59 pm59 cd59 ct59:`B}
  {t_BASE t_MOST_NAMES t_MOST_NAME_SIGNS t_MOST_PARTS t_MOST_VALUES t_MOST_WORD_SIGNS t_NAME_SIGNS t_WORD_SIGNS:Tok}
  {cT_Reader:`e} (aT_Reader:`hH `aM `bhd) (bT_Reader:Ss0 K `dG t8=`d)
  (h0:Hd K `OQ `auK)
  (h1:Hd K `X9 `auL)
  (h2:Hd K `X' `auM)
  (h3:Hd K `X! `auN)
  (h4:Hd K `Yb `Ya)
  (h5:Hd K `Yd `auQ)
  (h6:Hd K `O_ `auR)
  (h7:Hd K `Ye `auS)
  (h8:Hd K `Yf `auT)
  (h9:Hd K `OY `auU)
  (h10:Hd K `Yg `auV)
  (h11:Hd K `O0 `Yi)
  (h12:Hd K `Yj `auY)
  (h13:Hd K `OP `au2)
  (h14:Hd K `Yl `au3)
  (h15:Hd K `Yn `au6)
  (h16:Hd K `OR `Yr)
  (h17:Hd K `Yo `au7)
  (h18:Hd K `Yp `au9)
  (h19:Hd K `Ym `au')
  (h20:Hd K `Yk `au?)
  (h21:Hd K `Yu `ava)
  (h22:Hd K `OT `avc)
  (h23:Hd K `De `avd)
  (h24:Hd K `Yv `avf)
  (h25:Hd K `Yw `avh)
  (h26:Hd K `I7 `avi)
  (h27:Hd K `Yz `Yy)
  (h28:Hd K `I8 `abP)
  (h29:Hd K `YB `YA)
  (h30:Hd K `OU `YC)
  (h31:Hd K `YE `YD)
  (h32:Hd K `YF `avp)
  (h33:Hd K `YG `abQ)
  (h34:Hd K `YH `avu)
  (h35:Hd K `YJ `avw)
  (h36:Hd K `YL `avy)
  (h37:Hd K `YN `avA)
  (h38:Hd K `YO `avB)
  (h39:Hd K `YP `avD)
  (h40:Hd K `YR `avE)
  (a41:`hH `pV (`T f41)) (l41:`bH f41=`c #[oc41,od41,`cC (`bhe),sl41]) (c41:`cM K cd41 `pV=`d) (k41:`dD f41)
  (a42:`ez `d3 f42) (l42:`bH f42=`c #[oc42,od42,`cC (`cQ `d3 `avH (U5 `Aw) (X8 `Aw) (o4 `Aw) `aj kV42 dc42 pm42 an42 cd42 ct42),sl42]) (c42:`cM K cd42 `avH=`d) (k42:`dD f42) (i42:`eA f42)
  (a43:`ez `I! f43) (l43:`bH f43=`c #[oc43,od43,`cC (`cQ `I! `avK (U5 `Ax) (X8 `Ax) (o4 `Ax) `aj kV43 dc43 pm43 an43 cd43 ct43),sl43]) (c43:`cM K cd43 `avK=`d) (k43:`dD f43) (i43:`eA f43)
  (a44:`ez `wP f44) (l44:`bH f44=`c #[oc44,od44,`cC (`cQ `wP `avL (U5 `AA) (X8 `AA) (o4 `AA) `aj kV44 dc44 pm44 an44 cd44 ct44),sl44]) (c44:`cM K cd44 `avL=`d) (k44:`dD f44) (i44:`eA f44)
  (a45:`ez `Au f45) (l45:`bH f45=`c #[oc45,od45,`cC (`cQ `Au `avM (U5 `AB) (X8 `AB) (o4 `AB) `aj kV45 dc45 pm45 an45 cd45 ct45),sl45]) (c45:`cM K cd45 `avM=`d) (k45:`dD f45) (i45:`eA f45)
  (a46:`ez `xO f46) (l46:`bH f46=`c #[oc46,od46,`cC (`cQ `xO `avN (U5 `AC) (X8 `AC) (o4 `AC) `aj kV46 dc46 pm46 an46 cd46 ct46),sl46]) (c46:`cM K cd46 `avN=`d) (k46:`dD f46) (i46:`eA f46)
  (a47:`ez `jJ f47) (l47:`bH f47=`c #[oc47,od47,`cC (`cQ `jJ `avO (U5 `u_) (X8 `u_) (o4 `u_) `aj kV47 dc47 pm47 an47 cd47 ct47),sl47]) (c47:`cM K cd47 `avO=`d) (k47:`dD f47) (i47:`eA f47)
  (a48:`ez `Az f48) (l48:`bH f48=`c #[oc48,od48,`cC (`cQ `Az `avP (U5 `AD) (X8 `AD) (o4 `AD) `aj kV48 dc48 pm48 an48 cd48 ct48),sl48]) (c48:`cM K cd48 `avP=`d) (k48:`dD f48) (i48:`eA f48)
  (a49:`ez `AE f49) (l49:`bH f49=`c #[oc49,od49,`cC (`cQ `AE `avR (U5 `AI) (X8 `AI) (o4 `AI) `aj kV49 dc49 pm49 an49 cd49 ct49),sl49]) (c49:`cM K cd49 `avR=`d) (k49:`dD f49) (i49:`eA f49)
  (a50:`ez `Jb f50) (l50:`bH f50=`c #[oc50,od50,`cC (`cQ `Jb `avS (U5 `AJ) (X8 `AJ) (o4 `AJ) `aj kV50 dc50 pm50 an50 cd50 ct50),sl50]) (c50:`cM K cd50 `avS=`d) (k50:`dD f50) (i50:`eA f50)
  (a51:`ez `Jc f51) (l51:`bH f51=`c #[oc51,od51,`cC (`cQ `Jc `avT (U5 `AK) (X8 `AK) (o4 `AK) `aj kV51 dc51 pm51 an51 cd51 ct51),sl51]) (c51:`cM K cd51 `avT=`d) (k51:`dD f51) (i51:`eA f51)
  (a52:`ez `Je f52) (l52:`bH f52=`c #[oc52,od52,`cC (`cQ `Je `avV (U5 `AL) (X8 `AL) (o4 `AL) `aj kV52 dc52 pm52 an52 cd52 ct52),sl52]) (c52:`cM K cd52 `avV=`d) (k52:`dD f52) (i52:`eA f52)
  (a53:`ez `Jf f53) (l53:`bH f53=`c #[oc53,od53,`cC (`cQ `Jf `avW (U5 `AM) (X8 `AM) (o4 `AM) `aj kV53 dc53 pm53 an53 cd53 ct53),sl53]) (c53:`cM K cd53 `avW=`d) (k53:`dD f53) (i53:`eA f53)
  (a54:`ez `Ay f54) (l54:`bH f54=`c #[oc54,od54,`cC (`cQ `Ay `avX (U5 `AN) (X8 `AN) (o4 `AN) `aj kV54 dc54 pm54 an54 cd54 ct54),sl54]) (c54:`cM K cd54 `avX=`d) (k54:`dD f54) (i54:`eA f54)
  (a55:`ez `AH f55) (l55:`bH f55=`c #[oc55,od55,`cC (`cQ `AH `avY (U5 `AO) (X8 `AO) (o4 `AO) `aj kV55 dc55 pm55 an55 cd55 ct55),sl55]) (c55:`cM K cd55 `avY=`d) (k55:`dD f55) (i55:`eA f55)
  (a56:`ez `AG f56) (l56:`bH f56=`c #[oc56,od56,`cC (`cQ `AG `avZ (U5 `AP) (X8 `AP) (o4 `AP) `aj kV56 dc56 pm56 an56 cd56 ct56),sl56]) (c56:`cM K cd56 `avZ=`d) (k56:`dD f56) (i56:`eA f56)
  (a57:`ez `Jg f57) (l57:`bH f57=`c #[oc57,od57,`cC (`cQ `Jg `av_ (U5 `AQ) (X8 `AQ) (o4 `AQ) `aj kV57 dc57 pm57 an57 cd57 ct57),sl57]) (c57:`cM K cd57 `av_=`d) (k57:`dD f57) (i57:`eA f57)
  (a58:`ez `Jh f58) (l58:`bH f58=`c #[oc58,od58,`cC (`cQ `Jh `av0 (U5 `AR) (X8 `AR) (o4 `AR) `aj kV58 dc58 pm58 an58 cd58 ct58),sl58]) (c58:`cM K cd58 `av0=`d) (k58:`dD f58) (i58:`eA f58)
  (a59:`ez `AF f59) (l59:`bH f59=`c #[oc59,od59,`cC (`cQ `AF `av1 (U5 `AS) (X8 `AS) (o4 `AS) `aj kV59 dc59 pm59 an59 cd59 ct59),sl59]) (c59:`cM K cd59 `av1=`d) (k59:`dD f59) (i59:`eA f59)
  (z_ValueError:`hI `L7)
  (z_bool:`hI `y2)
  (z_enumerate:`hI `pG)
  (z_int:`hI `j8)
  (z_isinstance:`hI `vP)
  (z_len:`hI `wz)
  (z_list:`hI `e2)
  (z_ord:`hI "ord")
  (z_range:`hI `wf)
  (z_reversed:`hI `pe)
  (z_str:`hI `j9)
  (z_tuple:`hI `eC)
  (z_zip:`hI `hU)
  (y_BASE:`hH "BASE" (`g 128 t_BASE))
  (y_MOST_NAMES:`hH `bfD (`g 60 t_MOST_NAMES))
  (y_MOST_NAME_SIGNS:`hH `bfE (`g 8 t_MOST_NAME_SIGNS))
  (y_MOST_PARTS:`hH `bfF (`g 60 t_MOST_PARTS))
  (y_MOST_VALUES:`hH `bfG (`g 12 t_MOST_VALUES))
  (y_MOST_WORD_SIGNS:`hH `bfH (`g 20 t_MOST_WORD_SIGNS))
  (y_NAME_SIGNS:`hH `bfI (`t `Ds t_NAME_SIGNS))
  (y_WORD_SIGNS:`hH `bfJ (`t `Du t_WORD_SIGNS))
  {cI_NoWay fI_NoWay:`e} {odI_NoWay anI_NoWay:`bt} {slI_NoWay:`j2} {ocI_NoWay kVI_NoWay dcI_NoWay pmI_NoWay cdI_NoWay ctI_NoWay:`B}
  (aI_NoWay:`hH `u5 (`T cI_NoWay)) (bI_NoWay:`pv K (`T cI_NoWay) `d3=`MG `YZ)
  (lI_NoWay:`bH `YZ=`c #[ocI_NoWay,odI_NoWay,`cC (`cQ `d3 `bhf (U5 `X7) (X8 `X7) (o4 `X7) `aj kVI_NoWay dcI_NoWay pmI_NoWay anI_NoWay cdI_NoWay ctI_NoWay),slI_NoWay]) (gI_NoWay:`cM K cdI_NoWay `bhf=`d) (kI_NoWay:`dD `YZ) (iI_NoWay:`adN K `L6 `u5 `YZ=`d)
  {cI_NoPack fI_NoPack:`e} {odI_NoPack anI_NoPack:`bt} {slI_NoPack:`j2} {ocI_NoPack kVI_NoPack dcI_NoPack pmI_NoPack cdI_NoPack ctI_NoPack:`B}
  (aI_NoPack:`hH `e3 (`T cI_NoPack)) (bI_NoPack:`pv K (`T cI_NoPack) `d3=`MG `Y_)
  (lI_NoPack:`bH `Y_=`c #[ocI_NoPack,odI_NoPack,`cC (`cQ `d3 `bhg (U5 `X8) (X8 `X8) (o4 `X8) `aj kVI_NoPack dcI_NoPack pmI_NoPack anI_NoPack cdI_NoPack ctI_NoPack),slI_NoPack]) (gI_NoPack:`cM K cdI_NoPack `bhg=`d) (kI_NoPack:`dD `Y_) (iI_NoPack:`adN K `L6 `e3 `Y_=`d)
  {kA_KINDS:`e} {kn_KINDS:Nat} {ks_KINDS:`j2} {kt_KINDS_0 kt_KINDS_1 kt_KINDS_2 kt_KINDS_3:Tok}
  (kN_KINDS:`hH "KINDS" (`T kA_KINDS)) (kL_KINDS:`bH kA_KINDS=`c #[`fH,`f,`mX ⟨`t `JG kt_KINDS_0,`t "row" kt_KINDS_1,`t `JH kt_KINDS_2,`t `Ba kt_KINDS_3⟩ kn_KINDS,ks_KINDS])
  (xt:XC.Le0 K `L6 `wO `azu=`d)
  : ∃fd:`fY,(∀(s:`u) (v:`B),`LC s fd #[[v],[]] [(`oP,v)])/\∀base:`D,`aht->`Qx->`lH `bE w K mg `au CX0 10 fa fd [`oP] `bgG:=by
 skip;have e:=hfa.symm.trans (C5 X G a41);cases e;have T:`al:=#[E3 X G z_ValueError,E3 X G z_bool,E3 X G z_enumerate,E3 X G z_int,E3 X G z_isinstance,E3 X G z_len,E3 X G z_list,E3 X G z_ord,E3 X G z_range,E3 X G z_reversed,E3 X G z_str,E3 X G z_tuple,E3 X G z_zip,(`rc y_BASE),(`rc y_MOST_NAMES),(`rc y_MOST_NAME_SIGNS),(`rc y_MOST_PARTS),(`rc y_MOST_VALUES),(`rc y_MOST_WORD_SIGNS),(`rc y_NAME_SIGNS),(`rc y_WORD_SIGNS)];have q0:`au8:=#[_,_,_,_,C5 X G kN_KINDS,kL_KINDS,rfl,rfl,rfl,(`CH (4<=`W)),`aa `ad (`aa `ad (`aa `ad (`aa `ad (`R))))];let#[rr,XT]:=XC.tab_of X G xt;let#[f0,g0,F0,a0]:=h0;let#[f1,g1,F1,a1]:=h1;let#[f2,g2,F2,a2]:=h2;let#[f3,g3,F3,a3]:=h3;let#[f4,g4,F4,a4]:=h4;let#[f5,g5,F5,a5]:=h5;let#[f6,g6,F6,a6]:=h6;let#[f7,g7,F7,a7]:=h7;let#[f8,g8,F8,a8]:=h8;let#[f9,g9,F9,a9]:=h9;let#[f10,g10,x4,B2]:=h10;let#[f11,g11,s0,I1]:=h11;let#[f12,g12,w7,H4]:=h12;let#[f13,g13,u0,a13]:=h13;let#[f14,g14,z1,z5]:=h14;let#[f15,g15,t1,a15]:=h15;let#[f16,g16,u7,z6]:=h16;let#[f17,g17,x5,L1]:=h17;let#[f18,g18,t0,z3]:=h18;let#[f19,g19,u2,I4]:=h19;let#[f20,g20,y7,I6]:=h20;let#[z4,g21,r4,I2]:=h21;let#[f22,g22,s6,S0]:=h22;let#[H5,g23,r3,I0]:=h23;let#[f24,g24,s4,N0]:=h24;let#[f25,g25,s8,H6]:=h25;let#[I9,g26,r2,C3]:=h26;let#[C2,g27,r6,a27]:=h27;let#[N1,g28,r1,a28]:=h28;let#[f29,g29,y1,I7]:=h29;let#[f30,g30,w5,I8]:=h30;let#[f31,g31,v4,S3]:=h31;let#[f32,g32,t2,a32]:=h32;let#[f33,g33,v1,N2]:=h33;let#[f34,g34,s5,I5]:=h34;let#[f35,g35,x3,D1]:=h35;let#[I3,g36,r7,L0]:=h36;let#[B1,g37,q9,H3]:=h37;let#[f38,g38,y2,D2]:=h38;let#[f39,g39,y3,H7]:=h39;let#[S2,g40,r5,H8]:=h40;have H9:=J8 (x := `pV) (st:=`xQ) l41 c41 k41;have w2:=J8 (x := `d3) (st:=`Aw) l42 c42 k42;have s7:=J8 (x := `I!) (st:=`Ax) l43 c43 k43;have v2:=J8 (x := `wP) (st:=`AA) l44 c44 k44;have u1:=J8 (x := `Au) (st:=`AB) l45 c45 k45;have w0:=J8 (x := `xO) (st:=`AC) l46 c46 k46;have t4:=J8 (x := `jJ) (st:=`u_) l47 c47 k47;have v3:=J8 (x := `Az) (st:=`AD) l48 c48 k48;have w3:=J8 (x := `AE) (st:=`AI) l49 c49 k49;have w6:=J8 (x := `Jb) (st:=`AJ) l50 c50 k50;have s2:=J8 (x := `Jc) (st:=`AK) l51 c51 k51;have y5:=J8 (x := `Je) (st:=`AL) l52 c52 k52;have s3:=J8 (x := `Jf) (st:=`AM) l53 c53 k53;have s9:=J8 (x := `Ay) (st:=`AN) l54 c54 k54;have w4:=J8 (x := `AH) (st:=`AO) l55 c55 k55;have t3:=J8 (x := `AG) (st:=`AP) l56 c56 k56;have z0:=J8 (x := `Jg) (st:=`AQ) l57 c57 k57;have w1:=J8 (x := `Jh) (st:=`AR) l58 c58 k58;have x7:=J8 (x := `AF) (st:=`AS) l59 c59 k59;have J:`ey:=Hi0 `dU `ayl;done;refine#[`bhe,λs v=>.of_eq rfl,λbase _ _=>?_];have p3:=J8 (x := `d3) (st:=ini 10) lI_NoWay gI_NoWay kI_NoWay;have z2:`OW `bE `u5 rr:=X70 XT `r iI_NoWay p3 Yz0 (p3.binds (ps:=`hs) `bhh) `bhi
 have k0:=J8 (x := `d3) (st:=ini 11) lI_NoPack gI_NoPack kI_NoPack;have n4:`OW `bE `e3 rr:=X70 XT `r iI_NoPack k0 aq0 (k0.binds (ps:=`hs) `bhh) `bhi
 have AT:∀c∈`bgu,`aoq := λc hc=>by
  apply `anI;rcases hc with rfl|rfl
  ·exact at_of XT `r iI_NoPack
  ·exact at_of XT `r iI_NoWay
 have b3:=`rd F0 a0 (ej0 F0 T);have q8:=`op F1 a1 (O30 F1 T);have q6:=`op F2 a2 (Vd0 F2 T);have q5:=`op F3 a3 (Vh0 F3 T);have l4:=`rd F4 a4 (al0 F4 T);have j2:=`i_ F6 a6 (Sh0 F6 T);have p9:=`op F7 a7 (W80 F7 T);have i0:=`i_ F8 a8 (em0 F8 T);have l0:=`op x4 B2 (ao0 x4 T);have k3:=cD3 `bE w `au X G s0 I1 (Si0 s0 T) rfl `u0;have m0:=`i_ u0 a13 (Q90 u0 T);have e4:=`rd u7 z6 (Za0 u7 T);have k4:=`op x5 L1 (df0 x5 T q0);have l3:=`rd y7 I6 (Z30 y7 T);have b2:=`i_ s6 S0 (fq0 s6 T);have b0:`av7 `De 1 Q7:=#[H5,_,Y10 r3 T ,C5 X G I0,r3.kp,`av8 r3.binds];have m2:=cN2 `bE w `au X G s4 N0 (Z50 s4 T) rfl `u0;have k5:=`i_ s8 H6 (cq0 s8 T);have c3:=`rd w5 I8 (di0 w5 T);have q3:=`i_ t2 a32 (Wz0 t2 T);have p6:=`i_ s5 I5 (Xy0 s5 T);have b1:`aDQ `bE:=#[I3,_,fd0 r7 T XT AT,C5 X G L0,r7.kp,r7.binds (ps:=`YK) `Y0];have n8:=`i_ y3 H7 (au0 y3 T);have n7:`aDM `bE:=#[#[`dG,f42,_,jx0 w2 T J,`dU,#[(`Y8).2.2.1,a42,i42,(`Y8).2.2.2],`u1 w2.binds,C5 X G `dU]];have U:`pt `bE `wP X7:=#[#[`dG,f44,_,e20 v2 T J,`dU,`e0,#[a44,i44,k44],`u1 v2.binds,`av]];have c8:`pt `bE `Au R8:=#[#[`dG,f45,_,lj0 u1 T J,`dU,`e0,#[a45,i45,k45],`u1 u1.binds,`av]];have c1:`pt `bE `xO R0:=#[#[`dG,f46,_,et0 w0 T J,`dU,`e0,#[a46,i46,k46],`u1 w0.binds,`av]];have e7:`bgW `bE:=#[#[`dG,f50,_,hh0 w6 T J,`dU,`e0,#[a50,i50,k50],w6.binds (ps:=`HO) `re,`av]];have O:`axe `bE:=#[#[`dG,f53,_,ca0 s3 T J,`dU,`e0,#[a53,i53,k53],s3.binds (ps:=`HP) `re,`av]];have e3:`pt `bE `Ay zd0:=#[#[`dG,f54,_,kq0 s9 T J,`dU,`e0,#[a54,i54,k54],`u1 s9.binds,`av]];have q7:=`op F5 a5 (Sd0 F5 T q5);have e6:=`i_ F9 a9 (Yv0 F9 T l0);have p1:=cN2 `bE w `au X G t1 a15 (Z90 t1 T b3 e4) rfl `u0;have m1:=`rd t0 z3 (am0 t0 T e4);have n0:=`i_ u2 I4 (ar0 u2 T q8);have m6:`av7 `I7 2 O6:=#[I9,_,Z80 r2 T b0 k5,C5 X G C3,r2.kp,`av8 r2.binds];have p7:`bgd `bE:=#[C2,_,Wl0 r6 T b0,C5 X G a27,r6.kp,r6.binds (ps:=`Yx) `re];have e8:=`rd v4 S3 (gu0 v4 T c3);have p4:=`i_ x3 D1 (Wp0 x3 T p6);have d2:`bg_ `bE:=#[#[`dG,f52,_,ld0 y5 T J O p9 i0,`dU,`e0,#[a52,i52,k52],y5.binds (ps:=`YW) λ_ _ _ _ _ _ us hl=>by let#[_,_,_,rfl]:=us3 hl;rfl,`av]];have d1:`Ji `AH 2 K1:=#[#[`dG,f55,_,kf0 w4 T O j2,`dU,`e0,#[a55,i55,k55],`Jj w4.binds,`av]];have c0:`Ji `AF 2 S9:=#[#[`dG,f59,_,m40 x7 T J O k3 j2,`dU,`e0,#[a59,i59,k59],`Jj x7.binds,`av]];have l8:=cN4 `bE w `au X G z1 z5 (an0 z1 T m0 n0 p1 b3 k4 m1) rfl `u0;have p8:`av7 `I8 3 N8:=#[N1,_,X30 r1 T b0 m6 p7,C5 X G a28,r1.kp,`av8 r1.binds];have o1:=`op v1 N2 (Z70 v1 T q3 e8 c3);have e1:`aDO `bE:=#[#[`dG,f47,_,Z20 t4 T J U e6 n4,`dU,`e0,#[a47,i47,k47],`u1 t4.binds,`av]];have d3:`bgX `bE:=#[#[`dG,f51,_,lk0 s2 T J q0 O d2 q6,`dU,`e0,#[a51,i51,k51],s2.binds (ps:=`YV) `re,`av]];have e0:`bg8 `bE:=#[#[`dG,f58,_,lw0 w1 T J e6 l4,`dU,`e0,#[a58,i58,k58],`u1 w1.binds,`av]];have r0:=`rd w7 H4 (G50 w7 T l3 m0 l8);have q2:=`i_ y1 I7 (V60 y1 T b2 m2 p8);have c2:`Ji `AE 4 Q5:=#[#[`dG,f49,_,mf0 w3 T J e7 d3,`dU,`e0,#[a49,i49,k49],`Jj w3.binds,`av]];have Z:`bg5 `bE:=#[#[`dG,f57,_,qy0 z0 T J O e0,`dU,`e0,#[a57,i57,k57],z0.binds (ps:=`YX) `re,`av]];have Y:`Ji `AG 5 W3:=#[#[`dG,f56,_,qh0 t3 T J Z k3,`dU,`e0,#[a56,i56,k56],`Jj t3.binds,`av]];have j1:`Ji `Az 6 Z1:=#[#[`dG,f48,_,e50 v3 T J c2 c0 Y d1 U,`dU,`e0,#[a48,i48,k48],`Jj v3.binds,`av]];have c4:`aDN `bE:=#[#[`dG,f43,_,cn0 s7 T J e3 j1 q7 n4,`dU,`e0,#[a43,i43,k43],s7.binds (ps:=`YU) `re,`av]];have q1:`bgz `bE:=#[#[z4,_,Vc0 r4 T n7 c4 e1,C5 X G I2,r4.kp,r4.binds (ps:=`Yt) `Y0]];have e5:`aDR `bE:=#[B1,_,av0 q9 T XT c4 b1,C5 X G H3,q9.kp,q9.binds (ps:=`YM) `re];have e9:=`op y2 D2 (f60 y2 T XT b1 q1);have q4:`bgF `bE:=#[S2,_,Wx0 r5 T c1 e5,C5 X G H8,r5.kp,r5.binds (ps:=`YQ) λ_ _ _ _ _ _ us hl=>by let#[_,_,_,_,rfl]:=us4 hl;rfl];exact Gz0 H9 T n7 c8 c1 e1 U n8 q4 p4 b2 o1 e5 q2 e9 r0
theorem Ys0:∀ns:`S,Rps K H B `aqU `CX
 | []=>by rw[`nl,`nl,c7]
 | `qO=>by
  rw[`ab,`ab,j6];exact`lI `JW (Ys0 ns)
def Rx0{ns:`S}(hK:`aoy)(hS:`ake)(hm:`bft):spD K h00 `en H `akf `vF:=by
 refine#[`J2,[`mu],`jn,`a2x,?_,hm,λv H' _ r=>`aA9];rw[j6];refine`Gu _ ?_;rw[Q3];exact#[a,`oA `vH,rfl,script_at hK hS,Ys0 ns]
universe Zk
open PySem.W PyProof.Rows
end
set_option maxRecDepth 100000 in
theorem PySem.Challenge.cw_graphpack_k32_refused_in_pieces_holds : PySem.Challenge.rw_graphpack_k32_refused_in_pieces.Holds := by
 w_on;o_law;k_head;(case hw=>w_witness2)
 k_fill
 refine DL.Mk0 (l:=PySem.Challenge.rw_graphpack_k32_refused_in_pieces) (n:=63) (k:=10) (x := "_law_script") (CX:=L2.CX0) (sp:=λK=>DL.spD K Zk.h00) rfl (by decide) rfl ⟨rfl,by decide,by decide⟩ (λw h Y=>W.kIn_of Y) ?F ?S ?C
 case F =>
  intro w mg fa h KX G hmg;refine' Zk.all_mk KX G hmg ?aT_Reader ?bT_Reader ?h0 ?h1 ?h2 ?h3 ?h4 ?h5 ?h6 ?h7 ?h8 ?h9 ?h10 ?h11 ?h12 ?h13 ?h14 ?h15 ?h16 ?h17 ?h18 ?h19 ?h20 ?h21 ?h22 ?h23 ?h24 ?h25 ?h26 ?h27 ?h28 ?h29 ?h30 ?h31 ?h32 ?h33 ?h34 ?h35 ?h36 ?h37 ?h38 ?h39 ?h40 ?a41 ?l41 ?c41 ?k41 ?a42 ?l42 ?c42 ?k42 ?i42 ?a43 ?l43 ?c43 ?k43 ?i43 ?a44 ?l44 ?c44 ?k44 ?i44 ?a45 ?l45 ?c45 ?k45 ?i45 ?a46 ?l46 ?c46 ?k46 ?i46 ?a47 ?l47 ?c47 ?k47 ?i47 ?a48 ?l48 ?c48 ?k48 ?i48 ?a49 ?l49 ?c49 ?k49 ?i49 ?a50 ?l50 ?c50 ?k50 ?i50 ?a51 ?l51 ?c51 ?k51 ?i51 ?a52 ?l52 ?c52 ?k52 ?i52 ?a53 ?l53 ?c53 ?k53 ?i53 ?a54 ?l54 ?c54 ?k54 ?i54 ?a55 ?l55 ?c55 ?k55 ?i55 ?a56 ?l56 ?c56 ?k56 ?i56 ?a57 ?l57 ?c57 ?k57 ?i57 ?a58 ?l58 ?c58 ?k58 ?i58 ?a59 ?l59 ?c59 ?k59 ?i59 ?z_ValueError ?z_bool ?z_enumerate ?z_int ?z_isinstance ?z_len ?z_list ?z_ord ?z_range ?z_reversed ?z_str ?z_tuple ?z_zip ?y_BASE ?y_MOST_NAMES ?y_MOST_NAME_SIGNS ?y_MOST_PARTS ?y_MOST_VALUES ?y_MOST_WORD_SIGNS ?y_NAME_SIGNS ?y_WORD_SIGNS ?aI_NoWay ?bI_NoWay ?lI_NoWay ?gI_NoWay ?kI_NoWay ?iI_NoWay ?aI_NoPack ?bI_NoPack ?lI_NoPack ?gI_NoPack ?kI_NoPack ?iI_NoPack ?kN_KINDS ?kL_KINDS ?xt
  (case aT_Reader=>k_is)
  (case bT_Reader=>kernel_rfl)
  (case h0=>exact Zk.R5 (by k_is) (by k_is) (by k_is) (by k_is))
  (case h1=>exact Zk.R5 (by k_is) (by k_is) (by k_is) (by k_is))
  (case h2=>exact Zk.R5 (by k_is) (by k_is) (by k_is) (by k_is))
  (case h3=>exact Zk.R5 (by k_is) (by k_is) (by k_is) (by k_is))
  (case h4=>exact Zk.R5 (by k_is) (by k_is) (by k_is) (by k_is))
  (case h5=>exact Zk.R5 (by k_is) (by k_is) (by k_is) (by k_is))
  (case h6=>exact Zk.R5 (by k_is) (by k_is) (by k_is) (by k_is))
  (case h7=>exact Zk.R5 (by k_is) (by k_is) (by k_is) (by k_is))
  (case h8=>exact Zk.R5 (by k_is) (by k_is) (by k_is) (by k_is))
  (case h9=>exact Zk.R5 (by k_is) (by k_is) (by k_is) (by k_is))
  (case h10=>exact Zk.R5 (by k_is) (by k_is) (by k_is) (by k_is))
  (case h11=>exact Zk.R5 (by k_is) (by k_is) (by k_is) (by k_is))
  (case h12=>exact Zk.R5 (by k_is) (by k_is) (by k_is) (by k_is))
  (case h13=>exact Zk.R5 (by k_is) (by k_is) (by k_is) (by k_is))
  (case h14=>exact Zk.R5 (by k_is) (by k_is) (by k_is) (by k_is))
  (case h15=>exact Zk.R5 (by k_is) (by k_is) (by k_is) (by k_is))
  (case h16=>exact Zk.R5 (by k_is) (by k_is) (by k_is) (by k_is))
  (case h17=>exact Zk.R5 (by k_is) (by k_is) (by k_is) (by k_is))
  (case h18=>exact Zk.R5 (by k_is) (by k_is) (by k_is) (by k_is))
  (case h19=>exact Zk.R5 (by k_is) (by k_is) (by k_is) (by k_is))
  (case h20=>exact Zk.R5 (by k_is) (by k_is) (by k_is) (by k_is))
  (case h21=>exact Zk.R5 (by k_is) (by k_is) (by k_is) (by k_is))
  (case h22=>exact Zk.R5 (by k_is) (by k_is) (by k_is) (by k_is))
  (case h23=>exact Zk.R5 (by k_is) (by k_is) (by k_is) (by k_is))
  (case h24=>exact Zk.R5 (by k_is) (by k_is) (by k_is) (by k_is))
  (case h25=>exact Zk.R5 (by k_is) (by k_is) (by k_is) (by k_is))
  (case h26=>exact Zk.R5 (by k_is) (by k_is) (by k_is) (by k_is))
  (case h27=>exact Zk.R5 (by k_is) (by k_is) (by k_is) (by k_is))
  (case h28=>exact Zk.R5 (by k_is) (by k_is) (by k_is) (by k_is))
  (case h29=>exact Zk.R5 (by k_is) (by k_is) (by k_is) (by k_is))
  (case h30=>exact Zk.R5 (by k_is) (by k_is) (by k_is) (by k_is))
  (case h31=>exact Zk.R5 (by k_is) (by k_is) (by k_is) (by k_is))
  (case h32=>exact Zk.R5 (by k_is) (by k_is) (by k_is) (by k_is))
  (case h33=>exact Zk.R5 (by k_is) (by k_is) (by k_is) (by k_is))
  (case h34=>exact Zk.R5 (by k_is) (by k_is) (by k_is) (by k_is))
  (case h35=>exact Zk.R5 (by k_is) (by k_is) (by k_is) (by k_is))
  (case h36=>exact Zk.R5 (by k_is) (by k_is) (by k_is) (by k_is))
  (case h37=>exact Zk.R5 (by k_is) (by k_is) (by k_is) (by k_is))
  (case h38=>exact Zk.R5 (by k_is) (by k_is) (by k_is) (by k_is))
  (case h39=>exact Zk.R5 (by k_is) (by k_is) (by k_is) (by k_is))
  (case h40=>exact Zk.R5 (by k_is) (by k_is) (by k_is) (by k_is))
  (case a41=>k_is)
  (case l41=>k_is)
  (case c41=>k_is)
  (case k41=>k_is)
  (case a42=>k_is)
  (case l42=>k_is)
  (case c42=>k_is)
  (case k42=>k_is)
  (case i42=>k_is)
  (case a43=>k_is)
  (case l43=>k_is)
  (case c43=>k_is)
  (case k43=>k_is)
  (case i43=>k_is)
  (case a44=>k_is)
  (case l44=>k_is)
  (case c44=>k_is)
  (case k44=>k_is)
  (case i44=>k_is)
  (case a45=>k_is)
  (case l45=>k_is)
  (case c45=>k_is)
  (case k45=>k_is)
  (case i45=>k_is)
  (case a46=>k_is)
  (case l46=>k_is)
  (case c46=>k_is)
  (case k46=>k_is)
  (case i46=>k_is)
  (case a47=>k_is)
  (case l47=>k_is)
  (case c47=>k_is)
  (case k47=>k_is)
  (case i47=>k_is)
  (case a48=>k_is)
  (case l48=>k_is)
  (case c48=>k_is)
  (case k48=>k_is)
  (case i48=>k_is)
  (case a49=>k_is)
  (case l49=>k_is)
  (case c49=>k_is)
  (case k49=>k_is)
  (case i49=>k_is)
  (case a50=>k_is)
  (case l50=>k_is)
  (case c50=>k_is)
  (case k50=>k_is)
  (case i50=>k_is)
  (case a51=>k_is)
  (case l51=>k_is)
  (case c51=>k_is)
  (case k51=>k_is)
  (case i51=>k_is)
  (case a52=>k_is)
  (case l52=>k_is)
  (case c52=>k_is)
  (case k52=>k_is)
  (case i52=>k_is)
  (case a53=>k_is)
  (case l53=>k_is)
  (case c53=>k_is)
  (case k53=>k_is)
  (case i53=>k_is)
  (case a54=>k_is)
  (case l54=>k_is)
  (case c54=>k_is)
  (case k54=>k_is)
  (case i54=>k_is)
  (case a55=>k_is)
  (case l55=>k_is)
  (case c55=>k_is)
  (case k55=>k_is)
  (case i55=>k_is)
  (case a56=>k_is)
  (case l56=>k_is)
  (case c56=>k_is)
  (case k56=>k_is)
  (case i56=>k_is)
  (case a57=>k_is)
  (case l57=>k_is)
  (case c57=>k_is)
  (case k57=>k_is)
  (case i57=>k_is)
  (case a58=>k_is)
  (case l58=>k_is)
  (case c58=>k_is)
  (case k58=>k_is)
  (case i58=>k_is)
  (case a59=>k_is)
  (case l59=>k_is)
  (case c59=>k_is)
  (case k59=>k_is)
  (case i59=>k_is)
  (case z_ValueError=>k_is)
  (case z_bool=>k_is)
  (case z_enumerate=>k_is)
  (case z_int=>k_is)
  (case z_isinstance=>k_is)
  (case z_len=>k_is)
  (case z_list=>k_is)
  (case z_ord=>k_is)
  (case z_range=>k_is)
  (case z_reversed=>k_is)
  (case z_str=>k_is)
  (case z_tuple=>k_is)
  (case z_zip=>k_is)
  (case y_BASE=>k_is)
  (case y_MOST_NAMES=>k_is)
  (case y_MOST_NAME_SIGNS=>k_is)
  (case y_MOST_PARTS=>k_is)
  (case y_MOST_VALUES=>k_is)
  (case y_MOST_WORD_SIGNS=>k_is)
  (case y_NAME_SIGNS=>k_is)
  (case y_WORD_SIGNS=>k_is)
  (case aI_NoWay=>k_is)
  (case bI_NoWay=>k_is)
  (case lI_NoWay=>k_is)
  (case gI_NoWay=>k_is)
  (case kI_NoWay=>k_is)
  (case iI_NoWay=>kernel_rfl)
  (case aI_NoPack=>k_is)
  (case bI_NoPack=>k_is)
  (case lI_NoPack=>k_is)
  (case gI_NoPack=>k_is)
  (case kI_NoPack=>k_is)
  (case iI_NoPack=>kernel_rfl)
  (case kN_KINDS=>k_is)
  (case kL_KINDS=>k_is)
  (case xt=>kernel_rfl)
 case S=>exact λw H a ns hl hS=>Zk.Rx0 (by kernel_rfl) hS (Zk.Ld0 ns hl)
 case C=>exact λ_ _ _ _ z=>z
#print axioms PySem.Challenge.cw_graphpack_k32_refused_in_pieces_holds
