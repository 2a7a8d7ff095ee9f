import PyProof.Rows.All
import Wide.All
import OpenK.AllK
import Wide.FinOn
import Lean
import PyProof.EqAt
import PyProof.EqKinds
import PyProof.TupleCall
import PyProof.NeKinds
import PyProof.Rows.SetFrom
import KE.KRevIter
import PyProof.ZipIter
import PyProof.TupleOfGen
import PyProof.Rows.ZipGen
import PyProof.EnumMake
import PyProof.EnumFor
import PyProof.ListRange
import PyProof.LayNew
import KE.KDictOf
import KE.KIntText
import KE.IntTextLaws
import PyProof.StrCalls2
import PyProof.Rows.StrNews2
import PyProof.StrLawsTight
import PyProof.ExcArgsOwn
import PyProof.ExcAttrAll.ValueError
import PyProof.IsInstanceT
import PyProof.RulesAs
import PyProof.Rows.Tup
import OpenK.KOwn
import PyProof.ExcInit
import OpenK.KCls
import OpenK.KMake
import PyProof.InstStoreFacts
import PyProof.FactsAll.object
import PyProof.IsiStr
import KE.KIsAll
import PyProof.ListMulRight
import PyProof.AttrMissHeap
import PyProof.RaisesMany
import PyProof.RulesTry
import PyProof.NsDelKeeps
import PyProof.Rows.FStr
import OpenK.KWalk
import PyProof.AutoListH
import PyProof.CallFns
import PyProof.Rows.SortStr
import KE.KDictSum
import PyProof.Draws
import PyProof.Rows.CallKwBuiltin
import PyProof.SumWalkG
import KE.KDictLaws
import PyProof.DictTruth
import PyProof.Rows.SortShellK
import PyProof.Rows.SortWalk
import KE.KDictList
import PyProof.SliceList
import PySem.Challenge.RW_graphpack_k30_whole_each_web_has_one_pac
set_option maxHeartbeats 0
set_option compiler.extract_closed false
theorem cQ{P:Prop}(h:∀G:Prop,(P->G)->G):P:=h P id
theorem Ao0(h:True:=by rfl):True:=h
def Aa:=Ao0._auto_1
theorem Ao1(h:True:=by decide):True:=h
def Ab:=Ao1._auto_1
theorem Ao2(h:True:=by first|exact Or.inl rfl|exact Or.inr (Or.inl rfl)|exact Or.inr (Or.inr rfl)):True:=h
def Ac:=Ao2._auto_1
theorem Ao3(h:True:=by intro _;rfl):True:=h
def Ad:=Ao3._auto_1
theorem Ao4(h:True:=by first|exact .inl rfl|exact .inr rfl|assumption):True:=h
def Ae:=Ao4._auto_1
theorem Ao5(h:True:=by first|exact Or.inl rfl|exact Or.inr rfl):True:=h
def Af:=Ao5._auto_1
theorem Ao6(h:True:=by exact λ_ _=>rfl):True:=h
def Ag:=Ao6._auto_1
theorem Ao7(h:True:=by with_unfolding_all rfl):True:=h
def Ah:=Ao7._auto_1
theorem Ao8(h:True:=by first|exact g50 _|with_unfolding_all rfl):True:=h
def Ai:=Ao8._auto_1
theorem Ao9(h:True:=by first|exact nobehind _ (by decide) (by decide)|rfl):True:=h
def Aj:=Ao9._auto_1
theorem Ao10(h:True:=by first|rfl|with_unfolding_all rfl):True:=h
def Ak:=Ao10._auto_1
theorem Ao11(h:True:=by exact Or.inl rfl):True:=h
def Al:=Ao11._auto_1
theorem Ao12(h:True:=by intros;with_unfolding_all rfl):True:=h
def Am:=Ao12._auto_1
theorem Ao13(h:True:=by first|rfl|(subst_vars;rfl)):True:=h
def An:=Ao13._auto_1
set_option bootstrap.genMatcherCode false
set_option genSizeOf false
set_option compiler.postponeCompile true
set_option compiler.extract_closed false
set_option linter.all false
set_option tactic.hygienic false
set_option linter.all false
open Lean in
def xi(s:List Char):Nat:=match s.map λc=>"abcdefghijklmnopqrstuvwxyzABCDEFGHIJKLMNOPQRSTUVWXYZ_0123456789'!?".toList.idxOf c with
|[a]=>a
|[a,b]=>53+a*66+b
|[a,b,c]=>3551+(a*66+b)*66+c
|_=>0
open Lean in
def xr:Nat→Syntax→Syntax
|0,s=>s
|n+1,s=>if s.getKind==``Lean.Parser.Term.anonymousCtor then .node .none ``Lean.Parser.Tactic.rcasesPat.tuple (List.toArray [mkAtom "⟨",mkNullNode (s[1].getArgs.map λx=>if x.isAtom then x else .node .none ``Lean.Parser.Tactic.rcasesPatLo (List.toArray [.node .none ``Lean.Parser.Tactic.rcasesPatMed (List.toArray [mkNullNode (List.toArray [xr n x])]),mkNullNode])),mkAtom "⟩"]) else
 if s.getKind==``Lean.Parser.Term.hole then .node .none ``Lean.Parser.Tactic.rcasesPat.ignore (List.toArray [mkAtom "_"]) else .node .none ``Lean.Parser.Tactic.rcasesPat.one (List.toArray [s])
open Lean in
def xp(t:Array Syntax)(o:Syntax):Nat→Syntax→Syntax
|0,s=>s
|n+1,s=>s.rewriteBottomUp λs=>match s with
 |.node _ k a=>if k==``Lean.Parser.Command.open&&s[1][0][0].getId==`T then o else if k==``Lean.Parser.Tactic.skip then (xp t o n (t.getD 0 s))[1][1][0][0][0] else if k==``Lean.Parser.Tactic.done then (xp t o n (t.getD 1 s))[1][1][0][0][0] else
  if k==``Lean.Parser.Tactic.apply&&s[1].getKind==``Lean.Parser.Term.paren&&s[1][1].getKind==``Lean.Parser.Term.byTactic then s[1][1][1][0][0][0] else if k==``Lean.Parser.Term.quotedName then xp t o n (t.getD (xi s[0][0].getAtomVal.toList.tail) s) else
  if k==``Lean.Parser.Term.app&&s[0].getKind==``Lean.Parser.Term.fun&&(s[0][1][0][0].getId==`ζ||s[0][1][0][0].getId==`ϑ) then let b:=s[1].getArgs;let v:=s[0][1][0].getArgs.map Syntax.getId;s[0][1][3].rewriteBottomUp λx=>match v.idxOf? x.getId with|some i=>b.getD i x|none=>x else
  if k==`«term#[_,]» then .node .none ``Lean.Parser.Term.anonymousCtor (a.setIfInBounds 0 (mkAtom "⟨")|>.setIfInBounds 2 (mkAtom "⟩")) else
  if k==``Lean.Parser.Term.anonymousCtor then .node .none `«term#[_,]» (a.setIfInBounds 0 (mkAtom "#[")|>.setIfInBounds 2 (mkAtom "]")) else
  if k==``Lean.Parser.Tactic.tacticLet__ then let p:=s[2][0];if p[0].getKind==``Lean.Parser.Term.anonymousCtor then .node .none ``Lean.Parser.Tactic.obtain (List.toArray [mkAtom "obtain",mkNullNode (List.toArray [.node .none ``Lean.Parser.Tactic.rcasesPatMed (List.toArray [mkNullNode (List.toArray [xr 99 p[0]])])]),mkNullNode,mkNullNode (List.toArray [mkAtom ":=",mkNullNode (List.toArray [p[4]])])]) else .node .none k a else
  if k==``Lean.Parser.Command.declaration then let d:=s[1];.node .none k (if d.getKind==``Lean.Parser.Command.definition then if d[3][1].getKind==``Lean.Parser.Term.byTactic then a.setIfInBounds 1 (.node .none ``Lean.Parser.Command.theorem (List.toArray [mkAtom "theorem",d[1],.node .none ``Lean.Parser.Command.declSig (List.toArray [d[2][0],d[2][1][0]]),d[3]])) else a.modify 0 λm=>m.setArg 4 (mkNullNode (List.toArray [.node .none ``Lean.Parser.Command.noncomputable (List.toArray [mkAtom "noncomputable"])])) else a) else .node .none k a
 |.atom _ v=>.atom .none v
 |.ident _ r v p=>.ident .none r v p
 |s=>s
def xw(s:List Char):Nat:=s.foldl (λn c=>n*66+"abcdefghijklmnopqrstuvwxyzABCDEFGHIJKLMNOPQRSTUVWXYZ_0123456789'!?".toList.idxOf c) 0
open Lean in
local macro_rules
|`(command|mutual $cs* end)=>do
 let l:=(cs.getD 0 default).raw[1]
 if l[1][0].getId != `T then Lean.Macro.throwUnsupported
 let t:=l[3][1][1].getSepArgs
 let o←`(command|set_option tactic.hygienic true)
 let z:=((cs.getD 1 default).raw[1][3][1].isStrLit?.getD "").toList
 let e←(List.range (z.length/11)).mapM λi=>`(command|noncomputable def $(mkIdent (.str `PySem.W.Fast s!"tw{xw ((z.drop (11*i)).take 11)}")):ident:=0)
 return mkNullNode (((cs.drop 2).map λc=>let c:=xp t o.raw 99 c.raw
  if c.getKind==``Lean.Parser.Command.universe then .node .none ``Lean.Parser.Command.end (List.toArray [mkAtom "end",if c[1][0].getId==`zz then mkNullNode else mkNullNode (List.toArray [c[1][0],mkNullNode])]) else c)++(e.map (·.raw)).toArray)
mutual
def T:=[(by refine cQ λGQ kQ=>?_),(by refine kQ ?_),some,true,Addr,none,.int,`af Nat,`af Str,(`F),λζ ξ=>by rw[ζ];exact ξ,`af D,false,.inl,λζ ξ χ=>if ζ then ξ else χ,.inr,Option.bind_some,pins,λζ=>(ζ).length,.lst,.str,(`aw),Shared,this,.non,W.Frag,`a0 H s,Value,.tup,Heap,λζ=>(by with_reducible exact ζ),by lia,absurd,autoParam,Bool,Expr,`af `B,if_pos,`af Int,`af `ac,X.env,nilB,World,.nil,List.length_map,List.length_cons,`l->`d_,`af V,sizeLine,.ref,s.heap.objs.size,List.length_append,if_neg,.cons,B₀,Want,λζ=>((ζ:Nat):Int),H₀,List,List.map_cons,#[_,rfl],Program,(by rw[e2] at e1),(gv 1),.none,λζ ξ χ=>`k_ P w K mg `ao CX0 ζ fa fd ξ χ,`B->`eL,base,decide,`c o,xs.length,λζ ξ χ=>Fun K ζ ξ χ fa fd,0,`af (`atG),Txt mg,by decide,g δ,λζ=>`c (.nx ζ),fsc rfl rfl rfl rfl `cZ,s.heap,Option,d::ds,wpAny,`af Pt,λζ=>by rw[ζ];rfl,(z8 0),S.un,ps.length,(gv 0),S.begun.length,λζ ξ χ=>o5 (x:=ζ) (y:=ξ) χ rfl,(`a7),FnScope,(z8 1),`aB Int,`H (`atH) Ab,rest,`bu=`ff,(gv 2),List.map_append,λζ=>(by rw[ζ] at this),cons_of,`af `e,(by let#[B,b1,b2,env]:=en.ex),"Reader",D->`l->`atI,λζ ξ=>Inv X `r σ ζ ξ,Stmt,strOf,Str->`gF,λζ=>show ζ by lia,`zN `B,`af α,by simp,.fin,S.names,(`b7),λζ ξ=>if ζ then `c ξ else `f,D->Ds->`aB Ds,λζ=>(by let#[r,en,e1,k]:=ζ),by decide +kernel,`c u,Bool.and_eq_true,`dc H H',(R S),List.append_assoc,(by intro pins s σ H Q I h),(z8 2),λζ=>by exact ζ,`c d,λζ=>by simpa using ζ,λζ ξ=>fun σ H Q=>ζ σ H ξ,pool,(`eM),`L rfl,`aB `e,D->`zO,`jK H δ,(ha B δ),S.wait,(n:Int),B5 _,.Name,0,λζ=>.ow (z9 p (R ζ)),λζ=>by refine ζ,List.replicate,`qz ds,`g i,decide_eq_false,(`fg),λζ=>(by let#[d,en,h,k]:=ζ),(`ck::δ),B.length,λζ ξ=>`aD `dE A ζ Q E ξ,l.length,as.zip sos,.type,ds.length,`c v,List.range,`af `J,λζ ξ=>by rw[← ζ];exact ξ,List.append_nil,(`cl (b7 ?_)),Vals,eval,K.lookup,λζ=>show ζ from rfl,`c `m,`X a,.value,decide_eq_true,False,I.hok,D.int,its.toArray,List.getD_eq_getElem?_getD,Gi S,
by omega,λζ ξ χ=>ζ `r s σ H ξ I χ,(b:Int),Paired,Int.toNat_natCast,items,S.begun,.bl _,λζ=>`c (`ap (ζ)),r.length,`u _,Around,`af `a1,`L h,l.prog,λζ=>X5 rfl λp=>#[ζ,?_,rfl],.ow `atJ,λζ=>by refine ζ,List.size_toArray,.builtin,λζ=>`g_ i (.ow ζ),λζ ξ=>`aD `cI X.A ζ ξ `hG s,String,_::_,(by rw[e3] at e1),pure,(`bZ),s.toks,λζ=>fun σ H Q=>ζ,`iy K H δ,(`H9 rx),`_ hb,PD X a ga,X.prog,(j:Int),(·.1),X.mg,A6.mp,(gc (`dJ)),λζ=>by rw[ζ];lia,(`zM `cB X.w),.sh `qB,name,(gN 2),.sign,held,λζ=>by have:=ζ;lia,`ds=0,λζ=>`t ((ζ).map `g),Runs,List.map_map,Scope,Frag,(by let#[t',rfl]:=ry),`g _,List.getElem?_map,Ds->`d_,(`bb),"self",(`lp),bdS e1,"at",`u x,δ[i]?,(gc `qA),l.map,B9.mp,outer,λζ=>Z1 (ds:=ζ) rfl,`iz d,λζ ξ=>`aD _ _ ζ _ _ ξ,(T9 I q `aM),List.replicate_succ,PD X e g,Same,by kernel_rfl,A7.mp,.dct,`C ds,items.length,caps,H b=`f,(`W9),λζ ξ=>by rw[ζ,ξ];rfl,λζ ξ=>n6 (δ':=ζ) ξ ?_,`H (`W'=`ui::`uj) Aa,0,.func,(by rw[e1,e2] at h),PD X b gb,S.length,`c q,`c x,`t xs,r.mono,todo,h.objs.size,vs.length,W.codeIn,λζ ξ=>`aD ζ A ξ Q E s,W.fnOf,(gN 0),(`W8),`_ h,`H (`lq) Aa,`af (`uk),(λds d h=>G3 h),`g 1,List.mem_singleton.mp,`u s,SubO,flat,s.heap.get?,m.length,λζ=>by show ζ;lia,`c r,`_ `v,List.length_take,D.tup,λζ ξ=>T4 0 `aZ o4 ζ ξ,Unit->`eL,`H (`atK) Ab,`L hb,D->`I,`aB D,cT_Reader,RelV,List.length_singleton,b<=255,X.calm=`d,(k:Int),(k+1),`g n,Nat×`l,(z7 `aT v8),λζ ξ=>{ ζ with count:=ξ },B0.mp,w.length,`aB V,call,nm.length,#[h,g,d,t,os],[`ck],λζ=>λx y H Q=>ζ,λζ ξ=>z7 ζ (z7 ξ v8),(0:Int),`bU xs us,X.N.Nodup,x=`bZ,[`zP],λζ ξ=>v5 ζ (v5 ξ u5),(λb ds r b' h=>z00 h),(Y8 (W9 G8)),λζ=>`vk K (`X ζ)=`d,aT_Reader,"tuple",.sh `qE,λζ ξ=>`vB ζ ξ [] pos,scope,`t ds,(`bL),ga δ,body,H p=`f,z.elim,`t _,`af Env,s₁,`qF `W?,Gr H H' B B',`H (`H!) Ac,λζ ξ=>.mk λB δ=>ζ ξ,List.zip_cons_cons,λζ=>`c (`fC (`ap ζ))=_,λζ ξ=>O8 ζ hr `v (ξ),`w->Prop,`X C,gA δ,.sh (`lr),`c y,`g `bv,meth,w≠`a8,(v5 `bi u5),
start,(`H?),[`bZ],I.len,G1 δ,`c `W!,its p,"__init__",X.base,(`hu),λζ ξ=>t8 (δ':=ζ) ?_ ξ,(z7 `ak v8),FuncData,Model,`H (∀x,foldedSetIterable iter `O x=`ct x) Ad,λζ ξ=>`bBY (ζ) (λ_=>ξ),`c `d,(hb B δ),(by simp only[`q] at e1),`_ e,`dK z,λζ=>`c (`b3 ζ)=_,ClsN K `aZ o4,λζ ξ=>`r5 K `a?7 ζ=`c (`c (`X ξ)),λζ=>`avV K (`X ζ)=`d,w::ws,A2 _,`c c,A8 e,(`dL),Opens,S.names.length,D.str,.name,`C xs,(i+1),(`bD),(`dd),ys.length,`bM `er,someO,"NoPack",List.getElem?_append_left,pre.length,gb δ,λζ ξ χ=>by rw[ζ,ξ];exact χ,i.toNat,j∈B,D.bl,I.loc,(`atM),(`atN),`c k,False.elim,λζ ξ χ=>o2 ζ (gc (`g ξ)) χ,b<128,(v5 `aO u5),HOk P w H h,`d1 y u,(by intro pins s σ H x y v u Q I rx ry h),Ds->`ul,`e->Prop,`Xa K H,`H (`jM) Aa,(by simp only[`q] at h),[`c_],`qJ∨w=.cls,(`Xb).1,`X p,"list",en.same,h.get?,λζ ξ=>{ ζ with heap:=ξ },(W7 (W8 0) `qI),X.env.locals,λζ ξ=>OpR X (`Pm ζ) ξ,.bl b,mainGlobals,.sh d,λζ=>`u (`a2 ζ),s.cps.toList,`a8::ws,pairsOf,ns.length,.sh (`jL),items.size,kn p,T.length,D.nx,λζ ξ χ=>ζ ξ B δ χ σ H Q,q.to,`Ia=`dt,.Attribute,(Y9 hp),`d1 v u,I.kIn,`af J6,(N:Int),λp hp=>?_,at'.sl,(gv 4),128<=b,λζ=>(by let#[x,H1,I1,r1,q1]:=ζ),PE X e te,List.length_replicate,List.reverse_cons,List.flatten_cons,List.lookup_cons,λζ=>fun δ=>`k? ζ,`Ib `Xc `ui,`L e,λζ=>(by let#[r,en,e1,kk]:=ζ),(`nF).bind,bdS h,λζ=>U5 rfl (ζ),`um∨`hv,λζ ξ χ=>ζ (K8 0 ξ hr `v χ),`aB `B,(e::es),S.un.length,closed,Value.ref,.root,(`atL),`qK=`aq,`g `cC,S.count,X.stack,λζ=>k _ H `vm ζ,`n z,gx δ,"_law_cell",(d8 ?_),λζ=>λcl s H ex=>ζ,.bool,made,C6 _ rfl,`c `f,δ.set,(gc (`g 3)),λζ=>by rw[ζ];simp,value,CallR,`c (r,R S'),`aH=k::u,λζ=>by simp[ζ],scope.names,(`atO),es.length,I.free,(`lt),if_false,(`ad (128+r%128)),`c (`lu),λζ ξ χ=>FnD P w K mg `ao ζ 1 ξ χ,[`zR],λz=>?_,`af (Key×V),(gv 7),λ_=>rfl,K.In h,`bE h,`af (κ×V),CmpOp,`H (`atQ) Aa,hbase,Ds->`qL,λζ=>(by let#[r,en,e,k]:=ζ),(S5 (V4 (gc `un))),Nat->Nat,`bE `j,
λζ ξ χ=>Z9 (Y6 ζ (m5 ξ χ)),c7 ?_,w=`b_,S.hold,starEach,`af Key,T.b_len,λζ ξ=>{ s with heap:=ζ,toks:=ξ },λζ=>.ow (z9 p ζ),`g z,h'.get?,S.wait.length,s.heap.push,X.xe,`de hd,λζ ξ=>{ cls:=ζ,data:=`mi ξ },(by rw[`Z,`d2]),λb hb=>?_,as.length,(λz=>nomatch z),λζ ξ=>ob (o2 ζ ξ eqD),(gc (`qG)),[`ck,`es,.un],List.nil_append,λζ=>.ow (`t ζ),"length",assign,λζ=>.bl (`ap (ζ)),EnvS,λζ=>(ζ).toArray,λζ=>`c (`lu,R ζ),k _ _ `c0 e,if_true,`qM ds xs,λζ ξ χ=>∀H₀ B₀ δ,ζ X ξ χ,A.in1,.Assign,λζ ξ χ=>o5 (x:=ζ) (y:=ξ) rfl χ,[`ck,`es,`qN],`zS<=100,λζ=>λxs H Q=>ζ,I.bare,λζ ξ χ=>(by refine A0 (ζ ξ χ ?_)),`af (Str×V),ObjOk,(by intro pins s σ H D I h),`qO `zT hs B7,Sem `I,List.lookup,by simp at h,(`bj `bag),first,0,names,(by let#[v,e,r]:=h),PID X tg iter gi,λζ=>ζ _ _ p hu,λζ=>ζ _ _ `nf hu,`qP s1,(by replace e1:=`c1),0,`af (`h),(`bj `atR),λζ ξ=>t8 (δ':=ζ) rfl ξ,`b0 h,0,0<=b/\`d3,Wb ps,(z8 7),λζ ξ=>`AE K `f4 ζ=`c (`c ξ),λζ=>`AE K `f4 ζ=`gZ,λζ ξ χ=>`hV ζ `ae `ab ξ σ χ,λζ=>Rp K H B ζ v,(·.2),Hp->Prop,.sh (`H'),.sh `qD,λζ=>`c (.ok ζ),Room,CloseOk,`g 0,`fZ a,I.list,ks.length,opened,flats,I.pin,qual,(gc (`nE)),`g j,(`atP),`bM `fX,ps.flatMap two,λζ=>(by with_reducible refine ζ),λζ ξ=>#[ζ,H,I,rfl,ξ],n.toNat,(gc (`Xd)),[`ck,`eO,.un],`c `uo,`fY s1,`qQ kd n,λζ ξ χ=>`H (`_' ζ ξ χ `O=`LL) Aa,ns[k]?,`hw (`zV),(`atS),`lw=[],(n+1),"web",`nH `iA,`d1 x u,b≠a,λζ ξ=>by rw[ζ,ξ];lia,(`lv),`u a,a.length,S1.wait,λa z=>?_,(`nG `up),λζ ξ=>n6 (δ':=ζ) ?_ ξ,S.wait.tail,Cl h C tl,PE X a ta,(`H9 r),"int",A.handled=`f,`_ h0,V->`qR,(`uq),"str",hline,trivial,#[_,q],λζ=>(by exact `p (`p ζ)),`H (X.fn y=`d∨`Xe y=`lx) Ae,Ds->`zW,signs,`ax=`bk,RpO K H B d a,h.len,`qS (PGD `qT tg idx f),(by intro H B x y dx dy d Q hb rx ry h k),(by let#[v,rfl,r1]:=yp0 r),(hr.mono hk),`_ `aM,nrf d=`d,λζ ξ=>by rw[ζ,`b0 ξ],`b0 `j,List.getElem?_modify,c∈Y7,λζ ξ=>Env K ζ B σ ξ,`g c,Gl X x,`t (`nI `g),
env.same,"begun",.free,(`uy),cpos,(`nG `uv),`c a,`jO s1,kvs.length,gt δ,2 ^ 62,(`f_ s h'),λζ=>λb o e=>ζ,HT.sIx,(Y5 `aO v7),s1.heap.objs.size,"zip",(`ly),A1 ?_,pd `uz,`nH `cD,λζ ξ=>`H (`hx ζ `O=ξ) Aa,h.elim,(`uu),`u `zZ,(`aC),j.toNat,List.cons_append,`c (`z_,R S),`c `ur,(`Ie),λζ ξ=>Env X.K ζ B σ ξ,(`fW),`If=`zX,(vs++dvs),`atT=`ut,yh0 ds,λζ ξ=>(`bB ζ ξ).flatten,`u `Ig,(r:Int),(`lz).begun,(`bw),St->`iB,(`Ic),#[rfl,rfl],δ[j]?,λζ=>`H (Gl X ζ) Aa,Gr.less,`zN GenState,Value.type,Option.map_some,[`c_, `c2],`zY b,List.length_drop,λζ ξ=>fun δ=>ζ λr=>ξ,[`ck,`iC,`ux],λζ ξ=>`aW ζ (`aW ξ rfl),(r/128),Nat.sub_self,λζ=>∀n:Nat,ζ,(`uA),[`Ih, `jP],λζ ξ=>`aD _ `h1 ζ _ _ ξ,λζ=>λD σ H=>ζ,(gN 3),(gc `y),q.1=0,`zN (`gF),List.all_eq_true,λζ ξ=>A0 (ζ (A0 (ξ))),`af (`hy×V),α->β->Prop,(`b8 he _ h),(by intro X hP hw hK hc i pins s σ H E I hf st hg),(by subst hP hw hK),`d1 x v,`z0 X.K fd ps ds,`bU dvs ds,FnOk,λζ ξ=>#[_,_,rfl,ζ,ξ],`df ks ds,λζ=>∀{ds:`l} {xs:`V},ζ,λζ ξ=>Rps K H B (ζ) ξ,`Xg d,NodeOk,by rw[d7],PDA X `gG gA,`_ z,`H (`atU) Af,λζ ξ=>PD X ζ (o2 ga gb ξ),`H (`d4) Aa,(`ax).bind,k::ks,`atV+1<`nJ,λζ ξ χ=>(by refine#[ζ,ξ,rfl,χ,?_]),(`zU h.go),`c `Ij,(by unfold closed),tr d=`d,`aF hδ,`atW<=`gH,λζ ξ=>by show ζ;rw[ξ],λζ ξ=>Z1 (ds:=ζ) (`aW ξ rfl),`z1=0,G.few,λζ=>Y8 (W9 (ζ)),λζ ξ χ=>cD2 `ci w `ao X G ζ ξ χ rfl `uf,`n rfl,X.N[i]?=`du,`g `b9,"_law_book",`X e,.bl `d,`X `Y,S.spelled,`c .local,lkd j,`hw d,as++[L],`qZ j `q_,.ins C dx fs,`u `c2,(`lB),List.getElem?_set_ne,backTo,`u (`qY kd),`g `d5,(`qX),`qW=sc,"digits",(yu0 hr),.fields,I.cell,items.drop,get_set,(`aW rfl rfl),.Subscript,A.units,∀a,`nK->B a,∀a,B a->`nK∨`ae a=`f,codes,s∈T,I.tuple,True.intro,`t es,`u `Il,λζ=>(`m,`bV ζ `O),o.cls,λζ ξ=>ζ `r s1 σ H1 ξ I1 q1,List.getElem?_eq_getElem,xd0 kvs k,(`atX),j<`aI,λζ ξ=>{ cls:=ζ,data:=ξ },δ.length,(m:Int),pos.line,f2 b hb,its.toArray.size,r2.length,k.toNat,(N5 N j p b ds),
λζ ξ=>[ζ,`iD,ξ,.un,.un,.un,.un],It `aI d,Bt.b7,"_law_some",.seq,(`uB),D.lst,F[k]?=`dt,h1.get?,I.ok.kind,(`bx x pos),(g i j),(`Id `us),λζ=>#[ζ,H,`uL,`ah,q],typeLookup,`c `jQ,`u c,`Ik d,e.all,List.map_nil,`af (V×V),(`nL),Value.none,J.w.openOk,`Xh=`fh,C4.mpr,List.length_reverse,[`ck,`eO,`Xi],(ix L),Nat.zero_add,`z3 k `Xj,(`uD),E.begun,Whl q,`iE `W!,`c (.ex c n δ'),(yw0 `f0 fun δ d h=>xz0 h),λζ=>show ζ from r,F.len,λζ=>(by simp only[ζ,`g?]),λζ=>o2 ζ `cG m8,λζ=>o2 ζ `cG zb0,(z7 `nM v8),(`atY),(r+1),l.take,(z8 4),(wx0 `hz `f0),λζ ξ=>(by refine A0 (ζ ξ ?_)),`af (`e×`dM),(by by_cases hb:b=a),`n q,`a0 H' s',(I.ok.hd hc),x::xs,λζ ξ χ=>∀p,ζ->Q `kg (upd ξ p χ),`iF k X.A,`Im apos.atName,pl.isList,(by rcases `Xk with rfl|hx),λx hx=>?_,`In d,λζ=>(by let#[t,en,h,k]:=ζ),Decidable,`qF `Io,`Ip κ,`af κ,(`uh),ZipApart z TI TO i1 i2 l1 l2,p::ps,`l->`aB DX,`Ii=n,xt0 eb,λζ=>ζ _ _ _ _ ro,`c l,λζ=>Z2 (Z3 (ζ)),`aB RS,`bu≠[],inst S,(A5 _ z),b∈Y7,(`aF `Xl),λd hd=>?_,`z4 ds b,Wf ps `bn,I.nms,E.wait=[],.sh (BL m),(λds d h=>te0 h),(`bj (cok rfl rfl `cZ)),[`ls],[`c_, `qC],`g 4,dpN i δ,λζ=>j5 0 `aZ ζ `UH,ps.map,ns.map,cLine,`ab a,`q0 s2,(gv 3),(`bx x p),`g b,`g `uG,Bw.web ps,`cE x,holding,λ_ _=>`b1,`bV o `O,`u z,B++[j],k::us,`c ds,NB (H a),(gc (`g 8)),`g k,List.length_nil,(`uC),"_law_script",H' b=`f,`c (`lC),.sh (`nP),(V1 `aG v7),`c `cu,(z7 `aJ v8),λζ=>.sh (`g ζ),(lkv π),`at1 hv,`D->Prop,`qH=`aq,`c `uF,s₁.heap,(`et `nN `gG),0,.deep,S.ends,`c (.own a),(`dv),`u y,`t (cs.map `g),(np:Int),`hw (`z8),[`nO],(v5 `aG u5),`c n,(`dg),isName,(Bw.small `j),.sh `q2,"reversed",(b/2),Sum.inl,o.data,X.s₀.heap.objs.size,(`hA h' t'),(`bM T),(`Xn [#[tg,iter,ifs,0]]),`c b,λζ ξ=>(by simp only[ζ,ξ] at h),owL i δ,e.bad,`z6 hi,r1.length,Pd.get,`at_ `Is,(`at0),hb ps B T d,G `z5,getItem,(gv 5),(`lz),kn `lE,(`c3),s'.heap,(`Iq),λζ ξ=>∃a xs,`LZ/\ζ/\ξ,en.b0,λζ=>`c (.ow ζ),(`z2 hb),Obj.mapSeq,"enumerate",a::as,E8.mpr,(`lA),`Xo=`z7,[`atZ],"sign",
λζ=>Z2 (Z8 `cL ζ),List.length_range,`hw `jR,λζ=>`g (ζ:Int),λζ=>`c (`t (ζ)),`uH<=20,d=`y,S1.begun,[`ck,s1,`es],"law",apos,λζ=>.ok (.ret ζ),λζ ξ=>L5 ζ `gj ξ e `hM fin,(by rw[R3]),r'.length,λζ ξ=>λz=>ζ (z▸ξ),(gN 4),(gc (`lD)),"spelled",[`ck,`eO,`z9],(v5 `uI u5),"__getattribute__",Drawn,λζ=>∀b o,`ob->ζ,Result->`eL,K.In `aA,.call,codeAny,`p x,`ar<=`W,λζ ξ=>`G (B8 ζ ξ) `aic,`lF (B4 hj),`nR=`f,`H (`at2) Ab,λζ ξ χ=>`aD `cI X.A ζ ξ `hG χ,SqT K H a xs,`_ B7,rawInt,(by let#[f0,f1,f2,f3,f4,f5]:=hf it `aM),(`Xp),λζ=>#[_,rfl,ζ],`f2 op r,(by obtain rfl:u=`q3:=rx),PA X `gG t,`nS [ov] (`It ov m pl),r.get,`L h0,List.all_cons,List.any_cons,`Iu h,(`nT),`at3 X.N,(by let#[xs,e,r]:=h),(`uE),`H (X.N[i]?=`eP) Aa,`df _ _,.fn _ _,hq.to,`qF (`lG `jS (`q4)),λζ ξ χ=>`vB (`gg ζ ξ `pd) χ [] `jS,`dN d=`d,`bN=n,KV kvs vs,`lF n1,PX X e gx,`H (X.N[j]?=`eP) Aa,(by rw[`bd] at h),(`bj `bah),(by let#[xs,rfl,rx]:=wc0 f4),n::ns,λζ ξ=>oA (z7 ζ v8) ξ,["thing"],`Iv ps,(`cl `atY),λζ ξ χ=>t8 (V7 (d:=ζ) ξ) χ,λζ=>`w9 _ (ζ)=_,λζ=>j5 0 `aZ ζ `UH `bH,List.length_modify,(`Xq (`uJ 2000)),(vh0 S kd),(by rcases k4 hk with rfl|rfl|rfl|rfl),(`Iw),Gw.rv0 _ _ `v,`z'<=20,λζ ξ χ=>K6 rfl (t8 (δ':=ζ) ξ χ),(by rcases `cF hd with rfl|hd),(by rw[(`z! hl).2] at hm),PsOk.len,Inv `bn B T S,`fk N bg u w,(a++c),D->`l->`aB DXB,λζ ξ χ=>∃t,mg ζ=`c (ξ χ t),(zh0 T.c_BASE),T.b_range,(`z? `Xr),λζ=>#[_,C5 X G ζ],λζ ξ χ=>cD1 `ci w `ao X G ζ ξ χ rfl `uf,λζ=>Rps K H B ζ xs,(`iH),(`eQ),"byte",(`hC),(`nO),λζ=>`H ((ζ).any `cD=`m) Aa,`g 2,`fZ b,CN_Reader,w=`fn,`dO b,`aB `I,λζ ξ=>RpNs K H B as ζ ξ,.sh (`d7),λζ ξ χ=>`G (show ζ from ξ) χ,at'.same,wanted,`V->`Iy,λζ=>∀cl s H ex,ζ,(X8 X `eu cl N' s H ex),`g `uO,`hB (`q7),X.env.scope,`lw++[b],kindS,ps.getD,(.row []),s1.trans,"names",(`Aa),`gJ a,`hx [] `O,(unG O2 `cG),λζ=>bk ζ cs sm m `bn,`q6 `d6,Q3 S kd n,bootBuiltins,λζ=>λv σ H Q=>ζ,`uK=`aq,code N k,"_law_k",yb0 `c4,`c i,A9 _ e,
(`uN `c5),(s:Int),`t (`Xu `g),.BoolOp,λζ=>λb o hb e=>ζ,`Iz s2,`aB `J,S.spelled.length,.sh (`lH),`fl - 1,`at5 _,(`nX),S.wait.head?,`c `a8,`c dx,Q0.mp,(`nG `jP),(`aK:Int),0,.sh `y,`qZ 0 `q_,A0 ?_,X.outer,hf b hb,t σ H Q,(`uL),s.TypeIs,x.length,λζ=>(ζ).isSome=`d,Pd.len,λζ=>o2 `aT ζ j4,z.symm,w≠`gK,I.freeC,I.hok.fresh,(1:Int),vs.toArray,vs.map,S.begun.map,(m+1),.ex c n,p.length,xs.drop,b≠`f1,λζ=>(`Zx ζ `O).map `iA,sliceBounds,`L hl,List.mem_cons,Noted,b7 rfl,[`lr],λq=>`C `Xt,`Ab S nm,qs.map,W.findIn,.function,`b' F l m,`c (.rf d),λζ=>`c (`g (ζ)),`c (`uM),λζ=>fun σ' H' en'=>ζ,(`nW),deq x y,`Xf x=`fh,λζ ξ=>Inv ζ ξ σ H s,`Ix a,`Xs=`du,λζ=>`bCj a ζ b pos,λζ ξ=>EP X `r σ Q ζ ξ,its.length,(`zM P w),`af (Str×`B),DL.Ds,t=`d,¬B a,Sl.un,(`at4),Rps.snoc,λζ ξ=>`q9 ζ=`c (`bM ξ),λζ ξ χ=>`k_ P w K mg `ao `aBC ζ fa fd ξ χ,(`nV),Cls K C,λζ ξ χ=>`N8 (ζ) b1 b2 ξ χ,(0,[]),(`f3),(p:Int),`u `uP,Sl.ow `atJ,(`q8),λζ=>ifD _ _ _ ζ=_,(by simp only[`b!]),`uQ+`b9,S1.un,`c `qB,`d5*`d5,.sh (BL p),(z8 5),M8.nd,(v5 v7 u5),(top 56),λζ ξ=>(by with_reducible refine ζ;rw[ξ]),(`X it),ht.typeIs,(`X D),λζ=>#[B,b1,b2,ζ],en.mutB,λζ ξ=>`vB ζ ξ [] `jS,`bz S',λζ ξ=>by rw[ζ];show ξ;lia,Nat.pow_succ,"count",Sl.sh,(ym0 u5),`gF->`eL,λζ ξ=>(by simp only[ζ,ξ] at e),λ_ _ x=>x,`aa r t,`aB HO,`af (`at6),`af β,λζ=>∀b u,`O_->ζ,λζ ξ=>#[ζ,I.os,`h7,`aFA,`fD,`lO,`g',`rL,ξ,`b2,`eX],`H (`Xv∨`IA) Ae,`bU vs us,λζ=>λ_ _ _ H _ I h=>ζ,(`Xw op),λζ ξ=>(by refine ζ (thn `xw ξ)),λζ ξ=>P5 hp (thn ζ ξ),λζ ξ=>λx H1=>ζ σ H1 ξ,PE X b tb,(by intro pins s σ H xs us Q I r h),`n e,Cls X.K C,I.laid,PE X o ta,List.getElem?_replicate,#[_,ho,rfl],V->`aP->`aP->`Iy,slice,hplain,`af (Str×`e),Bool.false_eq_true,`_ hc,#[?_,?_],`c `un,`dh<=`W,(`eN).bind,`eN=`nY,.fn ks ds,as.Nodup,r.live,l[i]?=`jU,λζ ξ=>sg0 ζ `r s σ H D I ξ,w.oth,(`at7).mpr,`qS (PD `qT elt ge),`Xy `Xc,`iF m X.A,`at3 N,y70 ks q,λq hq=>?_,lean d n=`d,
λζ=>`p (`p (`p ζ)),`IB s3,λζ ξ=>if ζ then ξ else `f,`zY c,`iG H a sub,(`gI H a sub),`aB ResB,j<=`bN,`at9 H,at'.bad,(gc (`uS)),(ob `XB),(M6 `IC),(S5 (V4 `at')),.text w,.row vs,`af (`d8),.bl sm,cs≠[],λζ ξ χ=>ζ (by rw[ξ,`bE χ]),[`qV,`iD],n<=12,s∈`bn,k<`aK,λζ ξ=>setN 0 ζ (ξ) _,d8 (V2 rfl),λζ=>`aW (d:=ζ) ?_ rfl,(`bj `baj),(by rcases `XC with z|z),List.count_cons,α->α,(lkd `aK),Db m d,(by let#[_,_,_,z]:=q),λζ ξ=>o9 pg0 sq0 ζ ξ,(`ID `aG),(`eR 28 5),(by intros;rfl),λ_ _ _ _ _ _ us hl=>by let#[_,_,rfl]:=us2 hl;rfl,by assumption,(`m,`XD),`hx es `O,Str×D,`aB (`l),w=`gK,(`z_),(`fo),"unended",`p rfl,.cell,`cv+1,`c (`Ac),`X z,"waiting",`u N8,.sh (`II),m9 nm,(kb B),`bP `aK,`Y+1,`t [],`XH `a2,∀a,B a->`nZ,(`bO),(L:Int),s.length,(z8 3),λζ=>(ζ:Nat)<=`W,`hD b,I.tok _,.ow d,λζ=>o2 `aJ ζ ixD,(a:Int),(`Ag),`z1*128,List.getElem?_append_right,`u "","function",`bM `uT,(`gN),(kt T),λζ=>(ζ:Int).toNat,λ_ _ _=>`b1,(t6 st),(`ev),leans,C4.mp,λζ ξ=>{ S with digits:=ζ,count:=ξ },List.length_zip,xs.size,X.pn++`r,`t (`auc `u),λc=>m9 [c],`bl hb,`X b,H a=`aq,(i:Int),"name",.sh (`n0),`aud `Is,`gO+1,λζ=>hb ps B T ζ,λζ=>(ζ).begun.length,scope.names.lookup,λζ=>`lG pos (ζ),λζ=>λv1 H1 s1 r1=>ζ,pd `uW,`iI=`aq,W.keepIn,(`f5),(`zQ H),G2 δ',λζ=>`H ((ζ==`_w)=`m) Ab,`zY a,`l->`I,.sh `uV,(`ad 0),(`dP:Int),(a+1),(`uX j),"range",A9 _ q,σ[j]?,(`Ad),`iK=`ar,.Call,`X L,λζ=>#[q,en,e2,ζ],`a2 n,Sum.inr,Want.fin,.sh (`XI),beq_iff_eq,`jW<=`W,(a==`IF)=`m,λζ=>`h' P w H h a ζ,λζ ξ=>HOk `cB X.w ζ ξ,σ.length,`q9 x,`iJ hq,"len",f d δ,g `IH,SeqAt.EqAt,`aue `Ai,Held q,Want.value,(b::l),(`g i t),λζ=>H a=`c (ζ),Q v H',(`aua),`c (.rt d),as.map `gJ,(by rw[`bak]),ix B j,λζ ξ=>st ps ζ B T W ξ,W.length,d=`hC,E.count,(`IE::tl).contains,nsIn K `f4 c,(`at!),rest.length,(`uU),`c p.2,H p.1,λb o e n hb hx=>?_,λζ=>`Lg ζ j pos,λζ=>St->Hp->(ζ)->Prop,(hi - lo).toNat,attributeBase,s3.heap.objs.size,`XE<=`W,caps.length,`c [],`c (`Ae),
λζ ξ=>fun δ=>ζ λt=>ξ,(`jX).bind,`u #[⟨c⟩],(`XF s),λζ ξ=>∀B δ,ζ X e ξ,`q' (∃B d δ,`at? X.K),¬B b,en.fr,Bool.false_xor,rv.same,`gM->`q!,Pd.get',at'.w.hd,λζ=>mk (`C (`c3::ζ)),(`nG `q1),.sh (`qU),.ow `n2,`f6 `lw,(`XG),F.length,`Ab S `lJ,λζ=>(ζ).flatMap two,nB B d,m9 `f7,λζ ξ=>(by cases ζ<;>first|rfl|exact ξ),`a2 `lJ,(`ad (n%128)),[`XI],[`XJ],zn0.nd,[`n3, `ra],"whole",λζ ξ=>`pu `dE A ζ R ξ,.done,λ_ _ _ q=>q,.bl k,v=`y,`u b,λζ ξ=>λp hp=>k _ _ ζ ξ,(`IG),`dw g,λx c e=>?_,(.xd [(`c2,`d7)]),(`iL H `ew),λζ=>o2 `aT ζ ixD,(oA `d9 T3),λζ=>o2 `iP ζ V9,(by simp only[`T,`n1]),Option.bind,Option.map,(R5 rfl),`fl<=100,env.mutB,T.b_list,C_Reader_hold,OsState,oe.data=`Aj,b≠x,λ_=>`f,sizeLine_eq,λζ ξ χ=>(hs.2 ζ ξ).trans χ,(by rw[`bal,`bam]),(by repeat (any_goals (first|assumption|wp_step))),`aa _ t,`af (κ×`B),`X c,`bU xs its,H a=`f,s.gens,frs `gP,`Xm s',`c `y,(`hA h' tk),-(`jY),`B->`XK,(`b8 ha _ h),λζ ξ=>ζ λ_ _ _ _ _ _ _ q=>ξ q,.NotIn,G0.mpr,`L hk,NoAttr K C f,PA X es t,`IL CX f sp,qj0 CX X E,F.run,kindOf,xs=[],i<`ar,n<=`W,λr s' hq=>?_,(`uY),λζ=>(ζ).get? b=`aq,`aN N ps `uZ,λζ=>fun δ=>`arS ζ,`bN<=`W,`c `u_,(`Ak).bind,λζ=>ii λi j=>`c (ζ),Ds->`aB (`aP),(j+1),h.at',`XL hl,∀v H',`be->`auf,(by apply `bG h),(`bA `ban),Op2 X.K r f,PDA X es gA,List.drop_length,Pd.app,PDF X e g,`qS (PFD `qT ifs gt),"bool","isinstance",(by intro H B xs ds d Q hb r h k),(by let#[a,ys,rfl,q,rr]:=r1),`H (`lK) Aa,`H (X.N=N) Aa,(hN▸ok),KT H kvs xs,.dK [],`L hf,(`IM e2 e3),`u0 ds n=`d,(by unfold lean at l),λζ=>ζ p `nf hu,λζ=>ζ _ `nf hu,(by simp only at h),st.hTI,`af (`XM),`iM ds=`d,n.natAbs.log2<1920,(`jV).bad,But p H H',But a H H',(`IN),(A3 q),λζ ξ=>∃δ',G ζ=ξ/\`aWQ,(`rb).bind,`H (Vis `qW y) Ac,`H (`auh) Ab,`H ((y==`aui)=`m) Ab,(by let#[bm,eb,e1]:=`c1),(ha.go B δ),at'.dp,(go δ).bind,(by unfold ub0 at h),r.1=c,`iF n X.A,env.bad,`uR `bF,`XN=`rc,(by let#[B,c1,c2,env,rv]:=ev.ex),(by exact`bao),λζ ξ=>(`bP ζ).map (ξ),
(by rw[`bap]),(`auj),(`Xq `IO),`u1 hj,λζ=>(ζ).bind _,λζ ξ=>t8 (δ':=ζ) ξ ?_,`bu=[],`aK<=60,g `bH,u.length,`hE<100000,(by rw[`baq]),λζ ξ χ=>U5 rfl (t8 (δ':=ζ) (by show ifD _ _ _ ξ=_;apply `auk;rfl) χ),λζ ξ=>t8 (δ':=ζ) `bCp ξ,(by unfold RS.hold),`aK≠60,(`atR),λζ=>`c (`fC ζ)=_,S1.wait.count `a8<=S1.un.length,`b0 rfl,`Ip α,[`ck,`es,`n6],`ds<=8,q.1<4,.sh (`nQ),x<`aI,hw.its,[lkd 0],next S,`R S,(`u2 `aul c),[`ck,`eO,`n6],(`aum T),(by injection h with h1 h2),Fts n ws ds,(by let#[c,_,rfl]:=h),pairs_len,λζ ξ=>Tk ζ `r1 S (ξ),Sg `bu,wr++`f8,.ex c n b',Ds->`aB (DXB×Ds),(`z? (Z0 `aG v7)),λζ ξ=>`atu (si0 ζ (tu0 ξ)),(`ID `n7),λζ=>λcl s H ex=>m5 0 (`bb:(ζ:`i).Nodup),(vn0 0 `lM j9),(`eR 28 0),(`eR 28 1),"end_parts","takes",(`eR 28 2),(`eR 28 6),"takes_digit","takes_letter","takes_name_number","takes_sign",(`eR 28 7),(`eR 28 8),(`eR 28 9),(`eR 28 10),(`eR 28 11),(`eR 28 12),(`eR 28 13),(`eR 28 14),(`eR 28 15),(`eR 28 16),(`eR 28 17),λζ ξ χ=>cN1 `ci w `ao X G ζ ξ χ rfl `uf,model,Array,D->`d_,"part",Same.refl,"number",n.length,`m=`d,λζ=>ζ `ae `ab δ,m9 [b],`aB Res,`c (`n8),sub.lookup,"record",.bl `m,Binds,S.digits,Gr.own,S.begun.modify,λζ ξ=>Pk ps B T ζ B' T' ξ,(U6 N ds),env.at,`c so,link `aK,.sh (`IX),cnt p,C9.mp,λζ=>o9 W4 Z7 ζ v7,`C [`lD,`gN],named,`c `bo,`t ys,.nx δ,λζ=>o2 `ak ζ o8,`a2 l,`t vs,λw=>`fm (Z5 w),`lN vs,gi δ,σ.set,λζ ξ χ=>V6 X s H B n ζ ξ χ,(`IT),ys.size,λζ ξ=>[`iC,s1,`MN,`MO,s4,`wC,ζ,`a!A,ξ],`u (Z5 w),`u (`X_),I.base.there,V->`Iy,binaryOp,λζ ξ=>Rps K ζ B ds ξ,`c6 `u7,`dx++`f8,vi0 q,"kind",.dK kvs,AllBare,`n ks,B b/\¬`ab b,W.nsIn,(`gR),`u "row",(`iQ),`cC*`cC,`nH pr,(`fl:Int),Want.sign,`I_ u00,(Y5 `aG v7),I.base.keep,I.base.slot,`iN p hp,`j_ `rd,IsPart,`X l,Value.bool,(`XS),(by unfold Rp at h ⊢),`z0 K fd ps [],`lQ h2,IsPair,pyNext,min `u4 `Ao,other,λζ=>o2 `aJ ζ j4,λζ=>o2 ζ `c5 gtD,λζ=>c7 (V3 (S6 ζ)),.sh (`u6),`cF h,.sh `fj,q.2.length,l.drop,m.drop,sc.names.lookup,
λζ ξ=>yx0 f gt ge ζ ξ,en.grow,V.str,λζ=>by show ζ;decide,RawAt,`C (`c3::ns),names.map,`f6 (`q?),(`Aq),Km.yc0,L6.mp,(`c6 `g),`c oe,`bl h1,λζ ξ=>(hs.2 ζ ξ).trans,.Expr,(`fi),2 ^ 64,(us++ds),λζ=>`H (`wh o ζ `O `afV=`nU) Aa,(`nI V.int),NameKind.cell,`c δ',`IQ op b=`m,λζ=>λv H' s r=>ζ,λζ ξ=>by rw[← ζ,ξ],Loc `qW x,λζ ξ=>(by cases ζ<;>simp[ξ] at h),s.heap.FunFrames,r.2.1,Gr.but,b∈M4,`c `fq,(`aut).flatten,.sh (`Ar),(`IY S `qX),ok.un,T.begun,`a2 nm,λζ ξ=>`bDo #[ζ,ξ,rfl],(next S1),h.gd p hp,"_law_next",`c (`XP),cd.mro,(J9 P w),F a b,λz=>z,`hF `XQ,X.env.kindOf x,λv2 H2 s2 r2=>?_,(by rw[`u3,← hl,`XU]),"BaseException.__getattribute__","0123456789abcdefghijklmnopqrstuvwxyz",(oA `n9 T3),nmF N w a k," 0123456789abcdefghijklmnopqrstuvwxyz",(`IW),fold z,j∉B,λζ ξ=>bs (4*ζ+3)++tx ξ,its `lE,`X0 `n!,link `bI,`IZ z,(x:Int),(`X W),vs[1]?,b≠e,`lO x c e,(`Al i `uF),λζ=>`aFD ζ `aA h',ok.kind,`a0 H `jZ,(b,o),λζ ξ=>OpR X (`Au ζ) ξ,`ap (x=y),I1.kIn,`aun `iO `eu `Y f cd,IsTup,Str.ofString,atI xs i,h'.objs.size,(K w.params),(`auo).names.lookup x,Gb δ,SqL' K H B a xs,Rp K H B d x,λζ=>ζ X.K B δ g,(`XT),p1.isList,λv H1 s1 r1=>?_,y70 ks k,gh δ,e.own,s1.free,(by unfold lean at h),`Am d x u,`gQ `An,λζ ξ=>ZSt ζ z TI TO i1 i2 l1 l2 S xs ys ξ,(s00 H l),λζ=>by rw[ζ] at r ⊢;exact r,s.heap.update,List.length,`iy X.K H δ,(`XV (`u5) W),λζ=>∀h:`D,`hi->ζ,forIn,λζ ξ=>∀b o,b≠ζ->ξ,.Tuple,λζ ξ=>by rw[ζ,`Z,ξ];rfl,at'.w.len,(`XW),λζ=>{ S with digits:=ζ },`a2 a,`a2 b,parts,(`Ap `XX `XY),`q6 k',vs.getD j `y,`XH `XZ,(wm0 S),`uQ+b%128,(`aW rfl `lR),λζ=>{ S with names:=ζ },V0 S k,(z7 g v8),[p.d],.sh (Pt.rcd c ps).d,λζ=>`c (.bl ζ),(`s (kt T)),nW ps B W d,List.length_tail,pre++d::`aR,(`bl `x),`uR `j,(L9 _),(`c `bv),.sh (`rg),`I0 a,λζ ξ=>[`Ja,s1,ζ,ξ,s4,s5,s6,s7,s8],λζ ξ=>[`asp,`nz,`sH,s3,`f!,`bB4,ζ,ξ,.un],λζ ξ χ=>FnN P w K mg `ao ζ 1 ξ χ,(Z0 `j1 v7),λζ ξ=>by rw[ζ];exact ξ,xs=[`fW],(`IR),T.obj,
λζ ξ χ=>by show ζ;rw[ξ];exact χ,λζ=>λv H' s' r=>ζ,λζ=>show ζ from ru,Pd.imp,en.mut,λζ ξ=>{ cls:=`iS,dict:=`f,data:=`mi ζ ξ,slots:=⟨⟩ },J.extBut,O.extBut,(n+k),(`aur),(gc (`IU)),(gv 8),(`Af `n_),(o2 `ak `iP j4),(`Af `iP),(gN 5),putAt,λζ ξ=>z7 (gc (`g ζ)) ξ,(wh0 isTup `aJ),λζ=>o2 `hO ζ V9,λζ=>(ζ).cps.toList,λζ=>`fC (`ap (ζ)),`f9 xs,λζ=>(ζ).count `a8,`cH `T,(`n?),`iE (.rt d),(v5 j9 u5),b_tuple,T.b_tuple,(`a3)->`oa,`Q->`oa,λζ=>`aD M A ζ Q E `ed,checkBuiltinCall,h.Ns `f4 mg,λc hc=>?_,oe.cls,λζ=>by rw[ζ];decide,o.slots,(`auv),`aa r ih,.ext φ,`k (m7 (V5 q hn)) q,b∉ex,λζ ξ=>Un fs ex H ζ h ξ,λζ=>λb xs q=>ζ,b∉X.fs,`If=`oc,b∉ch,(by let#[o',e1]:=`As b o e hx),(by have e:b=it:=`u8),λζ ξ χ=>`h' `cB X.w ζ h' ξ χ,Q () s',`I->`iB,spliced,PT X a tA,(`rh .And (`X1) pos),(`rh .And `auw pos),(`rh .Or (`X1) pos),(`rh .Or `auw pos),(`X2 .Not a pos),rv.length,(`b8 ho _ h),PassesOwn `cI X.A `O `hG,λζ=>D3 (B8 ζ hb),λh' eb=>#[rfl,`aux (`ri (eb b o hb e))],λζ ξ=>fun σ H R=>ζ σ H ξ,(by intro pins s σ H R I h),(`bj `bar),(`b8 hi _ h),V->`At,(by rw[`bas]),`_ hk,`IK m=`f,`_ q,λζ ξ=>`aD `dE A ζ (ξ) E s,H1 a=`n5,`iF k A,N.length,ws.length,(by try apply `bat),y=`u9,`L h1,`_ h1,(`lS a b pos),λζ=>ζ K x y H Q,`g a,(`cH `cm),IntsAre vs ns,n60 `od H,`lT+1<`nJ,x.cps.size,`L hc,noteFrame,λζ ξ=>A0 (D0 ζ (ξ) `aLu),s2.heap.objs.size,by subst O;rfl,`C _,λζ=>fun δ=>`bCL ζ,λζ=>fun δ=>`ts ζ,D->`ul,gt δ',[`ev],`bl hj,`L h2,∀o,`u'->H' a=`aq,∀a,B' a->B a,`p ks,v=`bD,λζ=>∀{d:D} {v:V},ζ,(by let#[x,r,e,h1,h2]:=h),`df `I4 ds,λζ ξ=>#[ζ,[],rfl,ξ,`k6],`af `dM,(RpL.toO rfl h),Pd.set,`auy `X3,(o2 ga gb f),λζ=>tD K B δ ζ,(`rj),λζ ξ=>PTD X ζ (ob ξ),PTD X a gt,PD X `oe `I5,PGD X tg idx f,λζ=>#[d,env,e2,ζ],i<`dh,L2.PI.imp,λζ=>(by let#[items,en,e1,k]:=ζ),(by exact`bau),λζ=>by rw[← ζ];rfl,(λcl s H ex pins s' σ H v u Q I r #[B,d,δ,h]=>hg cl s _ ex B d δ `r s' σ H v u Q I r h),
(by let#[x,r,rfl,h1,h2]:=h),`as x `iO st,hf ds d h,λζ ξ=>Op2 K (rI0 ζ) ξ,(`gS).map,(by by_cases e:p.1=k),o.isSome,H b=`c (`C (k.map kV)),H a=`X4,`jW<`W,(nm0 ry),`af (TE×TE),`af (`rk),`c4=`auz,m7 `x,(by rw[`lF n2] at h4),EnvV K `ae `ab H σ δ d v,λζ ξ=>ζ B δ `r s σ H Q I ξ,λζ=>`H (`wh `gL ζ `O `ayK=`aub) Aa,#[q1,q2],(`c7 h).1,[`d7],`I7 `aA f,`I8=`c oa,`I9 l1 xs,`I9 l2 ys,Around.under_plainId,(`bM `j3),`g `u!,(`cl `bav),(`aug),λζ ξ=>#[ζ,rfl,rfl,ξ],`c (`og sub),(by unfold L2.opened),(by unfold L2.closed),(by let#[a,h1,hB,rl]:=J.at e'),(by let#[rfl,O]:=uq0.mp rl),(by have less:=sb0 c1 hB),`g p,`bV `X5 `O,ox0 ns d,(by let#[c1,c2]:=J.w.back),(gv δ).bind,(vx0 d).bind,PN X i o go,ClsN X.K c F,`H (f∈F) Ab,(by let#[q1,q2]:=hc.ok C hC),k6.mpr,`dK q,env.free,λζ=>by rw[ζ] at h ⊢;exact h,PTX X a gt,List.filterMap_cons_some,[`gT, "_law_small"],(wj0 1 `IC),(tupI `auA),(mm0 1),[`u?, `I'],[`c_, `lL],[`c_, `IJ],decide_eq_true_eq,c∈`I!,[`gK],`rl+1=`ds,`a9++[`qX],Q4 `bu `aH,[`qV,`va,`I?],`hB `iR,U5 rfl `gU,p.vals,λζ ξ=>O9 (by rw[ζ,ξ]),λζ ξ=>W5 (by rw[ζ,ξ]),`b0 h1,G7 0 `bv,`L `j,`de hs,O9 `fr,`cH uk0,[`Ja,`auB,`auC,.un],λζ=>`c (`mk ζ)=_,Res.nx,List.map_singleton,`oh=S,(`auD),λζ=>∀(b u:`l) (δ:Ds),ζ,(`hB (N0 b u)::δ),`aF J,(`Jb `aut),[`ck,`rm,`cJ,.un],`bu=`b_::ws,(`cl `baw),(`d' S `vc),`Jc=`auE,S1.wait.length<100000,[`eO,s1,`X7],List.drop_left,`fl<60,`Jd=`d,{ S with spelled:=w,names:=`X8 },`lW (`Aw),K6 rfl `X9,`a9[`rn - b]?=`Je,(n/128),n<`Jf,`uJ 1000000,List.flatMap_cons,(by injection e with e),ix l a,(`s (kb B)),`o `lX (bs `auF) (bs `Jg++sg s),(by rcases hd with⟨s,rfl,hs⟩|rfl|⟨x,rfl,hx⟩|⟨j,rfl,hj⟩),B.Nodup,`dK hd,Bw.ji0,Runs.one,(`d' S2 c),λζ ξ=>∃c,`cR S ζ (ξ:RS).ends,`hE<90000,ws.count `a8,(`z! z).2,(by rcases `cF z with z|z),(by have hf:`eS:=`n?),l.modify k f,w.cps.toList.length,I.tnd,I.tin,(`ve `X'),(by let#[c,_,rfl]:=`hH),Ft n w d,bg[k]?=`dt,Pq N q t,(`ro),(`q8).begun,λζ ξ=>∀k q,`Hm->k∉ ζ->ξ,(`Jh).2,
Q4 (t::(`Ax)) `rp,`rq≠`rr,(`Ay),`c S1,`L hm,okr m 0 l,okr m r l,y30 h2 `j,ww0.mpr,(by intro S k u ws p pre I hn hB hL hu hk hp h0 he hw),W.wb.its,(`bj `bax),.ok d b',`Ji `gO,fin (st ?_),(`aF h5),(`gV uj0),(G4 `hz `eT),q30.nd,λζ ξ=>so0 ζ hr `v (v5 ξ u5),λζ=>d9 (Q6 v7 ζ) v7,[`IP],"unpacked",(d9 `aO v7),"_law_value","_law_part",λζ ξ=>v5 ζ (v5 v7 ξ),λζ ξ=>Y6 ζ (m5 ξ `NH),C__law_refused,(Z4 G8),λζ ξ=>`aN ζ `fT (t6 ξ),"give",λζ ξ χ=>FnT P w K mg `ao `aZ ζ ξ `nD o4 χ,λζ ξ=>`aN ζ `nD (t6 ξ),"goes_on","takes_head",`auH P,"takes_part","hold","takes_known_name","names_here",λζ=>ζ (ps:=`fT) `atF,λζ ξ χ=>FnT `ci w K mg `ao `aZ ζ ξ `nD o4 χ,λζ=>ζ (ps:=`nD) `ug,λζ=>by let#[t,rfl]:=ζ,`g N,Vis `qW x,`X f,`ca[k]?,λζ ξ=>`H (ζ=ξ::`q4) Aa,`X x,λζ=>{ s with toks:=ζ },zc0 n `di δ,σ[i]?,"table","value",`bN+1,(`l_),λζ=>RpL K H B ζ a,"text",standAt,λζ=>RpG K H B ζ a,`vg `q4,DecidableEq,`X t,(`auQ),(V0 S),getMethod,λζ=>λx hx=>ζ x `bae,.table,R5 (zq0 ?_),λζ=>SqL K H ζ xs,Hp->VK->Prop,r1.same,`Xe x=`lx,(`nL).trans,(U7 v8),λζ=>o9 W4 Z7 ζ j9,`gJ C,sysModules,`zQ _,(frz δ),`g (N/4),"item",fs.lookup,λζ ξ χ=>`k_ `cB X.w X.K `cE `e1 ζ k ξ fd ps χ,λζ ξ=>by rw[ζ,ξ] at e1,λ_=>`b1,`uJ 1000,"some",behindInMarks,`gW `d,(`atZ),by rw[Z6],`g 36,(gc (`l0)),nodes S,`f6 [b],λζ ξ=>{ ζ with spelled:=ξ },Bw.fold,(`Jx).map,m.take,(J:Int),ps.zip,`c `oj,(`AC),(oA gA f),λζ=>λ_ _ _ _=>ζ,λζ ξ=>IsZ ζ z TI TO a ξ,`dO a,s.heap.IsList,"told",nameS.cps.toList,.sh (`ol),.sh (`jN),λζ=>(ζ).flatten.length,b8 `bf `oo,left `a9 `ds `lJ,`c nm,2 ^ 2600,(2*`uH+1),Q4 w u,λζ=>ζ<=100000000,"_law_size",λζ=>qv0 X `r ζ b,`C ys,(`X fa),List.zip,G7 0 n,(`auN),nm.map,(gc (`AG)),λζ=>o2 ζ `c5 eqD,(st:Int),(k+1+n),(kd,[]),by apply `hJ;lia,`f9 ds,(`vi),(`j6),(`ga),(`z'),λζ=>lean ζ 50=`d,(`j5),λζ=>ζ b o e n hb hx,I1.kept,`lY hq,`V->`iB,`c `b?,r.same,sos.length,(`auL),`c `Jm,`lQ h1,λζ=>`ap (ζ+`aBj+`aBk<30),(`Jo),its.size,
`bx y px,λ_ _ z=>z,(`rt rx),λζ ξ=>by let#[a,as,sos,at']:=ζ ξ,env.atN,cs.length,.sh (`Ah),.sh (`Yq),`C (`AJ),D8.mpr,λζ ξ=>ζ (ds:=[]) rfl ξ,λζ ξ=>(ζ).resolve_left ξ,(`on).begun,w::`aR,lim kd,"dict",H b=`oi,I.base.free,Sem `B,sIx `f? 0 lo,(`AA),`af DL.D,λi H2 g2 hi=>?_,isL d=`m,(`auK),kv.1=k,λζ=>putK kvs k ζ,(`hI `iS ([]:`K).toArray),(`Jl),(`Js `aT),S1.count,t.cps.toList,fs.length,`c o',`X?=`aq,λζ=>B6 (B8 `Bp ζ),I.ok.above,setItem,sp vs H Q E,r.append,(`Yc),(xs++ys),(`cn id),callerA,BindsTo,cl.lookup,`auJ x,`c (.frz o `oj),k H' s,`bx Tn p2,(`n hx),(`X I),List.not_mem_nil,or_false,A.frames,L2.closed,us.take,f b ds,(`p z),(`Yl),s2.trans,l.filterMap,`om - 1,Want.cls,`bX ((`Ys : Str)=Z5 `gK),`Yt n,λζ=>{ S with length:=ζ },(`c 2),z.natAbs,2 ^ 2500,(c:Int),`cF hm,ok.few,count_tail,`qQ `JA `JB,`G rfl h,λζ ξ=>Ed bg F ζ ξ W t,(zs l),X.hand,`X ea,[`Il, "row", `Ig, `zZ],(Y5 `bi v7),#[hh,gg,dd,tt,oo],λζ=>∀x c,`sb->c≠ζ,isTrue,"__setattr__",Value.str,X.env.scope.kind,λζ ξ=>R9 (i:=ζ) ξ hv hd hcd,λζ=>λvs H1 s1 r1=>ζ,`c (`Yd),λζ ξ χ=>sz0 ζ P w K mg `ao ξ `iO `uZ χ cdv A `c8 s H E,SeqAt.RcNeAt,(`iS),(`rs),.Constant,(`ok),`c (`d7),J.w.opAt f1 f2,J.w.hd,(gc (`u `Ih)),(plN `auP),(`g 255),w.take,pool.getD,q.2++[d],Want.name,4*`z'+`ga,ix T s,[`Aa,`j6],(`auS).flatten,k∉`aH,(`AM).map,.ex c n _,(`auI),"__class__",xs.map,k b u q,its.toList,`Jk H,`g (i+j),(i - j),Str.empty,`a0 H s',getAttr,(`XD),`ct `m,I1.laid,(`eU N vs),(`X sl),me0 xs lo hi,[`nV],a::b::r,s₁.heap.get?,(K w.params).In,`vf y,env.cells.lookup,ForInStep.yield,ge δ',SqT' K H B a xs,v=`bZ,`Jn ns xs,(SlR K H B),λζ ξ=>ζ `ae `ab δ `r s σ H D I ξ,`o `AD `f (H1 b),`lP `fp,(K9 n `di gi f gt ge),λζ ξ=>∀(cdv:`B) (A:`cf) (outer:`bBU) (s:`w) (H:Hp) (E:XK),`bBV->ζ ξ `QB G,λζ ξ=>`x2 (ul0 (N:=N) ζ) ξ,rr.length,λζ ξ=>ζ `cB X.w X.K `cE `e1 ξ k ps f,gp0 i δ,λζ=>.bl (xor neg ζ),`ar+`fs<=`W,valueAt,ks.map kV,(`k e `lZ),dd.typeIs,(`u9),λζ ξ=>ζ X.K `ae `ab δ ξ,
xs[k1]?,(t,HO.tup `Jp)::ye0 as (us.zip ws),`C [x,y],(Gr.fresh hp),Q () `jZ,·.setIfInBounds,y.length,(`Yj),dx≠e,H dx=`f,`AE X.K `f4 c=`ut,(`bx x p0),en.same.trans,yy0 dk,OpenOk,`c so.ho,λz=>h `AF,"append",s40 nk,w.opAt,(vs++[]),ns++[`uC],(`ft),rv.mono,`Ym (`Yn),(`iL H3 `ew),nm++[f],(`c `IS),λζ=>o2 `a_A ζ qa0,(gc (`Yo)),(plN (J1 0 `jT `q5)),(a++b),b.length,λc=>[c],.sh (`uw),.sh `Ir,`n' (z/4%4),`Yp+`cC*`Jt,`nH Pt.d,gv 2 δ,λζ=>[`Ja,`auB,`auC,.ow ζ],`g `Yr,`g (-1),`ca++[`Jv],`g `rv,(uo0 p S _),(`on),DL.liftT,(`Jw),[`dL],(`s `iT),.sh (Pt.table ps).d,(`p s),`aK=60,(N/4%4).toNat,λζ ξ=>q40 p S _ ζ ws hw ξ,λζ=>(ζ).resolve_left,(nT T `fj),its (`ry),Km.pak ps 0,S1.begun.length,λζ=>Aft S S1 k ζ,λζ=>Inv `bn B ζ S1,w::`dx,`aK::`aH,(`k z A4),`bB n `AL,`qQ q.1 n,(`ff),λζ=>by cases ζ<;>rfl,[`b9],λζ ξ=>Ed `ca F `aH `bu ζ ξ,hi `Yu,`uQ+`Yv,E.begun.length,(128:Int),`R _,[(`l1 ae)],λζ ξ=>EndBX G ζ j p ξ,λζ ξ=>u90 `cL GB1 ζ ξ,(Q8 `auU),`C (`Yx `gX),(`Yy),#[`F,`F],(zs m),λζ=>oA (z7 `aJ ζ) W0,`c (`jL),"is_new","number_bytes","sign_bytes",(Z0 `AN v7),"_law_cell_at",(G4 `hz `op),[`fv],u80.nd,λζ ξ χ=>FnT ζ w K mg `ao `aZ ξ 1 `fT o4 χ,λζ ξ χ=>FnD P w K mg `ao ζ 2 ξ χ,"made_part",[`Az, "held"],"sign_of","is_left",λζ ξ=>`aiv `a?2 ζ=`ct (`I2 ξ),λζ=>#[f,fd,o,`bB1,F9.kp,`bB2 λ_ _ _ _ _ _ us h=>ζ],(h.trans hl),(by with_reducible assumption),(`c7 hi).1,`Ya `bF,r x y H Q,(k,x)::r,∃t,u=`Yb i t,λζ ξ=>ζ `r s2 ξ H2 _ I2 q2,(eqU x),`AB s'.gens,target,λζ=>by subst O;exact ζ,`k `Ye hi,λζ=>λv H' s' r'=>ζ,λζ=>λp H' hp s' r'=>ζ,(um0 h1).elim,u=`q3,kvs.map,#[a,rfl,hb,r],EnvV.mk',λζ=>D7 hz rfl (x:=ζ) rfl ?_,PySem.Str,g.objs.size,List.range',I.closed c,(λa=>`o (a=p) `f (H a)),en'.same,sos.set k so',q2 f hf,`nF=`c ns,(gc (`g 7)),(gN 1),(gc (`g 5)),(`uN `cG),λζ=>o2 `MJ ζ eqD,λζ=>o2 `aJ ζ eqD,(za0 0 `ru),(z/(`cC+1)+`AI),`g `AK,[`ck,`eO,`rx],pw `aI,(`j7).zip,`ds > 0,λf J=>?_,strOfD,`JC x/\`JC y,(oA `auT K1),(o2 `ak `n_ j4),
(`fu `aT),(gc (`Yw)),T.b_isinstance,λζ=>Z9 (s30 0 ζ `qI),λζ=>o9 p90 sm0 ζ v7,`aB α,λζ ξ=>(ζ).contains ξ=`d,beq_iff_eq.mp,beq_self_eq_true,Bool.or_false,Fin->`eL,(by apply `iU (E5 hC ?_)),(`rz),`L `v,1<vs.size,`ob->`q!,`c cd,`u `cK tk,A0 `JD,dx≠x,`hF `Yz,y.cls=`uU,(`zM P W),(`u x t),us.length,by simp at e,xs.take n,L2.SubO,H b=`bc,`l2=`ft,o.dict=`f,λζ ξ χ=>H ζ=`c (.frz ξ (.own χ)),∃o,`vj,∀b xs,`YA->`auW,∀b u,`YB,`c ob,Un.kept,base.Ns `f4 mg,`gP=`O::`rA,λζ=>∀b o,`aFa->ζ,I.ok.bs b o e,`Y<=a,A5 _ hb,(O b o e hx),(`JE `AO),(by let#[sl,e1]:=`JE `AP),(by let#[e,n,ne,nf,d]:=`AQ),I.step,s.drawn,(`hK),λζ=>λb o _ _ hc e _=>ζ,N.Nodup,`XL hiσ,`gW b,compareOp,λζ=>λx H1=>∃c,`bC8/\ζ,λζ ξ=>thn ζ λv s1 h1=>thn h1 ξ,c=`d,(by intro wh pins s σ H Q I h),Array.length_toList,(`Xx (`c e) pos),It->`iB,λζ ξ=>Turn P w K tg ζ [it] it (λi h=>ξ),p.isList,`j8 [a] [`YD],λζ=>(by let#[vs,H1,I1,r1,q1]:=ζ),λζ ξ=>`baf/\W i ζ ξ H',r xs H Q,Int->Int->V,(`l3 hb _),Operator,(tOp r ta tb),0<j/\`auX,λζ ξ=>ζ (T9 I q (C7 not ξ)),(by rcases q with q|q),`f2 op' r',`H (lastMarks [op,op'] [b,c]=`m) Ah,(`YE a [op,op'] [b,c] pos),W.hasDictIn K C=`d,[(f,v)],(by exact`bay),H a=`n5,`auY=`gZ,`vk K `eV=`d,`L q,A.depth,`auZ us,λζ=>`CQ ζ x1 pos,(`I2 us),#[us,[]],Meth X.K C m f,`YF (`vg `W'),λζ=>d6 (pl:=pl) (thn `kU ζ) ht,(`cl `baz),sc.names,Str->`aB NameKind,λζ ξ=>ζ `xG `bDy m ξ=_,(`n h),`fw `au_,λζ=>`aVS=`c #[oc,od,`dp ζ,osl],ws.toArray,`o (v<0) (v+`bv).toNat (min v.toNat n),(`ad `au0),s.heap.IsSliceOf sl vl vu `al,`AS vl lo,`AS vu hi,eq_of_beq,`_ O,λζ=>λx lo hi H Q=>ζ,Subscript_,(by intro pins s σ H x v vl vu lo hi sl Q I rx hs pl pu h),`k J hw,r1.append r2,`aB Nat,`c j,subscripted,`Ix p,(by let#[its,r,pl,hz]:=`JG),(`bj `baA),xs.all t90=`d,(by rcases hq with hq|hq),λζ ξ=>ζ `NY ξ `bDz `bDA,(by rw[`baB,`baC]),λζ ξ χ=>∃p ys,`Dm/\(ζ∨ξ)/\χ,(by let#[u,rfl,rx]:=`YI),(by simp only[`cm]<;>lia),xs.reverse,H l=`I3,
Builtin.List.listTooLong,(by intro pins s σ H x vs v us Q I rx rv h),l.most=`oq,`f'<=n,#[t,rfl],`AU `d,`auu `iO,(X4 st),λζ ξ χ=>`k_ P w K mg `ao CX0 ζ f fd ξ χ,`dc H1 H2,(`hA h' `us),v=`c3,Nat->Nat->`JH,by rw[← hs3],Y.extBut,λζ=>by have:=ζ;subst O;exact `x,`c `or,(`g_ i `vl),`aB Sl,(`s `aC),v9 G1 G2 δ,`Ak=`JI,xs.getD,(A3 z),g _ _ n h,.dK `AV,by apply `AW;exact h,(by let#[a,xs,e,q,r]:=h),by unfold Rp;rfl,by conv=>lhs;unfold Rp,#[x,rfl,h1],(by let#[y,t,rfl,h1,h2]:=h),(by cases d<;>try exact `j9),`JJ s,by apply `YJ;exact h,`YK n,`hL=`JK,(RpG.toO rfl h),od=`rs,SlR K H B o s,h.same,(`bj `baD),f ds=`bk,∀σ H Q,t' σ H Q->`rC,`gQ `JL,`H (ob0 b) Ag,λζ ξ=>#[ζ,en,e1,λv H1 s1 r1=>ξ],FnR X.K r f,λζ ξ χ=>ζ ξ hg hm hv χ hn hdb he hpl,λζ ξ χ=>lm0 (E:=E0) F ζ hg hm ξ hb `R nc0 χ hdb he hpl,`dc `ae H,λζ ξ χ=>λD σ H=>∃r,ζ/\`bB9/\ξ χ `ae `ab D r,om0 (i:=i) hN hi hx hf,(`bj `baE),λζ ξ=>ζ X `aGq (ξ G1 G2),(`bj `baF),λζ ξ=>PSD X `Ps (ζ ξ),PTD X c gt,(hc B δ),(by exact`baG),(by let#[x,t,rfl,r1,r2]:=r),e.same,`dh - `fp,(by rw[`baH]),`l4 hlt,(`bj `baI),k H `vm,rp.same,`Av H vs,λζ=>#[ζ,rfl,rfl],λK d=>by cases d<;>kernel_rfl,isBool,Rp X.K H B d x,(by cases `baJ),(`t (xs++zs)),λζ=>mw0 (g':=ζ) `bCQ,`gQ ?_,λζ=>(by let#[a,xs,rfl,q,r]:=ζ),PDA X [e] gA,mg x=`JM/\`vk K `Jm=`d/\`AX,(`gS).bind,(yy0 d).bind,qu0 ds,we0 xs ys,`vn=r,List.nodup_append,(kvs.any `YL),(`l5),Rd H a `YM,(by cases `baK),(u8 hu),(my0 `b2 eb),(`YN).isSome_eq,h _ `rD,PE X o td,keys.length,(by let#[b,e,O,r]:=h),(by rcases `JN with⟨rfl,_,_⟩|⟨_,h⟩),#[_,hi],#[_,h],(by rcases z with z|rfl),(by rcases `JN with⟨rfl,_,_⟩|⟨n1,h1⟩),(by rcases `AY with⟨rfl,_,_⟩|⟨n2,h2⟩),`G rfl n3,λζ=>(by simp only[`q,ζ] at hq),`_ hf,[`atL],λζ=>`aNs/\`aNt/\`bs/\ζ,`JO ([e]:`bQ).length,"extend",λζ ξ=>tz0 ζ hs `r s σ H D I ξ,Rps X.K H B ds xs,V6 X s H B' m e y w,Bool.true_xor,dxs.length,Int.zero_add,(`bP `iW).map,λζ ξ=>λd=>match d with|ζ=>ξ|_=>`y,D->`U,
`c `JP,(`bM `YO),`ct `f,(hT 0 _ st),Builtin.List.listSameRef,updateSeq,(`JQ:Int) - 1,Heap.size_push,(`au2 r2),(w60 rr).2 hl,y70 pr.1 q,(`bA `baL),(by cases e<;>simp[`dN] at he<;>simp only[R3,U3,Z6,T5] at ru<;>subst ru<;>rfl),λζ ξ=>`_ (show ¬ζ from ξ),`AZ `aA TI `YP `YQ,`au3 i1 l1 k1,`au3 i2 l2 k2,(∀c o,c≠z->`au4),(`cl `baM),`bJ (`A_ `j') s,`rE `j' `j3,λζ ξ=>ζ λo e=>hk _ o (B6 ξ) e,st.hl1,st.hl2,`A0<=`W,λζ=>B6 (B8 hb ζ),hG.above,(H 0 `v),by simp[ye0] at h,(`YR),(`rF:Int),nd.keep,nd.slot,λc od H'=>∀C,c=`eM->`au5,`IL (CXE `cB X.w) f sp,(`X Wc),`vo cn,`aB RX,.ex c n δ,`c (.ok d),(`Al i o),(λd z=>nomatch z),`YT h a o C od,findObj K C od f=`c (`b_ v),[`JR],(by let#[ds,e2,e1]:=`c1),"setdefault",(gk δ).bind,(by cases o<;>exact λz=>nomatch z),`rG `vp,`A1 b _ q `hM `hM,c.root,(`bj `baN),λd=>d,#[λb o n e=>hh b o n (s1 b o e),λb o xs n e=>s1.nf b o xs (hh.nf b o xs n e)],Q0.mpr,by unfold RpN at h;unfold Rp;exact h,`YU=`d,by unfold Rp at h;unfold RpN;exact h,k<`JK,b∉as,PN X i e g,`rH `JT,λζ=>setN i k ζ δ,(by let#[d,e2,e1]:=`c1),(by let#[c,so,rfl,f1,f2,f4]:=`au8 r1 e6 hnode),λζ ξ=>`S9 (`x2 ζ (`aa ξ `R)),`YF (`Io),`t l,(by let#[ns,e3,e1]:=e1),(by let#[#[n0,rest],w0,e0]:=K7 e1),(by let#[#[c',fs,ds],w1,e1]:=K7 e0),rh0 w0,(by cases `baO),(by try dsimp only at e1),(`JU `JV e3),en.setN,(`I6 rfl),(by exact`baP),`iM es=`d,decide_eq_true_iff,(by let#[c1,c2]:=w.back),(U9 `l6),λζ ξ χ=>#[`bZ,ζ,a,`bL,`bB3,a,dx,fs,rfl,ξ,χ,a,`bL,c1,?_],`fw hk',(by by_cases hb:b∈`lA),(by rcases `d! hb with q|q),(`t (es++[dp])),trs ds,`YV ns ps,j3 (A3 ec),`qS (PX `qT elt gx),`af (D×D),(by let#[q,e2,e1]:=`c1),(`IM hq `bp),(`IM hq `dS),c.other,(`au9),U b hb,`t `X6,(L7.mp z),List.filterMap_cons_none,zr0 its l u c,(X6 `c5),(`A2 `g0),(`hN `YW `c5),λζ=>S5 (V4 (yk0 ζ)),(zp0 (ob `au')),(Z8 `cL (o2 `au! `au? ixD)),(ob `ava),(Z3 (wy0 1 (oA `d9 xr0))),(ob (`A3 `aT)),(Z3 (wz0 1 (o2 `iX (o2 `aT `iX o8) m8))),(Z8 `cL (`rI `iX)),λζ=>U7 (z7 ζ v8),[`Az],[`Az, `X!],(`A2 `hO),
λζ ξ=>Z2 (vy0 0 `aZ ζ ξ),["held"],.rcd c ps,.text _,N8.cps.toList.getD,D->`vq,`rn - k,b∉Y7∨`Jd=`m,S.digit b,[s0,`va,`I?],(`JW:Int),`L h3,`c `qD,10 ^ 60,Vk v m,d8 (V2 `fr),λζ ξ=>M5 (by rw[ζ,ξ]),`A4 ?_,(λv hv=>by cases hv),`a2 sep,[`vr,`YX,`iD],`os s=`d,`d?=8,(`bj `baQ),(`cH cl),List.range_succ,z/52%3,[.un,.un],λζ ξ=>show ζ by simp[`b5,ξ],np=13∨np=53,(`dQ (2<=`W)),(`YY .un .un),[`avb,`iD,`cJ,`JX,`A5,`JY,.sh (`JZ)],U5 rfl ?_,λζ ξ=>za0 0 ζ `bH=`c (ξ),λζ ξ=>(by rw[ζ,`q,ξ,`q,zu0,`q,xg0,`q]),`J_ `a',f `bf ds,`C [`lH,O5 (`aK+5)],`gH<=1000,(j6 0),[.sh (`j!),`cJ],λζ=>`nq::`eB::`eB::`eB::ζ::_,(`lz).wait,n<=(`YZ),(by show `baR),(by show `baS),λζ ξ=>c7 (V3 (G6 ζ ξ)),[`avc,`iC,`ux],λζ ξ=>n6 (Y4 (δ':=ζ) ?_) ξ,[`ck,`qN],`g (`uQ+b),(`bj `avd),[`ck,`es,`Y_],`J0 G6 (n70 S),zy0 `hP=_,sub_len',λζ=>λx hx=>ζ x `bae,N6 `iY=_,[.sh (`j!),.sh (`t `j?)],`gX q,b<`fl,(`ad (r/128)),D->Prop,`aI<=20,`dK hm,`C [_,`iQ],`J1 `A6 λz=>e `rJ,k∈ks,ix ks k,by injection e,(`qZ `ka `q_),(`n `cC),kb_mem B j,`gb<=100000,[`A7,`ave],p60 _ `ot,(by show `baT),`g `vs,`bI<=60,Bw.fu0,(`Y1 `ou),hw.it _ w2,`o `lX T `Y2,λζ=>[a,b,c,.ow ζ,e,`A7],λζ ξ χ=>ζ ξ (m:=`a7f) λy hy=>`mD χ,l5.mpr,`vd `j4,trs l=`d,(`ad (N%128)),(`avf z),`J2++[`Jv],(`Y3),c∈M4,(by simp only[`ag,`bg,`kb,`hQ]),[`ck,`rm,`qN,.un],h.resolve_left,(`p `AF),`Jc=`kc,(by rcases `d! z with z|z),(∀j∈B,`l7),(by let#[N,hN]:=h.pre),100000 - n,h d A4,`ga≠0,`G rfl ht,λζ=>by show ζ<=30;rw[`S];lia,(by show `baU),I.held,`A8<30,λζ ξ=>∃S1,`cR S (ζ) `acv/\ξ,(H0 I.wc),λζ=>show ζ by omega,Km.c90,(`avg).begun,(by rcases `d! hq with z|z),(`avf hm),(`z! h).2,hf n h,(by rcases G.op with⟨e1,e2,e3,_⟩|⟨_,o⟩),`bu=`J3,n<=`J4,(`aK+1),Pq N q [],(`Jh).1,G.ln z,(by let#[n,dn,hk,hn,e,f]:=p),(by have hr:`rK:=`n?),G.held,`_ h2,S.takes b eqS,w=`cM,(by rcases G.sp with z|z),(`bj `baV),λζ=>∀(n:Nat) {ds:`l},ζ,w≠`cM,λζ=>(by let#[l0,s0]:=G.l0 hw ζ),(kd,more),(`qZ `avh `q_),(by have d0:=`baW),
`Yx vi0,`A9 j,λζ ξ=>ih N.1 N.2 0 z1 O (`cN (T:=ζ) rfl ξ),(by let#[x,hx,e']:=`de hy),`fx<25,q10 `avi,(by rw[he,`Z,`T] at this),ou0 xs,Sm x 50,#[h',g,d,t',os],[`lt,`g n tk],(X6 (gc `un)),Gv `eU l E `d,PsOk.names,`g `vt,Ta.c80,`A' `vu,λζ=>ζ<=1000000000,(`qZ `vv `q_),"folded","unfolded","is_whole",λζ ξ=>`aN ζ `el (t6 ξ),(top 19),"pair_names","is_byte","most_held","wanted_items","made_pairs",λζ=>xv0 (v5 j9 ζ),(V1 `aO v7),(top 27),"pack","held_items","item_bytes","known_head","name_bytes","part_number","text_bytes",λζ ξ=>ze0 (q80 ζ hr `v ξ),C_number_bytes,(top 34),(d9 `Y4 v7),"_law_names",(z8 8),"_law_number",[`ls, `Jj],(top 46),"_law_word",(top 48),"_law_web","_law_byte","_law_bent","_law_refused",[`c_, `IP],[`c_, `zR],[`c_, `Az, `X!],[`c_, "behind"],λζ ξ=>∀{us:`a6},`OW=ζ->ξ,fI_NoPack,`zM prog w,h B δ,`hx `gG `O,(.nx δ'),`vg `uj,λζ ξ=>RpW ζ ξ B ns a as sos,z30 `avE,`hx [e] `O,`g 128,X.env.scope.names.lookup,X.env.cells.lookup,λζ=>RpN K H B as ζ v,as[k]?,.sh `jR,λp=>(p.1,p.2++[d]),`cF hx,W5 `fr,λζ=>Inv X `r σ' H' ζ,λζ=>`awg elt ζ `eu pos,sos[k]?,by simp;lia,λζ=>by have z:ζ:=`aw,(Z0 `aO v7),xs[i]?,[q.1,q.2],(zs m).map,X.fn x=`d,λζ=>`YE a [ζ] [b] pos,.Return,λζ=>(`lG `jS (ζ)).all `ayv&&`ayw,δ'[j]?,`c (`hB b'),(o2 `re `IV eqD),`d! hx,`bV e `O,z.length,Gr.same,put S k d,S.names.map,`t `Bk,"signs",`B->`J8,List.getElem?_set_self,`e×HO,`di[k]?,λ_ _ q=>q,`c `eV,W.emptyDict,λζ ξ=>ζ pos `r s σ H _ I ξ,`Ym xs,ys.map `Bb,Nat.min_self,X.body,xs++[v],`hR (`Bf `u),.sh (`Bg),λn=>`fm (`vE),`a2 pre,pre.map,b::`aR,.UnaryOp,(`ba3),`c `J',(`JR),(`Jq `u),.sh (`Zf),`a9++[w],(R5 ?_),xk0 S0 `bI `Ki (`f8),"size",`baX b,I1.hok.fresh,Value.int,`rM `bF,.ow ds,rs.length,λζ ξ=>`iF k (`aab (`aun `iO ζ `Y ξ cdv)),backToKw,(`ba_),rx.same,`J7 b o e n hx,`rL x c e,sos++[`Za []],ks.zip,`rP `iA,`g 60,z/1000,`g `Jt,(`ds:Int),"root",pre.isPrefixOf,S.digits.toNat,(b%128:Nat),`g 256,E.begun.map,`g kk,(`l8 (`bM `J5) (.dict ⟨⟩)),H b=`iZ,
`qH=`bc->`uK=`bc,s1.toks,(`m,`Y6),.Compare,λζ=>`aVn pos f `ie ζ `bCX,P.zip vs,λb ob q=>`vx,vals1 r,(by unfold RpN at h ⊢),λζ=>`k5 K H B as ζ so,λkv=>`ap (`Kc),(`avn),rel.val k,"list_reverseiterator",(`X i1),(`X i2),`Bc (2<=`W),`I8=`aq,InstAt,wa0 ds,partsOf,(`bbm),.sh (`u S),λζ ξ=>[`avb,`iD,`cJ,`JX,ζ,ξ,.un],`o (kd=0) 20 12,.sh `Bh,λζ=>zg0 `cL SB `a3S ζ,λζ=>[`y6,ζ,`a5M,`ave,.un],T++[s],sp++[b],(sp0 v7 v7),.tbl ps,`bV a `O,sIx `f? `f? hi,`Y7 - `J9,NameKind.free,Rps.mono,.ext (`Bd e C `f),`n (`avw),SubO.lst,E1.mpr,at'.w.own,λζ=>zt0 `dD ζ 1 `Uu `b? `iR,(K4 1 v8 f),`f6 [c],`t `cN,[`avz,`t q.2],(R0 q),(`bbL),`bbI+3,[`ck,s1,s2],"beginning","object",.cls cd,oe.dict,λζ=>#[_,ζ,rfl,_,rfl,rfl],.frz ob u,(.own x),λζ ξ=>by subst z;rw[ζ] at mu;exact ξ,`c (.frz o u),`A! x=`kd,b∈X.ex,assignEach,λζ ξ=>`H (`bC' ζ ξ `O=`Sj) Aa,(`l8 (`bM `vw) (`lN ⟨`g lo t,`g hi u,`g 1 v⟩)),`c (`c `avk),xs.dropLast,d.name,#[[u],[]],Sum Int Str,Rp.mono,(`i_).same s2,(q.mono g2).to,L2.start,L2.atI,`Kd v,k70 `b2 e,g40 `b2 e,λζ ξ=>ζ ξ s u w (deq d e),SeqAt.RcAt,we0 ds es,(`ba8),env::`c8,λζ=>Lie ok ζ C od e,(`ba9),`avu b ps e,`c (`Y!),λζ ξ=>XdX ζ `ae `ab H σ δ od ξ,en.all,us.drop,`c (r,b'),mkB n N j G b ds,r.2.2,λζ=>`wy ζ (i:=0) rfl,PartAt,"pair",[`fn,`b_],`fl=60,left `a9 `ow [],(`bP n).map,cg ((N+`d5)%36),nm.getD,z/4%21,(`hE:Int),Gw.qd0,`rQ `avx,Z5 `b_,`g (`ad (36 ^ m)),`n' `l',`u (`vE),λζ ξ=>`a36 λn=>`ap (`zS=ζ)&&ξ,.sh (`Zg),`C `Zh,.ow `Jy,ok.held,(`q8).wait,`i0++`f8,`Bi hj,(`ve `on),`Bj hq,(`rQ `gX),p.take,λζ ξ χ=>FnB P w K mg `ao ζ ξ `nC 0 χ,(top 47),`eM::tl,"object.__setattr__",fs.map `cD,("__debug__" : Str),λζ=>`aD `cI X.A ζ Q E s,`avl C `Y,λζ ξ χ=>∀l,ζ l=`f->Q (`AT) (upd ξ l χ),(`hI `iS `rO),k==`Y9,Rp K H' B d v,#[`J?,λi H2 x H3 g2 y hi=>?_,`J?],`bx y p3,`vB (`bx `ov p2) [e] [] pos2,c≠i1,c≠i2,`vB (`bx x2 p2) `gG [] pos2,"ValueError.__init__",.List [] lp,operate,`df ks vs,(`gO:Int),λζ=>`aAw - (ζ/4).toNat,
`Bf `aus,L - `fx,`t `Zi,(`bbK),(o++`avB),λd m=>hd d (A5 _ m),`fm p.1,"ValueError.__new__",root::cs,`gW `m,findIn,h.Ns1 dx mA,∀f,RelO (`IK f) (mA f),b=a∨`J6,`c (`Y5),`af L2.V,`JQ<=`W,`ar<=i,h.IsListIter,mA `cK,W.plainGet,yj0 f v fs,swapsWith,(`s (us++ds))=`aI,(`baZ),I2.kIn,A.deeper,b∈([]:`aX),λζ=>A0 (m:=`aTW _) (N3 ζ J),(`ba2),`j0 `ar 0 lo,-`bv<=i,xs[j]?,2 ^ 63,eqV y x,`g `XE,`c (`l8 `iS `avo),`g1 q,Params,N'[n+k]?,(`vy).join,`c `vz,λζ ξ=>∃m',m'<m/\W `fp m' ζ ξ,s2.toks,Nat×`J!,`A? `ke `b?,`vA/\`bC,Rp K H' B' d v,q.mono g,`Y' g r,λζ=>∀{l:`a6} {m:`s4},ζ,`t fs,`nI `u,λζ=>∀(k:Nat) C dx fs,ζ->k=0,RpD K H B ns a,`c `vl,(`ba4),(`ba5),`gc σ H,b2 a z,s.free,(b1 a z),λζ ξ=>`hV X.K ζ `ab H' σ' ξ,it.yld,(gN i),λζ=>(by let#[#[cls,dd,data,sl],ho,hc,n,hd]:=ζ),`gQ `Kb,`kf H δ,λvs H2 s2 r2=>?_,(`avq)∨(`avr),List.find?_cons,`ba6 e,λz=>e (h1.trans z),(kV k),h _ ?_,e.at hi,λb z=>?_,(`c `kg),∃(i:Nat) (d:D),`avs/\`kh,λa z=>z.1,`C `avt,`B->Prop,"__length_hint__",Builtin.List.listExtendWith,(L4 _ _ (B4 hb)).trans,xi0 ks q,(`ba7),(`Yi s1),List.forIn_cons,`Xs=`f,·.push,(`gJ `dy),`hF `Ke,λζ=>`H (ζ ≠`awM) Ab,ye0 as ps,Prod.fst,A3 `x,`c `Kf,λζ=>LieT ok ζ C od e,Obj.mapFields,(`Yk),Gl X cn,XC.Tab,2 ^ 20,q.symm.trans,(wk0 l),(A3 z).symm,ds.drop,#[z,q],λζ ξ=>`ts λds=>ζ λr=>(r.1,ξ),(`bba),ns.set,J.w.node,`n #[rfl,xs,`Y?],(`bbb),(`bbe),(`bbf),`c (`Be,mk),[v1,`vC],at'.w.all,(`bbg),(`bbh),(`bbi),ev.same,r.1=`d,(`bbk),(ns++[`l_]),r.2.1.length<1000,(`bbl),"_law_at",(`bby),S.begun.getD,(`bbF),`cH `dT,`Zd `Ze,`g `z1,λζ=>op0 (es:=ζ) rfl,(`bbH),`t (`XH `aus),`t (`aue `avy),λζ=>ib0 ζ `aM `aM n hn,(wd ws).reverse,(Y4 rfl),(ob `Kg),T6 `bf `oo,`Kh=`gO,l.Nodup,words A k,(p80 p S _),(`s `qX),O5 (k+5),`hR (`avA),ps.take,(`vF s:J6),(`bI:Int),W.reverse,`dQ (`gb<=_),λζ ξ=>{ S with length:=`ec,spelled:=ζ,count:=ξ },λ(k:Nat)=>`d5,`Zj<n,N/4<`rv,`A8<=30,`vG::ws,λζ=>∃l,Nm l/\ζ=m9 l,(`q8).un,(`ve `q8),S.part,`a8::J,(`ad `Zk),Or.inl,d.toNat,
λζ ξ χ=>∀f,`v6+26*(`wG - ζ)<f->pre ξ++zs l=χ,(`ve `lz),λζ=>∀(k:Nat) (q:`d8),ζ,λs hs=>?_,hb x hx,128 ^ `rR,λζ=>(by let#[w,wr,s1,s2,s3]:=stage p `avi (`a9r) (`HC hp) h0 pre ζ ds he),S1.ends,S2.ends,(`bbN),gN 2 `qE `Zl,(`c `auV),yt0 `avC,(`avD),Ta.add_l,lh0 (sm _ `j),(ini 8),"_law_signs",[`qC, `XJ],[`q1, `hS, `Zm],(λ_ q=>q),(`XO),X.env.globals,λζ=>∃σ' H',`xr/\ζ σ' H',(`baY),`g (`o k 1 0),RelO.some_of,(`XR ha h),(`avm==0&&`rN==1&&(`Y8)==`f?)=`d,SqL X.K H p ys,SqT X.K H p ys,`Ba s',(hi B δ),`k (Y b n) h,it.stop,λζ=>λcl s H ex pins s' σ H Q I #[B,δ,h]=>ζ,`avp/\`Ka,Pd.impI,λj ds b h1 h2=>?_,λj k a ds es h1 h2 h3 h4=>?_,λζ=>by first|exact ζ|rfl,Txt.startswith,s1 _ _ hx,D.l2i1,setFlight,I.base.frzs,(`ba'),λζ ξ=>λb xs e=>ζ b ξ `aVg,λb ps e=>?_,λb u q=>?_,oth c _ z,(`ba!),λζ ξ=>upd (upd ζ e `arQ) dx ξ,λζ ξ=>lt0 (v:=ζ) hg hm ξ hd,H p=`X4,(`ba?),λζ=>λb hb=>`bDf id ζ,`vh ?_,(`bbc),(`bbd),λζ ξ=>ru0 ζ `r s σ H De I ξ,O5 `f',`dN dk=`d,`Zb #[x0,S4],`Zc b q,`bB `l9 .un,(gN 8),(`bbn),(`bbo),(`bbp),(`bbq),(`bbr),(`bbs),(`bbt),(`bbu),(`bbv),(`bbw),(`bbx),(`bbz),(`bbA),(`bbB),(`bbC),λζ=>fnN 0 `wB ζ yv0,(`bbD),(`bbE),(gc `AH),[`f5,.ow `iR],(`bbG),z/300%`om,sd0 `aZ o4 `bf=`d,`bE `a',Bt.v80 _ _ `v,(`bbJ),`dN `jR=`d,`bI - 1,(ds++W),`bbM b,r.app r',(`bbO),(`bbP),(`bbQ),(`bbR),[`ck,`vH,.un],[`vH,.ow (R E)],`c (`rS),`Xu `b3,(`rT:Int),(`bbS),(Q7 v7),(`bbT),λζ=>ud0 p30 le0 `hz b6 ζ,b_list,(λb ds q h=>o40 `v h),[`ra, `ls],(`bbU),(`bbV),(`bbW),λζ=>o9 m40 k60 ζ u20,`bM "ValueError",`bM `Zn,Row h tl,List.contains_cons,typeLookup_eq,`I->`eL,isSubtype,(by (apply `bbX)),c.sub ?_,X _ _ ho,`c #[`aug,_,`Zo,sl],sl.toList,(by rename_i dd cd sl ho),(by rename_i k0 k1 k2 k3 n k5 hs),(by simp only[`bd,`vI,Bool.not_eq_true'] at e),Ri h C tl f,#[rfl,?_],`fZ e=`Bl,`Zp=od,[`lt,v],(by repeat apply `bbY),`aB Obj,clsIn K C,(`bbZ),(`bb_),cd.hasDict,`c `Y,isSubtype_type,`cn "object.__class__",`ct `d,(by let#[hh,gg,dd,tt,oo]:=s),
(by have z1:`avG `eV `uT := #[_,e,c]),(`ox a:Key),(`vF a:Key),(by injection e with e1 _),Paired.length,`aa r _,by simp at e;subst e;exact`avH,#[u,`Bm,h2],(`rU n),(`Zq `gY),λζ=>`pw/\∃(its:`K) (n:Nat),`xn/\ζ,H dx=`oi,`Kj<=1000,`vJ/\`vK/\`avI a,(`avJ),`vL o,∀a b,`avK,`c (`Zr),`dy<=a,λζ ξ=>(ζ).stay (ξ) `acI `acJ `wV,(x b u e).stay,Mut (H x),e=x∨H e=`c `Zs,∃u,`hD e=`bc,`c (.own y),`Zt r mu,`c (`avL),(by rcases hc with rfl|hc),∃sl,`uK=`c { o with slots:=sl },∃o',`uK=`Kk,∀b o u,H b=`Zu->H' b=`Zu,k b ob q,λζ=>λb ps q=>#[⟨⟩,by rw[ζ,q];simp],(upd H x o),K.In `ao,builtinsNs,`avM∨`Zv,X.A.frames,b∉X.ex,`af (`ea),I.stkSub,(`Zw∨`oz<=b)/\`rV/\`avN,`vM H' h',∀b o,`Kl->`rV,λb o e hx=>?_,λi x v e1 e2 e3=>?_,`a0 H `oA,k b o (λz=>hc (`avO)) e,λ_ _ e=>e,λb u e=>?_,∀b u,`avP,σ'.length=`vN,λj y v' e1 e2 e3=>?_,`bl `eX,(`Bn b (`Km `Kn)),#[u',r',?_],I.ok.has,(`Bn b (`Km (I.ok.cab x c U hc))),s'.os=s.os,V->`iB,Q vs H',(`bb0),(`bb1),#[v,H,I,r,h],wpAny_Name,(by intro pins s σ H Q I hw),(`bb2),`H (∀whole,`avQ=(do let v ← whole;`Im e.pos;`nS [v] (truthy v))) Ad,(`bb3),(`bb4),(by let#[c,rfl,q1]:=q1),r.inj r',(by let#[σ',H',I,q]:=h),(by exact`bb5),`i1 e `f `l!,(`Bo e pos),λζ ξ=>thn ζ λv s1 #[x,H1,I1,r1,q1]=>ξ,(by intro pins s σ H vs us Q I r h),`Zx es `O,(B6 `Bp),PE X o to,(`bb6),(`nU),`Im pos,`nS `avR (`Ko ov iv v),release `avR [],`avS [tg],`Zy [tg] e,`H (`rW [tg]=[`hT tg `O]) Aa,(`bb7),`Jk H',λx c e z=>?_,λp hp z=>?_,Nat->`oa,tn i `aA,J.go i H,(`bb8),`a0 H' s2,J.yld i H x H',J.stop i H,λζ=>λi H x H'=>H'=H/\ζ,`g (lo+i),(by let#[o,e,c,d]:=st),(by exact`bb9),(by let#[xs,x,hq,hx]:=hg),(by let#[u,hu,ru]:=rv.get hx),(`bb'),(by let#[o,e,c,d]:=id J),λζ=>λ_ _ _ _ _ st h=>ζ st h,I.turned,λb hb=>(`rB).1,I1.list,(`hF `Zz).objs.size,`bl q,PI X tg iter wi,(`bb!),I7.unpinned,λζ ξ=>T.keep _ _ _ ζ λb hb o e=>ξ,(f v u),Int->Int->Prop,λζ=>∃i j,`agu/\y=`iQ/\ζ,x=`bD,λζ=>∀(i j:Int) (t u:Tok) (s:`w) (Q:`an) (E:`an),ζ,
0<=j/\j<=1000000/\i.natAbs<`Bq,(`Au .Add),V->`I,Pl0 x y=`d,λζ ξ=>`ap (ζ i=ξ j)=(i==j),λi j=>`hU (i<j),λi j=>`avT,λi j=>`hU (j<i),λi j=>`avU,(by let#[u,rfl,t,rfl]:=`YI),`c od,ObjM `aA x dx C mA,(by let#[od,J,hl]:=I.look),`avV K `eV=`d,`avW=`ZA,`avX=`d,(by rw[`bb?]),`IK f=`bO,I.write,`bV e env,(`bca),PE X `g2 tv,Around.under,Code.isFrame,H1 p=`f,(`bcb),∀vs H Q E,`Kp->`dz=`aI,`avY A,e.frames,H1 dx=`f,(by have r2:`bU `ki `Br:=`Kq hd),(`cl `bcc),`vk K `bo,`iF `d6 X.A,`avZ::us,vs[i]?=`bO,`uR `au_,`dA K cdv `iO=`d,(`bcd),`g3 X `oB r,`vO=`c `oB,(`bce),Builtin.Slice.slicePlaces,λζ ξ=>A0 (D7 O J (x:=ζ) rfl ξ),(`H9 r1),(`f_ s3 (s3.heap.push (`l8 (`bM "slice") (`lN ⟨vl,vu,`al⟩)))),tail_any,λζ ξ=>#[`lv,_,`tf (t':=`cv) (o:=ζ) `aZ6 `bF ?_,rfl,ξ],q _ `Kr,IsTupN.new _ _,xs≠[],`C `Ks,λζ=>OpR X `agx (ζ X.K),IxR X r,SqT K H p xs,(by intro value slice pins s σ H x y v u Q I rx ry h hs),(`H9 ry),(by let#[its,r,pl,hz]:=`vP),(by let#[j,h1,h2,h3,h4,h5]:=go0 he),Ak0.lookup,(`bcf),λζ ξ=>by rw[`cm,← ζ];exact ξ,X1 `j,`rX lo hi `f n,(`bcg),(`bch),(`bci),(`bcj),t90 x=`d,(`cn `vQ),(`av_ `vP),(`av_ `JG),`fs<=`W,`hD `Y,h'.push,typeOf `Kt=`ct (`bM "method_descriptor"),MtR X id r,`Bs `cK,(`bck),(`s (e::es)),acc++its,(`bcl),(by let#[u,rfl,ru]:=rv.one),(by let#[z,its,n,r,hl,e]:=I.lstM hH),#[_,e,rfl],(`t `ZB),OpenLaw,d.params.defaults=[],mg `ZC=`JM,s₁.heap.Ns,`iF k `Ku,∀(s:`w) (u:`B),`Kv s fd `ZD [(x,u)],SqL K H a `Bt,(λv _=>v=`lu),H b≠`f,(`bcm),W.OpenLaw,λζ ξ χ=>`bDr _ ζ ξ _ _ _ χ _ _ _,hr.units,λ_ _ _ h=>h,x.cps[i]?,[`j2],`Kw y=`fh,x.2=`jQ->∃c,`Kw x.1=`fh,(n,k)::r,λ(n,k)=>`o `av0 (n,`Bu) (n,k),`o ((`av1&&`Kx==`kd)=`d) `Bu k,Nat->`eL,`vy=`oc,W i m ys H2,newList [],h₁.get? b=`aq,(D9 _),(x,`jQ),(`l?).2.1,`av2 `oC,`c (`hT `IS `O),`af (`ZE),(`fy).bind,`c (.ct δ'),`c (.bk δ'),zg0 f G `b? δ,`l->`ul,`c (`av3),`cc (i=j),sIx `ar 0 lo,`vR=`Bv,by simp[hp],`eY=`eZ,by unfold v9;rw[h],.dT `AV,bindArgs,`bC->Rps K H' B' ds xs,xs++[x],by simp[d7],
by rw[d7] at h;subst h;simp[d7],s _ _ e,(by let#[xs,e,l,r]:=h),RpNs.mono,by apply `YJ;exact `ZF g h,so=`dv,`dw g `JS,λζ=>rm0 (λ_ _ r=>ζ) h.all,(by exact`bcn),(by let#[x,ns,e,r]:=h),∀o xs,H a≠`Ky,(by rcases h with⟨d',q,r⟩|⟨ks,vs,q,ts,xs,q1,e,q2,r⟩|⟨x,ns,e,r⟩),`aP->Prop,m[i]?=`oD,l.set i a,λζ ξ=>#[`E! ζ i `mw,`oG,ξ],(upd H p o),Rp K H B dx x,(`ZG).bad,fun σ H Q h=>g80 hf h,`H (`Bw) Ai,#[_,en,e,`Bx #[t,`av4,`Kz]],(`bA `bco),k _ H' s (`By h U3),(by apply `oE `q `rY),(by apply `oE `q (`_ hl)),`n j8,(`i_).bad,fun σ H Q h=>bh0 hf h,∀a,`nK->NB (`ae a),`ae p=`f,PSD X st G,e.same.trans,λj hj=>?_,`H (`Bz) Af,`jO s',λζ ξ=>ζ X `a9X (ξ gt Ga Gb),Gr H₁ H B B,λζ=>PID X tg e (ζ g),(`bA `bcp),(by let#[a,xs,rfl,q,rs]:=r),(by exact`bcq),(by let#[x',e4,r']:=rs.get (i:=i) (d:=_) (C1 hi)),y xs `ZH,(by exact`bcr),(by exact`bcs),(by let#[B,b1,b2,en]:=e.ex),#[_,`I6 Iff.rfl],(`at7).mp w0,`av5 (uh0 h1).elim,λζ ξ=>by rw[ζ] at z;exact ξ,(`XF s2),([]:`l),`cw (∃B δ,`gd tDT X.K gt),`cw (∃B δ,`gd tD X.K ge),(`bct),λζ ξ=>ζ hc hsc ξ hidx hi hg ht he hs,(by split at h<;>cases h),(`cl `bcu),`hV K H B H (`ZI N vs) `z5,(by let#[a,xs,rfl,hq,_]:=r),`hx [`KA] `O,`I6 `IT,λζ ξ χ=>nj0 ζ (i50 (C:=ξ) (g':=χ) `ajv) ha hb,x=`AT,p2.isList,J.toArray,eqS dx dy,`ZJ xs i,SqL K H p ys,SqT K H p ys,`n `ge,`p `ge,`JO [e].length,(by let#[fa,fd,F,hm,kp,hb]:=C),(`vS).bind,(`oF).bind,vz0 ks ds q,`u0 xs n,#[hl,?_],cutD xs lo hi,(`Id (`cv+knd.draws k)),(i5 ..),entryOfKey,λζ=>`bDg ζ ho hd `ajP,(by let#[y,hy,rfl]:=`de hx),(by let#[h1,h2]:=h),Option.isSome_map,Rd H a `J',upd H a (.dK (`ZK)),(by rcases g with⟨kvs,k,e,ey,l⟩|⟨kvs,k,b,e,ey,eb,l⟩),(`av6 `ZL),dd.mapOf,(by let#[z,hd,xs,rel,dd]:=`ZM),DGet H a y o,∃q,`hD a=`dt,`af (Key×`B),(by have hl:`av7<=`W:=`cO (sa0 kvs k v)),let #[q,_,_,hq,_]:=J;`av8,PE X i ty,(`bcv),more.length,λkv=>(kV kv.1,kv.2),RpG.mono,`oG b z,en.same.nf,en.same.free hp,(by apply `BA d `dN),(by let#[B',c1,c2,J]:=en.frz),
its.toArray.isEmpty,(by let#[a,J,hb,xs,hx,rx]:=`oH),`n #[rfl,xs,`n `KB],rx.length,(by let#[B,b1,b2,env,rv]:=en.ex),`Zx `av9 `O,A5 _ A4,by unfold deq;simp,λj=>`at8,by unfold we0;simp,`d1 y w,`ZN `vT A,λζ ξ=>ζ (e:=`akk) p p' hu ξ,`ZO A s _ _ (`ZP),(by have s1:`ma=`bN:=by rw[`cm,← v.length,`cd]),(by have s2:`bcw:=`bcx),λζ ξ=>ζ (e:=`akk) p p' `bCP hu ξ,`lT+n<`nJ,(by let#[a,xs,rfl,q1,r1]:=rx),i7.mp hn.symm,`fz `oI `mb hz,(`ZG).same s3,trees ds,tree d=`d,`L ht,∀i s,St i s->`rE `KC `YO,its.reverse,by simp[hh],(`hF _).objs.size,λ_=>?_,(`XS).map `av',(by let#[x,r',rfl,h1,h2]:=r),DGet.k hp,DGet.t hp hb,pr.1.length,`co (`df (`n (`av!)) `ZQ),(`jV).mut,ds.all `dN,`I7 h' `d,`AZ h' `Y x y,(`bcz),(`bcA),λζ ξ=>ζ _ _ c3 (`Dv _ _ c1 ξ),#[_,hz,rfl],lo<=z/\lo<=TO/\lo<=i1/\lo<=i2,`hL=`A0,(`hA h tk),"tuple.__new__",#[[`ft,`uu],[]],s00 H l b,List.nodup_cons,(by rcases `A6 with rfl|h),`k (low c `av?) q,`bl h2,`hL=(`s (xs.zip ys)),H t=`f,(by split at h<;>try cases h),k b o hc e,(by simp only[`rZ,`KD,`KE] at hc),(by let#[#[old,he],h1]:=st),(s1.mono g2).to,(`bcB),λv H3 s3 r3=>?_,Tbk ok h e v,`KF=`c (`ZR),`BB `ao (`ZR),env.frame=`c L,∀b,`Y<=b->ok b,`r_ ok (`awa) `aA h',(`bcC),`ZS `aA,`dB M `ZT,λζ=>λh' nd le=>h h' ζ le,nd.there,`qK=`f,`p ?_,FpW X `r H b,z.2.2.2.1,gv0 X `r H `aA C od e,(by let#[more,q]:=`ZU),(by let#[e,n,r]:=`AQ),I1.free,(`Bn b (up b o e)),strLen_append,`cE cn,`c (`c (`cn "type.__getattribute__")),RawAt.stay,`X r::XC.bmV,[`lt,`d7],H e=`ZV,(`bcD),`ZW K n,(`bj `bcE),(λz=>by cases z),∀d,s≠`uM,(`bcF),.ex c m,`oJ `ZX hδ,(by let#[#[h1,h2],h3]:=e),∃C,`kj/\ErrG K C `c2,(sj0 f),List.range'_succ,`bW a=`aq,`ma*`mc,#[ds,env,e2,`awb],`l5=`f,bt0 K=`d,(by rcases (all _ (wk0 lc)).1 with z|z),H c=`oi,#[_,e],`KG H a sub c,SubO.no_tup,λζ ξ=>(by obtain⟨_,all⟩:(`aUW)/\∀p∈ζ,`bCb:=`b2 a _ ξ),λζ=>fun σ H=>∃sub,`tM/\ζ σ `tN,(by let#[σ',H',I,sub,c,k]:=h),(by exact`bcG),(`zU ha.go),`KH j++`fW::`ZY j,`Av H us,RpG K H B b p,`KI=`ZZ,RpG K H' B b' p,
(.rt r δ'),G δ=`eZ,∀p,EndB G `md j p r b',(by let#[B',c1,c2,J,rv]:=ev.ex),`Z_=`ZZ,`c (`hB b),f bm.1 ds,(by let#[a,J,hB,ro]:=`oH),λζ ξ=>(by have O:`bCE:=`w? hi J ζ (h2 H' B q.2 ξ)),(`bcH),by unfold RpN at h;exact h,by unfold RpN;exact h,(`JS),λz=>h `KJ,(`kk).bind,λk=>`i2,`rG `nF,(`bA `bcI),λζ=>(by let#[k',c,so,rfl,f1,f2,f3,f4]:=ζ),(`JU `JV e5),`Yi s2,λζ=>`Tr b1 b2 env ζ at' f1 f2 nk `aY_ (d:=`y) (v:=`y) `pg,(unL p.2).bind,`c (c,f,e),ub0 `BC `Z0 f,(unL ns).bind,(l50 p.1).bind,PD X `g2 gv,`i1 `g2 (`c (`awe)) `l!,λζ ξ=>PSD X `bC! (ζ i c f ξ),(by let#[dv,e2,e1]:=e1),(by let#[so,Y,nk]:=`Z1 J.w.all),`g (n1+n2),(U9 `au6),J.w.backS,sos[0]?=`n5,pi0 hfl h1 a5,λζ ξ=>kk v H' (`N8 ζ b1 b2 ξ rv),`dw g l,k=`hL,(`awf `KK),a4 b hb n,by rw[wf0],λζ ξ=>PS X ζ (λD σ H=>∃H₀ B₀ δ dp δ',`bBW/\sy0 i ξ dp δ=`Bv/\`bBX),u30 ns d,`awg elt `awh `eu lpos,`cw (∃B δ,`gd tDT X.K noT),(`bcK),(`KL s3),(`BD hB s2),λζ ξ=>#[λx o n e=>ζ,λx o xs n e=>ξ],(`vD `awi),`Ba s1,λζ=>.mk λH₀ B₀ δ=>ζ `ld,λζ=>λb o e1 e2=>ζ b o e1 (no b e2),a5 b hb n,`u c',(`bcL),λζ ξ χ=>`bDa (ζ).1 (ξ).2.1 (χ).2.2,`rX lo hi st `ar,`KM `awj,(`bcM),(`bcN),"abcdefghijklmnopqrstuvwxyz 0123456789",(`bcO),(`bcP),(`bcQ),(`bcR),(`bcS),(`bcT),[`zP, "items", `Z3],mkN 1 w40 w70,(`bcU),(`bcV),(`bcW),mkF 1 s50 tq0,(`bcX),(`bcY),(`bcZ),[`zR, "out", "rest"],mkN 1 y00 zz0,(`bc_),mkN 1 y80 xm0,(`bc0),mkF 1 yn0 yo0,(`bc1),mkN 1 xx0 xo0,(`bc2),(`bc3),(`bc4),(`bc5),(`bc6),(`bc7),(`bc8),(`bc9),(`bc'),λζ=>Z2 (gg0 0 `aZ ζ `c5),λζ=>Z2 (k80 0 `aZ ζ `IC),(`bc!),(`bc?),(`bda),(`bdb),(`bdc),(`bdd),(`bde),`ap (0<=i),Pt->`l,.rcd _ ps,fd0 v=`d,PsOk ps,(`kl n `Z4),(a,b)::`f9 r,S.names.getD,b/2=0∨b/2 > 8∨`Z5∨`Z6=`m,m9 `lJ,`o `BE (`c (`i3)) `f,λζ ξ=>{ S with wait:=ζ,un:=ξ },`c `awk,`gS=`c (d,δ'),`p `c2,`p `awl,`p `awm,`ax=`BF,k<1000000,(Y4 `fr),(`awn+3*k*k),(`bdf),(`awo),`bK<=20,c∈c10.cps.toList,[`f!,.sh `un],λj=>`r0,`b0 h0,`bE h0,`bE h1,λζ=>X5 rfl λp=>#[`t1,n6 `bCd ζ,rfl],
`b0 q0,`bE q0,by simp[hl],λζ=>(ζ : Str).cps.toList,`Z7 at',[`qV,`cJ,`YX,`iD],v80 _ _ `j,`bP 13,(`q?).take (`o (35<k) 2 1),`f6 [`Z8],λζ ξ χ=>o5 (x:=ζ) (y:=ξ χ) rfl rfl,fm0 _ `j `j,t8 ?_ rfl,app _ _ ?_,λζ=>bz0 _ _ `j `j `j `j ζ,bl0 _ `j `j,`d! hc,by split<;>lia,λζ ξ=>[`iC,`cJ,`MN,ζ,ξ,.un,.un,.un,.un],(`AI+3),λk=>`awp,(t:Int),λζ=>J _ (λs0=>ix s0 ζ _ q rfl) `j `j,`Z9 `fA "",PoolB np `bn,(`ad (ix j)),(`awq hp),ln0 P (ix j) `j (`cO (J j)),by rw[e],(by show `bdg),(`me `qV `cJ),(`Z').toNat,λζ ξ=>λp=>#[ζ,head p _ _ (J p _ _ _ ξ),rfl],z/156%(`KN),`g `om,`d! hs,`_ `j,Nat.min_eq_left,Nat.min_eq_right `j,`aI<=60,pool.length,[`jN,`g `rf],10 ^ 30+57,List.map_drop,λζ=>`nq::`ao1::`bCY::`abV::ζ,`g `Z!,(`s `vU),`fl<=1000,(`IW).set,`ca[j]?,`Z? _ _,λζ=>(ζ).reverse.map `Ai,List.dropLast_concat,λζ=>vy0 0 `aZ ζ g `bH,(`_a)[k]?=_,[`ck,`f5],`c `Bh,`J_ ks0,`t (`vb),List.count_cons_self,{ wm0 S with un:=u },[`ck,`rm,s2,s3],(`s (wd w)),[`lH,`eQ],[.sh (`km),`cJ],`g (`YZ),(`lz).un,(`s `i0),(`s (`KO::`BG)),`hE<=10000,(qc0 _),λζ ξ=>(by obtain⟨N,hN⟩:∃N:ζ,N=ξ:=`ah),V8 `bf [`H'],(by rw[`bdh]),(by show `bdi),`ap (n=0),`Jc=`g4,λζ ξ=>l70 S ζ ws hw b p _ _ ξ,(by rw[`KP,`bX ((`Ih : Str)=`_b),sl0,sl0]),(by rcases hv with rfl|rfl<;>rfl),trs q.2=`d,RS->Prop,λζ=>`aa hb ht hl hc ζ th hk,`bdj a,[s0,s1,s2,.sh (`_c),`_d],.sh (`awr),`uG - `aws,[.sh (`_e),`n6,`BH],`ap (`zS=L),w::`_f `d? `KQ,`awt (`awu ?_),(`KR L),`rl<`ds,[`bz `BI,`eO,`z9],`c9 [`lr,`awv],us0 b _ _ g90 `v,U8 `bf `r1,λζ ξ=>by show ζ<=ξ;apply `hJ;lia,`rX (`c 0) `f `KS n,`rX (`c 1) `f `KS n,λj hj=>h j (A5 _ hj),(kd,`cN),λζ=>d8 (V2 (vk0 ζ `Ux)),[.sh (`km),`_g],`C (`I_ `r2),λζ ξ χ=>by unfold z90;rw[show ob `XB ζ=`bY from `dd,show ob `ava ξ=χ from `dd];rfl,`gX (2,`cN),`gX (3,`cN),[`ck,.un],.sh (`_h),vl0 `j `oL `y,`qJ->∃k u q,`g5/\`gf/\`vV/\`uy ∉R0 q,O7 `iY=_,(by rw[`bdk]),(by show `bdl),(`ad (2*b)),(by show `bdm),o.length,(`Xq `bdn),`KT<`KU,(2:Nat) ^ 250,λ(c:Nat)=>`KV,`uH<=`W,
(`s `e_),(`z':Int),List.take_length,(by rcases `KW with rfl|hm),(`s `aww),L7.mpr rfl,sub_len,(`bdo),idx_map,`ka∈B,`bE `i4,`vd `fj,(`gb:Int),(`Y1 `rx),(`Y1 `awx),.ow `Jz,[a,b,c,`_i,e,`A7],(o++`oM),`uJ 16000000,λζ=>`Vh (gf0 ζ rfl),pk ps f B T W,.ow `awy,`ca[i]?,#[c+1,?_],S1.digits,{ S1 with digits:=`kn },#[`BJ,`KX,`_j,ok.wait,ok.names],`_k=`_l,List.count_append,`fl<=60,`KY hf,ur0 th rfl,S.names.Nodup,sp.length,(`d' `r3 c),(`auG),(`KR `ec),`bB `bK `cM++ws,`M->Prop,(by injection h with h _),(by rename_i B T j ds B1 B' T1 T' b1 b),(∀d∈ds,`mf),λh hd=>`awz,(`Bi J).2,(by let#[n,h1,h2]:=`awz),(`bA `bdp),(by rw[`a4 (n+1+f=(n+f)+1),`bg,← h2 f W]),`L hj,`_ hj,K22.sub_len,(`bdq),(`_m).2,`fm q.1,λζ=>l80 ps pre d `aR ζ,(by rcases hh with⟨a,b⟩|⟨a,b⟩),λζ ξ=>∀{l:`l},(∀d∈l,ζ)->ξ,(`KZ).drop `fx,w.cps.toList.map,(`e_).map,I.okS W,`bI::`aH,t.length,`_n::`aH=_,`cF hk,(`X').begun,n<=lim q.1,Want.root,`aH=[],`ca≠[],`cP/\`i5,`ds≠0,λh=>`K_,(by let#[k,hk]:=`_o),`G rfl hf,`BK=`ko,G.open' hw hr,o.top hf,(by show `bdr),(Q4 ws us).2,m `bf ds,Fts.pairs,(by let#[kd,ds]:=q),(`p e),(`Yv:Int),`uQ+`b9%128,(`s (`bB n `vW)),`K0 u w,d::more,St1 S b S1,Uq F ps S `vX,(by let#[W,t,e,c,k]:=u),p50 l0 d0,λζ ξ χ=>oj0 G hw `v `v `v sg rfl rfl ew l0 rfl u' ζ ξ rfl χ,(`avh)∈_,Go S l E,takes_all G hf b,G1.next,(by let#[W,t,e,c,k]:=go sg nd),(`bA `bds),go `awA nd,`BL∈`uD,Go `eU l E,#[`F,?_],List.take_append_drop,y30 h1 `kp,okr m 0 `K1,(str _),(λs hs=>by cases hs),(by let#[n,b,a,f]:=all q J),`cQ (zs l),`r4 `cD,`BM q hq,by show (`s (`X0 _))<30;rw[`S];lia,λζ ξ=>(by let#[S',r',D']:=ih S1 k u ws p (pre++ζ) I1 hn hB ξ `bBZ `bB_ hp h0 `aqw `bB0),(by let#[M,hM]:=hL),#[M,hM],S2.begun,S2.begun.length,`C `_p,by simp[nob] at h1,(by rw[`bdw]),(`auq),kx0 e2 e4,(`ax).map,(by let#[_,_,_,_,_,z]:=q),`K2 (X.A.mark (`c (`K3))),(`bdx),(`bdy),(`bdz),(`bdA),ux0 G1 G2 δ,zd0 G1 G2 δ,[`bz `BN,s1,`es],[`bz E,`vH,J],(by show `bdB),(by rw[`bdC,e]),[.sh x,`rx,.un],`cR S l E,`gO+`bK,
λζ=>.tk J t1 `j wl.2.1 k1 ζ,Dw ps `bn,(`BO).ok,`mg ?_,(zs m).drop,c/8/`bv,#[byt _ λb O=>?_,?_,λok=>?_],(by rcases `d! O with z|z),`n (`awB b z),λζ=>t8 `a!q (t8 `bC7 ζ),2 ^ 300,`de hb,(`vv)∈B,`mf/\Lo d,`bI+f<=_,`gb+f<=_,Int.toNat,λζ=>#[ζ,λb hb=>by cases hb],Fs ps m S,[`iH,`dJ,`qG],λζ ξ=>[`asp,ζ,ξ,.un,.un,.un,.un,.un,.un],.sh N,c/4000%256,(by rw[`bdD]),`_q `i6,(`bdE),(top 3),T.b_reversed,(top 4),(top 5),(top 18),(top 21),(top 22),(top 23),(top 24),(top 25),λζ=>v60 wq0 h00 `DS `DR ζ,(top 26),λζ ξ=>`atu (ge0 ζ (j60 ξ)),(top 30),[`i7, `IJ, `jP, `I'],(`bdF),(top 31),(top 32),λζ=>O8 ζ hr `v `bDs,(top 33),(top 35),a00 K mg "KINDS" `K4,(v5 `n7 u5),(top 36),(top 37),(top 38),(top 39),(top 41),(top 42),[`awC, `awD],(top 43),λζ=>V1 `bi (Z0 ζ v7),(top 44),(top 45),`_r `BP 1 R4,λζ ξ=>Z9 (wi0 `bCD (ir0 (m5 ζ ξ))),t6 `_s,(`bdI),[`n3, `awE],C__law_cell_at,(Z0 `K5 v7),λζ=>wi0 (W9 ζ) `bDt,[`gT, `awF],(top 53),[`mh, `gT],(top 54),(`bdK),(top 55),"WebError","Reader.__init__",(`bdL),(`bdM),"Reader.give","Reader.whole","Reader.web","Reader.takes",(`bdN),"Reader.takes_digit","Reader.goes_on","Reader.takes_head",(`bdO),"Reader.takes_part","Reader.hold","Reader.end_parts","Reader.takes_sign","Reader.takes_name_number",PWD.pt,"Reader.takes_known_name","Reader.names_here","Reader.takes_letter",`AE K `f4 x=`BQ,`awG spD,`awH FnD,`awG spN,`awH FnN,λζ ξ χ=>FnB `ci w K mg `ao ζ ξ `nC 0 χ,λζ=>ζ (ps:=`nC) `atF,λ_ _ _ _ _ _ us hl=>by let#[_,rfl]:=us1 hl;rfl,`e×Obj,(x==`_w)=`m,`aB (D×D),(z9 p `bf),(x==`aui)=`m,`bx x px,EP X `r σ Q,G5 n `di σ,upd H a o,`q6 k,(apos.endLine==cpos.line)=`d,c7 `bfn,`bl h,`AE K `f4 c,Loc `qW y,X.A.units,S.wait.count `a8,`K? i hN,d8 `bfm,`bx y py,S.un.reverse.map,`cH `S,λζ=>by rcases ζ with rfl|rfl<;>decide,x ≠`awM,λζ=>CompOk sc `eu ζ N' n `di,`g_ i (`uM),λζ=>by show `jg=ζ;rw[hw];rfl,`hy×`awL,hW _ _ _ _,deq (`awO) (`awP),λζ=>AtN K ζ B σ δ i a ns as sos,(gc (`lu)),`X r::bmV,
λζ=>tDG ζ idx f B d δ v σ H Q,λa=>B a∨a=p,`bV `gL `O,pool.map,(`uA).map,S.wait.reverse.map,`_C->`v_,`bM "type",(y==`_w)=`m,("__classdict__" : Str),by apply `v3;rfl,(by rw[`bai]),(`ad (N/128)),λζ=>by let#[B',T',b,h]:=ih B ζ hm hn hB J,envOfC,relabel `eu `O,`af Keyword,.ext (`Bd e C `Lf),sos++[`Za xs],λn=>`_e,`bB n `awY,λζ=>`dC x ζ (U4 st) `QB `uZ `al kV doc pm an cdv ct,`bl e,(a::`X1),λζ=>`agi (t':=`cv) ζ f0 f1 f3 f4 f5,List.getElem?_eq_none,`c (.ow d0),(`beV),`n' `rf,.sh (`g f),`g1 hw,`hX S1,(`aw2),`k `bg he,λζ=>FnT ζ w K mg `ao `aZ `H3 1 `Gi o4 W6,`bM `awI,env.kindOf,by rw[U3],by rw[T5],PySem.Env,as.map V.ref,I.base.tups,(`bfh),`u (`a2 w),λc=>`Zf,`bB n [`Lr,`vW],(`bfL),(`bfl),(`v8:Int),H' b=`iZ,j<1073741824,`r5 K `bo f,λζ=>`aDY (`cn `aDZ #[`eM::ζ,kw]),(`bdX),sIx n 0 lo,(`bdZ),λζ=>by let#[p,xs,rfl,_,hp,hl,rr]:=ζ,s.heap.IsListIter,`_G->`_H->`dO c=`aq->`awR,pj0 X σ H' C od,(ho.go B δ),λζ=>#[d,a,ns,as,sos,env,ζ,at',`adf],J.w.nodeK,tw0 i `Ij δ,(`beJ),(`beM),(`beN),(o2 `re `Jr eqD),`hB (`q6 `Ju),`bz `oQ,c7 `bfx,.sh `Jy,λζ=>by let#[l,hl,hm]:=O0.mp ζ,`hw (`B9),(`uX `aK),(W.ok p hp),`K7 b,(`cn `_u),W.instObj,(`ad `J9),.dT kvs,`mi `b4 n,`oN=`r8,-(`Bq)<i/\i<`Bq,-(`Bq)<j/\j<`Bq,`c4=`r',[p.1,p.2],I.base.tbls,h.own b hb,`n (`Lj),λp=>`mk p.2,λw=>`Aq,`u (`qY q.1),o.map `g,`vd `q2,[`vH,.un],`g `B!,bT_Reader,isNs_of_in,(`K6:`w).TypeIs,#[_,rfl,r],λζ=>∃vs,`p2/\h.DictOf `BS ζ vs,`bdP `BS,`BT->G a b,.frz ob u',`A! x=`lx,(`avj)/\∀p∈`u5,p.1≠b,by simp[z],`qK=`bc->`uK=`bc,`K8 e `O whole,[v,ov,iv],λζ=>`H (`aWb ζ e `l! `O=`LL) Aa,`hU (i<=j),`hU (j<=i),W.isFn,`r5 K `bo `K9,W.makesIn K C,λζ=>Env0 P w K mg `ao ζ `c8 s H,`gJ `mj,λζ=>by let#[its,r',pl,hz]:=ζ,(`bd1),`_B&&env.scope.kind==`r6,λζ=>`H (`_' ζ `MG `azj `O=`aeD) Aa,`g (i%j),by rw[U3] at r;exact r,λζ=>λi j a ds es h1 _ _ _=>ζ,λζ=>by let#[z,hd,vs,rel,dd]:=ζ,(`s `ZK),#[q,hq],[`awN,`_E],λp=>`o (p.1=q) v p.2,xi0 pr.1 q,(I.hok.lt q),(`ZR).filterMap (·.frame),`La ?_,(`bdQ),
(`beo),`gg `gL f pos',(`lA).zip,.ListComp,[`bet],λv H' ev=>?_,(xs[·]?),(.rt d δ'),"cells","small",c%2147483647,`nI `b3,`a2 (`B1),λζ=>by let#[j,hj,rfl]:=`de ζ,`t (`_P),(`fx:Int),N9.mpr,k8.mpr,`u `B_,`fm c::`iT,.sh `aw4,(`bd?),ih h `_U,(`bfK),(sub a).1,"_law_number_here","_law_many","_law_start","_law_there",λζ=>`k_ P9 w9 K mg b9 CX0 n f fd ps (ζ K m),λζ=>ζ P9 w9 K mg b9 x n ps m,"BaseException",(`avl C dx),PySem.Within,`e×`B,"__name__",`bx x p2,ds.getD j `y,es.getD j `y,(`hI `iS ⟨⟩),`hD c=`aq,XC.Cl h C tl,.JoinedStr,.FormattedValue,Value.builtin,SubO.ins,B a/\a≠p,[`Lr,`b_],`g `KV,(`B4:Int),((sg s).map `g),(`ad `Ls),2*`_S,`g x,(`aw3),`bfE+2,`aI - `bI,`v6+51*(`aw6)<=M,(l++[d]),S1.spelled,O.length,`bfJ `a2,λp=>(p.1,p.2++[`B9]),gc `beI,lookupAlong,λζ=>`fZ C=`c (`bB' nm q C N bs tl hdct sn sub ab col dd k0 k1 k2 k3 k5 ζ),`c (`cn n),`BR==`_t,nsOkIn K cd.ns,`c (`X r),`eM::`at!,`c `awJ,`awK mA (`_v),TabOk H h a (qOf ps),W.methodObj,m7 (hm b _ q `BU),`bdR b,s.heap.IsCell c v,λζ=>#[ζ,`wd,`J7,`afj,`auO,`ac6,`avu],z.sameBut hs (cne y c e),`oy=`mi its n,k it `aM o e,I.list_inj,s.heap.IsTuple a `b4,Nat->`kq,(`bdS),`_x (f `vY (`g j u)),`g (i/j),`g (i ^ `ka),(`bdT),`u (i++j),W.lookIn `cK od,`bdU K C,(`BV).push (`_y),f90 `b2 e,yj0 f y fs,`gg o f pos',λζ=>upd (upd ζ dx `Zs) x `aZX,cellsFrom,λζ=>sz0 CX P w K mg `ao N `iO `eu f ζ A `c8 s H E,`c `Kt,sIx n n hi,(`u!+`l'*1).toNat,(items.toList.drop (`J9)).take (`Y8),"__getitem__",`j0 `ar `ar hi,λζ=>(ζ (`aaf)).take (`axQ - `aaf),(i+n).toNat,ixN `ar i,`b2 p _ hk,`bB k xs,`c `_A,λζ=>`pu ζ `Ku (`pt `Jm `aKY) `bCZ `eD,λζ=>ζ q loose XP YP `aKQ d [] `bC?,H b=`aq->H' b=`aq,`vf y.1=`lx,N'.length,Str×NameKind,s2.heap.push `Ke,(`l?).2.2.2.2.1,PG `qT tg g,PF `qT ifs tt,PE `qT elt te,(·.length),sep.length,`ay δ2,Rd H a `oj,`vZ (dOb ks xs)/\dLn ks=`ar/\`bC,`Xh=`jU,λζ=>∀(k:Nat) a,`ax?->ζ[k]?=`jU,`r7->`b' G l m,`Xo=`n5,.frz ob `oj,`c4=`Lb,(`bd5),Hh b=H1 b,λζ=>`aj! b o xs (s1.nf b o xs ζ),RpO K H' `v0 d p,
(`bd9),(`bd'),(`Lc CX0 N fa).nox,`ma+J.toArray.size,ds.dropLast,`dN x=`d,`c (`t `Ks),`r9 (i*j),atKey xs k,`c `YM,(·.isSome),`lG `jS (`hx [e,f] `O),(λx=>!x.1),(`Yg `jS `Yh).all (λx=>x.1.isSome),λj k b ds es h1 h2 h3 h4=>?_,(`bec),Bool.and_false,`Ld A s _ _ `d,λζ=>λl hl=>k _ _ `a?! (ζ hb hl rr),λζ=>λl hl=>k l _ (`CC hl) (`q0 `a?!) #[_,j8,ζ (Gr.fresh hl)],λζ=>WalksS prog w ζ I fp wr G n P St,s'.heap.get?,`c `bee,`hF `awQ,`c `Le,(`l1 (`_F)),`lG pos2 (`q4),(`aub),h'.IsListIter,Builtin.SmallTypes.ownedTupleIsFree `j',Builtin.SmallTypes.nextOf,λζ=>ZLow z TI TO i1 i2 l1 l2 ζ,(`hW `v2),low b `av?,(`l1 (`_I)),(`hI `ft ⟨u,w⟩),(`beh),{ cls:=`bM "traceback",dict:=`f,data:=`lN ar },E2 _ hT (d4 (U2 J _)),(`cn `_J),∀h:`D,X.K.In h->`awS,`dj->`n4,`c (`Li),(`bel),t D σ H,tl.contains,`iE (`Ae),E `bo od H',λζ ξ=>#[o.mod,o.kind,o.glob,o.blt,o.above,o.inj,o.has,o.cab,ζ,ξ,o.stk,o.exf,o.bs,o.bsz,o.noex,o.exfs,o.funs,o.frf],`u f tk,`awV `BZ,"object.__getattribute__",(`BD hb hh),`awW C dx fs,(f b.1 ds).map,#[v,_,I'.opened o,r,k],`l4 `j,λζ=>ζ `cB X.w X.K `cE `e1 c m k ps F f,[ke,`_K],H a=`ber,at'.w.ins,(`beq),λζ=>fun σ H R=>∃B δ,tDI ζ B δ gi σ H R,λζ=>by rw[ζ];apply `lf;rw[`bp],yj0 f v (nm.zip xs),(`beu),spos.line,`ZJ ys i,λζ=>∀o i,`Qh ζ `m o i=`bDu,(`bew),"_law_pool","_law_step","_law_first",(o2 `B0 `ak eqD),(`bfe),f (`_M) ds,λζ=>fq0 k h0 ζ cs hc sm m `bn,parts.map,(`bfp),(`bfq),`Lo (k%7),(`bex),`Lp (ix j) "",Gd p m `bn,List.take_of_length_le,List.drop_of_length_le,`g `_N,(`gH:Int),(`t (`Lq)),`u (Z5 v),λ(p:`d8)=>`mk p.2,`ap (a=b),`_O N,n*128<=323,(`bfv),[`eO,s1,s2],`u `B2,(`ad (36 ^ (`_Q))),`a9++[`lw],(uu0 p S _),zr0 xs (`c 0) `f `KS,(`bfy),(`ad 1),`B3[k+5]?,.ow `bfz,(`bfA),(`bfB),λy=>eqF y `jR,`n' `kn,`g `aw_,`t `aw0,(`uH:Int),`g `aw1,`cQ (tx p),(lc0 _ _).mpr,(`bfC),(`bfD),(`ap (`B5)),(`Lt:Int),(`v4:Int),(`aw5),`B6 (4*cnt `lE+`oR) `lE,`o `fB B `nW,`v5 `_T (`ou),st ps `_T `r? T (`e_++W) (`ou),`dQ `aw7,
λζ=>λa ha b hb e=>by rw[`dK hb] at e;exact ζ (e▸ha),(`qZ k `q_),trs `aw8,`aw9++[b],W3 `bf `r1,∃z:Int,`v7,`Iu hd,hb ps [] [] (lkd 0),λp=>`_V,pw `aw',(`f9 (`B8)).map `cD,List.drop_drop,Km.lu0 `n! (fi0 π),λs=>`f7,`a9++[`f7],bg'[j]?=`dt,`Lr::`vW::`Lv,`KO::`Lv,(`ad (4*`B'+1)),`aK - 1,`Lw->`ml,(`aw!),`o (kd=0) [] more,λv hv=>?_,`Lx `iA,`z3 k `aw?,`dU `Zh,`kf H' (`co (bm.2 b')),`bz S1,.ex `fv (`oq),`t (es.map `g),(`bfW),zs m++[0],(10 ^ 15+37),(`bfX),λζ=>IniC ζ w K mg `ao `fv rr 1,.error e,I.mod.glob.keeps I.bk,Array.toList,I.unwish,letOwnedTupleGo,(sb.2 b hb).trans,I1.fpOk,yj0 f v r,∃t,u=`K' x t,(`bdV),(`bdW),hc `r s1 σ H1 vs us Q I1 r1 q1,(`bdY),`_z H H `Kf,`K!==`r6,`BW==`kd,(`bd2),(`bd3),λζ=>`CB j k ζ ds es h1 h2 h3 h4,`vh #[y,`i_,e2,`BX],s.trans,(`bd4),(`q0 `gh),`k `oI hl,λζ=>T8 ζ z80 `r s σ H D I `aBE,(`bd6),k _ H' s' `_D,λi ds a h1 h2=>?_,(`bd7),(`bd8),λζ=>ζ cl s _ ex B δ `r s' σ H Q I h,`oN=`v1,(`bd!),λ_ z=>`gR,Txt.slice,rel.length,([]:`aup).length,(`o ([]:`aup).isEmpty 0 1),λj ds a h1 h2=>?_,(`bea),(`beb),λζ=>λd e x y u w h1 h2 h3 h4 h5 h6=>ζ,v'.length,(`bed),by apply `BY;exact hz,A0 `bef,(`beg),(`bei),λb o e n hx=>?_,(`bej),(`bek),[`bx `c_ p3,`awT [`Lg `Lh j p4,`awU (`bx `c2 p5) (-1) `f p6] p7],h1.go,(`bem),#[_,en,e1,`r! #[r,en',e,k]],(CXE P w),(`ben),#[_,en,e1,k],(`ey cdv A `c8 s H E hr).go,(λa=>`awX),λH' B' b' r'=>r'.toL,J.w.opAt `Lk Y,(`bep),tw0 i `n2 δ,`gc σ' H',(`bes),(`bbj),(`vD λH' J=>?_),[`bev],(`fu `oP),(`bey),`u `awl,(`bez),(`beA),(`beB),(`beC),(`beD),(`beE),`g 48271,(`beF),(`beG),`u `awm,(`beH),(`beK),(`beL),(`beO),(`beP),(`beQ),(U7 `d9),(`beR),(`beS),(`beT),(`beU),(`beW),(`beX),(ve0 `m),(`beY),(`beZ),(`be_),(fg0 `K4),(`be0),(`be1),(`be2),(`be3),(`be4),(`be5),(`be6),(`be7),(`be8),(`be9),(`be'),(`be!),(`be?),(`bfa),(`bfb),(`bfc),(z7 `Ll v8),(`bfd),(`bff),(`bfg),(`bfi),(`bfj),(z7 `Lm v8),(`bfk),(gc `Ln),λζ=>rp0 (p:=p) (b:=`atP) rfl rfl ζ,(`bfo),(`bfr),(`bfs),(`bft),(`hw `y),`g (`uQ),(`bfu),(`bfw),(`awZ),
u50 `m `jR (`_R),`gb - 1,qb0 T s,(by rw[`bfF]),lw0 rfl B,(by rw[`bfG]),`c9 `Lu,`o `fB W (`B7++W),λf W=>?_,(`iT).map,(`i8).map,S.number b eqS,zs `bfH,(`bfI),(`vv)∈_,s60 hw `v,D'.inv,`c (`fC (`sa)),(`bfM),(`bfN),(`bfO),(`bfP),(`bfQ),(`bfR),(`bfS),(`axa),(`bfT),(`bfU),`c (`Ly),`bfV=1,[`y,`eQ],(`bfY),(Q7 `bi),fun δ d h=>pw0 h,α->`aB β,o.bind f=`dR,∃a,o=`jU/\f a=`dR,#[a,rfl,h],"__getattr__",`K->Prop,λζ ξ=>`c { cls:=ζ,dict:=dd,data:=ξ,slots:=sl },Row h (`_t),`bfZ=b,`axb bmV n=`ct y,lookupAlong_cons,wpAny_mroOf_exc,.tail _ (.head _),Q () `ed,`v9 `Lz=`d,c.hasT `cZ,`v9 `B?,nsMap_none_of_in,λζ=>`bC1/\h.Ns N mN/\mN `e0=ζ/\`bC2,[_,_,_,_,`axd,_],`axe&&n == `_W&&!cd.hasDel&&tailIn K bmV tl&&`axf,nsIn K cd.ns `e0,(by let#[nm,bs,mro,ns,qn,hd,sn,sub,ab,Y,Z]:=cd),sl=`bf_,λζ ξ=>#[nm,qn,ns,bs,hd,sn,sub,ab,Y,dd,k0,k1,k2,k3,k5,_,`aej,`aVT,ζ X ξ O,`bCc],nsIn K `f4 root,`c (`axg),(`_X).all,nsIn K `f4 c',mg c=`Ac,`v'=`ut,At K mg c C `v!,Tab K mg root r cs rs,Bool.not_true,λζ ξ=>∀h' e,`aVs->`aD `dE ζ `bCq (λr s'=>r=`al/\Q ξ s') E `aD2,`v?<=`W,#[`eM::`aR,[]],(`hI `ft rest.toArray),(`l8 `eM (`lN ⟨`X `dy,`al,`al,`al,`_Y,`al⟩)),(`bf1),A.under,"type.__call__",codeAny_of_tree ?_,x8 _ `cZ,`Ca=`c `al,#[h',g,d,t,os],`bf2 _ _,(by rw[`bf3]),`BR=`axh,`_Z K `bo `cK=`gZ,looks_clsIn X hc,I.type.here,refuseLoop_ref,`_Z K `bo `K9,`bJ (setAttr `kr `cK v) s,λζ ξ=>A0 (`bDb hx (A0 (ζ (s:=`mq) ξ ?_))),Heap.get?_update_ne,λe he=>`G he `aM,wpAny_nsSet1,Heap.Ns1.of_empty,wpAny_lookBehind,pastItsLine_dict,(.ret `wa),Builtin.«object.__getattribute__»,`u `LA tk,hh.get? f=`eP,`c `wa,`B->`I,Value.isInt,Value.isStrOf,`af L2.Key,X1 (λq=>nomatch q),(by rcases zj0 hb with⟨j,u,rfl,e⟩|⟨y,u,rfl,e⟩),(by rcases zj0 hv with⟨j,u,rfl,rfl⟩|⟨y,u,rfl,rfl⟩),(J9 prog w).is,`zN UInt8,`af (`aB L2.V),`af (L2.Key×L2.V),∃t,u=Value.bytes b t,∃t,u=Value.float b t,λζ ξ=>∀{xs:`V} {us:`K} (n:Nat),`ei->`bU ζ (ξ n),`d1 p.2 q.2,upd H a o b,`mi `b? n,cont.toList,`iI=`axi,
∃mA,`__/\(`_0)/\`axj,p.1=q.1/\H q.2.1=`c (`C (p.1.map kV))/\`d1 p.2 q.2.2,λζ ξ χ=>∃o es ep,ζ/\`aKt/\`aKW/\es.toList=`LB (`ajQ ξ)/\χ,(`LB `cD).Nodup/\ep=es.size,`awc/\SubOk P w H h a p.1 p.2,∀h1 h2:`D,φ h1->(∀o,`mm a=`aq->h2.get? a=`aq)->φ h2,(by let#[_,_,_,_,o,_,_,e,_]:=x),(show `axk from x),∀b u,(`_1)->`YB,∀b,`J6->H' b=`oi,(by let#[z,y,vs,r,ob,es,ep,e,c]:=x),#[od,es,ep,k _ _ (`p d) e2,c],Paired.mapP,#[z.1,ht _ _ z.2.1,z.2.2],k a _ `c0 e,`c (`axl `eV (`X y)),#[o,`hY],(`bf4),`vL u,∀b u,`Cb->`YB,(upd H x o'),∀b ps,H b=`_2->∃more,H' b=`c (.tbl (ps++more)),λb u q _ _ _=>`LC,λb u q _ _ _=>#[u.slots,`LC],λb u q _=>#[u,`LC],k b u (hb b n) q,`k `axm q,`axn=`aq,∀x:Str,`at2->mb x=`vO,Mod X.K `cE `e1,`Xf y=`fh,X.env.frame=`c `f1,X.H₀ b=`f,X.s₀.heap.FunFrames,s.heap.Ns `f1 m,`dO p.1=`wb/\`wc=`f/\p.1≠`f1/\p.1∉X.fs/\∀v,p.2.data≠`ur v,X.base.get? b=`aq,`gM/\`dj,(I.ok.noex b o e),(by let#[_,o,ho,_]:=I.ok.funs.mem hb),(by let#[v,o,ho,hd]:=`Cc),λζ ξ=>hs ζ (by unfold frs;rw[`aFh,hf];exact ξ),(by rcases I.ok.stk with e|⟨e,hf⟩),List.filterMap_cons,`a0 H' ({ s with heap:=h',gens:=g',drawn:=d',toks:=t' }),`j_ (`Km `Kn),∀x c,`sb->∀v,`axo->h'.IsCell c v,λz=>(hch c z).2.2.1 x c e rfl,λζ=>ζ c o (I.cne x c e) hc J ho `abj,#[_,q,hd],(by let#[u,r,l]:=`bf5),#[u,r,?_],(by rcases l with l|⟨k,c,e,z⟩),(by let#[m,#[o,_,_,ho,_],_]:=`fD),λz=>(hch _ z).2.1 rfl,(by let#[m,#[o,es,ep,ho,r],_]:=id `fD),(λ_ z=>nomatch z),λζ=>λb o _ hb _ e n=>ζ b o e n hb `aM,#[_,U,O,hL,r'],(`bf6),(λm hm=>?_),(`bA `bf7),I.base,(`d! hp).elim,Inv X `r `Cd H s',Heap.SameBut,`dB M (storeName `O x u),`bf8=`m,`aF `mn,(by have hiσ:i<`vN:=`bf9),`Ce a,`vM H h',(`Bn c ?_),(`axp `wd),λy c e=>?_,(by let#[u',r',q]:=`bf'),(by rcases q with⟨k,e⟩|⟨k,c,e,z⟩),`n #[k,?_],(by have:y≠x:=`bf!),`p #[k,c,e,`axq],#[w',`axq],(by exact`bf?),`_3->L2.Hp->L2.VK->Prop,`gi/\`v_,λζ ξ=>∀(pins:`au) (s:`w) (σ:St) (H:Hp) (Q:ζ),`A->`rC->ξ,
λζ=>∀(pins:`au) (s:`w) (σ:St) (H:Hp) (D:Ends),`A->`ay0->ζ,(`we `fq),(`we `oS),Calls.Constant_str,`_x (`bV `mo `O),(`bga),PE X `mo (tC v),λζ=>λv s₁=>`aD `cI X.A `bCC (λu s₂=>ζ) `hG `eD,PC X op a b t,`H (`Bw) Aj,wpAny_Compare1,(`bgb),wpAny_isTrue_Compare1,λc H1=>Q (!c) H1,(`bgc),hb wh `r s1 σ H1 Q I1 q1,#[H1,I1,q1],(`rh op [a] pos),`l3 hb Q,λζ=>∃(o:Obj) (its:`a5) (n:Nat),`alM/\ζ,`axr/\`_4/\`bU xs `LD,SqL X.K H a xs,λζ=>∃its:`K,`xn/\ζ `aA a `b4/\`pw,`gj a o hk,`bl hs,SqT X.K H a xs,(by have:its=J:=`bgd),(X.wish E).Ok,#[ok.mod,`Cf,ok.glob,ok.blt,ok.above,ok.inj,ok.has,ok.cab,ok.hd,ok.frames,ok.stk,ok.exf,ok.bs,ok.bsz,ok.noex,ok.exfs,ok.funs,ok.frf],`sc (X.wish E) `r,SP X `r D f s',{ D with nx:=u D },#[σ,H,I,h],(st::`aR),λf s1 q=>?_,interactive,`wf `kq,(`bge),V->`bgf,(by intro pins s σ H v u Q I r h),wpAny_assign_Name,λζ=>`H ((ζ).findIdx? `cD=`f) Aa,`bl rv,(`bgg),`bx x pos',{ D with nx:=N,ct:=N,bk:=`gc },PSs X `ey tb,(`bgh),#[m',hm,σ3,H3,I3,w3],Nat->`iB,λζ=>`dj/\`rV/\`D8/\(`Zw∨ζ)/\`avN,(`bgi),∀v,`oy≠`ur v,(∀b∈fp,`LE),Turn `cB X.w X.K tg J fp it tn,tn 0 s2.heap,(`bgj),`bgk n,λi H=>∃xs x,`sd/\`se,∀xs,`sd->`se,λi H=>∃xs,`sd/\`_5,`_6 it a i,λi h h' st k=>st.at λo e=>`axs,(by let#[its,rv,p,hz]:=`vP),λh' J sb=>?_,(by have I1:`Cg:=`bgl),λζ=>#[u,rfl,c20 (s:=`jZ) e c d `v #[x,H,I1,ru,#[rfl,ζ],J,`agj]],λys hy=>`k (`axt hy hq) hx,(by let#[its,rv,p,hz]:=`JG),(show `axu from p),I.tuple_inj,IsRangeIter,Data.fields,(`bgm),(`bgn),(by let#[a,e,#[xs,hq],q]:=q1),λζ=>#[`j2,`ah4,_,_,H1,rfl,`bab,ζ a _,`bac,`hK,q],(`hA (`hF `Zz) tk),(`ad `wg) - `vs,Gl X `vw,`cE `vw=`f,PA X [a] ta,(`bgo),λζ ξ=>Call_ (td0 I hg hm ζ (P6 (thn `acP ξ) hs rfl)),Nat->`axv,`aF e,λζ=>∀{H':Hp},`baf->∀b∈fp,ζ,tn i `oT,I7.pin `Ch `axw,again I7 n7,`a0 H2 s2,`Ci op r,(`sf op),(`bgp),Int->Int->Int,Q (`g `mp `cv) `mq->`axx,λi j=>`g `mp,(`mr (`g `mp)),(`bgq),λi j=>`LF,λi j=>`g `LG,(`Au .Mult),λi j=>`g (i*j),λi j=>`axy,λi j=>`av3,λi j=>`axz,
(.bl (`Cj)),(`bgr),(`bgs),λζ=>ζ `r s σ H x y v u Q I rx ry q,(`bgt),thn `axA λd s3 #[z,H3,I3,r3,k,e,q3]=>?_,(`bgu),λζ=>ho' `r s4 σ H4 y z' u w' ζ I4 r2 r4 q4,∃i j,x=`u i/\y=`u j/\i.length+j.length<=`W/\Q (`axB) H,`bU [x] us,∃u,us=[u]/\`i9,(`bgv),(`cn "ord"),(`bgw),∀name,`axC=`c (`_7),Array.find?_toList,es.toList.any (·.refKey),`_8 K C `cK=`d,`r5 K `bo `cK,W.findObj_own,`B×`K->`eL,`axD=`d,`f'<=`W,`r5 K `bo `e0=`BQ,(`f_ s `axE),(g==f)=`m,(`_9).map `cD,`g6 yj0,(by let#[t,e]:=`bgx),(by let#[t,e]:=`bgy),`_8 K C `LH,NoAttr X.K C f,∀u s',`LI->`gi->Q u s',`dB `cI (`LJ `cu f b),(by let#[mA,O,r,_,_,_]:=`axF),(by let#[u,hu,ru]:=`bgz),`Kj<1000,(.ins C dx (`axG)),(`bgA),.own `mj,.ins C `Y [],`wh e f `O `LK=`XD,λζ=>(by let#[x,H1,I1,rx,a,C,dx,fs,v,ex,ea,c,n,l,q]:=ζ),`_' `g2 (`c (`axH)) `l! `O=`LL,(`bgB),(`bgC),(`bgD),λζ ξ=>.AugAssign (`gg ζ f tpos) ξ `g2 pos,recursionLimit,`cO r.dp,`cO r.un,`iF `d6 A,Code.frames,#[[],H,I,`R,h],(`bgE),(`cl `bgF),λζ=>#[`bCM,upd H1 `j2 ζ,`bCN,rfl,q _ hf],Un (frs `c8) [] H H' `aA `oT,HOk P w H' `oT,CE `c8 P w H s Q u s',I.ok.frames,λζ=>t σ H1 λvs H2=>sp (x::`ki) H2 Q ζ,(`Ic::`ki),(`bgG),λζ=>`OW=`aI->`aiv ζ `PV=`ct `PU,`cp (`eb `eV us) `fE,(by have hl:`_!:=`bgH),λζ=>P2 (K0 (`xF X.A `gP s H `PV `Br `ki Q ζ hr I.env0 `bB! r2 h) `xK),`nR=`XP,`vk X.K `eV=`d,λζ=>t5 (h₀:=`e1) `a?' hk (thn `acP ζ) he hpl,#[`Ck,?_],`bV `_? `O,λζ=>t5 (first:=`eW) (h₀:=`e1) `a?' hm.kp (thn `bCe ζ) hst hpl,#[`aaa,?_],(`aa rfl r),`axI H,V.ref `mj,(`avZ::`Br),sc.kind=`r6,sc.isCoroutine=`m,sc.isGenerator=`m,N.take P.length=P,y.2≠`jQ,λζ=>∀{binds:`sj} {m:`a3},`bCr->ζ `xG binds m x=m x,λw hw=>h w (A5 _ hw),(by have:x≠n:=`bgK),P[i]?=`du,λv hv=>(E1.mp nd).1 (Ac0 hv).1,λζ=>ζ (i:=i) (E1.mp nd).2 (`Bm) (`ak2) hk,`aab (`Cl),W.cellsFrom_some,`aN N ps `eu,(`Cl).kindOf,`axJ `mj `g7 [],`axK cd,`qO `aac z `aM,`p `ks,λb z=>`G z (J b),e0.hok.fresh,P4 `bgL,(`bgM),t { nx:=λ_ H'=>Q `y H',rt:=Q } `LN H,`j_ (e0.bs b o e).1,`g3 X `Kt r,
`vO=`axL,PE X `oe (tCB r t),(`cl `bgN),(`bgO),(`hW (vs++ws)),#[_,J,rfl],`aP->Nat,(`bgP),Builtin.Slice.sliceAdjust lo hi 1 `bv,(`ad `axM),slicePart_none,λ(m:Nat)=>xs[`axN]?,λm=>xs[i+m]?,`Cm `aA t `b?,`J9=0/\`Y7=`f?,`mi (`hW `axO),`bJ (`oO `oU `LO) s,`rE `LO "slice",A0 `bgQ,`Cn `axP,(`bgR),(by show `bgS),A0 `bgT,A0 `bgU,(by show `bgV),`aad `aae,(`bgW),`aP->`iB,evalPart_none,r x lo hi H Q,`ms `oB `axP=`ct (`axL),λζ=>ζ `r s σ H x v vl vu lo hi sl Q I rx hs pl pu q,(`bgX),wpAny_Slice,(`bgY),(`bgZ),(`bg_),subscriptTail,`X `wi,(`aaf=0/\`axQ=`ar),`C (`LP),(by let#[a,xs,rfl,hx,hw,q]:=h),(by let#[its,r,ht,hz]:=`lY hx),(by have J:`ma=`ar:=`bg0),C0 (ki0 xs lo hi) hz,`axR r.drop,SqT K H b ys,(by let#[its,r1,p1,_]:=`lY ha),r1.nil_iff.mp,`k `Z hz,if 0<=i then (`o (i<n) (`c `fA) `f) else `o `aag (`c `axS) `f,(`axT).bind λj=>`aah,seqIndex_of,seqIndex_neg,`cp (`eb `Kt (v::us)) `fE,λζ=>ζ `g2 `tk `r s σ H x y v u Q I rx ry q hs,λζ=>∃p xs i v,x=`fW/\y=`bD/\ζ/\`bCV,atI z.cps.toList i,(by let#[p,xs,i,z,rfl,rfl,hq,he,q]:=h),(by have fin:`sg w s:=#[z,H,I,J,q]),(`bg1),subscriptTail_builtinR,pl.isList.typeIs,λr s'=>r=w/\`sg r s',#[rfl,fin],-(`aai:Int),(by simp only[`rX,`j0,Option.getD_none,show `rN > 0 by decide,`hZ]),`j0 `sh 0 lo,`t (`LP),ht.isList.typeIs,SeqAt.EqAt.none_bool,SeqAt.EqAt.bool_none,SeqAt.EqAt.bool_bool,SeqAt.EqAt.bool_int,SeqAt.EqAt.bool_str,SeqAt.EqAt.int_bool,SeqAt.EqAt.str_bool,xs.any λy=>`aaj,(by let#[p,xs,rfl,hq,fx,fs,q]:=h),Q (`g `fs) H,#[`g `fs,H,`uL,#[`us,by rw[`cm,J]],q],∃z,xs=`LQ/\`wj/\Q (`aak) H,λζ=>ζ `r s σ H xs us Q I rs q,`_z H H `vz,`bU ys its,λζ=>`bDh p ζ ho hc hd `bDi `Qr,(`bg3),`X `Cp,ob.dict=`f,o.ExactDict,(by let#[_,_,_,_,o,_,_,e,ex,_]:=`axU),#[o,e,ex],(`bA `bg4),#[o,e,ex.2.1],tyV K T x H1,PlainAttrs T,Slot T `cK id,λζ=>#[T,id,pa,slot,hty,h1,h2,ζ],(`lG `jS (`uj)).any `cD,Vals.append,(`axV).flatten,(`s `LR),(`s (b::r)),acc.toArray,(`kl k its),`dO l=`aal,(by unfold Builtin.List.listTooLong),
λζ ξ=>λx vs H Q=>∃l xs y,`ajx/\vs=ζ/\`Qt/\ξ,"list.append",λζ ξ=>#[`y,_,I.lset (its':=its++ζ) hH e `aM (`Kq ξ) ?_,rfl,q],Array.getElem?_toList,pre_splitW hpre,l.row.toRowW,(`d==`d),`LS a=`axW,s₁.gens=⟨⟩,List.Pairwise.nil,`axX `si,`oy=.dict es ep,hA b (`aam),#[`eW,[]],λb o e=>?_,`G rfl z,`aan->`z,∀(w:`Q) (h:`D),YP w h->`LT h,λζ ξ=>∀base:`D,`LT `ao->`O8->`k_ `ci w `Cq mg `ao ζ k fa fd [x] (sp ξ),λζ=>∀(w:`Q) (H:Hp) (a:`e) (ns:`M),`Qx->ζ,λζ=>`bDv->sp ζ `eW H `ahX `uY,`axY W.WalkO,Fun K x `iO st f fd,∀b o,`axZ,H' b=`Ky->H b=`Ky,Option.none,"str_ascii_iterator","str_iterator",#[⟨x.cps[i]⟩],λh' J sb=>fin h' J sb,λζ ξ χ=>ζ ha #[`j2,`ah4,_,_,H1,rfl,`bab,cy0 _ ξ χ x t,`bac,fp default,q],scope.kind=`r6,y.2≠`ur,y.2=.local->`ax_,y.2=`jQ->`A! y.1=`kd∨`A! y.1=`mt,`ax0=n+`wk,`aao=(`XN).bind (N[·]?)/\(`aao).all (λy=>`LU==`mt)=`d,caps.map λj=>`aap,(`s `atN),`af (`ax1),x.2=`jQ->∃c,`LV x.1=`fh,acc.lookup y=`fh,λy d hy=>?_,λx hx hf=>?_,`av0=`d,`bl hx,(.ok .next),λζ=>`CO ifs `d λc r=>if r=`d then do let ok ← ζ;`bCf else `bCg,(`bg5),λ_ _ h'=>h'.elim,λζ=>∃m,W 0 m [] (upd ζ D `n2),(`bg6),J.yld i H2 x H3,Wk `fF σ4,if b=`d then te σ4 H5 λy H6=>H6 D=`aaq/\`fs<`W/\`aar (ys++[y]) (upd H6 D (`t (ys++[y]))) else `aar ys H5,(`f_ s2 `ax2),s3.heap.get? b=`aq,(by let#[o,e,_]:=`bg7),X8 X `eu cl N' s3 H3 fp,B6 (f0 b hb),λx c e=>`ax3 x c (hcl1 x c e),`Cr=`bg8,(`l?).2.2.2.1,(by rcases `bg9 with z|z),{ s3 with heap:=h₁,toks:=`aas+([]:`sj).length },`uR `aM,Nat.add_sub_cancel_left,(`bg'),(by have e':`Kw x=`fh:=`bg!),`G hp (by simp[X8]),(H0 `rJ),Ia.pin `Ch `axw,`qS `ax4,`qS `ax5,`qS `ax6,(`bj `bg?),(`bj `bha),(by let#[it,fp,tn,J,H2,rfl,I2,T,Z,f2,q2]:=h2),λζ ξ χ=>e50 (Q:=ζ) (RR:=λa1 C=>compPost `cI X.A `hG ξ χ a1 C) hc hsc ok Y U (hg cl) (ht cl) (he cl) I2 T Z f2 q2 ?_,λζ ξ χ=>ζ (t':=ξ) χ as.1 as.2.1 (`p as.2.2.1) `aL0 as.2.2.2.2,λv H'=>`gc `Cd H',λ_ s'=>SP X `r D .next s',as.2.2.2.1,DL.D->DL.D->`aB DL.D,`af (`aat),
DL.D->`sk->`aB `sk,`sk->`aB DL.D,`sk->`qL,`sk->`aB (`J!),(ob ga δ).bind,λ_=>`wl,fun δ=>`wm,`wn `wo (`o `sl (Ga δ) `Cs),(`vR).bind,zg0 f G ds δ',λc=>`wp,`bB n .un,caps.map λj=>lv0 `kt,`A? δ ds,(`aau).map,`c (`axy),(eqS x y).map,sIx `ar `ar hi,`c (`g `ar),(ys.map `ax7).sum+`fs*`ax8<=16777216,(`bhb),`LX=`c (h d),`A? δ `b?,jj0 `bhc,`vR=`c δ1,G δ1=`ax9,ifD g Ga Gb δ,by unfold ifD;rw[h];rfl,K9 n `di gi f gt ge δ,o2 ga gb f δ,λz=>(by cases z),`sm/\`ax',g _ _ h.1 h.2,Gr H H' B B,fd.scope.names.lookup,TelO K H B p kvs,`oV `LY `bC,`oV `Ct `bC,`oV `sm `ax!,`oV (FnAtH K H B a `AV) `aav,`l->`V->Prop,∃x r,xs=x::r/\`Cu/\`Av H r,`c'->`aaw,#[a,xs,e,`aax,`aay],`bl e1,Rps K H B es ys,λζ=>by rw[d7] at h;subst h;exact ζ,λζ=>∀{ds:`l} {xs:`V} (n:Nat),`bC->ζ,List.take_succ_cons,(by exact .of e (λ_ _=>λz=>nomatch z) λ_=>λz=>nomatch z),(∃k a,`kk=`fG/\`ax?/\`LZ)∨`kk=`f/\`oV `LY `h_,∃x r,xs=x::r/\RpN K H B as d x/\`qM ds r,`aya as',`aaz `ayb,`C [`mu,`aaA,`ev],∃C dx ns xs,so=.ins C dx (`L_)/\fs=`aaB/\`f'=`ar/\`kj/\dx∉as/\`h_,as[0]?=`jU,`aaC `ayc,(λ_ _ z=>nomatch z),∃x ns,es=`c3::ns/\`aaD,#[x,ns,e,`dw (λo z=>s _ _ z) `wq],RpL K H' B d a,λζ ξ=>`p (`n #[ks,vs,q,ts,xs,q1,ζ,q2,ξ]),Oo0 H B od n,XcR K H B c n a,g _ _ h1 h2,g _ _ q1 q2,B a/\`mv,(m.set i b),`b' `L0 σ δ,`c (.ow es),`c4=`aaE,`oJ `mw h,#[v,rfl,r],`lF (B4 hk),∀ob xs,o≠`ayd,`wr PE (`Cv tD),`wr PT `aaF,`wr PW `aaF,∀B δ,PA X es (`Cv tDA),Rp K H B dy y,λpins s σ H Q I z=>`b8 h Q `aaG,(`atX).imp,`c (`u y t),#[b,en,e,λH' s=>?_],(by exact`bhd),#[c,r,?_],(by exact`bhe),(`bA `bhf),(Zj0 `dk).imp,`Bx (k v H' (`q0 s) r),λζ=>λvs H Q _=>∃(B:BS) (ds:`l) (d:D),`pU/\`Rw/\`Q9/\ζ,`z0 X.K fd ps [],#[ds,en,e1,`awb],(`lU),(`lV),∀(i:Nat) (ds:D) (a:`e),`aye->`kh->`ae a=`f,∀σ H,`cx->`aaH,`h0 PS st `ayf,`h0 PSs st `ayf,Wr idx σ σ' δ δ',∀B d δ,PG X tg (tDG X.K idx f B d δ),`lF (B4 `x),`hV K `ae `ab H' σ' δ',e.fr i ds a h1 h2,λζ ξ=>im0 `dk ζ hs hw h1 `r s σ H D I #[d,env,e2,ξ],
λζ ξ χ=>fun σ' w en'=>k σ' ζ (ξ b1 b2 χ w en'),#[t,env,e2,λH' s'=>?_],∀B δ,PI X tg e (`Cv tDI),(`bA `bhg),PDA X [a] gA,(`bA `bhh),`dc `ae H₁,λa z=>(`aaI).imp id λq=>`aaJ q,PSsD X `ey G,(by have a7:PG X tg (`ws):=λpins s σ H v u Q I r #[B,d,δ,h]=>hg B d δ `r s σ H v u Q I r h),λζ ξ=>(by have a8:PSs X `ey (λD σ H=>∃H₀ B₀ δ,ζ):=λpins s σ H D I #[`ae,`ab,δ,h]=>ξ),tDS X.K `ae `ab δ G D σ H,`L1 hb h,(`cl `bhi),(by obtain⟨Hh,U⟩:∃Hh:Hp,Hh=λb=>`L2:=`ah),(by have Y:∀b,`wt->`ayg:=λb n=>`k U (`_ λz=>n z.1)),(by have a1:`bhj:=`bhk),(by have a4:`bhl:=`bhm),a1 b z.1 z.2,(`L2)=`aq,(by have h0:=`bhn),(by rw[`bho] at h0),`dc `ae Hh,s1 b o (`fY b o h),λb o xs h=>`ayh (a3 b _ h),`hV X.K Hh `ab H1 σ δ,(`bA `bhp),`p (a1 a z q),`wu i ds a h1 h2,(by let#[o,e3,a',e4,hB,_]:=`oJ Z.all h1),Z.bad a `aaK,λζ=>m=`dh - i/\`aOv/\∃δi,`bCl/\ζ f G (`lP i) δi=`dR,(by have gr:Gr H1 Hi B B:=`bhq),λζ ξ=>`p #[`bB6,fun σ' H'=>∃δn,`bB7/\ζ f G (`L3) δn=`dR,fun σ' H' #[δn,en',e']=>ξ,`bB8],(by let#[sm,d,hd,rd]:=`aaM i Hi x H' gr y hlt),(by let#[B',c1,c2,env0]:=O.ex),Rp X.K H' B' d x,(`bA `bhr),env0.same sm,`lP i=d::`L3,(`bA `bhs),(by have b3:`bht:=`bhu),(`bA `bhv),(`bj `bhw),(`bj `bhx),(`bj `bhy),(`cl `bhz),k σi Hi (O.lower hS `oW),∀B δ,PF X ifs `aaF,`bB n `sn,∀(i:Nat) (ds:D),`c4≠`Lb,(`bl z),∀p H',`ez->`be->`ayi->Q `kg H',`wr PE (`Cv tDF),(`bhA),λJ H1 s1 it=>λL hL=>?_,Gr H1 H2 B Bp,i<=`dh,H2 L=`aaq,Rps K H2 Bp pre ys,λζ=>Pd.impG (gr s2) `bCR (ζ n `di).all,λx H3 y=>?_,Rp K H3 Bp dx x,λζ=>fun σ4 w en4=>#[#[w.len,ζ],?_],λH5 s5=>?_,en4.same s5,H6 L=`aaq,Gr H6 `ayj Bp Bp,PDF X `oC `L4,(`bhB),PD X `oC `L4,PSD X `ayk (Z8 `aaN `L4),`L5 PSsD `ayl,(`bhC),(by let#[B,ds,d,_,r,h,_]:=zQ),(by let#[B,ds,d,hb,r,h,q]:=zQ),(`bA `bhD),(`bA `bhE),`L6 r (o00 _),(by exact`bhF),`bU `Cw us,by rw[`mx] at r;cases r;exact `R,(by intro pins s σ H x xs v us Q I rx rs h),λt' k=>#[`ce,H,I.tok k,#[t',rfl],q],(`bhG),#[o,h1,h2],
λζ=>show `h' `cB X.w H `aA a (ζ) from `bCI,(`bj `bhH),Int->Int->D,∀i j H B,Rp K H B (g' i j) `mp,(by cases dx<;>cases dy<;>simp only[ii] at h<;>try cases h),`gQ (hg i j H B),SqL K H b zs,`ar+zs.length<=`W,(by let#[l,b,xs,zs,rfl,rfl,hH,hB,hz,q]:=h),(by let#[J,r2,p2,z2]:=`iJ hB),(by apply `aaO `Cx),`aym<=`W,λζ ξ=>#[`X _,_,I.lnew (t':=`cv) ζ ξ,rfl,`bC_],`JJ (Y9 h),#[h1,`k h2 `aaP],`n #[a,xs,_,v,rfl,rfl,`ge,hv,`gQ rv],`wr PO (`cw (∃o,`aaQ/\`ax=`aq/\∀H',`be->Q o H')),by rw[Z6] at r;exact r,`gQ (by rw[Z6,`L7]),`cE `vQ=`f,`ku `vQ,(`bhI),λζ ξ χ=>ph0 `bCS ζ ξ χ (ho B δ) `bt `hn hfew `jq hs `tl,#[_,en,e1,`Cy],#[rfl,_,`i_,e2,`aaR],`L8 FnD x,`oX `u_,`co (`t (ds++[d])),`co (`t (ds++es)),ds.getLast?,`co (`t `ayn),`aB (`gk),(`Ym ds).map,`gk×`l,(`L9).bind,λk=>vz0 ks ds k,λk=>`L' (`Cz),J4 gt G n δ',`a! (`ayo/\ys.all `dN=`d) (`L' (ys.any λy=>eqF y x)),`o (isL d=`d) `f `bk,mkF n N G ds=`bk,#[e,Ck0.mpr hn],mkN n N G ds=`bk,`o `L! `ayp `f,`o `aaS `ayq `f,(gl δ).bind,(`CA).bind,HeapKind prog w K,`af (K×`awL),knd.is `aA k a,At knd `aA d xs,∀h',At knd h' d (storedH xs k a v)->`Ce d->Q () (`hA h' (`cv+knd.draws k)),dictSet d `cu v,Obj.isFreed_of_dict,Obj.data_mapDictKeys hd _,List.mem_singleton,Obj.data_mapDict hd _,"__setitem__",slot_dict_setitem,xd0 (p::r) k,by simp[xd0,`aaT,e],`L? vs k,`L? (q::qs) k,by simp[`L?,`aaT,e'],vs.any `YL,(`bhJ),`aa ?_ ih,`L (`aaU),`_ (`aaV),#[h1,h2],r.repl k ry,Paired.snoc,`d1 `aaW u,(`ayr).map `iA,atKey (q::qs) k,by simp[atKey,`aaT,e'],(`ayr).isSome,(`C (`Ma)),(`avJ).is,H a=`ays,λζ=>∀w' s',`LI->`d1 ζ w'->Q w' s',(`bhK),h w' _ `rD J,(upd H a ob),(`av6 (ca0 `b2 e)),(by have hz:`dz<=`W:=`bhL),λh' J hs=>`aaX,lg0 I `Mb hs he (cx0 hl hd (rel.put k rv) J),A1 (A0 fin),`rE `cu `J5,λζ=>td σ H1 λx H2=>∃a o,`ek/\`bCw/\Q (.bl ζ) H2,(`bhM),λζ ξ=>ζ hu I2 g ry λs3 I3=>#[.bl ξ,H2,I3,rfl,q2],(.Dict [] [] pos),`my->`iB,`af (`B×`B),iq0 trs σ H Q,sx0 kvs more,keys.all `ayt=`d,J9 `cB X.w,(`ayu).all `ayv&&`ayw,`ap `bhN,
`ayu=[`ui,(`l1 f)],#[`Mc,λb q=>?_,hd],(by let#[ob,_,_,h1,h2,_]:=dd),#[ob,h1,h2.2.1],#[x,ns,e,`dw s g],`jK `g8 `so,(by let#[a',h1,hb,_]:=`aaY),#[?_,`aaZ,`ayx],λζ=>`b' (λ(o':`ea) (s:Sl)=>SlR K ζ B o' s∨`bCk) σ δ,`n #[v,e,`dw `oY],`p #[d,rfl,e],(by have h1:=`bhP),(`cl `bhQ),(by rcases h with h|⟨d',rfl,rfl⟩),(by rcases `lQ e2 with⟨rfl,e3,_⟩|⟨J,e3⟩),(`bj `bhR),∃d,`kt=`r',∃d,δ[k]?=`r',(by rcases `AY with⟨rfl,_,_⟩|⟨_,h⟩),`CB j k b d1 d2 q1 q2 h3 h4,(upd H' a o),`wu i d0 a hi hs,(`bA `bhS),(by have:`i':=λz=>by rw[z,h0] at h;cases h),(`fY b u h),(by let#[a',e1,_,ro]:=`z6 (i:=i) (by rw[`XL J])),`G h (ro.plain ob xs),`wu j ds b h h2,`hV K `ae `ab H' (`Al i `aa_) `so,(by have g:Gr H H' B `v0:=λb u n h=>#[λz=>`eA n (V5 h hp),s _ _ h]),∀{j:Nat} {d':D} {b:`e},`kt=`c (.ow d')->`vy=`c (`c `Md)->b≠p,(by let#[a,q1,q2,q3]:=e.at h1),(`bj `bhT),(`bA `bhU),λζ=>`E! #[p,rfl,`uq,ζ] i `bDp,(by exact`bhW),(`oG a z).same s,(by rcases `lQ h3 with⟨_,e3,_⟩|⟨n3,_⟩),`G rfl (live h2 h4),(by rcases `lQ h4 with⟨_,e4,_⟩|⟨n4,_⟩),`G rfl (live h1 h3),`G rfl n4,(by rcases `AY with⟨_,e3,_⟩|⟨n3,_⟩),`wu j ds a h1 h2,(DL.frz δ),λa=>B a/\¬`aa0,`av5 ?_,#[v,e,`dw (`kv `aa1)],(Xc0 (A3 h1)).elim,λζ=>h B' `IH `r s σ H Q I #[_,J,e1,λv H' s' r=>k v H' s' ζ],(`CC hp),#[_,rfl,h],`i! `cm `cm,List.dropLast_eq_take,λζ ξ=>∀v H',EnvV ζ `ae `ab H' σ r.2 ξ v->`v_,`h0 PE e (`Me tX gx),∀H₀ B₀ d δ,PG X tg (tTG X.K `ae `ab ft d δ),PTG X tg ft,λζ ξ=>`akM hi J #[_,j8,(ζ `aa9 ξ).mono `oY],(`bj `bhX),J4 gt G m δ'=`dR,(`bj `bhY),`rW [`_E],`lF (B4 h2),`lF (B4 h1),#[_,U,rfl],by apply `CD;unfold deq;exact mr0 ds n h,min `bN `g9,`bN==`g9,List.range_succ_eq_map,List.all_map,λζ=>V6 X s H B `i6 ζ `cu `cu,∀{m:Nat} {d e:D} {x:V} {u:`B},`CE->V6 X s H B' m e x u->d=e,`u0 es m=`d,λj h1 h2=>?_,Zh0 I ih l l' r r' v,lean e m=`d,Rp X.K H B' e y,us.toArray[j],ws.toArray[j],
λζ ξ=>V6.inj I (ζ k ds a xs its l q r v p) (ξ k' es a ys its' l' q' r' v' p'),.of_refs hab ?_,(`bhZ),`vT A s _ _ `m,SeqAt.RcAt.lists,Cw0 (A:=A) p p' `ayy hu,(by rw[`bh_,`ayz]),`ZN `ZO A/\`Ld A s u w (!deq d e),(by have J:=`bh0),`ZO A s _ _ `m/\`ayA,`atV+64<`nJ,(by let#[B,B',dx,dy,hx,hy,lx,ly,q]:=h),Tg0 I 50 50 dx dy x y v u X.A `j lx ly hx hy rx ry,λζ=>#[B,B,dx,dy,rx,ry,hl.1,hl.2,ζ],(by let#[b,ys,rfl,q2,r2]:=ry),‹`l ›,(`bh1),(`bh2),PDO X lo gl,PDO X hi gh,λζ ξ=>#[l,`i_,`bCT,λH2 s2=>#[u,ζ,`bCU,λH3 s3=>ξ]],by rw[`cd,pu0,pu0];exact hw,(Xt0 r l u),#[_,rfl,`CF],`ayB oa0,(`s `Jo),List.getElem?_range,(`nL).free,(`bh5),(by let#[q,xs,rfl,hq,rr]:=r1),`ayC rr.mono,`L8 FnN x,(ds.zip es).map,λp=>`aa2,`kw->`kw->Prop,Nat->`aa3,`ayD `h1,λζ=>∀s' acc' c',`bCJ->`bCK->`aSq->R ζ s',(by unfold Builtin.List.listExtendWith),`kx `YO,(by unfold Builtin.List.listLengthHint),λζ=>specialOf (`gJ ζ) `bDj>>=_,`c `awQ,`aa5 `bo `KC `al,(`bh6),`ri (`aa6 e),λζ=>W.frame 0 s _ `cv st `bF ζ,(`f_ s `ayG),ItemsOf P acc' n,callType_codes,(by simp only[`rZ,`KD,`KE] at hb),`q9 `fX=`ayH,`cE `fX=`f,`cE `ov=`f,`ku `fX,`ku `ov,`j8 [`_F] (`ayI::`q4),`qF `ayJ,(`bh7),P6 ?_ e1 h1,λv s2 hv=>Y2 hv,xd0 `AV q,λd' e'=>?_,(`aa7).zip ys,`H (Vb0 b) Ag,(`au2 r1),(by let#[v,hv,rv]:=(w60 rr).1 d h),k v H2 `mz rv,(by cases y<;>simp only[ve0] at h<;>try cases h),(by simp only[`ky,`q,asB,`wv] at h),k H2 `mz,`hT `aa8 `O v,`nS [v] `ayK,`nS [v,ov] `LK,(`cl `bh8),(by let#[ys,hy,Z,U,Y]:=gx0 (q:=q) (v:=v) hl),(`bA `bh9),nh0 (`ww s1) `aa9,`sp `aa9 (`ww s1),(`bh'),#[ys,j8,Z,rr.mono `oY],(`bj `bh!),(A3 h).symm,loadIfAlive,`ayL i1 l1 (k1+1),`ayL i2 l2 (k2+1),`Cp=`uB,(`bh?),(by show `bia),(`cl `bib),(by show `bic),(`cl `bid),A0 (r8 hTI rfl ?_),`c! (`ayM>>=_) _,(by simp only[List.forIn_toArray,`aa',List.forIn_nil]),`c! (`ayN `YP>>=_) _,`c! (`ayN `YQ>>=_) _,(`bie),(`bif),h₄.objs.size,#[_,rfl,?_],λo e=>`rd,`Mf=`f∨ys[k2]?=`f,"StopIteration",wpAny_nextOf_list_end,Q (`c `i?) `jZ,wpAny_attempt,`Cn "__next__",
F.entry_zip_next,(`big),Q `f `jZ,λζ=>∀(j:Nat) (a:`e),`bCh->∃x y,`aah=`du/\`bCi/\`AZ ζ a x y,ZG xs ys S h as,g.pairs j a hj,`CG h i,`ayO S,hk _ _ (B6 L.z) hz,`CG `aA i,(`bih),(by rcases st.own with⟨rfl,hz,p,q,hp⟩|⟨a,f,oa,hz,ha,n1,n2,n3,n4⟩),λc o c1 _ c3 c4 e=>hk c o c1 c3 c4 e,`aa!∨ys[i]?=`f,`c `bii,acc.toList=`v2,"list.extend.loop",λζ=>∀(h h':`D),`bDc->∀b o,ζ->`ON,(by intro i h tk c acc as hk hi a3 J hS O U hG),Nat.le_total,W1 F.entry_extend_loop ?_,(by show `bik),(J b o h1 e),λj a hj=>?_,(`aa? `aba),acc.push `aba,(as++[`dy]),#[?_,?_,?_],∀S,S≠z->S≠i1->S≠i2->`CG `aA 0,`ayO `Y,∃f0,IsZip `aA z TI TO f0,Kw0 xs ys lo s h' as,`Y<`Cp,F.plain_list_iadd,(`f_ s `abb),(`oZ (`aa? `mA)),(`hI `ft `ayP),F.plain_tuple_new,Builtin.Tuple.tupleExact,λζ=>by let#[_,e,_]:=ζ;exact `fi,λo e=>hk _ o e,upd `CH p.1 p.2 b,λq hq=>h q (A5 _ hq),`k `ayQ q,bo0 X (`bM T1) (`bM T2) r,`cE x1=`f,`cE x2=`f,`sq x1 T1,`sq x2 T2,`abc x1,`vo x1,`abc x2,`vo x2,`j8 [`_I] (`ayR::`q4),`qF (`lG pos2 (`uj)),(`bil),(`abd).map `abe,ps[j]?=`c p,ye0 as (xs.zip ys),(`abf).symm,`c (`ayd),(by let#[q1,us,rfl,s1,t1]:=r1),(`Mg).map `abe,∀b o,b∉fp->`wx,(`bim),upd H `Y (`Mh) b=`f,(`hA (`hF `ayS) t'),(by let#[us,rv,p1,z1]:=`vP),(by simp only[`rZ,`KD,`KE,not_or] at hc),wpAny_pyIter_enum,Gl X `o_,`cE `o_=`f,(`bin),(`bio),∀a,B a->B' a∨∀ys,H a≠`abg,`CI d7,(`bip),∃a,d=`ja,Op2 X.K r' f',`ayT=`m,(`aai - 1),λζ ξ=>(`bB ζ ξ).foldl (·++·) ⟨⟩,#[u,q,`dw `Mi],.of rfl no nt,`ZS h,(by let#[oe,vs,h1,h2,h3,h4,h5,h6,v,h7,h8]:=l),g.push `ayU,(h _ ?_ ?_),(`biq),`g6 hsz,`r_ ok [] `aA h',`abh h'->`Mj,L4 _ _ (B4 n),oth b o z λw=>n (w▸okT),#[_,`ayV],`ZS h'->`Mj,(`CJ T (`abi (`Mk 3 `mA))).get?,(`bir),∀b,ok b->ok' b,(by let#[_,_,_,_,_,_,_,q,_]:=z),C7 `CK q,∀h',`Cg->gv0 X `r H h' C od e->`Mj,I.afterNote,FpW X `r H a,∃o,`YS,(by let#[z1,z2,z3,z4,z5,z6]:=fp),λb u q=>`k (m7 (V5 q z1)) q,(`bA `bis),#[more,oth b _ q],m7 (z5 x c e),(by exact`bit),(by exact`biu),
(by let#[ea,C,od,H',rfl,os,bare,un,hok,lie,wish]:=hq),λζ ξ=>wish C rfl `r s' ea (ζ (ch:=[]) os un hok bare λb z=>by cases z) (lie.mono λb z=>ξ z.2 z.1),`Ml<=1000,joinParts_cons,W.specialIn,λζ=>W.findCls ζ `SQ `FS `e0=`bDd,`hx (`o0) `O,`hx as `O,(`biv),`nS [ov] (`It ov `e0 pl),∃tl,`ayX,cl _ `Ck,(`biw),`a0 H' s,∀b,`ayY,λb o e n hx=>no b `Mm,(`auO b xs e),no _ `g',λx c e=>no _ `abj,#[e,no _ n,r],(`c2 : Str),`H (`abk) Aa,`gg (`bx `c_ pa) `c2 pa',callWith,σ[0]?=`c (`c `g!),σ[1]?=`ayZ,(∀dx,`Mn->`Mo->`gc σ `ay_)->`ay0,(R9 hN0 hv0),Heap.MadeExcOf h h' e `bo `aR,`ay1 `Lz=`d,fun δ=>(G δ).map .ok,fun δ=>`ay2,`c (.xd [(`c2,`n0)]),∀σ H C od,`CL->`Mp->`ZW X.K n->pj0 X σ H C od,(`bix),`gJ r::XC.bmV,`z0 K fd `kz [],`kj->XdS H H' od n->`ay3,`sr k ps (spX K f),(`biy),λζ ξ=>#[ea,C,od',H',rfl,I'.os,I'.bare,I'.base,I'.hok,ζ `bCx,ξ],`qO `aac y `aM,(`XV pn W).Ok,(`ay4 o.hd o.frames),`sc `CM [],`sc (`K2 A) `r,e.fr j ds b h1 h2,(by let#[dx,B,h1,h2,h3,b1,b2,en,nb]:=x),#[[`bZ,`ay5],[]],handedIn v=`d,`ay6==`awV `ay7,∃tl,`CN `awS,`iE (.nx δn),u90 f G ds δn,`bW f,.of_isNs (`avF X hok),`_Z K `bo `c2,L2.ErrC K C r `c2,#[_,a.cl],`abl K mg root r cs rs,`biz=`d,(by let#[C,a,ri,ec,eg,rc]:=XC.Si0 T hc ib),`aF h,x.cps.toList,ys[m]?=`eP,#[tk,rfl],(`biA),`CO [lo:hi] b f,eqU `ss (`u y tk),F.slot_tuple_index,ys.findIdx?,λy=>`ap (y=z),a00 X.K `cE x ys,`bV `Mq `O,(`biB),λζ=>`p #[o,its,n,hk,hc,J,ζ,hv],of_decide_eq_true,swapsWithSole,`ar*`mc<=`abm,(`biC),`biD k,F.slot_int_rmul,Nat.mul_comm,(`Ba `mz),pb0 (`Mr s1) x1,`CP p `axZ,`jK H' `so,`n #[v,e,`dw `ay8],(`Ms).bind,k _ H2 `mz `Kb,`biE hl,(`biF),∀b C dx fs,(b,`ay9)∈sub->`zY dx=`f,∀C dx fs,p.2=`lC->p.1=a,SubO.no_own,SubO.no_frz,o.there (x b _ (J l)),`KG H a sub b,`Mt H a sub,(`iL H sub),∀so:`dM,u≠`Mu,(by have nl:∀so,`kA≠`z7:=λso l=>n so (`abn (c.at' _ `abo))),nl so (z▸l),`G l (nl so),λso z=>so.no_tup xs `abp,λso z=>so.no_frz o u `abp,λso z=>so.no_tbl ps `abp,(Ends.closing a D),#[rfl,h],(`biG),
PSsB X as Ga,PSsB X bs Gb,(`biH),(spB K j f),(ds.take j).map,(`abq j).map,`G h (J _ _),List.getElem?_cons_succ,`Xz=`XA,λζ=>`p (by simp only[ζ,`hZ]),(`biI),(by simpa only [z,`g?] using `x),c1 x `abr,(by rw[hv,`Z,`T,`dT,`kB,hr.length]),hf b ds r b' h,(`bA `biJ),i00 (N:=N) hb hp hj rs ro,(`bA `biK),(`bj `biL),(`bA `biM),(by let#[B',c1,c2,J]:=en'.ex),(`bj `biN),λζ=>by classical exact if h:`nj/\ζ then `bCn else none,∃q:D×D,∀p,EndB G `md j p q.1 q.2,#[hh.1,`x],(R1 (R1 e10).2).1,(by rcases h with⟨δ1,e1,e2⟩|⟨rn,δ1,e1,e2⟩<;>rcases h' with⟨δ2,e3,e4⟩|⟨J,δ2,e3,e4⟩<;>rw[e1] at e3),(w8 hh.2 0).one (h 0),`oX (`_M),(.ow (`Be)),(by exact`biO),`abs `ay' (`co (b.2 r.2)),(`biP),λζ ξ=>#[B,ds,vs,a,bm.1,q.2,q.1,`ym,hB,rfl,ζ,r1,`a95,e3,ξ],(`bj `biQ),(`n (xi0 ks k)),λζ=>∃a sub,`bC3/\Q ζ (`iL H' sub),λu s' #[v,H',I',r,a,sub,o,k]=>`ay!,λv H'=>∃a sub,`iG H' a sub/\Q v (`gI H' a sub),[`u "@",`lI],RpN K H' B as d v,(`bL).lookup c=`z7,(c==x)=`m,`o1 `Mv,List.getElem_zip,`iL H `ew b,`G z hb,by rw[`ay?,← e],λζ=>q70 h.hd h.nd `jz (λk c so e1 e2=>ζ) h.ins,h.opAt e1 e2,(`biR),∀C dx fs,so'=`lC->k=0,(`biS),upd H a (`og `abt),(`abu k n'),`dw (`z2 hB),DL.setN i k n' δ,(by rcases r with⟨k',c,e1,e2,e3⟩|⟨e1,_⟩),(`JU en.atN e3),(by let#[w,w1,w2]:=rx.atI h),λζ=>#[c,xs,z,w,rfl,rfl,ζ,w1,ad,`bL,c1,?_],k w H2 O w2,(`bA `biT),`abv r1 hn,nrf dv=`d,(`t (es++[dv])),`wy w.all hn,(`biU),`Bs `Mw,λζ ξ χ=>J5 (ph0 Q1 ζ ξ χ `amz `bCo `hn hfew `jq hs `tl) `r s σ H Q I `a??,#[a,`bL,`mB,`abw,?_],#[a,`bL,c1,?_],O.w.opAt f1 f2,`bV `abx `O,λζ=>λx H1=>∃a dx fs,`ek/\`Ez/\`Ew/\∃a' sub,`bB5/\sp (x::([]++dvs)) (`gI H1 a' sub) Q ζ,λζ=>(by let#[x,H1,I1,rx,a,dx,fs,ex,ea,l,a',sub,cl,q]:=ζ),λζ=>Ab0 (first:=`eW) `Ck hm.kp ζ,ub0 (`aaB) ds f,(f==n)=`m,`aF e1,λζ=>`bDk λl=>`bDl λp=>`bDm ζ,(V10 p.1).bind,rh0 (m:=l1) w3,λζ=>`F3 λdv=>`gA λns=>`amr λp=>`ams ζ,λζ=>setN i 0 (`C [`baa,`t `BC,`t (nl0 `BC `Z0 f ζ)]) δ,(`cl `biW),
(by let#[C,U,nm,xs,rfl,rfl,hl,hC,a1,rx]:=`Mx),(`bA `biX),λζ=>`C [`amW,`TO,`t (nl0 `X6 ds f ζ)],(`Jn nm ys),λζ=>#[C,ζ,nm,ys,rfl,rfl,y2,hC,a1,y3],(`t es.dropLast),(by rcases hb with hb|⟨ob,hb⟩),`k (xu0 U) hb,(`biY),λζ=>tz0 (J5 ζ) hsw `r s σ H De I `a??,(RpN X.K H1 B as),λr=>`o (`dN r=`d) `dR `f,`t ls::ds,λ_ z=>`eA,`n #[`BU,`avw],`am k ps (spB K 0 f),`kj/\`st/\Meth K C m fa/\`AX/\m∉F,`aza FnT,`bV `aby `O,`My w.hd a6,(`bZ::`Mz),`bV `abz `O,(`IM `biZ `q),λζ=>by rw[ζ] at U;cases U;rfl,(`g_ i .un),(by rcases `JN with⟨_,z,_⟩|⟨n1,h1⟩),`rb=`abA,`hx [`_K] `O,(`CQ `azb x1 tp),(`bi_),(by have hH:`azc:=at'.w.at'),upd H1 L `n2,`c (`C `abB),(by have aL:a≠L:=`bi0),(`s `lA),`CR `Z `CS,(`lA).Nodup,(`bA `bi1),La (z▸hx),`o2[0]?=`jU,`k (`fw (`c7 `wz).1) `wz,λζ ξ=>∀(k:Nat) c so,`o2[k]?=`fh->ζ[k]?=`z7->`bCm∨(`amF/\c=L/\ξ),(by rw[`bi2] at q2),(`c7 q1).1,by simp only[`T,`n1] at hl1;lia,(`bj `bi3),`azd k C dx fs e,c1.w.opAt q1 q2,`i'->Hc b=`oi,∀b,b∉`lA->Hc b=H3 b,xu0 `bi4,(`bi5).1,(`cl `bi6),`azd k C dx fs q2,(a,`ay9)∈`bL,C8 (i:=0) ?_,List.getElem?_zip_eq_some,`co (`wA (`MA)),#[x,_,rfl,_,_,hw],`lF (B4 c3),`k `CS (`rH `abC),λζ=>`n #[`f',L,wg0 _,by rw[ζ,`yE,`kG];rfl,rfl],`hx `o4 `O,(`bi7),(λ_ _ _ z=>nomatch z),sy0 i ga `abD `aze,sy0 i gb `abD δ2,∀b xs,`wt->`YA->¬B' b/\`auW,(`bi8),(`JU `JV q2),(`au7 q1),λp H2 hp s2 ro=>?_,Env.blank (by rw[← env.len]),`su (`Ba sm) (`jO sm) ?_,(`bi9),λ_=>`JI,`q9 `er=`c `MB,`iL H1 `ew,H3 b=`iZ,`gI H3 a `ew b=`iZ,(by rcases `JN with⟨q1,_,_⟩|⟨_,z⟩),`G z (no _ _),`fF[n+k]?,a8 K H B a ro,But a H1 H2,m7 (V5 e hL),(`bi'),PX X `abE `abF,`azf X.K,(`bi!),(`bi?),`av2 `abE,PSD X (`h2 `o4 `abE spos) (jf0 j `abF),k v H' `abG (`MC (`kv c1)),ev.same.trans,`Bc ((2:Nat)<=_),λd=>(d,r.2),putK acc p.1 p.2,List.any_eq_true,`dl `mx d7,PDP X pos keys vals gP,`fY `mz,(`MD).map,(`bja),(`jX).map,`kC `wo (`o `abH (Ga r.2) (Gb r.2)),`dN da=`d,λζ=>ζ `al_ `aBN wh `r s σ H Q I `aBO,(`cl `bjb),`gI H a sub b,H dx≠`f,
`iG `ME a `abI,Hc=`bjc,`azg O,`co (`wA `abJ),c50 f `BC=`d/\`abK,λζ ξ=>.nx (setN i 0 (`C [`baa,`bCF,`t (`Z0++[ζ])]) ξ),`azh=(`MF).zip `CT,λζ=>`C [`amW,`bDw,`t (ds++ζ)],λζ=>.ins C U (`Jn (`MF) (xs++[ζ])),`aF `aU,`CR `Z hl,`C [`mu,`uC,`uC],`ku c,`vo c,`i1 `azi `MG `azj,PSD X (`h2 `o4 `azi spos) (k00 j c f),(`ba1),λb=>B b∨b=x,Vo0 K C F=`d,(`azk).map,List.filterMap_nil,`t `abL,`H (`azl `azm) Am,(`bjd),(`f_ s4 (s4.heap.push (`l8 (`bM "slice") (`lN ⟨vl,vu,vc⟩)))),`X s4.heap.objs.size,(`YH),(`bje),(`bjf),mkF 2 xl0 zf0,"abcdefghijklmnopqrstuvwxyz0123456789",(`bjg),(`bjh),(`bji),(`bjj),(`bjk),(`bjl),λζ=>[`awC, `awD, ζ, `bCs, "_law_j", `bCt, `bCu, `ra, `bCv],"_law_signs_here",(ob `ak),(`bjm),(`MH `MI),(`bjn),(`bjo),(`bjp),[`ls, `abM, "_law_cells"],(`bjq),[`ls, `gT],(`bjr),(`bjs),(`bjt),(`bju),(`bjv),(`bjw),(`bjx),(`bjy),[`ls, `gT, `Jj, `mh, `azn, `azo, "_law_pairs"],(`bjz),λζ ξ=>yi0 (V4 (o2 `cG (o2 ζ ξ o8) m8)) `bC9,(gc (`g 10)),(`bjB),(`bjC),[`n3, `awE, `azp, `ls],(`bjD),mkF 2 to0 ow0,(`bjE),(`bjF),(`bjG),mkF 2 th0 t00,(`bjH),(`bjI),(`bjJ),mkN 2 t50 tg0,(`bjK),(`bjL),(`bjM),(`bjN),(`bjO),[`i7, `IJ, `jP, `I', `zP],mkN 4 t80 uy0,(`bjP),(`bjQ),(`bjR),[`i7, "out", `jP, `I', `uv, `IJ],mkN 1 if0 ju0,(`bjS),(o2 `ak `iX V9),(`bjT),(`bjU),(`bjV),(Z2 `abN),(`bjW),(`bjX),(`bjY),(`bjZ),(`bj_),(`bj0),(`bj1),(`bj2),vw0 (ob `azq) (ob `azr),(`bj3),(X6 `aT),(`bj4),(`bj5),(`bj6),(`bj7),(qn0 0 `wB `Lm),[`c_, `qC, `o5],(`fu `hO),(`fu `cG),(`bj8),(`bj9),(o2 `ak `hO j4),(`o6 `MJ),(`bj'),(`bj!),[`u p.1,p.2],isWord w=`d,`C [`lD,`bD],(`s `Ag)=`bK,by show l.toArray.size=_;simp,`bj?=l,`g6 `a2,#[`F,λc hc=>`bl (h3 c hc)],p++sep++qx0 sep (q::r),`af Rm.Want,λζ ξ=>{ S with begun:=ζ,wait:=ξ,digits:=0 },`bB n `cM,`bB n `b_,[`lD,`lI],(n/4%4).toNat,n%4=2/\n/4<`rv,λζ=>¬(`a8s∨ζ*128<=4*(4*20)+3),(`CU n),(`f9 p.2).map,(`f9 (p.2.drop 1)).map,`abO (S.un.headD 0) `sv,λζ=>{ ζ with length:=0,spelled:=[] },o6 G1 G2 δ,ifB g Ga Gb δ,by unfold ifB;rw[h];rfl,V9 `fq `AH=`ayq,
λζ=>by simp only[V9];rw[`L ζ],`c (`ol),cs.map `b3,∃z,0<=z/\R4 `iR []=`c (`hC,`q7),λζ=>∀s0:Sl,o2 `aT ζ ixD `Uc=`Nz,[.un,`va,`I?],λζ=>J ζ (λp δ hδ=>?_) `bDq,`g (3*k*k),(o5 rfl rfl).trans,λζ=>by simp only[ζ,ii];rw[`ch],(by show `bka),`CV++`CW=`a2 `MK,`jb+`ML<=`W,(`bkb),`ax=`c `sw,ob g δ=`oD,by unfold ob;rw[h];rfl,λζ=>∀(Ga G:GS) (r:`zW),G `an3=r->v9 (ifD ζ Ga t7) G `an3=r,(`bkc),K4 i gA f δ,(`KI).map,(`azs).map,marks (`lD) `c2,`azt hk,Y4 `bkd,λζ ξ=>∀(p:`e) (j:Int),ob (o2 `DB `adH ζ) `t1=ξ,λp j=>`r0,(λi e=>by cases e),λζ ξ=>∀(p:`e) (Ga G:GSB) (r:`tO),G ζ=r->ξ=r,λζ ξ=>Xp0 cs hc sm m hm `bn ζ `d6 `j ξ,et0 rfl rfl e,(by rw[`bke,`q,c]),λζ ξ χ=>((zt0 `dD ζ 1 `Uu ds ξ).map λq=>(χ::q.1,q.2))=_,`a2 (qx0 sep `CX),`t (`azu λp=>`fm (`a2 p)),qx0 [] (`c6 `MM),S.cps.toList,`aF hS,(by have a1:=`bkf),(by have a2:=`bkg),(`bkh),`g (`AI),p=13∨p=53,`abP%`sx,`azv - `abP,(`mD hd),(`mD h2),`G e3 z,cg `azw,`Lo a++`q?,`azx++`q?,names.length<=100,`c (`sy),Wp0 w _ `j `j `j,Gw.ly0 _ _ (`abQ),λζ ξ=>show `B1=ζ by unfold nmF;rw[`_ q0,ξ q1],o2 `cG `azy m8 `CY,(by show `bki),λζ=>lr0 (d:=`Bg) (l:=`f) (h:=`c ζ) rfl rfl (aa0 e),(`s `B1),hm c (x4 q),j80 N k c q,C7 `CK e,`u (`a2 []),`f6 (w++[cg q]),Gw.cc0 _ _ `v,[`iC,`cJ,`MN,`MO,s4,`wC,`wD,.un,.un],(`bkj),λζ=>`awt (`awu (Av0 ?_ (Aw0 (n:=ζ)))),(z/4%4).toNat,λp k cs m pool=>Y4 ?_,o2 `au! `au? ixD (`me s0 `MP)=`c (`g r),[z/4%5,z/4%5,z/4%13].map,.ow `bkk,`abR=`c (vs,`CZ),(`bkl),`c (r,δ'),PoolB np nm,`Z9 i "",`Z9 j "",(`MQ)%`om,(`bkm),(`bP `dz).map λj=>(`azz,`C_),∃(p:Pt) (k':Int),k<=k'/\k'<=k+14/\`azA/\M9 `iR []=`c (p.d,`CZ),(`bkn),E3 (z/156) (`a4 (`KN≠0)),(`bko),(`bkp),(`bkq),`azB (`k `kB `fg),`azC `j,List.take_nil,Gd p (`aI:Int) `bn,`C (`MR),ns.drop (s+1),`MS=`c (`g f),`t [`g 13,`g 53],(by rw[ix δ h,q]),if sm=`d then 1+f/64%60 else 1+f%8,G7 0 `l',(bk3 cs sm),`c (`ad (s+1)),(`MT (bk4 cs sm `l')),(`abO k `sv).1,`c (`azD),`c (O5 1),`c (O5 2),`c (`abS),`c (`MU),`c (`wE),`g `azE,(`s `C0),
List.eq_nil_of_length_eq_zero,(`_a).set k `azF,`bX (unG O2 `cG (`sz::δ)=`c (`MV)),`abT `oK,(V0 `C1),`bz `wF,(`dl c0 hu),`BJ k `abU,(gc (`azG)),`cc (w=v),(by show `bkr),{ S with un:=u },`t (`oK).dropLast,w.count `a8,[`bks],(by let#[c,b,u,nm,w,dg,l,sp]:=S),`G rfl hv,`bkt=_,λζ=>`dU [`u (`qY (`bCW ζ `sv).1),_]=_,`abV::`abW::((`rQ `azH)++[`uC]),List.map_congr_left,λb u δ=>by rw[J,hL];kernel_rfl,`i! `S `o7,`i! `S `mE,wd `bku,(`bv).toNat,Nat.mul_le_mul,`t (wd (`i0)),λζ=>∀(a b:Str),ob `bCG [.sh (`ja),ζ]=`bCH,λa b=>`r0,[.sh (`AG),`cJ],`aL (`t (wd `Z4)) `eQ rfl,`abX `Z4,`uJ 200000,`t ((`vU)++[`Aq]),(await S ws),wa0 `abY=`d,`t ((`vU)++`abY),List.reverse_append,List.map_reverse,(`bkw),`hX `sA,by split at h1<;>lia,`bz `sA,(`bkx),`aL `MX `Yo `MY,`bky=_,[`bz `MZ,`rm,`cJ,.un],ue0 S (`z8),(`on).wait.length,(`on).wait,`sB [`qN],n6 (δ':=`kD) `abZ `e2,`bkz=_,link (`azJ),`bkA=`bkB,`dm `kD `abZ,`h3 `II `MX `MY,`bkC=_,(`cl `bkD),`bkE=_,orG ga gb δ,by unfold orG;rw[b7 h];rfl,`ap (`hv∨`azK),(`bkF),`hv∨(`C2)*128<=323,(by obtain⟨n,hn⟩:∃n,n=`C2:=`ah),(by rw[`bkG,hn]),`M_ `ab_ `h4,`c (`m,`h4),ob `Kg `h4,wb0 `azL `h4,G6 `lR (i30 S w ws hw n),(by show `bkH),λζ ξ=>n6 (Y4 (ζ p S _ `aT ξ rfl)) `yZ,`ab0=`g4,Q8 `auU `hP,(`cl `bkI),`bu=`cM::ws,.sh (`u (Z5 `cM)),(by rw[`bkJ,sl0]),`H (`ab1) An,`Y0 `azM,#[s2,rfl],SB `bkK,λζ=>(match ζ with|`eZ=>`bad|`aij=>`bad|`aik=>`eZ|r=>r)=_,λz=>h `rJ,(`c6 `auR),O3 `bf `r1,[`bz (`i3),`eO,`z9],`c9 [`lr,`azN],us0 b _ _ be0 `v,List.drop_zero,`g (`ad (36 ^ `rR)),`g `azO,(`s `X_),List.range_eq_range',Q2 λj _=>?_,λd=>match d with|`dL=>`ap (s.cps.toList.length=L)&&`Yt `f7|_=>`m,(`zS:Int),(`s `vE),`Bf `XZ,names.filter,(`wG:Int),`ab2->(∀a∈l,a∈m)->`bK<=`dP,(`ab3).map (c::·),A.length ^ k,[`nP,`Ar],left `a9 L [],(`ad (2*L+1)),`bkL=_,(by show `bkM),(by rw[`bkN]),`bkO=_,lq0 p S _ _ L [] `C3 `j hl `kp `j,(`C4 `azP),`t ((`C0)++[`wE]),`bkP=`bkQ,`aL `wE `IX `azQ,(by rw[`bkR,`q,`dS]),lq0 p S _ _ `ds `lJ (`kE `ab4 sp) hn hl `M0 `j,(`rl:Int),
(`s (`a2 `lw)),λζ=>ie0 S b hb hn hl `j hL hleft p _ _ ζ,`ab5=`ds,[`bz (`wH),`eO,`z9],(`IY S w),(`azR).zip `azS,(`awq hi),(`bkS),held.length,∃c:Nat,d=m9 [c],`cN=`Aw,[.sh (`AG),`_g],`c `azT,`nH `r2,R5 (zq0 rfl),(`bkT),`f9 (held.drop 1),held.headD `y,Fits q.1 q.2,wa0 q.2=`d,u30 `B3 (`C5)=`c (`_h),`azU=`c (`t q.2),`C5=`C [`avz,`ab6],Z1 (ds:=`Zh) `C3,`hX (`o8),[`azV,`eO,`Xi],(by rw[`bkU]),(by show `bkV),`M_ `azW `mF,`bX ((`u? : Str)=Z5 `fn),Q8 `azX `mF,(by rw[`bkW,`q,`bkX,`bkY,`q]),(R0 q).any `azY,`bkZ=_,(by show `bk_),λζ=>ζ S ok w ws hw b hb nm hnm hin,`o (r=0) [] (`ha::dgf f `kF),(`s (bs n))<=2601,P8 (Nat.div_le_self _ _) h,[a,`ab7,`azZ],U0 [`eQ]=`c (`cQ (bs n)),(`ad (n/128)),(2:Nat) ^ 2502,v90 [`hC]=`c (`az_),`bk0=_,(`ad `B4),λζ=>by unfold fold;rw[ζ];lia,P0 `M1=`c (`az0),`bK+e.length<=`W,Z3 (wy0 i g) δ,(`bk1),P8 h `cZ,oA `C6 T3 δ,`g `az1,(`aW h rfl),(by show `bk2),`o9 `ga,z60 `C7=`c (`az2),zk0 `C7=`c (`az3),.sh (Pt.row vs).d,`M2=2*`aI,`wI (`ab8 j),[a,`hR pre,s],J3 `C7=`o' `e_,[`M3,.un,.un],[`M3,`wD,.un],(`bk3),[`C8,.un,.un],p.vals.length<=12,d.1.length<=20/\Vb d.2,(`bk4),(by have hp:=`bk5),λζ=>vz0 ks (nd (`N? ζ `iK)) k,(`o9 `iK),λ(k:Nat)=>(`ox `d5:J6),λs=>`ab9,(`ox `cC:J6),List.mem_map,(`ap (`lX)),y70 `uW `M4,`az4 `az5,cd0 `az6,`C9 `az7,`g `az8,vz0 `uW (nd (`bP `C')) `M4,au0 `az5,`g `az9,[`dL,`vi],Bw.Nb0 _ _ `j,[`iD,.sh X],`g (`ad `aw5),.sh `Jz,(`ab' - 1 - `az9),[`nQ,d,`j6,`vi],(`bk6),(2:Nat) ^ 300,(`bk7),`c `az7,(`bk8),`o `fB (bs `az') `az!,(by generalize `lB=p at w1 w2 hq ⊢),`cH `Z,`aL `nQ `gN rfl,`c9 `C7,`oM++pk ps f (`wJ) (nT T d) (`C!),(`v5 o s),`o9 `C',(`bk9),(`bk'),`ab!++[d],(by rcases hd with⟨x,rfl,hs⟩|rfl|⟨x,rfl,hx⟩|⟨j,rfl,hj⟩),(`cl `bk!),(`cl `bk?),(by have e1:nB B `q2=`az?:=by unfold nB;apply `sC),(by have e2:`bla:=`blb),`e3 `aAa rfl,`e3 `aAb rfl,∀s:Str,`o!->P `fj,(`blc),λs h=>hn s (D6 _ h),(by obtain⟨g,rfl⟩:∃g,f=g+1:=#[f - 1,`F]),#[`F,B,T,s,?_],#[`aAc,`ab?,hn,J,O],(`nW).Nodup,`aAd h,(`s `nW),`nH λp=>(p.1,f p.2),
nB B `j4,L.map λk=>rel `mG `aAe,(by let#[c,b,u,nm,w',dg,l,sp]:=S),`aAf=`d,(tr d&&`d)=`d,(tr a&&`aAf)=`d,#[`gO,?_],(`bld),Bw.Wx0 r h0,(`ble),(`blf),λζ ξ=>(gu0 (S:=ζ) w1 ξ).trans (by rw[J]),`g (w00 (`gl/4)),λζ ξ=>`gl%4=2/\`bC4/\0<=`gl/\ζ=`bC5∨`gl=0/\ξ,`blg=0,List.count_eq_zero,`aF hw,h40 _ `j,λζ=>ws0 S _ w ws hw hv _ _ (`p #[h0,ζ]),(`i! vg0 `C?),nm∉`a9,(`aca sp c),(`blh),(`bli),(`blj),(`k J O),(`blk),(`IY S1 `aAg),`A8+`bK<=900,`c6 `acb,λa=>`a7,by rw[w1];rw[J] at hl;simp at hl ⊢;lia,(`d' (xk0 S k `vX ws) c),`acc∨`M5,[`lH,`d7],`u (`qY `M6),N%4=2/\`acd,`M7 w `gK,(`cl `bll),Y0 `bf `r1,(by show `blm),`bln=_,`aAh=`kc,l.all `dN=`d,`c (`d,`mF),`g (`ad (b/2)),`o?∨`aAi,(`ly::ds),#[[],`a7],`ly∈its `aAe,λζ=>#[λj hj=>ih.1 j (`bC6 ζ),ih.2],al0 (hd _ A4),`aF `mH,λζ=>`Vo++pk ps ζ (`a6i) T `bDe=_,(n1+(n2+f)),(`bj `blp),(by have J:∀d∈ds,`mf:=`aAj),(by rcases hd d A4 with⟨s,rfl,_⟩|rfl|⟨z,rfl,_⟩|⟨j,rfl,hj⟩),(`aum `M9),#[B',T',_,`u h],#[B',T',_,.val `c0 h],(by exact`blq),#[B',T',_,.old hj' h],`bP `aI,Pk ps [0] [] (`M') L T b1,`M!=`aAk++b1,`iT=`Da,#[`aF a,b],`f9 (`iT),(`ga,`B8),gd0 (a3 y hy) π,J.map `aAl,`bB `dz `vW,(by have hl:`blr:=`bls),λζ ξ=>#[`fn,`bB?,?_,`bCa,λs es=>`p #[rfl,fun π=>#[#[ζ,ξ,a1 π,a2 π,?_],?_]]],`iM (`aAn)=`d,`wK ∉`aAn,(`bA `blt),(by rw[a,`Z,y20,hl,← `aAo,o60,fb0]),`G es (Y d (hv d ?_) s),`C `blu,`C `blv,(by rw[← `aAp,qw0,Km.ff0,`cS,`cS,`cS]),w.cps.toList,by apply `Db,T.map `aAq,`hE<=4000,l[k]?=`jU,`ko=`mI,S1.length=0,`M?=`aK,λq=>`ace,(N9.mp h).imp,`Na `fj,λζ=>by rcases ζ with rfl|⟨rfl,_⟩<;>decide,#[tv0 hu _,rfl,rfl],λζ ξ=>#[_,r,I.aft A hq hl hw ζ `nx `Hh `Hi rfl I.l0 I.s0 ξ,A],(`C4 `aAr),`Nb T,(A++N).modify k f,oc0 (w:=t) O,ur0 I.th rfl q z,t.cps.toList.map,`blw=_,gm0 _ _ _ _ U.symm,(`s `acf),S0.un.length,`acg d,(∀j∈us,j<k),`fk N bg us ws,∀q,bg[j]?=`dt->`aAs,(h _ A4 _ a),(`blx),(by cases h),Pq N q (`Nc),(q.1,`Lq),T.wait=`aR,(`bly),λh=>`G l0 h,o.top `v,`G A4 p.todo.2.2.1,`ach=`Nd,
(by have el:`aci=`aK+1:=`blz),by rw[eb,`Dc,J,`kG];rfl,λz=>b.todo.2.1 `Ne,(by rcases hv with hv|hv<;>cases hv),λζ ξ=>#[`lm,ζ,G.cl,G.nl,G.nm,G.dg,G.l8,ξ,G.ln,G.dv],∃n,Nm n/\x=m9 n,(`f9 (`abq 1)).map,mh0 q.1 n hn,#[`F,λh0=>?_,λh3=>?_],`bX (`Nf=`qQ 0 n),(`z! `x).2,#[_,C1 `a'],λζ=>by rcases hv with rfl|rfl<;>exact ζ,(by have hl:∀n∈`a9,`h5:=λn hn=>`cO (G.nm n hn).2.1),λ_=>#[w,ws,hw,hv],`acj kd n,`L (`dl hw hr),hv.resolve_left hr,`_ (by rw[hw];exact λz=>nomatch z),λζ ξ=>#[rq0 S G.ok ws hw n _ rfl ζ,`cN _ ξ,rfl],`rq=`c `b_,#[l0,?_],(`blA),λζ ξ=>(ζ).lift λr S' h=>ws0 S S' w ws hw hv b r ξ,λζ ξ=>(dd0 G hw ζ l0 s0 b).lift λr S' h=>t20 S S' _ ws hw ξ b r h,Fts N `Lv ds,`wI `AM,Fts N (`aAt) _,Fts N (`Ng) q.2,`C (`Lx pr),Fts N (`aAu) ds,`bB m `awY,(`blB),(`blC),`kH (`AL ∉`BG),λζ ξ=>∀(w:`N) (u:`h),∀x∈ζ,x∈ξ,(by have e:Q4 `Nh []=(`ff,[]):=`Ni w),(by apply `wL w (`G rfl hw)),x::`dx++`f8,`AL ∉ws,by split<;>rfl,(`Nc++`ack),(`blD),bs (2*`ds+1),`sD=`acl,(∃z:Int,`v7/\`sD=`aAv)∨(∃j:Nat,j<`aK/\d=link j/\`sD=(`ad (4*(`aAw - j)+2)))∨`o?/\`sD=0,mt `acm hc,λz=>hc `AF,`rn - b/2,hi `acn++`Nj,`_f `rF (x.isPrefixOf n),∃W t,`Nk W t/\(∀k q,`gf->`aAx)/\`aco `aK S (t++pk ps f `kI `mJ W),h `blE,`b9::zs l,Ed `pa F `sE `jc W t,`pa[k]?=`dt->k∉`sE->`ml,`aco `M? S1 (t++pk ps f (`bP `M?) `aAy W),pre S++`Nj,`G J `Dd,λζ ξ=>(∀k q,`bCy->ζ)/\∀f,`bCz->`bCA=t++pk ps f `bCB ξ W,(by have hp:pre S=`Nl:=`blG),`blH=_,ps=F.map vi0,`acq (`ml->Pq `wG q []),(`s `aAz),st1 G hf ht,(`Nm).toNat,`wM∈`uD,(`s `wM),`acq (`mK[k]?=`dt->Pq `Nn q []),λζ ξ=>λk q h=>ζ k q h (by rw[ξ];exact λz=>by cases z),(`blI),(by exact`blJ),(`blK),`No<=`ha,`No<=`wN,by unfold Bw.fold;split<;>lia,(`cl `blL),#[`aAA,`acr,?_],`Lx `cD,(by let#[#[l,hl,e1],_]:=`acs),`blM<=20,(`s `aAB)<=12,`act<=`KU,cq0 a b f (hD q J),W.wb.it p hp,qs.flatMap two,hn s (D6 _ (J qs hv hs)),λζ=>#[S',ζ,`aC5,D'.un,D'.wt,?_],λζ ξ=>(by let#[S1,r,I1,A]:=cp0 W I hu hk (`arH) hw L `bDn ζ ξ),
(`bA `blN),(by apply `acu `j4),(by have U:`hv:=s2 λs e=>by cases e),(`s `aAC),`cR `acv b1 `acw,(`aAC)++(B1.drop `bI).map `acx,#[S1,`Np,I1,u1,w1,?_],v30 ps `mG j,(`bA `blO),(∀q∈qs,`mL),j40 xs h q hq,λq=>`aAD,gd0 (hI x hx) π,(oc0 (w:=w) ho).1,#[c,rfl],(by exact gen `hM λz=>nomatch z),(`Bi O.1).2,{ S2 with un:=[],wait:=[] },fk0 xs ys h1 h2 h,by simp[we0] at h,(by show `blP),`j8 [ae] `Nq,`H (`lG `jS `Nq=`Nq) Aa,(`blQ),(upd H1 e (`Y!)),`k (m7 (B4 n1)) O,(`blR),(.If c as bs pos),∃q:DXB,∀p,`Nr `md q,jm0 n N j G b ds=`dR,∀p,`Nr `md r,`co (b.2 b'),.ex c n r.2,`aza FnTX,(by let#[Ca,fa,fd,Fo,hC,cl,a3,hb,a5]:=C.ex),by rw[hC] at Z;cases Z;rfl,h1.same s1,(by have J:`aAE:=`blS),(`blT),(by have J:`aAE:=`blU),(`blV),#[_,en,e2,λH' C od J nn xx=>k σ H' C od J nn xx],[`blW],λζ ξ=>D0 (run { nx:=ζ,rt:=`nT } ξ) (`aGr) `ame,(`blX),(`blY),(`blZ),(`bl_),(`bl0),(`bl1),(`bl2),(`bl3),(`bl4),(`bl5),(`bl6),(z7 `g0 v8),(`bl7),(oA `e4 T3),(`bl8),(`bl9),(`bl'),(`bl!),`eY=`mM,`iE `awk,by unfold ux0;rw[h],`eY=`mN,by unfold zd0;rw[h],(`bl?),[`aAF,s1,`es],(`d' S1 (`Kh+1)),`c `bma,`Ns (`nO::l) `Zl,`acy=`c `pb,λζ ξ=>`c (if `sl then ζ else .ex `fv `acz ξ),[`bz E,s1,s2'],lx0 rfl λp=>?_,(by let#[J,e]:=`bmb),(by show `bmc),xq0 `bf [],#[`ee,?_,rfl],wb0 `Nt `ee,[s0,.ow b'],[s0,.ow `bf],[`vH,.ow (R `eU)],K5 `wO=`c (.ex `fv `acz),`acA=`bmd,pk0 (ds:=`wO) rfl (X80 h),`Ji `v8,`iE (`Nu),`bme=_,[.sh x,`aAG,.un],(by rw[`bmf,`q,h]),b8 `bf `r1,.no J tk `j,X3 `bmg,Tf0 `bmh,`azB `j,sIx `ar 0 `De,`ax=`I3,`CA=`sF,(`s (`r4 _))<=12,Ou0 hl.2 ((`BO).vk v hv),J p hp s hs,[`f!,.sh (`g y),.sh (`aAH)],zs (`I0 n),List.map_take,zs (`A' n),`dP<=12000000,wv0 [`rg,`jL]=`c `aAI,(`bmi),[`Df,`f!,s2,s3,s4],[`Df,`f!,`wC,.un,.un],(`aAJ).map,[`Df,`f!,`wC,.sh `acB,.sh `Nv],[`Df,`f!,.un,.un,.un],o5 (e8 _ _ _) (Z _ _ _),Gw.cc0 _ _ `j,Gw.Zu0 _ _ `Nw,gv 0 δ,`c (`rg),(zs p).map `g,`acC (by rw[`S,`S,yz0,yz0];lia),(`s `Dg),`Dg++[x],`n ((sub `vu).2 b z),(`bmj),(f4 _),(fe 5 _ h6),(`acD).app,
λζ ξ=>(show ∀c∈ζ,c<128 by decide) c (ξ c hc),`dP<=11000000,okr 42 0 `Nx,(by cases e),[.un,`f!],(c/(`sG+5)%256).toNat,λk=>`b3 (`ad (f k)),.sh (`lI),`c (`mk _),`g `aAK,λζ ξ=>∀(δ:Ds) (g:GE),`a!i=`c ζ->`ax=`c ξ->`bCO,(`Dh (.sh (BL m')) `vr),`g `azT,`g (`ad 2),lz0 [`jN]=`hb,(`Di .un .un),(`Di `sH s7),(`Di `sH `cJ),oA `aAL X3 δ,(`bmk),o5 g7 (O g2),(by show `bml),"MOST_NAMES","MOST_NAME_SIGNS","MOST_PARTS","MOST_VALUES","MOST_WORD_SIGNS","NAME_SIGNS","WORD_SIGNS",.ClassDef _ _ _ `ey _ _ _ _ _ _ _,(t6 `acE),λζ=>Y6 (Y5 ζ `qu) (m5 2 v40.nd),λζ=>qs0 b90 b_bool `OA T.b_bool ζ,(`bmm),λζ=>ud0 an0 T10 T.b_ord b_ord ζ,(`bmn),(`bmo),(`bmp),C_made_pairs,(`bmq),(`bmr),[`u?, `hS, `Zm],`hc `NA `kJ zi0,λζ=>zx0 (qs0 W70 b_str `OA T.b_str ζ),(V1 `sI v7),(`bms),`Dj `NB `hd U0,`Dj `NC `wP P0,λζ=>z40 `bDx (X70 `lM `aO ζ),C_sign_bytes,(`bmu),λζ=>FnI ζ w K mg `ao `aZ 1 `fT z50,λζ=>FnTX ζ w K mg `ao `aZ `HX 7 `W2 o4 yl0,λζ=>FnTX ζ w K mg `ao `aZ `i7 3 `fT o4 xq0,(m5 3 `sJ),(m5 8 `sJ),λζ=>T7 (md0 6 (d9 (M7 `uI M3 ζ) `WT)),(Q7 `sI),λζ=>Z4 (d9 (z40 (Z0 ζ `bC0) `Y4) v7),(Z4 (z40 `ND v7)),[`ra, `acF, `gT],λζ=>FnB ζ w K mg `ao `WX 2 `WV 0 zw0,(m5 2 `wQ),(v5 `Dk u5),(`bmw),λζ=>tp0 1 ζ `ad7 hr `v (pab 1 u5),[`ra, "_law_value_here", `gT, `azn, `azo],`hc `NE `wR W0,(Z0 `bi v7),(v5 v7 `sK),(d9 `NF v7),(`bmx),(`bmy),λζ=>FnX ζ w K mg `ao `HO 8 `HN K5,(`NG:`i),(spD K lz0),(m5 2 `NH),(`bmz),[`ra, `gT],`aAM P,λζ ξ=>PWX.pt (Ta0 (af0 ζ) (Yo0 (fr0 ξ))),(`bmA),`NI P `wS S8,`NJ `NK `NL K1,(`bmB),C_made_part,λζ=>FnT ζ w K mg `ao `aZ `H_ 1 `Gh o4 J7,λζ=>FnT ζ w K mg `ao `aZ `H0 3 `W3 o4 V8,(`z? `bi),(`bmC),λζ=>FnT ζ w K mg `ao `aZ `H2 2 `W4 o4 R7,(`bmD),(`bmE),`hc `NM `acG vf0,(`bmF),(`bmG),λζ=>FnT ζ w K mg `ao `aZ `H4 4 `W5 o4 W3,`hc `NN `acH yv0,λζ=>oi0 (zx0 (ed0 C_is_left hr `v `f0 ζ)),λζ=>FnT ζ w K mg `ao `aZ `H5 3 `fT o4 O4,(v5 `mO u5),Fun K x x st f fd,(`auu x),∀(kV doc pm:`B) (an:`bq) (cdv ct u:`B),`NO `ZD [u],
(`NP (by let#[u,rfl]:=us1 `NQ;exact b _ _ _ _ _ _ _)),∀(kV doc pm:`B) (an:`bq) (cdv ct u v:`B),`NO #[[u,v],[]] [u,v],(`NP (by let#[u,v,rfl]:=us2 `NQ;exact b _ _ _ _ _ _ _ _)),(`X `d0),`dC `pc `pc (U4 `sL) (X4 `sL) (t6 `sL) `al kV33 dc33 pm33 an33 cd33 ct33,"NoPack.__init__",I.ok.mod.kin,(Y9 hl),(`au7 e2),`u r.1,`JF (t':=`YC) `AR,#[_,`gY,rfl,rfl],`Y0 δ',(A5 _ hx),(∀b∈fp,`n4),`fH hq,`aA' `aBA,W5 `aCI,`J_ `j,W5 `adG,typeLookup_type,builtinLookup_eq_fast,#[x,en,e1,`aA5],#[r,J,e1,k],O9 `adG,O9 `aCI,`aAT `bF (`NT),Bool.eq_iff_iff,(by apply `iU (D5 ?_)),#[v,e,`w0],A0 `bp9,U5 rfl `mV,`G h `bzC,(`bnB).elim,ri0 I1 ea c hm l ?_,`G `bn3 B7,show `bn7 by simp,o80 r fs,`aA4 a,`b8 tt0 D `boz,`aA' `aA!,#[r,`acT,e1,k],`boO hlt,`r! `boQ,(`bo!),(`bpb),#[rfl,`bpJ],A0 `bpR,`L1 h.go `aBE,pv0 (d:=n0) w1,#[Z,z1,`bqG],Gw.ly0 _ _ `adJ,`bxB<=_,`bxH=_,`byU=_,`bzh=_,`G z.1 `Dd,G.d0 hw `DO,X.s₀.heap.get?,`ri (`aAS e),`et `aAX `gG,`bnF [] `O,`Yg pos `Yh,.ins C dx [],A1 `bnV,`bl hl,`Cv tDT,q σ H Q z,h1.symm.trans,`lS `gL e pos,xj0 pr.1 pr.2 q d,`ac5 `g! `f,`ac6 b o u e,`bx cn np,O.less less,as.zip (`Od),`et `aAX [],U9 `bqC,hv.go B δ,`et `aBJ `gG,`et `aBJ [],`C `bqJ,`Xn `awh,v10 n `di i `Dx gi f gx,hb.go `ae `ab q.2,`awf `Dy,zr0 xs l u c,o2 `aJ `g0 o8,gc `bsp,K4 1 v8 O1,z7 `go v8,oA `adr T3,`mS `ak,gc `bsr,z7 `Oj v8,gc (`j!),z7 `ak `d9,gc `awy,J1 0 `je `q5,popS 0 `jT,gc (`km),z7 `bwj v8,o2 `aT `kN pl0,plN `aCA,za0 0 `wB,by rfl,a+`bxe,by apply `w7;lia,`k hu A4,4*(4*n+kd),vd0 p S _,`aCR - `Lt,`o (kd=0) `bxD 12,S.letter,v30 ps `mG,K3 `aJ Q9 `Oy,o2 `aJ `aJ V9,zp0 `bzN,`c `_N,wp0 v7,v5 `mY u5,M7 `aG M3 `aDi,rn0 `f0 `ad2,yw0 `ad' `aDj,(by apply `sM (E5 hx ?_) hc),(by (apply `bmM)),λfin s'=>`bmS,λe s'=>`bmU,TP X `r σ Q,SP X `r D,`b8 h _ hw,`rh .And [a] pos,`rh .Or [a] pos,#[σ',H',`aAQ,q],`lS o i pos,`h2 [tg] e pos,`aAR tg `sN u,#[o,e,λv z=>by rw[d] at z;cases z],`bl hu,.For tg iter `ey [] pos,`bX `bnA,`gg e f pos,.List es pos,K2 `aAW,`axK cdv,`bl hv,by rw[`cm]<;>lia,
match y with|`y=>`d|_=>`m,match y with|`f3=>a==b|`nO=>`bnZ|_=>`m,match y with|`f3=>`bn1|`nO=>a==b|_=>`m,match y with|`wY=>a==b|_=>`m,`gg o `cK `pd,λ_ _ q=>`vx,`aa rfl `R,(`boo).elim,#[x,en,e,`bos],#[_,en,e2,`boA],#[xs,xs[i],`ZH,`boB],#[`IG,_,C1 hi,`boD],#[xs,`ZH,`N1],`acX `bo_,F.ok S `aBf `bo4,putK kvs p.1 p.2,`bpz=`g9,by rw[`cm,← `aBp,`ph],by rw[s1,s2,hl],h1.extBut `Dv D.i1z,`bpS `Dv D.l1z,vm0 ga gb gc f f',`abi `aBu,`vB `bqk `aBy [] p8,T8 `aBA `bqm `r s σ H D I `aBB,upd H a `aBD,#[σ',_,`Oa,k],`b8 h _ q,#[ad,`bL,`mB,?_],`h2 [`awe] `g2 pos,`acX `bq1,[x].zip `aBP,ob `brC,Z2 `aB0,ob `bsM,z7 (gv 6) v8,K4 1 v8 M9,M6 `btD,ob `btF,Z3 `btG,ob `btM,X6 `btS,X6 `btU,wj0 1 `bua,Z8 `cL `buc,M6 `bug,M6 `bui,X6 `buI,M6 `buK,ob `buM,ob `bvi,yi0 (jg0 4) `DE,Z3 `aCk,ob `bvu,Z3 `aCm,ob `aCn,yi0 `aCp `aCq,Z3 `aCr,gc `bvP,ob `bv3,o2 `aT `bwb gtD,o2 `Om `MI eqD,o2 `aT `n_ gtD,o2 `adF `MI eqD,oA `n9 vr0,`k `S h,`bxv=_,R6 `bxJ,`bxX=_,b.isPrefixOf,`h3 `lr `Oo `adO,`byi=_,`byE=_,`byF<=`W,nd `byO,#[n+1,`DN,`aCY],o10 hn hj',`bzo=_,#[W,t,e,c,`Ot],`bzy hu,by rw[A.bg,pt0 hk,`aU];rfl,by apply `bzz;rfl,`L `bzF,wb0 `bzR,qr0 `fv `aC',o2 `bAL `aDb m8,o2 `bA_ `Oz o8,`bBa=_,`L `bBc,`c9 [BL p],.Pass `bBt,G4 `hz `ad4,v5 `aO `eT,tp0 0 `bBC `ad7 hr `v `bBD,v5 (z8 6) u5,lj0 3 `lM j9,`z? `mY,Z9 `bBL,Z9 `bBN,`ID `bi,`ID `ad!,tupleKind,p.1=a∨`wc=`oi,(n60 h H).get?,D4 _ `bnb,ho `r s2 σ H2 x y v u _ I2 r1 r2 q2,W.plainOver,s80 I hg hm ?_ hdb,`gg o m `pd,`bl hi,.Slice lo hi `f p2,`bl hw,λr s'=>`bod,λf vs=>PySem.call f vs,`av1&&`boe,`Dp `bol hsc z,`og `ew,`aA6 s',`Me tDS G,h1 `ae `ab δ,en'.lower hS `oW,`boS s',upd H6 L (`t (ys++[v])),`h2 `o4 `oC spos,λvs H Q E zQ=>?_,`df `bps [],view I h1 h3 h5,view I h2 h4 h6,by rw[s1,s2];simpa using hl,`cH in1_units,(`Du acc' c'),(D5 ?_),.bl (`ac2 a b),n==1||`rF==0,`Mk 1 `bp7,λ_ _ _ z=>z,`bx cn p1,`ada H `w2,`zU `aBz,.ext `boq,`co (bm.2 q.2),`gg `X5 m `pd,(`aBK).set j .un,`c `aA3,`gg o `Mw `pd,#[tg,iter,[],0],`et (`bx c p) [],`awW C dx [],.Slice lo hi st p2,
oA `brR intOfD,gc (`g 12),o2 `ak `w5 ltD,gc (`g 64),gc (`g 57),`Af `w5,gc `br',o2 `g0 `ak V9,K4 0 v8 R4,yi0 `aB_ `Oh,`mS `aJ,(`g 37),dgO 0 `adp,gc `bsv,o2 `DC `Oi o8,U7 `bsD,o2 `bsF `g0 o8,gc `bsO,z7 `bti v8,K3 `aJ `btp Q9,o2 `btr `n_ o8,gc `br_,ua0 `aB' `btw `btx,`rI `Oi,`uN `q5,`mT `btX,oA `n9 n90,o2 `aJ `ak `aCc,z7 `auA v8,z7 `re v8,oA `adx zi0,o2 `ak `cG ixD,z7 `c5 v8,wy0 1 `bvs,ut0 `bvw,jb0 3 `oP `aCl,m50 `bvA,o2 `oP `cG ixD,V4 `bvE,`DF 2 `aCo,wy0 4 `bvO,za0 0 `jT,`A3 `aCs,gc `bvQ,gc (`g 20),gc `bv8,o2 `aJ `hO o8,iz0 `aJ `d9 tn0,o2 `bwp `aJ eqD,`nG `hS,`nG `pl,o2 `Lm `aT m8,ob `adC,o2 `ak `c5 ixD,`dV v8 S8,(V2 ?_),(`bw8),show `eh<37 by decide,a+`bxf,`bxh%36,`aF c,vh0 `MZ kd,o2 `DD `adH eqD,by apply `bxS;exact `adN,Q8 `bwh,`o `zT _ (wb0 _ _),(`bx0),zr0 xs (`c 1) `f `KS,(z9 p (R (`o8))),ob `bwP,ja0 `aT `bwR (u50 `m),`byP h,λz=>`byT,4*`byW,`c9 `byX,`c9 `byY,(`lW more),`o `kO [] more,S1.names.map,show Sg `jg from sg.tail,z7 `re `adv,b₀::suite,oA `d9 w80,`nG `sW,plN `aC9,`mS `B0,o2 `aJ `bAu m8,`fu `bAH,o2 `bAV `bAW o8,z7 `aDc v8,[`bA8].length,`t `bBl,z7 `bAP v8,V1 `aG `ad2,bmV.contains `oB,⟨k0,k1,k2,k3,`c (`cn `_W),k5⟩,`eb `eV (`lt::`aR),`bmH rfl rfl,Obj.cls_mapFields,`bmN _ _ (B4 n),λc v _ q=>k c v q,hl i x v e1 e2 e3,λb ps e=>`bmV,`bmX `bmY `acI `acJ `wV,(`bm0),`Dl `eX `NS,hl j y v' e1 e2 e3,λe=>`bm3,#[`bm5,n,ne,nf,d],`k I.ok.glob `aAO,`b8 h Q hw,thn `bm7 λc s1 e=>?_,`bl (C7 `aAP d1),λ_ s'=>`bm8,V->`bm9,`l3 hi _,.While c `ey [] pos,`k z hb,PIE X `r σ tg R,[`o_, `j3, `bm', `bm!, "odict_iterator", `bm?, `bna].contains,`aux `acM,∃xs,SqL K H1 a xs,`b8 hl _ h,`et (`bx `vw p) [a],Oc0 ha hb I h `bnd,intBits_le_64 h1 h2,`ef `bnh,`ef `bni,bk0 r r' ta tb tc,hc `r s3 σ H3 _ I3 q3,`h6 `bno,`h6 `bnv,(`mP `NW),(`mP `aAV),`acO (v:=v) (o:=mA f) `bnD,`o (g=f) `bc (mA g),`h2 [`axH] `g2 pos,`b8 hv _ h,ha `r s1 σ H1 _ I1 q,`XR h hq,#[`bnE,?_],λv H2=>`wX/\Q `kr H2,`bR `mb (`mQ _ _ _ _ h),ha pos `r s1 σ H1 _ I1 q,∀v,(x,v)∉binds,by rintro rfl;exact h v A4,(`bnG),
`dC `cK `iO params `ey `eu dV kV doc pm an cdv ct,K2 `bnI,thn `acP `bnJ,if v<0 then max (v+`bv) 0 else min v `bv,(Ai0 `sO `v ?_),P3 Y3 `sO `bnM ?_ `bnN,`c! `bnR s,(`bnS),(qm0 hs pl pu ?_),`c! `bnU s,A1 `aae,`lS e `aAZ pos,`l3 hl _,`NX hu σ,`bnW ..,`k `cm r.length.symm,by rw[hj];simpa using ew,λh' c' kp e=>`bn8,`h6 `bn?,#[#[o,e,ex.1],λa e2=>?_],`Xn `bog,J.stop i H2/\Q `sP H2,`Do _ _ st2 b hb,(`vf x).map `bok,`cF (I3.stkSub b hf),`k hsc z,`N0 e,`n `aA2,`p `aA2,`u `bom,(`bon),#[t,`fY s,h,`bor],#[d,`fY s,h,`bou],#[ds,en,e1,`box],#[a,rfl,#[xs,`ge],`aA?],#[_,en,e2,λvs H' s' r=>?_],S80 hp hc `acU a7 a8 hs `r s σ H D I `boE,∀b,`boG,λb n n'=>`boH,∀b,`ab b->`ayg,λb n=>`boI,`ayh h,`boJ z.2,#[a3,`boK,`aBa,`jd],λb o n h=>`boM,#[`he,`boN],#[B',d,δi,δ2,a6,a5,e3,`boP],`aaL Hh δ2,O.wr c1 c2 `w_ w en',#[Hh,`ab,δ2,rb,b3,e4,?_],`r! `boR,`N2 `boT,`N3 `boU,`n `boW,`q' `boY,`acX `boZ,`aBe∨`bo2,#[_,`bo5,?_],#[`zQ H,`bo8,`bo9,hb],#[_,en,e,`bo'],`u (`aBh z lo hi),`pf W.kitx_dict #[o,h1,h2.1],`et (`bx `vQ p) [e],`N6 `bpa,`k l `YN,`bR `aBi z,`l3 ho _,(`bpf),∃d,s=`uM/\o'=`n8,Pd.setR (i:=i) (b:=Sl.ow d) (`n `N7) hs h0,`acZ `bph h1,`G `bpj J,#[`bpk,`bpl,`ac_,`oW],λz=>`bpo,#[`Mr s,`bpp,`aBl,`oW],`Ds (λo sl h=>?_) `mw,#[b,e,`n O,`bpq],k _ _ `bpw,`r! #[δn,en',e2],nd0 l l' r r' v v' `bpy,`bpA hl,nd0 (A:=`h1) l l' r r' v v' `bpC,`sf .Add,`sf .Mult,`ac1 e2,`ac1 e3,`et `nN [e],`oZ `bpD,`et (`bx `fX p) [`_F],U90 `l6 `dk (set_dict hu) ha `r s σ H v u Q I r `bpF,#[a,_,rfl,`bpG,?_],.dK ((`av!).zip ys),k _ _ `bpI,`bpK #[[`uu],[]],`c! `bpL _,A0 `bpN,`c! `bpO _,A0 `bpQ,`bpU `Dw D.i12.symm,`bpW `Dw `ac4,`bpX _,∀c o,`bpY,(`Du acc c),∀c o,`bp1,`kK (`A_ `j'>>=_) _,`et (`bx x1 p) [`_I],upd H `Y (`Mh),`CQ elts x1 tpos,`et (`bx `o_ p) [a],λx xs H Q=>`bp5,`pi n1 oke,`bqa h1,#[I.ok,I.os,`h7,`bqe,`fD,`lO,?_,`w1,`gm,`ac',`eX],#[e,`bqf,r],`bqg `aBw (λc z=>`ac!) (λc xs z=>`ac!) λc _ _ z=>`ac!,`et `bqi (`o0),λb u n z=>oth b u n z,tXS X `ae `ab δ G,`Lc `aBC N fa,XC.Zc0 K root c f,
`N? lo (hi - lo),`adb `fW rfl,`t `bqn,Builtin.List.listFitsIndex,(w60 (q:=q) rx).2,`h6 `bqq,`Me tDB G,`zU hb.go,by apply `mR z;exact e,#[_,`bqr,?_],#[_,en,e,`bqs],q v H' (qi0 `abG) `add `bqt,#[_,en,e,`bqu],q `y H' (qi0 `Oc) `add (by rw[rn,R3]),#[_,rfl,`bqv],vs.take j++`bZ::vs.drop j,kk v H' `bqz,`ade `iA,upd `w3 c so'.ho,#[dx,ad,ns,as,sos,en,e1,at',`adf],upd (`iL H' `ew) c so'.ho,N7 `bqA y90 hs,`adi `bqE `bqF,#[`bZ,`gn,a,`bL,`mB,a,C,U,_,rfl,`aBI,q1,`Oe,?_,?_],`sS `bqI [],`bX (v8 δ=`wl),`kL `bqS,λz=>`bqT,#[at'.w.nd,`adl,`bqU],`fw `bqW,`p `bqX,(λz=>hb (D6 _ z)),`bqY n,`acZ `bq0 `abC,`sS `aBM `o4,(`adn).set j (.sh d'),`k z J.w.in0,λo e=>`bq2,λpins s σ H R I #[B,δ,h]=>`bq3,λcl s H ex pins s' σ H Q I #[`ae,`ab,δ,h]=>`bq4,`Me tTX gt,cf0 `bq7 `bq8 `aBN `r s σ H D I `aBO,`gI `ME a `abI,`lS e `azm pos,ob `bq9,X6 `bq',Z8 `kM `brh,Z8 `ado `brl,Z8 `ado `brv,Z3 `brA,Z3 `brL,Z3 `brZ,`MH `aBR,ob `aBT,S5 `br8,S5 `bsn,ob `bso,`rI `aB2,Z2 `bsu,ob `bsG,Z2 `bsK,Z2 `bsS,Z2 `bs1,Z2 `btm,ob `btn,ua0 `pk `c5 `aB!,`DF 3 `adu,U7 `btB,o2 `aB? `hO o8,X6 `btK,ob `btV,X6 `bt3,X6 `bt7,ob `aCd,M6 `bur,M6 `buA,M6 `buO,ob `aCh,Z8 `pj `buQ,M6 `bu3,M6 `bu9,wj0 2 `ady,wj0 3 `ady,wj0 4 `bve,vw0 `bvV `bvW,o2 `bv_ `g0 m8,`A3 (za0 0 `je),J1 0 `adz `cG,Z2 `bv1,ob `bv4,ob `bv6,o2 `bv? `ak mulL,z7 `bwf v8,o2 `aCy `cG eqD,`nG `lL,Z8 `kM `bwn,ob `aCz,Z2 `bwv,z90 `aCC `bwF,Z2 `bwH,o2 (oA `aCD T3) `adD eqD,z7 `bwN v8,Z2 `bwV,`A3 `adD,vm0 `c5 `aJ `aCF leD leD,(`DJ `Ag),`bw2=_,by rw[`Z];apply `w7;lia,o2 `YW `adH eqD,(`bw5),`bX `bxa,E3 `On `bxc,L8 `On `aCH,λq hq=>`bxd,`bxm=_,o20 `lR `j `j,(`bxp),`hB (`CZ),`a4 (`om≠0),N5 xb0 0 p `iR [],`Lp (`adK).toNat "",`dQ (3<=`W),`q6 k1,`bxz=_,`bz `oh,(`bxA),(`kl n w),`Ol (gc (`wY)),await `aCJ [`a8],`k `bxC (W20 kd hk),`c `bxF,atC _ (`g (N/4%4)),ob `aCK `kD,`cc (N%4=j),`c `bxL,`jf `bxN rfl,`c `bxP,ms0 p S _ w ws hw,o5 (x:=`aCM) (y:=`g (b%128)) `aCN rfl,`bxY=_,X5 rfl `bx2,`bX `bx3,[.sh `aCP,s1,`X7],`c `bx5,`bx'=_,`aL `Oo `Yo `adO,`c `bx?,o2 `Lm `aT m8 `pm,
`c (`u (`wM)),show `byb from `dd,`C `byc,U6 J2 [`gX (1,`cN)],`aL (`g (`AK - 1)) `lr `bym,`byq=_,`bX `byu,`L `byv,`J0 G6 `byw,`w8 (`w9 _ (`aCQ)) _,`byz=_,`cc (z<0),∃s:Str,d=`dL/\`o!,`byK=_,t8 `byM `w',`BM d hd,Xo0 h2 `byN,by apply `aCT;exact `aCU,by apply `aCV;exact `aCU,`k `aCW (ao0 B j),st ps o B T (d::W) s,`v5 o `vl,`e3 `by0 rfl,`e3 `by4 rfl,nW ps B W `q2=`aCX,by unfold nW;apply `sC,`BM p hp,by rcases hg with z|z;exact `gR;right;lia,`k J hc,`k J th,`DM `i0,`sU J `w!,`k J hln,`k J h8,ws0 S1 _ w ws w1 hv _ _ `by8,X5 rfl `by',`bzb=_,`c (`b3 (`b9/2)),nW ps B `adR `j4,λB T _ _ _ _=>`bzc,#[B',T',_,`bze],`aI=`bzf,by rw[e,`Z,`T],#[`b_,`aAm,?_,`hh,λs es=>?_],(`bzj),(`bzl),S0.begun.modify `bI _,`k c (D4 _ z),`k eb (pt0 hq),`CR eb J,`o `Os `adS `aC0,`o `kO `aC1 [],`k h A4,`aC2++W2,(`bzq),`v6+26*(`wG - `acp),by unfold pre;rw[`L l0],(`bzr),`o `gp (rl `mW a) (rl 0 a),#[`bzu,`bzv],by rw[`sV] at h;lia,ih N.1 N.2 0 `bzx O hD,(`s (`Ou x.1)),#[S',`bzA,`aC5,D'.un,D'.wt,?_],#[S2,r2,D2.inv,D2.un,D2.wt,?_],`bzE=_,.Raise `bzJ `f pos,tXB X `ae `ab δ G,`w? hi U O (h2 H' B b' Y),`sR b1 b2 hi U O J,`w? hi O hh (h2 H' B b' U),`sR b1 b2 hi O hh J,.ExceptHandler `bzL (`du) `aC7 hp,okZ `bzT,okZ `bzX,ld0 0 `ru 1 [] `dD `Ow,okZ (k00 1 `aZ z50),k20 `bzZ,U7 `bAq,Z8 `cL `bAs,Z8 `kM `bAE,ob `bAF,o2 `adU (U7 `mU) m8,K3 `aJ `aDa Q9,`Ny `mU,ob `bAN,vm0 `c5 `hg `w5 leD leD,`eg `kN `hg,ys0 `aDd,`M_ `adW,(`bA0),X10 (p:=p) (s1:=`vH) h .un,`bA5=_,`c `bA7,vp0 [.sh x,.un,.un],`bX `bBf,[`bBj],(`bBk),`b3 `bBn,U tk gx `bBo,(`aDg:`l).any λy=>eqF y `qB,`bBs=_,Yy0 `aDh,zh0 `bBu,Z4 `bBw,li0 `bBx `aO,Xs0 `aG `ad3 M3 `ad3,v5 `bBz u5,qs0 es0 `DR `OA `DS `aG,z40 `bBB v7,v60 tf0 fv0 `xa `ad6 `eT,z40 (Q6 v7 `Y4) v7,`gV `bBG,d9 `ad9 (w50 `pn),M7 `aG `bBH M3,v5 `bBJ u5,i90 I_NoPack hr `v `mO,lo0 `bBP,`OB `bi,`OC `mZ,`OB v7,`ad? `bi,Z9 `bBT,Heap.get?_push_at,U1 J hd `j ?_,(by apply `iU `bmI),(by first|apply `NR|apply `bmJ|wp_step),(by (apply `bmK)),(by any_goals apply `bmL),Heap.get?_update_other,c'.quiet=`d,`wT c' s',
R (.ok f) s',`bmO/\`bmP,match fin with|`wU f=>`bmQ|.again c'=>`bmR,(`aAN),R `bmT s',#[⟨⟩,`g1 e],λc v hc q=>k c v ?_ q,(`b2 b u e).stay,(`bmW),`K!==.module&&`f1 != `acK,(`bmZ),`K!==.class||`bm_,kw0 hN e1 (e▸hi),(`bm1),hj `bm2,(`Bn p.1 ne),`bm4 e,`b8 ha Q h,(`bm6),`acL Q,V->Hp->(`iB)->Prop,"dict_itemiterator","dict_reverseitemiterator","itertools.zip_longest","itertools.pairwise",(D4 _ (rs0 hb e)),ho `r s2 σ H2 x y v u Q I2 rx ry q,λv u s2 x y H2 I2 rx ry q=>`bnc,`hU (x=`y),(`bne),Q `bnf H,y=`y/\`bng,`NU∨r' x y H Q,xs=[`bD]/\Q `fq H,∃i,`bnj,xs=[`wW]/\Q (`acN) H,(`bnk),∃k,`bnl,`bnm∨`bnn,(x.cps.getD 0 0:Nat),`g `bnp,(`bnq),Q `bnr H,`rF=1/\`bns,xs=[`c3]/\`bnt,∃x,`bnu,(k,x)::`aAU,`o (k=f) ((k,v)::r) `bnw,yj0 f v (`NV),(`bnx),`bny=`bnz,`mP `b1,`bR l (r f),(`bnC),`bR `cd z,keywordEach,x.above y c (L3 h),td0 I hg hm hv ?_ hn hdb,(`bnH),λus s1 #[vs,H1,I1,r1,q1]=>`aAY,args_tuple_getitem,`bnK _ _,entry_tuple_getitem,(`bnL),Builtin.Tuple.tupleItemsOf,`bnO `oU,`bnP>>=_,(`bnQ),tupleItemsOf_ ht ?_,`o `acQ _ _,(`bnT),#[_,rfl,A1 h],Heap.IsSliceOf.new,`o a 1 0,(`bnX),`bnY==b,`o b 1 0,(`bn_),a==`bn0,show `zT from fx,(`bn2),its.toArray.any,`bn4 `NY,its.any `NY,`bn5=`bn6,fin its r' hz h' c' kp e,(`acR/\`aA_)∨(`acS/\Q `kg H),(`bn9),`Dm/\`bn',∃p ys,`bn!,s'.os=s₁.os/\`NZ,r=`pe `Dn,OldK `od `oT/\`boa,`bob/\`boc,`auJ n==`kd,#[`N_,iter,ifs,0],[`bof],(`_B&&`aA0&&`aA1),`boh=`d,`o `boi `Bu k,λk=>`boj,`Xe x.1=_,(Txt.join sep ys),`c6 λa=>`u (h a),show `b1 from h,gl0 a C od,(`bop),λJ s'=>k J `aA7,`Bx ?_,k v J `aA7,λv J s'=>`bot,`wZ `aA8 ?_,#[`aA9,`bov],`La `bow,k σ H en,(`boy),`Dq ?_,by simp[`x],r'.mono gB,λB' gB _=>`boC,#[`b?,env,e2,λJ H1 s1 it=>?_],¬`ab b->Hh b=`f,B b->`boF,`k U (`L #[n,n']),`k U (`_ λz=>z.2 n),(`M8 (b2 b z.1)),#[B,b1,`jd,Z],O.same b o (`acV),#[n,`boL],sm b o (O.same b o h'),List.drop_eq_getElem_cons,fun σ' w en'=>?_,#[δn,en',ei],k σ' H' `aBb,hS.trans,k v H' `aBc r',k p H' (hS.free hp) `aBc r',`acW _ Hi gr `bF,#[`boV,?_],`at? K,∃B d δ,`boX,
`aBd ht,`aBd he,`o?/\∃δ,`oN=`wm,(`bo0),`bo1∨`acY,λcdv A outer s H vs Q E hr zQ=>?_,(`bo3),`ey cdv A `c8 s H E hr H B `z5,λi j a J es h1 _ _ _=>`N4,#[?_,hb,`bo6],#[B,λ_ z=>z,`aBg,`bo7],λi J a h1 _=>`N4,`N2 (q v H' s' r'),`Dr `N5,`o `Kc (kv.1,y) kv,λkv=>`bo?,show u=`gJ b from ry,([e,f]:`bQ).length,`bpc+`aBj,`bpd+`aBk,`bpe<30,λj o' s e1 e2 h=>?_,(`bpg),`CB i j a d0 d' hi e3 hs e1,(`bpi),#[λb u h=>?_,λb ob xs h=>?_],(`sQ env),`k z hp,(`bpm),`oG _ q2 `bpn,#[`aua,λa z=>`n `aaK,`jd,?_,`jd,`ac0],`dw (λo h=>s _ _ h) g,`n [],(`bpr),`Dt s1 b1 b2 hi J O,(`bpt),`N8 `bpu b1 b2 O `pg,(`bpv),ih k rfl `aBm `aBn,`aBo `bpx,its'.toArray.size,beq_eq_false_iff_ne.mpr,V6.eq I `aBq `aBm `aBn,`aBo `bpB,(λ_=>(⟨⟩:`a5)),λiv H1 s1 r1=>?_,#[_,J,_,env,e3,`bpE],DPut.k (`ac3) (`aBr),en.s.mut s1 b1 b2 hi J O,(`bpH),λe u he ru=>?_,Builtin.«zip.__next__»,(field `j' 2>>=_),`N9 `_Y,(`bpM),(field `j' 3>>=_),`N9 (`X TI),(`bpP),(`aBs),hl1.extBut,h2.extBut `Dv D.i2z,(`bpT).extBut,hl2.extBut `Dv D.l2z,(`bpV).extBut,F.args_zip_next_1,c≠z->c≠TO->`au4,`_H->`fZ c=`aq->`awR,`_G->`bpZ,c≠TO->`bp_,c≠z->`bp0,Q `aBt H,xs=[`wY]/\`bp2,x=`ja/\`bp3,∃a b:`N',`bp4,`gJ `N!,(`bp6),D7 he hd q ?_,(`bp8),`pi n1 okT,(`bp'),oth b `bp!,(`bp?).trans,oth b _ `ac7,`ac8 oth _,λb o u e=>`bqb,#[`AO,`AP,`aBv,`As,`bqc,`bqd,`ac9],`k (m7 (z6 p hp)) n,(`b2 b u q).stay,`gg `ac? `e0 `pd,(`bqh),`gg `aBx `e0 p2,(`bqj),h2.go `ae `ab δ',(`bql),(`kl `mc xs),`adc/\Q (`g `jW) H,`Dm/\`bqo,∃(p:`e) (kvs:`hf),`bqp,`aBF `Ob `aBG `md,λv σ' H' ev=>?_,(`MC (`kv less)),`r! ?_,λK H B a r=>#[r,`aBH],`sR b1 b2 hi J U O,(`bqw),`N8 `bqx b1 b2 O rv,(`bqy),(je0 (`aBz B δ)),R9 (i:=i) hN hvis hd hcd,(`bqB),b60 `adg `adh hs,(`bqD),#[a,dv,env,e2,`adf],kk _ _ z2.s,`gg o "pop" `pd,(`bqH),[dk,`adj],`Z2 X.K `ae `ab H' σ' `aze i j `abD,`bqK->`aBL,∀σ' H',`bqL,i≠j/\`bqM,`Of/\`bqN,`adk/\`bqO,gk δ=`c dk/\`bqP,`CL/\`bqQ,∃H₀ B₀ δ dk ns,`bqR,La (z▸at'.w.in0),λx hx y hy z=>?_,`bR `CS hk',(`bqV),
#[rfl,(A3 q1).symm,(A3 q2).symm],(`M8 `adm),r.ext gr λC dx fs e=>?_,λk n so q1 q2 r=>`bqZ,(`bq_),uj0 B δ `r s' σ H Q I h,`k (m7 Z) e,hi B δ `r s σ H R I h,he cl s _ ex `ae `ab δ `r s' σ H Q I h,`zU hc.go,ha.go `ae `ab q.2,(`bq5),(`bq6),(o2 `ak `B0 ltD),(`uN `ak),o2 (o2 `go `go V9) `g0 m8,(`bq!),`A2 `bq?,(`bra),o2 `brb `Dz o8,(`brc),`w4 `brd,(`bre),o2 `nM `brf m8,(`brg),o2 (o2 `aJ `hg m8) `Dz o8,(`bri),`w4 `brj,(`brk),(`A2 `Dz),(o2 `hg `Dz j4),o2 `brm `brn m8,(`bro),o2 `brp `Dz o8,(`brq),`w4 `brr,(`brs),o2 `DA `brt m8,(`bru),(K3 `nM Q9 `aBQ),o2 `brw `DA m8,(`brx),wz0 6 `bry,(`brz),o2 `YW `cG eqD,(`brB),(o2 `hg `Og o8),`fu `brD,(`brE),K3 `nM Q9 `brF,(`brG),o2 `brH `DA m8,(`brI),wz0 6 `brJ,(`brK),gc (`g 35),(`brM),o2 `hg `brN gtD,(`brO),z7 `brP v8,(`brQ),o2 `cG `azy m8,(`brS),`fu `brT,(`brU),K3 `DA Q9 `brV,(`brW),wz0 6 `brX,(`brY),(`aBS),`MH `aBU,(`br0),o2 `br1 `aBV m8,(`w4 `ak),(`br2),o2 `br3 `br4 o8,(`br5),V4 `br6,(`br7),`g 2147483647,(`br9),`w4 `aBW,(`br!),o2 `br? `aBX o8,o2 `aBY `ak V9,(`bsa),(`bsb),o2 `bsc `bsd m8,(`bse),o2 `bsf `Og m8,(`bsg),o2 `bsh (gc (`aBZ)) V9,(`bsi),o2 `bsj `aBX o8,(`bsk),V4 `bsl,(`bsm),(`Js `DB),(`aB1),`u "many",(`bsq),(o2 `DC `iP o8),Z8 `cL `bss,(`bst),(`g 13),o2 `DC `aB3 o8,(`bsw),z7 `bsx v8,(`bsy),z7 `aB4 `bsz,(`bsA),z7 `aB4 `bsB,(`bsC),`fI `ak 52 j4,(`bsE),(`Js `DD),v10 1 [0] 0 1 (ys0 `d9) `dD `adq,(`bsH),jf0 3 `bsI,(`bsJ),o2 `DD `cG eqD,(`bsL),`u "pool",(`bsN),dgO 0 `aB5,(`bsP),Z8 `pj `bsQ,(`bsR),`fI `ak 156 j4,`mT `ads,(`bsT),(`bsU),o2 `bsV `bsW o8,(`bsX),o2 `cG `bsY m8,(`bsZ),Z8 `DE `bs_,(`bs0),(`g 1000),gc `bs2,(`bs3),`rI `bs4,o2 `aJ `go V9,(`bs5),(`bs6),o2 `bs7 `bs8 m8,(`bs9),(oA `mU T3),o2 `bs' `bs! o8,(`bs?),o2 `nM `bta ixD,(`btb),z7 `btc `e4,(`btd),yk0 `bte,(`btf),K9 2 [1,4,5] (jz0 `mU) (ak0 0 1) noT `btg,(`bth),oA `aB6 ss0,(`btj),Z8 (gN 6) `btk,(`btl),(o2 `DD `hO eqD),`fu `adt,(`bto),`rI `n_,(`btq),o2 `aB9 `g0 eqD,(`bts),o2 `aB7 `aB8 m8,ua0 `adp `btt Wl0,(`btu),(`btv),`DG 53 v8,(`bty),z7 `aB3 `btz,(`btA),oA `adv xr0,
(`btC),o2 `re `adw eqD,(`btE),(wz0 1 `Oj),o2 `Oj `ak (ve0 `d),(`btH),pq0 `DH `btI,(`btJ),o2 `aJ `c5 ltD,(`btL),unG O2 `hO,(`btN),o2 `btO `aJ V9,(`btP),`mT `btQ,(`btR),`DI `aJ,(`btT),(o2 `aJ `kN pl0),oA `e4 xh0,(`btW),(o2 `ak `Oj p20),o2 `aCa `btY zb0,(`btZ),`w6 `bt_,(`bt0),o2 `bt1 `hO m8,(`bt2),`w6 (oA `n9 v90),(`bt4),`mS `bt5,(`bt6),o2 `aJ `iX o8,(`bt8),z7 `bt9 v8,(`bt'),U7 `bt!,(`bt?),`A2 `iX,(`bub),oA `e4 pp0,(`bud),U40 `bue,(`buf),K9 1 [] (ku0 `aJ) `dD noT `aCb,(`buh),(o2 `ak `aJ p20),o2 `aCa `buj zb0,(`buk),`DI `bul,(`bum),z7 `bun v8,(`buo),oA `bup U0,(`buq),(`DI `B0),`mS `bus,(`but),z7 `buu v8,(`buv),oA `buw U0,(`bux),o2 `buy (oA `n9 P0) mn0,(`buz),oA `aCe T3,(`buB),`w6 `buC,oA `aCf `aCg,(`buD),(`buE),o2 `buF `buG m8,(`buH),oA `adv P0,(`buJ),wh0 isStr `ak,(`buL),oA (z7 `ak `mU) xn0,(`buN),`uN `aCi,(`buP),oA `adr z60,(`buR),`w6 `buS,(`buT),o2 `buU `g0 m8,(`buV),z7 `buW v8,(`buX),oA `buY U0,oA `adr zk0,(`buZ),(`bu_),o2 `bu0 `bu1 mn0,(`bu2),oA `adx zo0,(`bu4),z7 `bu5 v8,(`bu6),oA `bu7 U0,(`bu8),z7 `pk `aCj,(`bu'),yk0 `bu!,(`bu?),z7 `bva v8,(`bvb),U7 `bvc,(`bvd),ut0 `ads,(`bvf),`A3 `bvg,(`bvh),z7 `aT `mU,(`bvj),z7 `oP `bvk,(`bvl),z7 `aJ `bvm,(`bvn),oA `bvo zl0,(`bvp),m70 `bvq,(`bvr),wh0 isStr `oP,(`bvt),oA `mU xh0,(`bvv),z7 `oP `d9,(`bvx),oA `bvy zi0,(`bvz),oA `d9 xh0,(`bvB),ut0 `bvC,(`bvD),`uN `aCo,(`bvF),z7 `bvG v8,(`bvH),oA `bvI J3,(`bvJ),z7 `bvK v8,(`bvL),oA `bvM pp0,(`bvN),(`u `Ys),(`u "end"),`Ok `aCu,(`bvR),ob `aCt,ob `bvS,(`bvT),(`bvU),`w6 `aCv,(`bvX),`w6 `bvY,(`bvZ),vy0 0 `aZ `lL `c5,(`bv0),`Ol `IV,(`bv2),(`Ol `Jr),`Ol `adA,(`bv5),`u `u?,(`bv7),z7 `aCw `aCx,(`bv9),U7 `bv',(`bv!),oA `e4 wt0,(`bwa),`eg `pk `Om,(`bwc),yk0 `bwd,(`bwe),`dV `d9 J7,(`bwg),gc (`awv),(`bwi),oA `adB T3,(`bwk),o2 `nM `bwl V9,(`bwm),oA `d9 n90,(`bwo),z7 `ak `adB,(`bwq),oA `bwr vf0,(`bws),Z8 `cL `bwt,(`bwu),z7 `aCB v8,(`bww),z7 `adD `bwx,(`bwy),`adE `bwz,(`bwA),ob `bwB,(`bwC),zp0 `bwD,(`bwE),vy0 0 `aZ `pl `aCB,(`bwG),z7 `aCi v8,(`bwI),z7 `aCE `bwJ,(`bwK),oA `bwL K1,(`bwM),`Ok `aCw,
(`bwO),`dV v8 O4,(`bwQ),`dV `d9 W6,(`bwS),Z3 `bwT,(`bwU),(`s `awo),(`bwW:Nat),(`bwX:Int),k<`bwY,(`bwZ),`ap `bw_,(`bw0),`c `bw1,`aCG hn,(`bw3),js0 `bw4 rfl,S6 rfl,(`bw6),V3 `bw7,([`sn,`sn]:Ds).set,`bw9 1 (.ow `iR),(`bw'),gN 0 d `bw!,`bw?=`c `adI,show (37:Int)≠0 by decide,(`bxb),by let#[c,_,rfl]:=`de hq;exact `fg,`u!*`rf,(`ad (i+d))*`rf,N/36+`d5/36,(`bxg),`ap ((35:Int)<`d5),(`bxi),`fC `bxj,(`bxk),`c `bxl,bk k cs `m m `bn,(`bxn),z9 p `bxo,`auc `fm,(`s `bxq),(`bxr:Int),`b3 `bxs,(`bxt),`c `bxu,(`ap (Z5 w=Z5 v)),`fC `bxw,(`bxx),`c `bxy,`o `adL _ `f,(`s (`bB n _)),`c9 [`lH],(20:Int),`DK (`rv=60),(`bxE),[`ck,`iC,.un],J0 `bxG,by rw[cm,`adM],(`bxI),`DK `acd,(`bxK),`bz `aCL,[`bxM,`iC,`ux],`DK (N=0),(`bxO),(mi0 p S _),`aL `abS `Xd `bxQ,(by rw[`bxR]),`ap (`fJ),(`bxT),`fC `bxU,(`bxV),`c `bxW,`w8 `aCO _,G6 `lR h,(`bxZ),V3 `bx_,#[[`sT,`es,`Y_],?_,rfl],λp=>`bx1,(`o5 : Str)=Z5 `cM,`DK (`uG=0),(`bx4),`ap ((8:Int)<`uG),(`bx6),`fC `bx7,(`bx8),`c `bx9,`DK (`AK=60),(`bx!),ob `adC `pm,`bya=`bY,((`DL).map `r2),(`AK<=`b9),`ap `byd,(`bye),`fC `byf,(`byg),`c `byh,`aL `Oo `dJ `adO,(by rw[`byj]),by apply `byk;rfl,(`byl),(`AK - 1 - `b9),`b3 `byn,(`byo),`c `byp,gv 2 [`sz,`eO,`Xi],`bX `adP,nr0 S k u hu q hq hh,`byr=`c `jR,(`bys),(`byt),`o (`d=`d) (Q8 _ _) _,(`byx),`w8 `byy _,`ap (c%2=0),(`byA),`fC `byB,(`byC),`c `byD,(100000:Nat),((`s `AJ):Nat),(`byG:Int),`b3 `byH,(`byI),`c `byJ,sr0 (items:=`AJ) rfl e,(`byL),λs hs=>h3 s (D6 _ hs),(`bP `iK),(`aCS).mpr,(`aCS).mp,`byQ z,(`byR),h `byS,`c (`b3 _),`adQ - `v4,(`byV),[`y,`j6],[`aw3,`j6],o++`vd `y,(`byZ),`v5 `by_ (`rx),`vd `aw4,o++`by1,(`by2),`v5 `by3 (`awx),`sU J (0<`ec),#[`by5,ht],`n `by6,(`by7),#[`Op,?_,rfl],λp=>`by9,(`ap (`b9%2=0)),`fC `by!,(`by?),`c `bza,#[B,T,[],`R B T],(`p #[z,rfl]),.val `bzd h,J.length+(`aw'+1),(`Oq).drop,`bzg `fx,(`f9 (`aCZ `n!)).map,`bzi `r2,(`Or (`aC_ `n!)).map,`bzk pr,[`vG]++`jg,(`bzm),`i0++`bzn,(`M8 (`cF z)),`bzp `v,`o `aC3 _ _,#[#[z.1,z.2.1],z.2.2],#[z.1.1,z.1.2,z.2],λz=>`bzs,λz=>`bzt,`Dp (`Yu<_) d0 z1,(`bzw),A.un.trans,
(by rw[A.wt,hw,`Z,`d2,pe0 s1]),`k `aC4 `adT,`g6 deq,(`bzB),`o `Ov `aC6 `f,(`bzD),#[hx.ln,hy.ln],`sS `ac? [ae],(`bzG),`c `bzH,(`bzI),`c (`bx c0 np),(`bzK),ob `aC8,(`bzM),`dV `d9 b8,(`bzO),Q8 `bzP,(`bzQ),ba0 0 `aZ `sW `cG,(`bzS),`dV v8 J8,(`bzU),Z3 `bzV,(`bzW),t60 1 `aZ o4 `n9 yl0,(`bzY),`DG 127 v8,(`bz_),`DG 32 `bz0,(`bz1),`DG 97 `bz2,(o2 `ak `iX m8),(`bz3),z7 `bz4 `bz5,(o2 `ak `iP m8),(`bz6),z7 `bz7 `bz8,(`mT `ak),(`bz9),z7 `bz' `bz!,(`bz?),z7 `aCF `bAa,(`bAb),z7 `Og `bAc,(`bAd),z7 `g0 `bAe,(`bAf),z7 `hO `bAg,(`bAh),z7 `c5 `bAi,(`bAj),`DG 129 `bAk,(`bAl),z7 `iX `bAm,(`bAn),z7 `adt `bAo,(`bAp),o2 `Ox `aC! o8,(`bAr),U7 `aCj,(`bAt),o2 `aC? `aT ixD,(`bAv),o2 `Ox `aC! j4,z7 `bAw v8,(`bAx),(`bAy),z7 `bAz `bAA,(`bAB),oA `bAC u60,(`bAD),(o2 `go `iP ltD),`mS `aT,(`bAG),gc (`g 15),(`bAI),`MH `bAJ,(`bAK),o2 (gv 6) `aT f50,(`bAM),K3 `aT Q9 (`fu `hg),(`bAO),(`g 16),gc `bAQ,(`bAR),o2 `go `bAS j4,gc (`g 9),(`bAT),(`bAU),o2 `adV `Oi m8,(`bAX),o2 `ak `bAY j4,(`bAZ),.ex `fv `adX `pb,`Ns `Bk `adY,(`bA1),`c (RXB.ok `W!),match `bA2 with|`mM=>`bA3|`mN=>`mN|_=>`f,(`bA4),.ex `fv `acz `adZ,(`bA6),`mk `Bk,`c (DX.ok d),match `acA with|`DP=>`bA9|`aDe=>`ad_|_=>`f,(`bA'),`o `aDf `bA! `f,(`bA?),show`aDf from rfl,(`bBb),[`sX x,`rx,.un],z7 `aJ v8 `bBd,`bBe=`c [x],(zs (`mX n)).map,`bBg `g,(`bBh),`t `bBi,(GE.end' hw).2 k q hk,((zs m').map `g),((`s `ad0):Nat),(`bBm:Int),(`cH `d2),(`ap (`bv=`ad1)),`fC `bBp,(`bBq),`c `bBr,#[0,0,0,0],T.c_MOST_WORD_SIGNS,li0 (w50 `DQ) `aO,(`bBv),(w50 (v5 j9 `DQ)),f80 T.c_NAME_SIGNS,(`bBy),`ad5 `fK,(`bBA),C__law_next,(pab 0 u5),(`ad8:`i).Nodup,(`bb:`bBE),m5 0 `bBF,(Q7 (d9 `bi v7)),Z0 (Y5 `mY v7) v7,(`bBI),oz0 0 v7 `qI,(`bBK),p00 0 `sY `qI,(`bBM),pd0 0 C_Reader_whole hr `v,(`bBO),K8 0 `xb hr `v `eT,(`bBQ),T7 `bBR,(`bBS),`af `auM,`Yf `uZ fa,`Z2 X.K `ae `ab H σ δ i j dp,∀H',`Z2 X.K `ae `ab H' σ δ' i j dp->`gc σ H',CoeFun,(`bdt),(`bdu),(`bdv),C5 X9 G9 a9,F9.binds,w.openOk,`n' `I1,`iG H1 a' sub,it.go i Hi gr hlt,`aaL Hh δn,λx H' y=>?_,G δ=`dR,excClassObj,
(hb s us `gj hl),`b_::`aAm,λz=>`G b (z q.1),`awc/\SubOk `cB X.w H `aA a p.1 p.2,tail_of_in X ht,(`eb p),(`bgI),`ct (`LW ok),`ct (`LW r),as[j]?=`jU,ys[j]?=`eP,.BinOp,(`bhO),`hV X.K Hh `ab H σ δi,(`mC/\`o3),`c (Classical.choose h.2),(`biV),(by apply `auk;rfl),(`bf0),(`bgJ),"_law_base","_law_long","_law_names_here","_law_code",DGet H2 a y o,λb z=>#[z.1,?_],`ko[k]?=`dt,`blF<f,pre `oQ++zs l,(`bP `acp),(`bV b `O),(`bdH),`kf H' `awd,`t (`BC++[`u f]),(`bkv),`c (`azI),`b2 a _ hq,Moved (C::wr) G s s',`ayE C=`ayF,(`ex).bind,`X `j2,`LM (t':=`YC) (λb u e=>`rd) `bF ?_,o2 (`Ny `C6) MOD o8 δ=`Nz,(`bcy),`I6 `auK,(λi ds z=>uh0 z),F.plainAttrs_str,(`bh3),(`bh4),`Co=`bO/\Q v H,(`MW).getD,(`ba0),`t (`oK),(`bd_),q _ I.fresh,(`bmv),`axc `_W,OwnTail h bmV tl,`Mt H' a sub,`gl/4<`rv,link (`_O `gl),(`M8 (`cF hj)),(fe 4 _ h5),x=.bl c,(`bjA),swappedStores,(`bcJ),(`bd0),sliceRange,wpAny_loadPart,(`bij),`c (.val `ayW),(`blo),(`avv).imp,knd.keeps,call_list_seq,(`bg2),(`Cn `aa4),(Qs0 d).bind,(unL l).bind,(Vm0 p.1).bind,#[N++M,by rw[hM,hN,`bg]],A7.mpr,(`bhV),(E3 _ `v),.FunctionDef,(`bdG),(`bdJ),`_L [o,i] (`oO o i),SqL `Cq H a `Bt,`t (`Jq `u++[`u f]),(`bmt),((p,w)::`YG),(λw hw=>tr0 rx fx r fs w `au1),(`iV `cb ?_)]
def Z:="f'LzxQje9Spc4qZGtXWR4VcKHI8AXIMBec7H6x?zg3!qh?B!7pr78_Skb6CPWtJ?6XaOCYkkbRQrbfqJpiH6KhD9gwiubXGfwecbXe2'NmOjshb08wFj8JNlCeIGr4EPZKuldcNmz!Z'iZfjdvgL9ygEtKecw?R?AbWjeeC!y47iEd_EjM5qWt8VEWFkPHpVY2cZnziewSkvbSsw6ac593yG9jyXix12HIh?FX5j2pP19cXAtzlRxx8f7H'RSiORtx'5s5DAlnhUuNg_uGqcKrx13Ln8P2fybLfyeg3NzdidXTOJLPUKcTr4w7K9h9Vf4u?RSA7mGDhK21LbSp!F5gREKBgAmUrviOqLMI!rgG6h3iZowTbY5Ti20OGr8ny!NgYbIGd1jUOeg1Eq2xxk9NLa1ZSWI6PSSEa9sodDYV4G!klBnP1WJyuakhWFn1S_1M?bb2kaG3mAANazIxu24XXwSj?a5Vdi!zDchs4'auHsjFbdbur4QP5RlzhPJSujTZ!MulLhvxE!q1QGj'8UFHcM_1PgVRak0VYR'YcWgn06AjaQCiNJYyx0mWAsaIaLVELW3bZle39tRatmAtiOF8VBoJuO3j5X1FML0zsUcxDR9OIKw'faigk9wVQpk9jYw5OL7GyCylNoBzEqNmn6fcg!Afq4q_SgR1ABURNZx4j0UWxLiQ1xxjRSx!hs3JsBj3bmRnQHBaIk'HcQGPBcFDeNa63QEzz?5lf2I!z3AhSfc_bWroLO184kchK5fQNgezhlRX031y!2JlQzM1pdXh8Ahnz_2ScygsXgH8kRsmW_VnhtuUmdN'CWyiiGr6O4jV99fYEX2PIZQ'JhXBey_lJy2sf6E9fOw5G19f6XaTEFVYq9d2WyDoo?ykOi4ZK0bMlZ4kiFL?Y97haEybCKK!bdyBCkbNhx3jxJHG4g1GOEATeK8hcziK01E3dM3ldHuJcB5XoMgcfAGaPTv?Xkh_?PPqFuVWgIJ__M4mk4jdS_r2QsKxWkc3b15QrY'FHgHq1o2N9Y5akUzHj?hxwephsd5zqcxO4Vjv0dYPOxzDPcLL7U00?tVlhr?La1!vvYxbByVZ9QaEEPjWN?cg7q9hFk380jMJgSktlGVB2O9V658fFGQabczlR'ekgKMrzJ3APd4JYZavhjKfhBJm5W5EO2bbe?dPbH!0V8kdHNRMCMzAScaHGUGmic85jBpfelRbOaLj3ERaoyuT9ze5f1G_0ZPr7a2i0xb7_rUwfWmx8KK824Niyrs26'zomMaKoPkKb82p3fRRWPXc5kL!eyoE'FOxNeVbgLVd8iwIq5cnlYxUtBQFDf6CBjznHqS3akZGokJGv7vh4EvyMWZX'1kxo6Pk_ZltJkhufubcqF1BfwE9nA2JQLBk3idgkQ3pAXk6FsEbOvW1ChrDFuPI!irMa5ni8wjancLfJPQx5r_IcrhWTK5vw8ARIdSvFUem119Cgz2smSodm9?jGzmZgxFWXLkxWnxeaTJmSd7leZFxzfbre!SxjuZWKKsjTUIIlMEkOZd4pIMnk65gQeye3vCZyJO?g6SxI5o9yjSgk3dSoWyBNMgq8iQwWoLRgbrSFXc!2A'mj_iekzJ1E8tfkVxzc28Z'WgT3dPLr!wFNgUC35MDU'GuhiU8sBQ8puXc4Mp'fbnK3mfQD3OcWHQQBlaB2AODHV?GcRGPXdUovxYfnvrzpIkhMIczaRGmJE50!e6EZPG7rAhObLJXpjyi!WilRQVG2hA_pAcELyWEzosiyaYgZ0joM4!ukSPlOrGul0ohQ?OWUIejvRkhILRpMTpwdeK5wLV6QBOfaY0cJ5t4HkqapyRCnbkvXLj2Kgbl2laT9h7wvKvFjmXUgKyT3xuAM95ja47e1'w7X1j!NO5g1A8!3cA?e6qMcFhPfaARG?ASyYOgiEXSWZZjynhBRxKv!1cOOj?dGeEK8GSQcmj2_undkWMco06VRm?ni2j6OXI_pofBIcMO3ulUct4ofqnrpzGY9LefoMTQ_fKxYNbFtDLuEolndkw_Hk5slyQTkU!F6x2T'Pxc7rvHXmaOdBeUusm44IJ2BlCTm0Wkbz9Pbl1ViZYMyCFiUiFg0jTi'!gK61rumyhFold!VPq_53?Gax_xLCo'tsrcI0wks'BLnTarYGn!7AcAjfIU8X6q4RGwdkbgA_kjS1hfzph'sHOU1KfJIUHL0tlbZdw3onk'?tqmbDDoum4h8mzgnKdbiKP0gIfqwtjO2wyYbf2VTjc0vwgmlK90aYb'mf0aEVU8?1hm15hagQKfO?'86iA1qXrp5DBtkg_y3dZtuF?aCF11xM!mPEgGKsiN5t'08d1I8YsapIgrjur5AKkeUkkk?KG7t3bCHpizgMB'MlL8udaEgdtacSfZhR4Vt6VrE8ZhLm2us2R'6'acj?O55xPmKcWYkIjrKmVihlUEJM7yQFXe!74BMH!ZHBhJ'TWHRlj!ubIWkH8rHymGi26ks4vFh!NbAweQa0ju!afJSMGHuNPJVaz'wfJtGdxyequ20Jb3EuykXM2xOWvQ!8eFueZdORVAEd_QTTddRyB3a6YJOjcRr_cb!YvOgfJaimi!fs50oHnh1chuO7TKeJbvai7xftPsB?lhJUZsofF7wHlnuCv!Sq5'9cH6rZBuZAjvdCkoj7e9zIeiowSbPu3CCaiGjn7xj'3WjbfA3b1QHyW!bNWKNoUFikwbS2Np5r222ih4L3DXoKRmDjB6zek!zbQ0eWV!xROpF0CaA5AdgMefeNbE'ka2j!Vg9ez7Fgods82kjFuvm0JVBSqc_DwE?Hdtgcb0xVpwdPi_GhmQVmDqDsUYhFYWX5Lti3IiwGKEKt9f02emFgAQRGtqpbmAgIMbigjMhFv'M60uDC2eRUbSlwc9KniWSNt4B8TDlfb5T2eZT6iuaj2ina4wQh!blL?cLEp0wmcw6XZt!kpwBg'WHxXNqCrOglLOUjEKCMkhN1Y7099Q9ofi_z!Gu?9Qsd1HMNeR82a6j18zF!_E_YqkBLxFv7y'Jdh7?m!_tFiZcfn?xPw_40E!ejFGWwys8mpilWTQYxPhVCg_q4CR!1msfhfAgqxYEIPca4S732LqSNLdELSQJHABSalDF8JQ9SuWNaJS2!OR9jr4cA!6vuleTbtfj1CEegx_q_hSF43WUgF!0d_SLQLAiiNbjs?2tQFqLVgcL5YoCriLDaht971Hk1L2ebio3vGySNR7g30TdpAZAiviUuGK2W1TJ4iebxpiNUIqOfxE6uIUA3BPaOeqIosVa7Tcy5tBemOoafhxAR1vsD764kpmLxzthNYOfxeZFLkYvErhCOBO0?Hbrve2eoh01qVR3krKgMojtzY5lcyv'tQ5sJpia39W2NltrRkOEs?G2iCsmaY6AMHm2fPQiLVM_8pj?zUgmNl?B9rB'hfTXAcEhsXkahl?lDo2DM7za'dx0b0A!yFa0EYt5aq42Mi8Ecnfi0xvUkxnnTvG6ds1j3su80NC5aIhCMFdk!wmSzjc_sWA9KAL?kMq'WkKbLBchutWiQZZIDrdkx!ROyp54kcWjiEl_hyePfbiwe0CCbtNeru5CN9U7g8dQWJuO?n_PkiGgKmgI9Sruf7dAsLB0mO9lcuLCTFQHTalu7xE3ZXnRNaUrE_NQ50!KjowZrLMYoILgwnqqseNrzCbK!kJ'wH7IRbAsTBChs7TLiVOo9igK8n3b8GMGPVfpEDdfvlPLc7cNghtSkORVPe0KbZV0l2c_Zr2k_m?KUnU'F_f!Dmkd?I'wAhoE5QyTVF_Ie7pLXXd_Nvth!gcRxeZfMJlohlLSQVAWBbCQoae?OMJPijHEDbG_ZmxjO!CPfYUS1PlRY8BpZihzFi6cBQIygaBMjRnm3kFruOcjcCU7wOxghbjEfKWxzYIPxlaJjChYZX0td72dO5EftXsi0wIGz?RDkuc'SW4O?cBdhfaHFR_47aWjiRNi9KQlZ?5koz'C?Y30jxaX3QlzGkI6Lb8kdAhfhNiacznXGAvP7ZUg8scrriDJsglQeHox2lwZTgSDPNSLfC1ggVt3fS6M3!9fne9wkRz1riksvE46fEl9nj56lQEZRz!XedPLp4_dWuQivQohwbNk6Ha0HJO06FvIAfn5ezD2ih0bbnI1WL446pTd?GszXJImHRkHnSlmQ0CjWibNrim67lvJfOLpnWJ_siiatwLvRJ5xljbBI61QeRcMpg2kbd7e0e7'cG_B0D_WP5vebBqHWmBYOyg16jj5Ex_pzkmR3kMzqUT6grbRi7HYVTvbIY8AJf9OaVbI6JJKw9xCKhp24ZeTMrVHbz?fn54xjKLceRqnUUrSwXcgX?dFSUCFHbIwS?8B0y3igHZ4vaGiaMxa4?2G5!k'jiasKdYtHivLObg79gtLY5SshA?5Nsus2MBlneE1ShouKrg8yHXAoN6gre?NL7U1'cCoc1xoYpT19fmj8zzW2CeDvfb7Ji9SlReo_a7dDkJZ7Dgbai83UHTHQdJjq8pjybrThvdCwXo9zONM4kkhXiVkNpI8bspcN5e_sS6bhcsdWaOZygd_hNN8l4sb'aX6IkeibzojcZYJdVTche_gf2PJ72vK1ac187U'cfSajfA4P'jMFHiBaGwmQETN1M?bV6ho!NciifhkZO'cXRlY9dZ7zuaI5b!!jRm?h?aDaZIkIs0ELV5R9zhC889lWgQtFe4WDWG6xAP_a?bgd1MK3Iabab3dIW2C0oh1n3gnCOUHmiKqU0rTE5IQdS!2u5ZUKa_d'LB4dv5ZQClqR1vSrPTb4jp8f5jAFoIsfc3UKxzF3!3hm5vvBFOZCGflFTlcsUyWvdfuOC9wdu62d?p2c_aj!BTgZaCwOu1ZiPa'uZJiYI9PacktNOBW!eK0j4_!fwHEO1LfXjsT38?yuXgX9gs3NQR3biXSTUfe7RuveAdhf6RXvp3hN7fYhJBh?TiEu9ag0lY_Je85dpHzNtGugPmigJ!Uq0yh1NaWct2z8_bFOm4?cLn?_dtFd34anvDKfISrwFd8B04fx__NPBv6VwhJsqUfl8vbdj!baRjRpfGsiO4IZfbg8CPknWoNMFGCayabcLPeelPivi6E5UtCe7cff9Ply5tdq0gbqp'INLJAId"
def k4{k:Nat}(h:k<4):k=0∨k=1∨k=2∨k=3:=`F
def bdS{α β:Type}{o:`OD}{f:`aDk}{r:β}(h:`aDl):`aDm:=by
 cases o with
 | none=>cases h
 | some a=>exact`aDn
noncomputable section
open PySem
def A0:=@PySem.wpAny_bind
def A1:=@PySem.wpAny_pure
def A2:=@Nat.le_refl
def A3:=@Option.some.inj
def A4:=@List.mem_cons_self
def A5:=@List.mem_cons_of_mem
def A6:=@List.mem_cons
def A7:=@List.mem_map
def A8:=@PySem.Heap.lt_size
def A9:=@PySem.Heap.get?_push_of_some
def B0:=@List.mem_append
def B4:=@Ne.symm
def B5:=@Nat.zero_le
def B6:=@Nat.ne_of_lt
def B7:=@Bool.false_ne_true
def B8:=@Nat.lt_of_lt_of_le
def B9:=@List.getElem?_eq_some_iff
def C0:=@Nat.le_trans
def C1:=@List.getElem?_eq_getElem
def C4:=@List.mem_range
def C5:=@PySem.W.mg_of
def C6:=@PySem.Heap.get?_push_size
def C7:=@congrArg
def C8:=@List.mem_of_getElem?
def C9:=@List.mem_replicate
def D0:=@PySem.wpAny_mono
def D3:=@Nat.ne_of_gt
def D4:=@List.mem_append_right
def D5:=@PySem.wpAny_holding
def D6:=@List.mem_append_left
def D7:=@PySem.wpAny_field
def D8:=@decide_eq_decide
def D9:=@Nat.lt_irrefl
def E1:=@List.nodup_cons
def E2:=@PySem.Heap.get?_update_self
def E3:=@Int.emod_nonneg
def E4:=@PySem.W.mg_none_of
def E5:=@PySem.wpAny_loadPart_at
def E6:=@PySem.wpAny_specialOf
def E7:=@Decidable.byContradiction
def E8:=@beq_eq_false_iff_ne
def E9:=@PySem.wpAny_truthy_bool
def G0:=@beq_iff_eq
def H0:=@Nat.le_of_eq
def K0:=@PySem.codeAny_mono
def K2:=@PySem.wpAny_Call_Name_kw
def L3:=@PySem.mem_of_lookup
def L4:=@PySem.Heap.get?_update_other
def L5:=@PySem.W.kia_one
def L6:=@List.mem_iff_getElem?
def L7:=@List.mem_singleton
def L8:=@Int.emod_lt_of_pos
def L9:=@Nat.not_lt_zero
def M0:=@PySem.PassesOwn.never
def M1:=@List.mem_filter
def N3:=@PySem.wpAny_newObj_type
def N4:=@Nat.lt_trans
def N9:=@List.nodup_iff_pairwise_ne
def O0:=@List.mem_flatten
def P1:=@PySem.wpAny_typeOf
def P2:=@PySem.wpAny_call
def P3:=@PySem.wpAny_call_entry
def P4:=@Nat.le_of_lt
def P5:=@PySem.wpAny_passesOwn
def P6:=@PyProof.Rows.callWith_type1
def P7:=@PySem.Calls.spliced_cons
def P8:=@Nat.lt_of_le_of_lt
def Q1:=@PySem.F.plainAttrs_list
def Q2:=@List.map_congr_left
def R1:=@List.cons.inj
def S4:=@List.nodup_nil
def T0:=@PySem.F.excBase_ValueError
def U1:=@PySem.wpAny_setField
def U2:=@PySem.Obj.data_mapFields
def W1:=@PySem.codeAny_builtin
def X0:=@decide_eq_true
def X1:=@decide_eq_false
def X2:=@PySem.wpAny_standAt
def Y1:=@Nat.lt_succ_self
def Y2:=@PySem.Calls.spliced_nil
def Y3:=@PyProof.Rows.slot_tuple_getitem
def b4:=@PySem.typeIs_str
def b5:=@PySem.call_meets
def b6:=@PySem.boot_len
def c5:=@Array.getElem?_eq_getElem
def c6:=@PySem.Heap.get?_none_of_le
def c9:=@PySem.codeAny_call_builtin
def d4:=@PySem.Obj.isFreed_of_fields
def d5:=@PySem.wpAny_rule
def d6:=@PySem.W.methodCall_KW
def i3:=@PySem.wpAny_callSpecial?_slot
def i4:=@PySem.typeIs_int
def i5:=@PySem.Heap.SameBut.update
def i6:=@PySem.wpAny_updateSeq
def i7:=@List.length_eq_zero_iff
def i8:=@PySem.plainId_quiet
def i9:=@Nat.le_add_right
def j0:=@List.mem_map_of_mem
def j3:=@Prod.mk.inj
def k6:=@List.length_pos_iff
def k7:=@List.getElem_mem
def k8:=@List.pairwise_map
def k9:=@List.mem_flatMap
def l4:=@List.any_eq_true
def l5:=@List.nodup_append
def l6:=@Nat.le_succ
def l7:=@PySem.F.slot_NoneType_hash
def l9:=@PySem.F.slot_tuple_hash
def m4:=@List.ext_getElem
def n5:=@of_decide_eq_true
def n9:=@PySem.SeqAt.EqAt.same
def o0:=@PySem.SeqAt.EqAt.int_str
def o3:=@PySem.SeqAt.EqAt.str_int
def r8:=@PySem.wpAny_seqItems
def r9:=@List.getElem?_eq_none_iff
def t5:=@PySem.W.callWith_K
def t9:=@PySem.concat_meets
def u4:=@Option.map_eq_some_iff
def u7:=@PySem.wpAny_point
def u8:=@PySem.tupleKind_room_in1
def v0:=@PySem.F.slot_zip_next
def v3:=@PySem.F.plain_extend_loop
def w8:=@Classical.choose_spec
def x0:=@List.not_mem_nil
def x3:=@List.all_eq_true
def x4:=@List.mem_of_mem_take
def x5:=@List.mem_of_mem_drop
def x6:=@PySem.wpAny_isSubtype_exc
def x8:=@PySem.Code.quiet_builtin
def x9:=@PySem.F.typeOf_object_class
def y0:=@PySem.wpAny_pyHash_int
def y4:=@PySem.wpAny_pyHash_str
def y6:=@PySem.wpAny_forIn_list
def y8:=@PySem.SeqAt.EqAt.none_int
def y9:=@PySem.SeqAt.EqAt.none_str
def A00:=@PySem.SeqAt.EqAt.int_none
def A10:=@PySem.SeqAt.EqAt.int_int
def A20:=@PySem.SeqAt.EqAt.str_none
def A30:=@PySem.SeqAt.EqAt.str_str
def A40:=@PySem.SeqAt.RcAt.tuples
def A50:=@PySem.wpAny_isInstance
def A60:=@List.getElem_inj
def A80:=@PySem.wpAny_execs_nil
def A90:=@PySem.W.plainGet_of
def Aa0:=@PySem.Heap.size_push
def Ab0:=@PySem.W.callWith_K0
def Ac0:=@List.of_mem_zip
def Ad0:=@PySem.noFill_tuple_add
def Ae0:=@PySem.seq_tuple_add
def Af0:=@PySem.F.slot_tuple_add
def Ag0:=@PySem.F.entry_tuple_add
def Ah0:=@PySem.F.args_tuple_add_2
def Ai0:=@PySem.wpAny_sequenceKey
def Ak0:=@PySem.slot_list_getitem
def Al0:=@PySem.Calls.callWith_builtin
def Am0:=@PySem.Calls.evalArgs_plain
def An0:=@Nat.le_of_not_lt
def Ap0:=@PySem.wpAny_loadPart'
def Aq0:=@PySem.F.slot_list_append
def Ar0:=@PySem.F.type_list_append
def As0:=@PySem.wpAny_nextOf_list_item
def Au0:=@List.mem_iff_getElem
def Av0:=@List.Pairwise.imp_of_mem
def Aw0:=@List.nodup_range
def Ax0:=@List.isPrefixOf_iff_prefix
def Ay0:=@List.length_range
def B90:=@PySem.wpAny_callSpecialIfBoundUnlessNone?_slot
def Bc0:=@List.getD_eq_getElem?_getD
def Bl0:=@PySem.Calls.Name_function_global
def Bv0:=@PySem.plainObj_wpAny_Assign_Attribute
def Bx0:=@PyProof.Rows.callWith_builtin1
def By0:=@Nat.min_le_right
def C80:=@PySem.wpAny_getItem_list_slice
def Ch0:=@PySem.wpAny_comprehension_free
def Ck0:=@Bool.eq_false_iff
def Cq0:=@PySem.F.slot_list_extend
def Cr0:=@PySem.F.type_list_extend
def Cs0:=@PySem.F.slot_list_pop
def Ct0:=@PySem.F.type_list_pop
def Cu0:=@PySem.SeqAt.ne_of_list_tuple
def Cw0:=@PySem.SeqAt.RcAt.lists_lengths
def Cy0:=@Nat.lt_succ_of_lt
def D40:=@Array.getElem?_eq_none
def D90:=@PySem.F.slot_int_mul
def Dc0:=@List.contains_iff_mem
def Df0:=@PySem.F.slot_dict_setdefault
def Dg0:=@List.getElem?_set_self
def Dh0:=@List.ext_getElem?
def Dj0:=@List.length_pos_of_mem
def Do0:=@List.length_drop
def Dp0:=@List.append_eq_nil_iff
set_option Elab.async false
set_option linter.all false
set_option maxRecDepth 100000
namespace XC
def vv0:`i:=[`LA, `po, `aDo]
variable{b o e tg iter value elt ke ve:`J}{prog:`ai}{A:`cf}{E Q:`an}{a it dx fa I z i1 i2 l1 l2 L rr:`e}{n i m t' j k1 k2 x1:Nat}{y root x name c qual x2 cn:Str}{v u doc pm cdv ct oc vl vu:`B}{mg mA:`a3}{cs rs N ps nm loose N' pool T':`i}{rest suite:`cg}{od an:`bq}{tk:Tok}{K:`z}{h' base:`D}{l:`M}{vs us:`K}{α β κ:Type}{pins:`au}{ch fp as as':`aX}{s':`w}{pos pos' tpos apos p2 cpos py spos px pos2 np pc hp tp p0:Pos}{ys:`a5}{es ifs elts:`bQ}{lo:`aP}{expr:`I}{kw:`sj}{fd:`e5}{sc scope:`cT}{XP:`DT}{YP:`DU}{caps idx:`h}{oa:Obj}{b₀:`a1}
abbrev bmV:`K:=[`aea,`bM "Exception",`auI,`aeb]
inductive Row (h:`D):`aDp
 | end:Row h bmV
 | own {C:`e} {cls:`B} {dd:`bq} {cd:ClassData} {sl:`kP} {m:`a3} {tl:`K} :
   `fZ C=`aDq cls `Zo->h.Ns cd.ns m->(∀n∈vv0,m n=`f)->`aec->`aDr
structure Cl(h:`D)(C:`e)(tl:`K):Prop where
 obj:∃(nm q:Str) (N:`e) (bs:`K) (hdct:`I) (sn:`i) (sub:`K) (ab:`I) (col:`qL) (dd:`bq) (k0 k1 k2 k3 k5:`gF) (newId:`cq),
  `axc newId
 row:`aDr
def Row.has{h:`D}{tl:`K}(r:`aec){T:`cq}{b:`I}(hb:`aDs):`ay1 `oB=b:=by
 induction r with
 | «end»=>exact hb
 | own _ _ _ _ ih=>rw[`aed,ih];rfl
section
variable{w:`Q}{h:`D}{g:`kw}{d:`pp}{t:Nat}{os:`xc}{C:`e}{o:Obj}{tl:`K}
def Row.along{M:`e6}{n:Str}{y:`gF}{Q:`sZ}(hn:n∈vv0)(hy:`aDt)(hq:Q y `ed)(r:`aec):`DV (`axb tl n):=by
 induction r with
 | «end»=>rw[hy];exact A1 hq
 | own h1 h2 h3 _ ih =>
  rw[`aDu];apply `h8 wpAny_classOwn_cls h1 h2;rw[h3 n hn];exact ih
def Cl.look{M:`e6}{n:Str}{y:`gF}{Q:`sZ}(c:`jh)(hn:n∈vv0)(hy:`ms (`aea) n=`ct y)(hq:Q y `ed):`DV (`ms `bo n):=by
 skip;let#[nm,q,N,bs,U,sn,sub,ab,Y,dd,k0,k1,k2,k3,k5,O,hC]:=c.obj;have J:`aDt:=by
  rw[`aee,F.excBase_ValueError.mroIs] at hy;exact hy
 done;rw[`aee];exact A0 (`aDv hC (c.row.along hn J hq))
def Cl.sub{M:`e6}{Q:`aef}(c:`jh)(hq:Q (`v9 v) `ed):`DV (`aeg `bo v):=by
 skip;let#[nm,q,N,bs,O,sn,sub,ab,U,dd,k0,k1,k2,k3,k5,J,hC]:=c.obj;done;exact x6 hC hq
theorem Cl.hasT(c:`jh){T:`cq}{b:`I}(hb:`aDs):`v9 `oB=b:=c.row.has hb
theorem n2:(`po : Str)∈vv0:=`aDw
theorem n3:(`aDo : Str)∈vv0:=.tail _ (`aDw)
def S50{M:`e6}{Q:`dW}(c:`jh)(hx:`vj)(hc:`l2=`eM)(hq:`aDx):`DV (`DW `BZ #[[`bZ,v],[]]):=by
 have k1:builtinKind `BZ=`c .slot:=`bb
 have k2:splitId `BZ=`c (`awI, `po):=`bb
 have k3:`aDy:=`aDz;have k4:=F.args_bexc_ga `cu v;simp only[`DW,k1,k2];refine `rz;unfold isInstance
 repeat (first|apply `aeh|(apply `sM `aei k3)|wp_step)
 exact hq
universe zz
section
variable{w:`Q}{s:`w}{C W:`e}{o:Obj}{tl tw:`K}
def Yl0{h:`D}{g:`kw}{d:`pp}{t:Nat}{os:`xc}{M:`e6}{Q:`aef}(c:`jh)(cw:Cl h W tw)(hx:`vj)(hc:`l2=`eM)
  (hq:Q (`aDA) `ed):`DV (excMatches `cu `B?):=by
 skip;let#[a3,qW,NW,a5,U,a8,Z,a4,Y,a2,b1,a1,a6,b0,a7,J,O]:=cw.obj;have hB:`OE (`gJ W::tw) `Lz:=cw.hasT `cZ;have f:=tc_notTuple;done;unfold excMatches
 repeat (first|apply `aeh|apply `iU (E5 O ?_)|(apply `sM (cw.sub ?_) hB)|apply `iU `aei|wp_step)
 cases hb:`aDA<;>(rw[hb] at hq;wp_walk;exact hq)
universe zz
universe XC
variable{b o e tg iter value elt ke ve:`J}{prog:`ai}{A:`cf}{E Q:`an}{a it dx fa I z i1 i2 l1 l2 L rr:`e}{n i m t' j k1 k2 x1:Nat}{y root x name c qual x2 cn:Str}{v u doc pm cdv ct oc vl vu:`B}{mg mA:`a3}{cs rs N ps nm loose N' pool T':`i}{rest suite:`cg}{od an:`bq}{tk:Tok}{K:`z}{h' base:`D}{l:`M}{vs us:`K}{α β κ:Type}{pins:`au}{ch fp as as':`aX}{s':`w}{pos pos' tpos apos p2 cpos py spos px pos2 np pc hp tp p0:Pos}{ys:`a5}{es ifs elts:`bQ}{lo:`aP}{expr:`I}{kw:`sj}{fd:`e5}{sc scope:`cT}{XP:`DT}{YP:`DU}{caps idx:`h}{oa:Obj}{b₀:`a1}
namespace XC
open PySem.W
def Wz0(K:`cU):`K->`I
 | []=>`m
 | v::r=>(v::r)==bmV||match v with
  | `X A=>(match `bW A with
   | `c #[_,_,`Zo,_]=>`axf&&vv0.all (λn=>nsIn K cd.ns n==`gZ)&&Wz0 K r
   | _=>`m)
  | _=>`m
theorem Rf0{K:`cU}{h:`D}(X:`hi):∀{l:`K},Wz0 K l=`d->Row h l
 | [],e=>by cases e
 | v::r,e=>by
  unfold Wz0 at e;rcases Bool.or_eq_true_iff.mp e with q|q
  ·rw[`OF q]
   exact .end
  ·split at q
   ·split at q
    ·rename_i ho
     simp only[`bd,`kQ,`vI] at q;exact .own (`aej) (.of_isNs (`avF X q.1.1)) (λn hn=>`aDB X q.1.1 (q.1.2 n hn)) (Rf0 X q.2)
    ·cases q
   ·cases q
def clB(K:`cU)(C:`e)(tl:`K):`I:=match `bW C with
 | `aek=>(match `ael with
  | [_,_,_,_,`c (`cn _),_]=>`axe&&!cd.hasDel&&Wz0 K (`_t)
  | _=>`m)
 | _=>`m
open T in
def N70{K:`cU}{h:`D}{C:`e}{tl:`K}(X:`hi)(e:clB K C tl=`d):`jh:=by
 unfold clB at e;split at e
 ·apply `aem
  split at e
  ·apply `aen
   apply `aeo;let#[#[hm,J],hr]:=e;let#[nm,bs,mro,ns,qn,hd,sn,sub,ab,U,Y]:=cd;dsimp only at hm J;subst hm J;have O:sl=⟨k0,k1,k2,k3,`axd,k5⟩:=by
    let#[l]:=sl;simp only at hs;rw[hs]
   subst O;exact#[#[nm,qn,ns,bs,hd,sn,sub,ab,U,dd,k0,k1,k2,k3,k5,_,`aej],Rf0 X hr]
  ·cases e
 ·cases e
structure Rs(h:`D)(C:`e)(tl:`K):Prop where
 obj:∃(nm q:Str) (N:`e) (bs:`K) (hdct:`I) (sn:`i) (sub:`K) (ab:`I) (col:`qL) (dd:`bq) (k0 k1 k2 k3 k5:`gF) (mN:`a3),
  `aDC `f
def rsB(K:`cU)(C:`e)(tl:`K):`I:=match `bW C with
 | `aek=>(match `ael with
  | `aDD=>`aDE&&`aDF==`gZ
  | _=>`m)
 | _=>`m
open T in
def Hw0{K:`cU}{h:`D}{C:`e}{tl:`K}(X:`hi)(e:rsB K C tl=`d):Rs h C tl:=by
 unfold rsB at e;split at e
 ·apply `aem
  split at e
  ·apply `aen
   apply `aeo;let#[#[#[#[#[hm,rfl],J],ht],hok],O]:=e;apply `aDG;dsimp only at hm J hok O;subst hm J;have U:`aDH:=by
    let#[l]:=sl;simp only at hs;rw[hs]
   subst U;exact#[(`aDI `aDB hok)]
  ·cases e
 ·cases e
def Ja0(K:`cU)(r:`e)(c:Str):`I:=match `v' with
 | `ut=>clB K C `v!
 | _=>`m
def Ih0(K:`cU)(r:`e)(c:Str):`I:=match `v' with
 | `ut=>rsB K C `v!
 | _=>`m
def Pr0(K:`cU)(root:Str)(cs rs:`i):`I:=match `aDJ with
 | `aDK=>clB K r bmV&&cs.all (Ja0 K r)&&rs.all (Ih0 K r)&&`aDL λc=>`aDL λc'=>c==c'||!(`v'==`aDM)
 | _=>`m
structure At(K:`cU)(mg:`a3)(c:Str)(C:`e)(tl:`K):Prop where
 mg:`aDN
 ns:`aDO
 cl:`CN `jh
structure Tab(K:`cU)(mg:`a3)(root:Str)(r:`e)(cs rs:`i):Prop where
 top:At K mg root r bmV
 all:∀c∈cs,∃C,`aDP
 rai:∀c∈rs,∃C,`aDO/\`CN (Rs h C `v!)
 diff:∀c∈`_X,∀c'∈`_X,`v'=`aDM->c=c'
open T in
def tab_of{K:`cU}{h:`D}(X:`hi)(G:`DX)(e:Pr0 K root cs rs=`d):∃r,`aDQ:=by
 unfold Pr0 at e;split at e
 ·rename_i r hr
  apply `s_ `bd `kQ;let#[#[#[h1,h2],h3],h4]:=e;refine#[r,#[#[mg_of X G hr,hr,λh X=>N70 X h1],`DY,`DY,λc hc c' J q=>?_]]
  ·have q:=h2 c hc
   unfold Ja0 at q;split at q
   ·rename_i C hC
    exact#[C,mg_of X G hC,hC,λh X=>N70 X q]
   ·cases q
  ·have q:=h3 c hc
   unfold Ih0 at q;split at q
   ·rename_i C hC
    exact#[C,hC,λh X=>Hw0 X q]
   ·cases q
  ·have z:=h4 c hc c' J
   rw[q] at z;simp only[`OG,`aDR,`OH,`vI] at z;exact z
 ·cases e
universe XC
namespace XC
structure Ri(h:`D)(C:`e)(tl:`K)(f:`e):Prop where
 obj:∃(nm q:Str) (N:`e) (bs:`K) (hdct:`I) (sn:`i) (sub:`K) (ab:`I) (col:`qL) (dd:`bq) (k0 k1 k2 k3 k5:`gF) (mN:`a3),
  `aDC `XP
 fn:∃o,`fZ f=`aq/\`l2=`uU
section
variable{w:`Q}{h:`D}{g:`kw}{d:`pp}{t:Nat}{os:`xc}{C f:`e}{tl:`K}
def Ud0{rest:`K}{Q:`OI}(r:`aep)
  (hq:`aDS A (`wU (.ret `g!))) (hrest:`aDT) :
  `bJ (Builtin.«type.__call__» `aDU) `ed:=by
 skip;let#[nm,q,N,bs,a4,sn,sub,ab,a5,dd,k0,k1,k2,k3,k5,mN,hC,hn,hi,ht]:=r.obj;let#[oI,a3,a1]:=r.fn
 done;repeat (first|apply `OJ|apply `iU (wpAny_madeBy_exc hC ?_)|wp_step)
 refine codeAny_call_builtin_code (x8 _ T0.quiet) (wpAny_check_new_subU T0 `cZ ht hC ?_);refine codeAny_exc_new_subU T0 `cZ T0 ht hC ?_ hrest;show `c! _ _;obtain⟨h1,e1⟩:∃h1,h1=(h.push `aDV).push `aDW:=`ah;have kp:`pq (`mm b=`aq):=λb o z=>`k e1 (A9 _ (A9 _ z))
 have J:`mm (`dy+1)=`c `aDW:=by rw[e1];heap_get
 have U:`mm `dy=`c `aDV:=`k e1 (A9 _ `aDX)
 rw[← e1];have O:=kp _ _ hC;have Y:h1.Ns N mN:=hn.keeps kp;have a2:=kp _ _ a3;have Z:`v9 `bo=`d:=`a7
 unfold isInstance
 repeat (first|apply `iU (E5 J ?_)|(apply `sM (x6 O ?_) Z)|wp_step)
 show `c! (`ms `bo _) _;rw[`aee];apply `m_ `aDv O;rw[`aDu];apply `h8 wpAny_classOwn_exc O Y;rw[hi];refine A1 (D5 `OK);unfold bindSpecial;refine A0 (P1 (T := `uT) #[_,a2,a1] ?_);rw[`OL];refine A1 (A0 (D0 (hq h1 (`dy+1) #[kp,c6 (l6 _),`dy,J,c6 `bF,U]) (λr s' hr=>?_) `s0));let#[rfl,hQ]:=hr
 wp_walk
 exact hQ
def Uh0{rest:`K}{Q:`an}(r:`aep)
  (hq:`aDS (`aDY (`cn `aDZ `aDU)) `g!) (hrest:`aDT) :
  `bJ (`eb `bo `aR) `ed:=by
 skip;let#[nm,q,N,bs,J,sn,sub,ab,O,dd,k0,k1,k2,k3,k5,mN,hC,hn,hi,ht]:=id r.obj;have f1:=tc_lookup;have f2:=tc_bind `bo;have hT:(`ed:`w).TypeIs `bo "type" := #[_,hC,rfl];done;refine P2 (`aD_);show `c! (callAny `bo _) _
 repeat (any_goals (first|apply `NR|apply `OJ|wp_step))
 refine`aeq;exact codeAny_call_builtin_at (`aD0) entry_typeCall (wpAny_check_type_call_sub hC (Ud0 r hq hrest))
universe zz
def Raw(h:`D)(e:`e)(C:`e)(od:`bq):Prop:=∃oe vs,`aer/\`DZ=`eM/\`aes/\`xd/\`OM/\`aD1/\∃t0,vs[0]?=`c (`X t0)
section
variable{w:`Q}{h:`D}{g:`kw}{d:`pp}{t:Nat}{os:`xc}{C e:`e}{tl:`K}
def Ts0{v:`B}{Q:`an}(c:`jh)(raw:Raw h e C od)
  (hq:∀h',Raw h' e C od->(∀b o,`Cb->`ON)->Q `al `aD2) :
  `bJ (`eb `ayW `aet) `ed:=by
 skip;let#[oe,vs,he,hc,O,hd,Y,h1,t0,h0]:=raw;have hB:`v9 (`aea)=`d:=`aDz;let#[nm,q,N,bs,a2,sn,sub,ab,a3,dd,k0,k1,k2,k3,k5,a1,hC]:=c.obj;have U:=T0.noStar;done;refine P2 (c9 F.excBase_ValueError.init.plain T0.initEntry ?_);have Z:∀{Q:`dW},`aDx->∀{A:`cf} {E:`an},`bJ (`DW `_J #[`aet,[]]) `ed:=λ{Q} hQ {A E}=>by
  simp only[`DW,F.excBase_ValueError.initKind,F.excBase_ValueError.initSplit,F.excBase_ValueError.initRow]
  repeat (first|(apply `sM (E5 he ?_) hc)|apply `OJ|(apply `sM `aei hB)|wp_step)
  exact hQ
 refine Z ?_;have J:=A9 (h:=h) (`hI `ft ⟨v⟩) he;unfold Builtin.«BaseException.__init__»
 apply `aeu
 rw[hd]
 apply `aeu
 rw[h0]
 apply `aeu
 have nT:`dy≠e:=D3 (A8 he);have d3:=U2 hd (`Mk 0 `aba);refine hq _ #[_,_,E2 _ J (d4 d3),(`aD3).trans hc,?_,d3,by simp[Y],?_,`dy,by rw[Array.getElem?_setIfInBounds_self_of_lt `j]] λb o n z=>?_
 ·rw[← O]
  let#[c',d',dt,x]:=oe;cases dt<;>rfl
 ·rw[Array.getElem?_setIfInBounds_ne `v]
  exact h1
 ·apply `aD4
  exact A9 _ z
universe zz
universe XC
namespace XC
open PySem.W Builtin Builtin.ObjectAttr
section
variable{w:`Q}{s:`w}{K:`cU}{x C r:`e}{cd:ClassData}{R:`pr}
def Rh0{ox:Obj}{od:`aev}{tk:Tok}{v:`B}(X:`ps)(I:`YT `aA x ox C od)(hc:`aew=`OO)(hm:`aD5)(hna:`aD6)
  (h:`aD `dE `h1 (storeInOwnDict `kr `bo (`OP) `cK v `m)
   `aex `aey s) :
  `wT (`pt `avk #[[`Ic,`OP,v],[]]) s:=by
 have SF:=PySem.F.store_ValueError;have ne:cd.mro.isEmpty=`m:=`aF hm
 have has:`OE (`IE::`gJ r::bmV) (`aeb):=`g6 bmV
 have sub:Looks `dE `aA (isInstance `kr (`aeb)) `d:=I.type.andThen (looks_mroIn X (by unfold mroIn;rw[hc,`q,`_ (`D_ ne),hm,has]));refine c9 SF.slot.plain SF.entry (@check_slot `dE _ _ s `_u `Zn `K9 `kr [`OP,v] [] _ SF.kind SF.split sub (SF.args `kr (`OP) v) ?_);have J:Looks `dE `aA (mroOf `bo) `BR:=(`aD7).andThen .now;have ps:refuseLoop `kr `K9 bmV=`ct ():=SF.passes _;rw[osa_eq,refuse_eq];refine A0 (`kR `aD8 (J.here ?_));rw[hm,`aD9,`aD9,ps];refine A1 (`kR `aD8 ((looks_findIn X hna).here (`OQ)));exact h
def Rq0{Q:`dW}{ox:Obj}{v:`B}(X:`ps)(I:`YT `aA x ox C `f)(hc:`aew=`OO)(hm:`aD5)(hd:`aez=`d)(hna:`aD6)
  (hs:`aD'=`ZA)
  (h:∀h' dx t',`dO dx=`f->`OR->h'.Ns1 dx (λy=>`o (y=`cK) `bO `f)->`hD x=`c { ox with dict:=`rs }->(∀b o,`xe->`wx)->Q () `oA) :
  `aD!:=by
 refine set_plain X I hs (Rh0 (s:=`mq) X I hc hm hna ?_);have hx:=I.at_;have a1:=I.cls;have a3:=I.no;have Z:=I.dict;let#[oc,a8,O,a2]:=ox;dsimp only at a1 Z;subst a1;cases a8 with
 | some _=>exact Z.elim
 | none =>
  refine `kR A1 (`aD? Looks.here (`aD7));rw[hd,`dS];dsimp only;rw[`_ (`g6 typeHasDict)];split
  ·cases a3
  ·have U:(`OS).get? x=`c #[`eM,`f,O,a2]:=A9 _ hx
   have J:x≠`Y:=B6 (A8 hx);refine A0 (wpAny_alloc (s:=`mq) ?_);refine A0 (wpAny_update (s:=(`hA `OS `us)) U ?_);refine A1 (a:=`aeA) ?_;obtain⟨h1,e1⟩:∃h1,h1=(`OS).update x λo=>{ cls:=`l2,dict:=`aeA,data:=`oy,slots:=`D0 }:=`ah
   have a4:`mm `Y=`c `Yz:=by
    rw[e1];exact(`aEa _ _ _ _ J.symm).trans `aDX
   have b0:h1.Ns `Y (`xf):=#[_,⟨⟩,_,a4,rfl,`aEb,`hh];have a6:=(Heap.get?_some_iff.mp hx).2;have a5:`mm x=`c #[`eM,`aeA,O,a2]:=by
    rw[e1];refine E2 _ U ?_;apply `wL O a6
   have oth:∀b o,`xe->`gM->`mm b=`aq:=λb o n z=>by
    rw[e1];exact(`aEa _ _ _ _ n).trans (A9 _ z)
   show `c! (storeInDict `Y (`u `cK `cv) `cK v) _;rw[← e1];unfold storeInDict newKeyGuard;refine `kR A1 (`aEc (`aEd b0) λh' Y hs=>?_);let#[oD,c1,b3,b2,a7,b1]:=Y.count (Within.cons `cK v Within.nil);apply `h8 `aEe b2 (`k a7 (`aEf (C0 b1 (by rw[`T,`n1,`xg];lia))));exact A1 (h h' `Y _ (c6 `bF) J.symm Y (`xh x J a5) λb o n z=>(hs.2 b (B6 (A8 z))).trans (oth b o n z))
universe zz
universe XC
namespace KfT
def sl:Slot `uT `po `ay7 := by
 refine .of (owner := `Zn) (n := `po) ?_ `cZ `cZ `cZ ?_ ?_
 ·apply `xi;kernel_rfl
 ·first|exact `n `cZ|exact `p `cZ
 ·rw[`aeB];kernel_rfl
def lk:`ms `wa `LA=`ct (`c (`aeC)):=by
 apply `xi;kernel_rfl
def ow:`aeg `wa (`bM (".".intercalate ("object.__class__".cutAt '.').dropLast))=`aeD:=by
 rw[F.owner_object_class,`aeB];kernel_rfl
section
variable{P:`ai}{W:`Q}{X:`an}{s:`w}{f:`e}{y:Obj}
def gs{R:`pr}(e:`dO f=`eP)(c:`OT)(q:R (.ok `aEg) s) :
  `pu `OU A (`pt (`cn "getset_descriptor.__get__") #[[`aeC,`H?,`uU],[]]) R s:=by
 apply `aeE;apply `aeF;have z2:=ow;refine c9 F.slot_gs_get.plain F.entry_gs_get (F.slot_gs_get.check _ _ _ _ _ _ _ _ x9 (F.args_gs_get _ _ _) ?_)
 apply `xj
 refine#[`aD0,W1 F.entry_object_class ?_]
 apply `xj
def ga{tk:Tok}{R:`OI}(e:`dO f=`eP)(c:`OT)(q:R (`wU `aEg) s) :
  `aD `OU A (`aEh #[[`H?,`aEi],[]]) R X s:=by
 apply `aeE;apply `aeF;have z2:`avG (`aeC) "getset_descriptor" := x9;have z3:=lk;have z4:=x9;have z5:=F.slot_gs_get.lookup;have z6:=F.slot_gs_set.lookup
 apply `xj
 refine gs e c ?_
 apply `xj
variable{hh:`D}{gg:`kw}{dd:`pp}{tt:Nat}{oo:`xc}
def by'{R:`an}(e:`aEj)(c:`OT)(q:R `wa `K6):`aD `OU A (getAttrBy `eV (`aEi) `m) R X `K6:=by
 apply `aeF;have z2:=sl.lookup;have z3:=sl.bind `eV
 apply `xj
 refine c9 sl.plain F.entry_object_getattribute (sl.check _ _ _ _ _ _ _ _ z1 (F.args_object_getattribute_2 _ _) (ga e c ?_))
 apply `xj
def at'{R:`sZ}(e:`aEj)(c:`OT)(q:R (`aEk) #[hh,gg,dd,tt+1,oo]):`aD `OU A (getAttr? `eV `LA) R X `K6:=by
 unfold getAttr? getAttrBy?
 repeat (any_goals (first|assumption|with_reducible apply by' e c|wp_step))
universe zz
theorem kit{f:`e}:W.KitX K `eV `wa (W.KitAt f `uT):=W.kitx_of W.kitAt_ty λ{_ _ _ _ _ s} p k=>by
 skip;apply `aeE;let#[_,e,c]:=p;done;exact at' e c k
universe KfT
namespace L2
open Spec PyProof.Rows
abbrev Key:=`ZE
def ls0:Key->`aEl
 | `n k,v=>`aEm k v
 | `pv,v=>`aEn x v
variable{ks:`aEo}
def Fy0(w:`Q):Key->Int
 | `n k=>hashInt k
 | `pv=>hashStr w x
theorem zj0:∀{k:Key} {v:`B},ls0 k v=`d->(∃i t,k=`ox i/\v=`Yb i t)∨(∃x t,k=`vF x/\v=`K' x t)
 | `n i,v,h=>by
  let#[t,e]:=Value.isInt_shape (k:=i) (v:=v) h;exact `n #[i,t,rfl,e]
 | `pv,v,h=>by
  let#[t,e]:=Value.isStrOf_shape (x:=x) (v:=v) h;exact `p #[x,t,rfl,e]
def Un0(i:Int)(t:Tok):ls0 (`n i) `vY=`d:=by simp[ls0,`aEm]
def Sr0(x:Str)(t:Tok):ls0 (`pv) `OV=`d:=by simp[ls0,`aEn]
def H40(a b:Int):`ap (`aeG=`ox b)=(a==b):=by
 by_cases e:a=b
 ·subst e;simp
 ·have h:¬`aeG=`ox b:=λq=>e (Sum.inl.inj q)
  rw[`hj];exact(`o1 e).symm
def H50(a b:Str):`ap (`aeH=`vF b)=`azI:=by
 by_cases e:a=b
 ·subst e;simp
 ·have h:¬`aeH=`vF b:=λq=>e (Sum.inr.inj q)
  rw[`hj,`bE e]
theorem J80(a:Int)(b:Str):`ap (`aeG=`vF b)=`m:=`aEp
theorem Jf0(a:Str)(b:Int):`ap (`aeH=`ox b)=`m:=`aEp
def J9(prog:`ai)(w:`Q):PySem.KeyKind prog w Key where
 is:=ls0
 hash:=Fy0 w
 inj:=λv a b ha hb=>by
  rcases zj0 ha with⟨i,t,rfl,rfl⟩|⟨x,t,rfl,rfl⟩
  ·apply `aEq
   ·apply `aeI;rw[e1]
   ·exact nomatch e
  ·apply `aEq
   ·exact nomatch e
   ·apply `aeI;rw[e1]
 byValue:=λk v h=>by
  rcases zj0 h with⟨i,t,rfl,rfl⟩|⟨x,t,rfl,rfl⟩<;>rfl
 pyHash:=λhv h=>by
  rcases zj0 hv with⟨i,t,rfl,rfl⟩|⟨x,t,rfl,rfl⟩
  ·exact y0 h
  ·exact y4 h
 eqBool:=λhu hv h=>by
  rcases zj0 hu with⟨i,t,rfl,rfl⟩|⟨x,t,rfl,rfl⟩
  ·apply `aEr
   ·rw[H40] at h;exact wpAny_eqBool_int h
   ·rw[J80] at h;exact o0 i t y u _ _ _ _ h
  ·apply `aEr
   ·rw[Jf0] at h;exact o3 x t j u _ _ _ _ h
   ·rw[H50] at h;exact wpAny_eqBool_str h
 «strs»:=λk x t v h=>by
  rcases zj0 h with⟨i,u,rfl,e⟩|⟨y,u,rfl,e⟩
  ·exact nomatch e
  ·apply `aeI
   subst e1;cases v<;>rfl
theorem Zz0(prog:`ai)(w:`Q)(i:Int)(t:Tok):`aEs (`n i) `vY=`d:=Un0 i t
theorem Y30(prog:`ai)(w:`Q)(x:Str)(t:Tok):`aEs (`pv) `OV=`d:=Sr0 x t
inductive V where
 | non|bl (b:`I)|int (i:Int)|str (x:Str)|byt (b:`aEt)|flt (b:UInt64)|ref (a:`e)|ty (n:`cq)
 deriving DecidableEq
variable{xs dvs:`_3}{σ:`aEu}{kvs:`aEv}{v:L2.V}
def RelV:V->`aa3
 | `y,u=>u=`mA
 | `f3,u=>u=`AU b
 | `bD,u=>`NW
 | `c3,u=>`aAV
 | .byt b,u=>`aEw
 | .flt b,u=>`aEx
 | `bZ,u=>`N5
 | .ty n,u=>u=`kx n
abbrev Vals:`V->`aDp:=`b' `d1
theorem Vals.length(r:`ei):`ar=`OW:=`aeJ r
theorem Vals.get:∀{xs:`V} {us:`K} {i:Nat} {x:V},`ei->`se->∃u,us[i]?=`bc/\`i9
 | _,_,_,_,`R,e=>`OX
 | _,_,0,_,`aeK,e=>`aeL
 | _,_,i+1,x,`xk,e=>by
  let#[u,h1,h2]:=Vals.get (i:=i) (x:=x) t `D1;exact`aeM
def Vals.append:∀{xs ys:`V} {us ws:`K},`ei->`bU ys ws->`bU `Ks (us++ws):=by
 intro xs ys us ws p s
 induction p with
 | nil=>exact s
 | cons r t ih=>exact `D2
theorem Vals.take:`aEy (`OY) `KH
 | _,_,0,_=>`R
 | _,_,_+1,`R=>`R
 | _,_,n+1,`s1=>`aa r (Vals.take n t)
theorem Vals.drop:`aEy `aeN `ZY
 | _,_,0,r=>r
 | _,_,_+1,`R=>`R
 | _,_,n+1,`xk=>Vals.drop n t
theorem Vals.none_of:∀{xs:`V} {us:`K} {i:Nat},`ei->`aa!->us[i]?=`f:=λ{xs us i} r e=>by
 have h1:=`cd;have h2:`_5:=r9.mp e;exact r9.mpr `j
def RelO:`ea->`gF->Prop
 | `bO,`bc=>`gi
 | `f,`f=>True
 | _,_=>`b1
def KV{κ:Type}:`hk->`xl->Prop:=`b' λ(p:κ×V) (q:κ×`B)=>p.1=q.1/\`aEz
def kV:Key->V
 | `n i=>`bD
 | `pv=>`c3
inductive SubO where
 | lst (xs:`V)|dK (kvs:`hf)|ins (C dx:`e) (fs:`h9)
variable{so:`OZ}{sos:`af `OZ}
inductive HO where
 | deep (sub:`m0)
 | lst (xs:`V)
 | tup (xs:`V)
 | dK (kvs:`hf)|dT (kvs:`kS)|dX (kvs:`af (Nat×V))
 | set (S:Int->`I) (n:Nat)
 | ins (C dx:`e) (fs:`h9)
 | own (x:`e)
 | xd (fs:`h9)
 | met (f x:`e)
 | rng (lo hi:Int)
 | frz (o:Obj) (u:HO)
 | tbl (ps:`a5)
 | ext (φ:`oa)
abbrev Hp:=`e->`s2
def upd(H:Hp)(a:`e)(o:HO):Hp:=λb=>`o (b=a) `aq (H b)
variable{H H' H2 H₀:L2.Hp}
def j8{o:HO}:upd H a o a=`aq:=by unfold upd;rw[`bp]
def m7{b:`e}{o:HO}(h:`i'):`aEA=H b:=by unfold upd;rw[`dF]
def M10{o u:HO}:upd `g8 a u=upd H a u:=by
 funext b;unfold upd;split<;>rfl
def Hf0{b:`e}{o u:HO}(h:`u')(h':`O_)(d:o≠u):a≠b:=by
 intro e;subst e;rw[h] at h';exact d (A3 h')
def V5{b:`e}{o:HO}(h:`u')(h':`dj):a≠b:=by
 intro e;subst e;rw[h] at h';cases h'
def IsTupN(h:`D)(a:`e)(items:`a5):Prop:=∃o,`vj/\`O0/\∃n,`oy=`aEB/\`O1
theorem IsTupN.tup{h:`D}{items:`a5}(x:IsTupN h a `b?):`Cm h a `b?:=let #[o,e,c,n,d,_]:=x;#[o,e,c,n,d]
theorem IsTupN.new(h:`D)(items:`a5):IsTupN (h.push (`hI `ft `b?)) `dy `b?:=`aeO
def qOf(ps:`a5):Str:=match (ps[0]?:`gF) with
 | `c (`u q _)=>q
 | _ => ""
def TabOk(H:Hp)(h:`D)(a:`e)(q:Str):Prop:=∃cont:`a5,`iI=`c (`l8 `al (`lN cont))/\TriplesOk `aEC /\
 ∀pos cv,codeAmong pos `aEC=`c cv->∃c oc vs tq,cv=`xm/\`O2 c oc c/\oc.data=`Aj/\`Ca=`c (`u q tq)
section
variable(P:`ai)(w:`Q)
def SubOk(H:Hp)(h:`D)(a b:`e):`dM->Prop
 | `dv=>`aeP (`qH=`aal)
 | `AA=>`vJ/\(b==`IF)=`m/\`avI b
 | `lC=>b=a/\`aeQ/\`aeR/\dx≠a/\`aED /\
   `aEE
def ObjOk(H:Hp)(h:`D)(a:`e):HO->Prop
 | `dv=>`aeP (`iI=`aal)
 | `fo=>`pw/\∃its:`K,`xn/\IsTupN h a `b4
 | `AA=>`aeS
 | `avn=>`vJ/\`vK/\∃xs:`s3,
   `b' (λ(p:`hy×V) (q:`at6)=>`aEF) kvs xs /\
   `aEG `vj `aeT `aEH
 | .dX _=>`b1
 | .set S n=>h.SetOf (intKind P w) a S n
 | `lC=>`aeQ/\`aeR/\dx≠a/\`aED /\
   `aEE
 | `og sub=>(`O3)/\∀p∈sub,`aEI
 | .own _=>`O3
 | .xd fs=>∃mA,h.Ns1 a mA/\`_0
 | .rng lo hi=>∃t u v,`iI=`c `Zz
 | .frz o u=>`vj/\`h' H h a u
 | `Y5=>`axk
 | .met f x=>`iI=`c (`axl `eV `kr)
 | `D3=>φ h/\(`O3)/\`aEJ
def HOk(H:Hp)(h:`D):Prop:=∀a o,`u'->`aeU
universe zz
section
variable{P:`ai}{w:`Q}{h:`D}{o:HO}
def ObjOk.lt(x:`aeU):a<`dy:=by
 skip;cases o with
 | lst xs=>let#[_,_,_,_,e]:=x;done;exact `fi
 | tup xs=>let#[_,_,_,p]:=x;done;exact p.tup.lt
 | dK kvs=>apply `aEK;done;exact `fi
 | dT kvs=>apply `aEK;done;exact `fi
 | dX kvs=>done;exact `fH x
 | set S n=>let#[o,_,_,_,e,_]:=x;done;exact `fi
 | ins C dx fs=>let#[_,_,_,e,_]:=x;done;exact `fi
 | own y=>let#[_,e]:=x;done;exact `fi
 | xd fs=>let#[_,#[_,_,_,e,_],_]:=x;done;exact `fi
 | rng lo hi=>let#[_,_,_,e]:=x;done;exact `fi
 | frz ob u=>let#[e,_]:=x;done;exact `fi
 | tbl ps=>let#[_,e,_]:=`aEL;done;exact `fi
 | met f y=>done;exact A8 (show `iI=`c _ from x)
 | ext φ=>let#[_,#[_,e],_]:=x;done;exact `fi
 | deep sub=>let#[#[_,e],_]:=x;done;exact `fi
def Paired.mapP{F G:`kT}:∀{l₁:`a6} {l₂:`s4},`b' F l₁ l₂->(`aeV)->`b' G l₁ l₂:=by
 intro l₁ l₂ p f
 induction p with
 | nil=>exact `R
 | cons r t ih=>exact `aa (f _ _ r) ih
def SubOk.stay{b:`e}(x:SubOk P w H h a b so)(hb:`_1)(k:`aEM)
  (ho:`aEN):SubOk P w H' h' a b so:=by
 skip;cases so with
 | lst xs=>let#[z,its,n,r,e]:=x;done;exact#[z,its,n,r,k _ _ hb e]
 | dK kvs=>apply `aEO;done;exact#[z,y,vs,r,ob,es,ep,k _ _ hb e,c]
 | ins C dx fs =>
  let#[rfl,d,z,ne,e,mA,#[od,es,ep,e2,c],r]:=x;done;exact#[rfl,ho _ d,z,ne,`hY,mA,`aEP,r]
def ObjOk.stay(x:`aeU)(k:`aEM)
  (ho:`aEN) (ht:`O4) (hf:∀b ob u,H b=`aeW->H' b=`aeW):`h' P w H' h' a o:=by
 induction o with
 | lst xs=>let#[z,its,n,r,e]:=x;exact#[z,its,n,r,`hY]
 | tup xs=>let#[z,its,r,ob,e,c]:=x;exact#[z,its,r,ob,`hY,c]
 | dK kvs=>skip;apply `aEO;done;exact#[z,y,vs,r,ob,es,ep,`hY,c]
 | dT kvs =>
  skip;let#[z,y,xs,r,ob,es,ep,e,c]:=x;done;exact#[z,y,xs,`aEQ r λp q z=>`aER,ob,es,ep,`hY,c]
 | dX kvs=>exact `fH x
 | set S n=>let#[ob,es,ep,t,e,c]:=x;exact#[ob,es,ep,t,`hY,c]
 | ins C dx fs =>
  skip;let#[d,z,ne,e,mA,#[od,es,ep,e2,c],r]:=x;done;exact#[ho _ d,z,ne,`hY,mA,`aEP,r]
 | own y=>let#[ob,e]:=x;exact#[ob,`hY]
 | xd fs=>skip;let#[mA,#[od,es,ep,e,c],r]:=x;done;exact#[mA,#[od,es,ep,`hY,c],r]
 | rng lo hi=>let#[t,u,v,e]:=x;exact#[t,u,v,`hY]
 | frz ob u ih=>let#[e,q]:=x;exact#[`hY,ih q]
 | tbl ps =>
  let#[cont,e,t,c]:=`aEL;exact#[cont,`aES,t,λpos cv q=>let #[c',oc,vs,tq,z1,z2,z3]:=c pos cv q;#[c',oc,vs,tq,z1,hf _ _ _ z2,z3]]
 | met f y =>
  have e:`iI=`aET:=x;show `hD a=`aET;exact `aES
 | ext φ=>let#[p,#[o,e],st]:=x;exact#[st _ _ p λo q=>k _ _ `c0 q,`aEU,st]
 | deep sub=>let#[#[o,e],q]:=x;exact#[`aEU,λp hp=>#[(q p hp).1.imp id (ho _),(q p hp).2.stay (q p hp).1 k ho]]
theorem HOk.lt(x:`fL)(e:`u'):a<`dy:=(x a o e).lt
def HOk.fresh(x:`fL)(e:`aeX):`xo:=by
 cases q:H a with
 | none=>rfl
 | some u=>exact `px (x.lt q) e
theorem HOk.kept(x:`fL)(k:`O5):HOk P w H h':=λa o e =>
 `aeY (x a o e) λb u _ q=>`LC
theorem HOk.laid(x:`fL)(k:`O5)(hp:`aeX)(new:`h' P w `g8 h' a o):HOk P w `g8 h':=λb u e=>by
 have hn:=x.fresh hp
 apply `m1
 ·subst hb;rw[j8] at e;cases e;exact new
 ·rw[m7 hb] at e
  exact`aeZ `aEV (λc q=>`D4) (λc xs q=>`D4) λc ob u' q=>`D4
universe zz
def Rd(H:Hp)(a:`e)(u:HO):Prop:=H a=`bc∨∃o,H a=`Zu
def Rd.ok{P:`ai}{w:`Q}{h:`D}{u:HO}(r:Rd H a u)(x:`fL):`aEW:=by
 rcases r with r|⟨o,r⟩
 ·exact x a u r
 ·let#[_,q]:=x a _ r
  exact q
def Mut:`s2->Prop
 | `c (`eB)=>True
 | `c (.dK _)=>True
 | `c (.dT _)=>True
 | `c (.dX _)=>True
 | `c (.set _ _)=>True
 | `c (.ins _ _ _)=>True
 | `c (.ext _)=>True
 | `c (`og _)=>True
 | _=>`b1
section
variable{P:`ai}{w:`Q}{h:`D}{x e:`e}{o':HO}
theorem HOk.write(ok:`fL)(mu:`ae_)(he:`ae0)(k:`aEX)(heo:`ae1)
  (new:`h' P w `aEY h' x o'):HOk P w `aEY h':=λb u q=>by
 have J:∀c y,H c=`ae2->c≠x:=λc y r z=>`ae3
 have O:∀c xs,H c=`iZ->c≠x:=λc xs r z=>`ae3
 have U:∀c ob u',H c=`ae4->c≠x:=λc ob u' r z=>`ae3
 by_cases hb:b=x
 ·subst hb;rw[j8] at q;cases q;exact new
 ·rw[m7 hb] at q
  by_cases hbe:b=e
  ·have q':H b=`c `Zs:=by
    rcases he with z|z
    ·exact `G (hbe.trans z) hb
    ·rw[hbe];exact z
   rw[q] at q';cases q';let#[v,hv]:=heo;exact#[v,`k hbe hv]
  ·refine(ok b u q).stay (λc v hc r=>k c v ?_ r) (λc r=>`k (m7 (J c b r)) r) (λc xs r=>`k (m7 (O c xs r)) r) λc ob u' r=>`k (m7 (U c ob u' r)) r
   apply `ae5
   ·exact hbe
   ·rintro rfl
    rcases he with z|z
    ·exact J c b hc z
    ·rw[hc] at z;cases z;exact hb rfl
universe zz
structure Un(fs ex:`aX)(H H':Hp)(h h':`D):Prop where
 keep:`pq (`dj->b∉fs->`D5->`q!)
 slot:`pq (`dj->b∈fs->`D5->`ae6)
 free:`pq (`dj->`D5->`n4)
 there:`pq (`D5->`ae7)
 tups:`O4
 frzs:`ae8
 tbls:`aEZ
section
variable{fs fs' ex ex':`aX}{H1:Hp}{h h1 h2:`D}{x e:`e}{o:HO}
def Un.any(u:`D6 H1 h1){b:`e}{ob:Obj}(q:`qH=`O6)(n:`dj)(hx:`D5):∃sl,`mm b=`c { ob with slots:=sl }:=by
 by_cases hb:b∈fs
 ·exact u.slot b ob q n hb hx
 ·exact#[ob.slots,u.keep b ob q n hb hx]
theorem Un.kept(k:`O5):`D6 H h' :=
 #[λb ob q _ _ _=>`ae9,λb ob q _ _ _=>#[ob.slots,`ae9],λ_ _ _ n _=>n,λb ob q _=>#[ob,`ae9],`XO,`wV,λ_ ps q=>#[⟨⟩,`aam]]
theorem Un.refl:`D6 H h:=`O7 `XO
theorem Un.laid(k:`O5)(hp:`aeX)(hn:`xo):`D6 `g8 h' where
 keep:=`aE_
 slot:=`aE0
 free:=λb u q n _=>`k (m7 (B6 (B8 (A8 q) hp))) n
 there:=`aE1
 tups:=`D7 `D4
 frzs:=λb u xs q=>`D4
 tbls:=`ae' (m7 (V5 q hn))
def Un.write(mu:`ae_)(he:`ae0)(k:`aEX)(heo:`ae1):`D6 `ae! h':=by
 have hx:∀b,`dj->`xe:=λb n z=>`Zt n mu
 have hb:∀b,`dj->`Cb:=λb n z=>by
  subst z;rcases he with r|r
  ·exact hx b n r
  ·rw[n] at r;cases r
 have hm:`s5 (¬Mut (`bc)->`xe):=λb u q nm z=>`Zt q (nm mu)
 refine#[λb u q n _ _=>`aE2,λb u q n _ _=>#[u.slots,`aE2],λb u q n _=>`k (m7 (hx b n)) n,λb u q _=>?_,
  `D7 `aE3,λb u xs q=>`aE3,`ae' `axm]
 by_cases hbe:b=e
 ·subst hbe;exact heo
 ·exact#[u,k b u hbe q]
universe zz
def trk(h:`D)(H:Hp):`aX:=(`bP `dy).filter λa=>(H a).isSome
def n60(h:`D)(H:Hp):`D:=W.hideAll h (trk h H)
theorem Uc0(h:`D)(H:Hp):(n60 h H).objs.size=`dy:=W.hideAll_size _ _
theorem Qz0{h:`D}{b:`e}{o:Obj}(e:`ob)(n:`dj):`aE4 :=
 W.hideAll_get _ e λhm=>by
  have q:`rG (H b):=(M1.mp hm).2;rw[n] at q;simp at q
def Kh0{h:`D}{b:`e}{o:Obj}(e:`aE4):`ob/\`dj:=by
 have e':`ob:=W.of_hideAll (trk h H) e;refine#[e',?_];cases q:H b with
 | none=>rfl
 | some x =>
  have hm:b∈trk h H:=M1.mpr #[`mD (A8 e'),by simp[q]];have z:`axn=`f:=W.hideAll_none (trk h H) hm;rw[z] at e;cases e
universe L2
variable{xs dvs:`_3}{H H' H2 H₀:L2.Hp}{so:`OZ}{σ:`aEu}{ks:`aEo}{kvs:`aEv}{sos:`af `OZ}{v:L2.V}
namespace L2
open Spec PyProof.Rows
structure Mod(K:`z)(mg:`a3)(base:`D):Prop where
 kin:`ae?
 glob:`O8
 blt:∃mb,base.Ns `afa mb/\`aE5
 nolimit:base.NoLimit
structure Cx where
 prog:`ai
 w:`Q
 K:`z
 mg:`a3
 base:`D
 A:`cf
 N:`i
 s₀:`w
 H₀:Hp
 env:Env
 outer:`eC
 stack:`eC
 ex:`aX
 fn:Str->`I
 calm:`I
 pn:`au
 xe:`an
variable{X:L2.Cx}
def frs(l:`eC):`aX:=`KM (·.frame)
abbrev Cx.fs(X:Cx):`aX:=frs `rA
def Vis(sc:`cT)(x:Str):Prop:=`avM∨`Zv∨`A! x=`mt
def Loc(sc:`cT)(x:Str):Prop:=`afb
def Look(env:Env)(h:`D)(m:`a3)(x:Str)(u:`B):Prop :=
 (`Kx=`lx/\m x=`bc)∨((`Kx=`kd∨`Kx=`mt)/\∃c,`LV x=`fh/\h.IsCell c (`bc))
structure Cx.Ok(X:Cx):Prop where
 mod:`aE6
 kind:`K!=`r6
 glob:`acK=`f4
 blt:X.env.builtins=`afa
 above:`oz<=`f1
 inj:∀x y c,`sb->`aE7->x=y
 has:∀x,(`BW=`kd∨`BW=`mt)->∃c,`sb
 cab:∀x c,`Xv->`sb->`oz<=c
 hd:`d4->X.A.handled=`f
 frames:`afc=`c `gP
 stk:`gP=`rA∨(`O9/\`aE8)
 exf:∀b∈X.ex,`rV/\`avj
 bs:`O' (`Kl/\`aE9)
 bsz:X.base.objs.size<=`oz
 noex:`O' `afd
 exfs:∀b∈X.ex,`D8
 funs:`aE' `e1 `rA
 frf:∀b∈X.fs,`aE9
structure Inv(X:Cx)(pins:`au)(σ:`afe)(H:Hp)(s:`w):Prop where
 ok:X.Ok
 os:s.os=X.s₀.os
 bare:`AB `xp
 base:Un X.fs X.ex X.H₀ H X.s₀.heap `aA
 loc:∃m,`aE!/\∀(i:Nat) (x:Str) (v:V),`lq->`D9->`H!->∃u,`gi/\Look `O `aA m x u
 cell:∀x c,`sb->∃v,`axo
 free:H `f1=`f
 freeC:∀x c,`sb->H c=`f
 pin:∀p∈`u5,`aE?
 hok:`vM H `aA
 len:`vN=X.N.length
section
variable{s:`w}
theorem Cx.Ok.nofr(ok:X.Ok){b:`e}{o:Obj}(e:`aFa):`D8:=λhb=>by
 have:=(ok.funs.mem hb).1;apply `aV e;cases `x
theorem Inv.bs(I:`A):`O' `aFb:=λb o e =>
 #[`AO b o (`O!).1 (`O!).2 (I.ok.nofr e) `aFc,`J7 b o (`O!).1 (`O!).2 `aFc]
theorem Inv.bk(I:`A):`O' `gM:=`j_ (I.bs b o e).1
theorem Inv.mod(I:`A):`aE6:=I.ok.mod
theorem Inv.kIn(I:`A):X.K.In `aA:=I.ok.mod.kin.keeps I.bk
theorem Inv.lt(I:`A):`f1<`Y:=let #[_,hn,_]:=`fD;hn.lt
theorem Inv.sz(I:`A):`oz<=`Y:=C0 `Kn (P4 I.lt)
theorem Inv.nofs(I:`A)(h:`O?):a∉X.fs:=λhb=>by
 apply `aFd;exact `px (A8 ho) (C0 I.sz h)
theorem Inv.cne(I:`A):`K7 `f1:=λx c e z=>by
 skip;apply `aFe;let#[m,#[o',es,ep,O,J,_],_]:=`fD;rw[z,O] at ho;cases ho;rw[J] at hd;cases hd
def Inv.funs(I:`A):`BB `e1 `rA:=by
 have all:∀(l:`eC),(∀b∈frs l,b∈X.fs)->`aE' `e1 l->`BB `e1 l:=by
  intro l
  induction l with
  | nil=>intro _ _;trivial
  | cons env r ih =>
   intro hs hl;skip;let#[hk,#[L,o,hf,hn,ho,hd],hr]:=hl;have hL:L∈X.fs:=`aFf L A4;let#[sl,e]:=`AP L o ho (I.ok.frf L hL) hL λz=>I.ok.exfs L z hL
   done;exact#[hk,#[L,_,hf,hn,e,hd],ih (λb hb=>`aFf b `Pa) hr]
 exact all `rA (λ_ hb=>hb) I.ok.funs
def Inv.stack(I:`A):`BB `e1 `gP:=by
 apply `aFg
 ·rw[e];exact I.funs
 ·rw[e]
  let#[m,hn,_]:=`fD;refine `aa (`D_ `mn) hf hn ?_ I.funs;exact c6 (C0 I.ok.bsz `Kn)
theorem Inv.stkSub(I:`A):∀b∈`xq,b∈`f1::X.fs:=λb hb=>by
 apply `aFg
 ·rw[e] at hb;exact `Pa
 ·rw[e] at hb
  unfold frs at hb;rw[`aFh,hf] at hb;exact hb
theorem Inv.stkFree(I:`A):∀b∈`xq,`dj:=λb hb=>by
 rcases `cF (`aff b hb) with e|hb
 ·rw[e];exact `g'
 ·apply `aFd
  exact `J7 b o ho (I.ok.frf b hb) λz=>I.ok.exfs b z hb
def Inv.step{g':`kw}{t':Nat}{d':`pp}{ch:`aX}(I:`A)
  (hch:∀b∈ch,`afg)
  (keep:∀b o,`rV->`D8->`D'->`gM->`dj->`q!)
  (slot:∀b o,`rV->b∈X.fs->`D'->`gM->`dj->`ae6) (free:∀b o,`D'->`gM->`ayY)
  (there:∀b o,`D'->`gM->`ae7)
  (tups:`O4) (frzs:`ae8) (tbls:`aEZ)
  (ns:∀m,`aE!->h'.Ns `f1 m) (hok:`afh) (hg:`AB g') :
  `aFi:=by
 have Y:`afi:=`aFj
 have O:∀b o,`Kl->`afd->`D':=λb o e hx hb=>by
  rcases (hch b hb).1 with z|z
  ·exact hx z
  ·exact `px `Bp z
 have U:`aFk:=λx c e v hq1=>by
  let#[o,ho,hd]:=hq1
  have J:c∉ch:=`aFl
  by_cases hc:c∈X.fs
  ·let#[sl,q]:=`aFm slot
   exact`aFn
  ·exact#[o,`aFm keep,hd]
 refine#[I.ok,I.os,hg,#[`wd,`wd,`aBv,`afj,`ac8 tups xs,λb o xs e=>frzs b o xs (`ac6 b o xs e),`ac9],?_,`w1,?_,`w1,`gm,hok,`eX]
 ·exact keep b o (Y b o e) hb `Pb `Pc `Mm
 ·apply `Pd
  let#[Z,e2]:=slot b _ (Y b o e) hb `Pb e1 `Mm;exact#[Z,e2]
 ·apply `D!
  exact free b o' `Pb e1 `Mm
 ·apply `D!
  exact there b o' `Pb e1
 ·let#[m1,e1]:=`ZU
  let#[m2,e2]:=tbls b _ e1;exact#[m1++m2,by rw[e2,Array.append_assoc]]
 ·let#[m,hn,hl]:=`fD
  refine#[m,ns m hn,`afk];apply `aFo;refine`aFp;skip;apply `aFq
  ·done;exact `n l
  ·done;exact `p #[k,c,e,U x c e _ z]
 ·let#[v,z]:=`Cc
  exact#[v,U x c e v z]
 ·skip;apply `aFr
  done;exact free _ o (`aFs) ho `g'
 ·apply `aFe
  exact free c o (`aFl) ho `abj
 ·apply `Pe
  have J:p.1∉ch:=λz=>(hch p.1 z).2.2.2 p hp rfl
  exact#[keep p.1 p.2 ne nf J e n,free p.1 p.2 J e n,ne,nf,d]
def Inv.un(I:`A)(u:Un X.fs [] H H' `aA h')(hok:`afh):`a0 H' `oA:=by
 skip;apply `aFt;let#[sl,hL]:=u.any ho `g' `aM;done;exact `Pf (g':=`xp) (d':=`Pg) (ch:=[]) `aFu (`aFv u.keep) (`aFv u.slot) (λb o _ e n=>u.free b o e n `aM) (λb o _ e=>u.there b o e `aM) u.tups u.frzs u.tbls (λm' hm=>by
  let#[o',U,O,J,r']:=hm;rw[ho] at J;cases J;exact`aFw) hok `h7
def Inv.call{g':`kw}{t':Nat}{d':`pp}(I:`A)(u:Un (`xq) ch H H' `aA h')(hok:`afh)(hg:`AB g')
  (hch:∀b∈ch,`afg) :
  `aFi:=by
 skip;apply `aFt;let#[sl,hL]:=u.any ho `g' `aFs
 done;exact `Pf (ch:=ch) hch (λb o hL hb hc e n=>u.keep b o e n (λz=>(`cF (`aff b z)).elim hL hb) hc) (λb o _ _ hc e n=>u.any e n hc) (λb o hc e n=>u.free b o e n hc) (λb o hc e=>u.there b o e hc) u.tups u.frzs u.tbls (λm' hm=>by
  let#[o',U,O,J,r']:=hm;rw[ho] at J;cases J;exact`aFw) hok hg
def Inv.turned{t':Nat}(I:`A)(k:`CP it `wx)(hn:H it=`f)(hL:it≠`f1)
  (h1:it∈X.ex∨`oz<=it) (h2:`K7 it) (h3:∀p∈`u5,p.1≠it):`afl:=by
 have J:`s5 (b≠it):=λb u e z=>by rw[z,hn] at e;cases e
 refine `Pf (g':=`xp) (d':=`Pg) (ch:=[it]) `Ph (`Pi `afm) (`Pi #[`D0,`afm]) (λ_ _ _ _ n=>n)
  (λb o hc e=>#[o,`afm]) (`afn) (λ_ _ _ e=>e) `aFx `aFy (`afo) `h7
 ·apply `D?
  subst e;exact#[h1,hL,h2,h3]
 ·let#[o,es,ep,ho,r]:=hm
  exact#[o,es,ep,k _ o (B4 hL) ho,r]
 ·apply `aFz
  rcases hc with z|z
  ·rw[z];exact J b u e
  ·exact J c _ z
theorem Inv.tok(I:`A)(t:Nat):`a0 H ((`Id t)):=I.un (h':=`aA) (t':=t) Un.refl `b2
theorem Inv.kept(I:`A)(k:`afp):`afl:=I.un (`O7 k) (I.hok.kept k)
theorem Inv.laid{o:HO}{t':Nat}(I:`A)(k:`afp)(hp:`O?)(new:`Ea `g8 a o) :
  `a0 `g8 `oA:=I.un (Un.laid k hp (`rM hp)) (I.hok.laid k hp new)
theorem Inv.write{x e:`e}{o:HO}{t':Nat}(I:`A)(mu:`ae_)(he:`ae0)(k:∀b u,`Cb->`avP)(heo:`ae1)
  (new:`Ea `ae! x o):`a0 `ae! `oA:=I.un (Un.write mu he k heo) (I.hok.write mu he k heo new)
theorem Inv.weak{σ':`afe}(I:`A)(hl:`afq)(w:∀(i:Nat) v,σ'[i]?=`oc->`D9):Inv X `r σ' H s :=
 #[I.ok,I.os,`h7,`aFA,let #[m,hn,hl']:=`fD;#[m,hn,λi x v e1 e2 e3=>hl' i x v e1 (w i v e2) e3],`lO,`g',`rL,`iN,`b2,hl.trans `eX]
theorem Inv.pins_of{pins':`au}(I:`A)(h:∀p∈pins',`aE?):`sc X pins' :=
 (`s6 I.ok λp hp=>`aFB (λz=>`iN p (D6 _ z)) (h p))
def kw0(hN:`Pj)(a:N[i]?=`du)(b:N[j]?=`du):i=j:=by
 let#[h1,e1]:=`c7 a;let#[h2,e2]:=`c7 b;exact(A60 hN).mp (e1.trans e2.symm)
def d10{M:`e6}{A:`cf}{E:`an}{Q:`dW}(I:`A)(hN:`ej)(hi:`lq)(hx:`Bz)(r:`gi)
  (h:∀s',`aFC->(∃a,`aFD a `aA `oT/\(a=`f1∨`Xf x=`jU))->`Eb) (hf:`s7):`aFE:=by
 let#[m,hn,hl]:=id `fD;have a2:`aFF:=`aFG
 apply `aFH
 have cne:=I.cne;have J:∀{a:`e} {h':`D},(∃o,`YS/\`xo)->`aFI->`aFJ:=λ{a h'} ha hs b ob e=>by
  let#[_,_,O]:=ha;refine`aeY (`b2 b ob e) λc w' hc q=>`aFK q
  rintro rfl;apply `ae5
  ·rw[O] at e;cases e
  ·rw[O] at hc;cases hc
 rcases hx with hk|hk
 ·refine wpAny_storeName_local hk hn (λh' a3 hs=>?_) a2
  let#[oL,_,_,a4,_]:=id hn;refine h _ #[I.ok,I.os,`h7,`aFL,#[_,a3,`afr],`aFM,`g',`rL,`gm,J #[oL,a4,`g'] hs,`afs] #[_,hs,`lp]
  ·exact`aft `Pc
  ·apply `Pd
   exact#[sl,`aft e1]
  ·apply `D!
   exact#[o',`aft e1]
  ·by_cases hj:j=i
   ·subst hj
    rw[hi] at e1;cases e1;rw[`Pk] at e2;cases e2;exact#[u,r,`n #[hk,`a7]]
   ·rw[`py] at e2
    apply `aFN;refine`afu;skip;apply `aFO
    ·done;refine `aFP
     apply `aFQ
     simp[`x,e]
    ·done;exact `aFR
  ·let#[w',z]:=`lO y c e
   exact`aFS
  ·apply `Pe
   apply `aFT
 ·have U:`Xv:=by
   rcases hf with z|z
   ·exact z
   ·rw[z] at hk;cases hk
  let#[c,hc]:=`afv x (`n hk);let#[w',z]:=`lO x c hc;refine wpAny_storeName_cell `mn hk hc z (λh' Z hs=>?_);let#[oc,Y,a1]:=id z;refine h `jZ #[I.ok,I.os,`h7,`aFL,#[m,hn.sameBut hs (B4 (cne x c hc)),`afr],λy c' e=>?_,`g',`rL,`gm,J #[oc,Y,`rL x c hc] hs,`afs] #[c,hs,`p hc]
  ·exact`afw `Pc
  ·apply `Pd
   exact#[sl,`afw e1]
  ·apply `D!
   exact#[o',`afw e1]
  ·by_cases hj:j=i
   ·subst hj
    rw[hi] at e1;cases e1;rw[`Pk] at e2;cases e2;exact#[u,r,`p #[`n hk,c,hc,Z]]
   ·rw[`py] at e2
    apply `aFN;refine`afu;skip;rcases q with q|⟨k,c',e,z'⟩
    ·done;exact `m2
    ·done;refine `p #[k,c',e,z'.sameBut hs ?_]
     rintro rfl;exact hj (kw0 hN e1 (I.ok.inj _ _ _ e hc▸hi))
  ·by_cases hcc:c'=c
   ·subst hcc;exact#[_,Z]
   ·let#[w2,z2]:=`lO y c' e
    exact#[w2,z2.sameBut hs hcc]
  ·apply `Pe
   refine#[`xh p.1 ?_ e,n,ne,nf,d];intro q;rw[q,Y] at e;have q':oc=p.2:=A3 e;exact d w' (`bR q' a1)
theorem ng0{M:`e6}{A:`cf}{E:`an}{Q:`dW}(I:`A)(hN:`ej)(hi:`lq)(hx:`Bz)(r:`gi)
  (h:∀s',`aFC->`Eb) (hf:`s7):`aFE :=
 d10 I hN hi hx r (λs' I' _=>h s' I') hf
def Inv.call'(I:`A)(ho:`afx)(u:Un (`xq) ch H H' `aA `oT)(hok:`vM H' `oT)(hg:`NZ)
  (hch:∀b∈ch,`afg):`m3:=by
 let#[h',g',d',t',o']:=s';have e:o'=s.os:=ho;subst e;exact I.call (g':=g') (t':=t') (d':=d') u hok hg hch
universe zz
abbrev XK:=`B->`bq->`iB
abbrev St:=`afe
abbrev VK:=`afy
abbrev TE:=St->`Iy
variable{r:`aFU}
abbrev TT:=`wf `Ec
variable{ta tb te tv td ty:L2.TE}
abbrev TA:=`wf `JH
structure Ends where
 nx:`kq
 rt:VK
 bk:`kq:=λ_ _=>`b1
 ct:`kq:=λ_ _=>`b1
abbrev TS:=Ends->`kq
def EP(X:Cx)(pins:`au)(σ:St)(Q:VK)(u:`B)(s':`w):Prop:=∃v H',`m3/\`aFV
def TP(X:Cx)(pins:`au)(σ:St)(Q:`Ec)(b:`I)(s':`w):Prop:=∃H',`m3/\Q b H'
def AP(X:Cx)(pins:`au)(σ:St)(Q:`JH)(us:`K)(s':`w):Prop:=∃vs H',`m3/\`s8/\`afz
def SP(X:Cx)(pins:`au)(D:Ends)(f:Flow)(s':`w):Prop :=
 match f with
 | .next=>∃σ' H',`xr/\`aBL
 | .brk=>`acL D.bk
 | .cont=>`acL D.ct
 | .ret u=>∃v σ' H',`xr/\`gi/\D.rt v H'
def PE(X:Cx)(e:`J)(t:TE):Prop :=
 `aFW VK (`cp `LK `fE)
def PT(X:Cx)(e:`J)(t:TT):Prop :=
 `aFW `Ec (`cp (`K8 e `O `LK) `afA)
def PW(X:Cx)(e:`J)(t:TT):Prop :=
 ∀(whole:`J8) (pins:`au) (s:`w) (σ:St) (H:Hp) (Q:`Ec),`A->`rC->`cp (`avQ) `afA
theorem PW.pt{t:TT}(h:PW X e t):PT X e t:=h _
def PA(X:Cx)(es:`bQ)(t:TA):Prop :=
 ∀(pos:Pos) (pins:`au) (s:`w) (σ:St) (H:Hp) (Q:`JH),`A->`rC->`cp (`Ed (`W?)) (AP X `r σ Q)
def PS(X:Cx)(st:`a1)(t:TS):Prop :=
 `aFX (`cp (exec st `O) `afB)
def PSs(X:Cx)(st:`cg)(t:TS):Prop :=
 `aFX (`cp (execs st `O) `afB)
theorem thn{t:Sem α}{Q Q':α->`eL}{M:`e6}{s:`w}(h:`dB M t)(hQ:∀a s,Q a s->Q' a s):`aD M A t Q' E s:=D0 h hQ `s0
section
def Ft0(i:Nat):TE:=`cw (∃v,`D9/\Q v H)
def tC(v:V):TE:=λ_ H Q=>Q v H
def R9(hN:`lq)(hv:`H!)(hd:`aQ)(hcd:`dX):PE X `mo (Ft0 i):=by
 apply `bh;skip;let#[v,e,h]:=h;let#[m,hn,hl]:=`fD;let#[u,r,l]:=hl i x v hN e hv;have fin:`sg u s:=`afC;rcases l with⟨hk,hm⟩|⟨hk,c,hc,J⟩
 ·done;exact `afD (wpAny_loadName_local `mn hk hn hm fin) hd
 ·rcases hk with hk|hk
  ·done;exact `afD (wpAny_loadName_cell `mn hk hc J fin) hd
  ·done;exact `afD (wpAny_loadName_free `mn hk hc J fin hcd) hd
theorem H60{i j pos}:PE X `aFY (tC `fq):=`s9 (wpAny_Constant_int #[`bD,H,`uL,`ah,h])
theorem Gh0{b j pos}:PE X (`we (`Pl)) (tC `sw):=`s9 (Constant_bool (`iV `f3 h))
theorem Sl0{j pos}:PE X (`we `al) (tC `y):=`s9 (Constant_none (`iV `y h))
theorem Jv0{x j pos}:PE X `aFZ (tC `oS):=`s9 (`aF_ #[`c3,H,`uL,`ah,h])
def Gl(X:Cx)(x:Str):Prop:=`BW=`c .globalImplicit
theorem s80{E:`an}{s:`w}{σ:St}{pos:Pos}(I:`A)(hg:`jM)(hm:`nR=`bc)(h:Q u s)
  (hd:`aQ):`aF0 :=
 Bl0 `mn hg (Calls.loadGlobal_global `aF1 hm h) hd
def td0{E:`an}{s:`w}{σ:St}{pos:Pos}(I:`A)(hg:`jM)(hm:`pz)(hv:`vO=`bc)(h:Q u s)
  (hn:`pA) (hd:`aQ):`aF0:=by
 let#[mb,h1,h2]:=I.mod.blt;exact Bl0 `mn hg (Calls.loadGlobal_builtin `aF1 hm (`k I.ok.blt (h1.keeps I.bk)) ((h2 x hn).trans hv) h) hd
theorem lt0(hg:`jM)(hm:`nR=`bc)(r:`gi)(hd:`aQ):`aF2 :=
 `s9 (s80 I hg hm `afC hd)
theorem Mo0(hg:`jM)(hm:`pz)(hv:`vO=`bc)(r:`gi)(hn:`pA)(hd:`aQ):`aF2 :=
 `s9 (td0 I hg hm hv `afC hn hd)
variable{a:`J}
def PC(X:Cx)(op:`hl)(a b:`J)(t:TE):Prop :=
 ∀(pins:`au) (s:`w) (σ:St) (H:Hp) (Q:VK),`A->`rC ->
  `cp (`Y6) (`aF3 (`pB (`Pm op v u) `fE s₂))
def tB(t:TE):TT:=`bm t (`Pn (Q c H1))
theorem J70{op:`hl}{t:TE}(h:`aF4)(h1:`aF5):PE X `s' t:=λpins s σ H Q I hw=>`aF6 `aF7 h1
def H00{op:`hl}{t:TE}(h:`aF4)(h1:`aF5):PT X `s' (tB t):=by
 apply `afE;refine `aF8 (`Po `afF λu s2 h2=>thn h2 λc s3 hq2=>?_) h1;skip;apply `gq hq2;let#[d,rfl,q]:=q1;cases r1;done;exact E9 #[H1,I1,q]
def R10{t:TE}(h:PE X e t)(he:`afG):PT X e (tB t):=by
 apply `afE;refine isTrue_plain (thn `afF λv s1 hq3=>?_) (he _);skip;apply `gq hq3;let#[d,rfl,q]:=q1;cases r1;done;exact E9 #[H1,I1,q]
variable{tA tB':TT}{rest:`bQ}
def Gy0(t u:TT):TT:=`bm t λc H1=>`o `Pp (u σ H1 Q) (Q `m H1)
def tOr(t u:TT):TT:=`bm t λc H1=>`o `Pp (Q `d H1) (u σ H1 Q)
def Fu0(t:TT):TT:=`bm t `aF9
def Xl0(ha:`Ee):PW X `afH tA:=by
 apply `Pq;refine isTrue_and `aF';cases c with
 | true=>exact isTrue_and_nil e
 | false=>exact e
def S10(ha:`Ee):PW X `afI tA:=by
 apply `Pq;refine isTrue_or `aF';cases c with
 | false=>exact isTrue_or_nil e
 | true=>exact e
def Tx0(ha:`Ee)(hb:PW X `Ef tB'):PW X `Eg (Gy0 tA tB'):=by
 apply `Pq;apply `s! isTrue_and λc s1 hq4=>?_;let#[H1,I1,q1]:=hq4;cases c with
 | true=>exact `aF!
 | false=>exact`aF?
def N40(ha:`Ee)(hb:PW X `Eh tB'):PW X `Ei (tOr tA tB'):=by
 apply `Pq;apply `s! isTrue_or λc s1 hq5=>?_;let#[H1,I1,q1]:=hq5;cases c with
 | true=>exact`aF?
 | false=>exact `aF!
def Ux0(ha:`Ee):PT X `Ej (Fu0 tA):=by
 apply `bh;exact isTrue_not (`b8 ha (`aF9) h)
def Hn0(ta tb:TE):TE:=`bm ta (`Pn (`o `Pp (tb σ H1 Q) (Q `un H1)))
def Fm0(ta tb:TE):TE:=`bm ta (`Pn (`o `Pp (Q (`lu) H1) (tb σ H1 Q)))
def Gb0(ta:TE):TE:=`bm ta (`Pn (Q (.bl (!c)) H1))
theorem Ji0{op}{t:TE}(h:PE X a t):PE X `aGa t:=λpins s σ H Q I hw=>BoolOp_one `aF7
def Kl0(ha:`ji)(hb:PE X `Ef tb):PE X `Eg (Hn0 ta tb):=by
 apply `bh;apply `s! BoolOp_and λv s1 hq6=>?_;skip;apply `gq hq6;apply `afJ;cases r1;done;refine E9 ?_;cases c with
 | true=>exact `aGb
 | false=>exact#[`z_,H1,I1,rfl,q1]
def Gj0(ha:`ji)(hb:PE X `Eh tb):PE X `Ei (Fm0 ta tb):=by
 apply `bh;apply `s! BoolOp_or λv s1 hq7=>?_;skip;apply `gq hq7;apply `afJ;cases r1;done;refine E9 ?_;cases c with
 | false=>exact `aGb
 | true=>exact#[`lu,H1,I1,rfl,q1]
def Iy0(ha:`ji):PE X `Ej (Gb0 ta):=by
 apply `bh;apply `s! UnaryOp_ λv s1 hq8=>?_;skip;apply `gq hq8;apply `afJ;cases r1;done;exact not_of (E9 #[.bl (!c),H1,I1,rfl,q1])
universe zz
def SqL(K:`z)(H:Hp)(a:`e)(xs:`V):Prop :=
 `ax' ∨
  `aGc (`l2=`iS/\`O1/\`aGd)
def SqT(K:`z)(H:Hp)(a:`e)(xs:`V):Prop :=
 Rd H a `uo ∨
  `aGc (`O0/\`aGd)
def Ea0:`B->`ea
 | `al=>`xs
 | `Pl=>`c `sw
 | `g i _=>`BF
 | `u x _=>`c `oS
 | .bytes b _=>`c (.byt b)
 | .float b _=>`c (.flt b)
 | `bZ=>`n8
 | `bM n=>`c (.ty n)
 | _=>`f
def RelV.abs{x:V}(r:`i9):Ea0 u=`du:=by
 cases x with
 | non=>cases r;rfl
 | bl _=>cases r;rfl
 | int _=>apply `jj;rfl
 | str _=>apply `jj;rfl
 | byt _=>apply `jj;rfl
 | flt _=>apply `jj;rfl
 | ref _=>cases r;rfl
 | ty _=>cases r;rfl
theorem RelV.inj{x y:V}(r:`i9)(q:`fM):x=y:=A3 (r.abs.symm.trans q.abs)
def Vals.inj:∀{xs ys:`V} {us:`K},`ei->`bU ys us->xs=ys:=by
 intro xs ys us h
 induction h generalizing ys with
 | nil=>intro h2;cases h2;rfl
 | cons r t ih=>intro h2;cases h2 with
  | cons r' t'=>rw[`afK,ih t']
section
variable{σ:St}{s:`w}{ys:`V}
def Inv.list(I:`A)(h:`aGe):`aGf PlainL:=by
 skip;rcases h with h|⟨o,its,n,hk,hc,hd,hs,hz,r⟩
 ·let#[z,its,n,r,e]:=h.ok `b2
  done;exact#[its,r,#[_,n,e,rfl,rfl,rfl],z]
 ·done;refine#[`LD,r,#[o,n,`aGg,hc,hd,`aGh],?_]
  have e:=`cd;simp only[`Pr] at e;lia
def Inv.tuple(I:`A)(h:`aGi):`aGf `Cm:=by
 skip;rcases h with h|⟨o,its,n,hk,hc,hs,hz,r⟩
 ·let#[z,its,r,p]:=h.ok `b2
  done;exact#[its,r,p.tup,z]
 ·done;refine#[`LD,r,#[o,`aGg,hc,n,`aGh],?_]
  have e:=`cd;simp only[`Pr] at e;lia
def Inv.list_inj(I:`A)(h:`aGe)(h':SqL X.K H a ys):xs=ys:=by
 skip;let#[its,r,#[o,n,e,_,_,d],_]:=`iJ h;let#[J,r',#[o',n',e',_,_,d'],_]:=`iJ h';rw[e] at e';cases e';rw[d] at d';done;injection d' with d1 _
 apply `aGj
 subst this;exact `afK
def Inv.tuple_inj(I:`A)(h:`aGi)(h':SqT X.K H a ys):xs=ys:=by
 skip;let#[its,r,#[o,e,_,n,d],_]:=`lY h;let#[J,r',#[o',e',_,n',d'],_]:=`lY h';rw[e] at e';cases e';rw[d] at d';done;injection d' with d1 _
 apply `aGj
 subst this;exact `afK
universe zz
abbrev Cx.wish(X:Cx)(E:`an):Cx:={ X with xe:=E }
abbrev Cx.nox(X:Cx):Cx:=X.wish `nT
theorem Cx.Ok.wish(ok:X.Ok)(E:`an):`aGk :=
 `aGl
theorem Cx.Ok.unwish(ok:`aGk):X.Ok :=
 `aGl
section
variable{σ:St}{s:`w}
theorem Inv.wish(I:`A)(E:`an):`aGm:=(`s6 (I.ok.wish E) `iN)
theorem Inv.unwish(I:`aGm):`A:=(`s6 I.ok.unwish `iN)
def SP.unwish{D:Ends}{f:Flow}(h:SP (X.wish E) `r D f s'):`aGn:=by
 skip;cases f with
 | next=>apply `afL;done;apply `afM
 | brk=>apply `afL;done;apply `afM
 | cont=>apply `afL;done;apply `afM
 | ret u=>let#[v,σ',H',I,r,q]:=h;done;exact#[v,σ',H',`aAQ,r,q]
theorem PSs.nox{st:`cg}{t:TS}(h:PSs X.nox st t):PSs X st t:=λpins s σ H D I hw =>
 D0 (h `r s σ H D (I.wish _) hw) (λ_ _ q=>q.unwish) λ_ _ z=>`fH z
universe zz
section
variable{st:`a1}{t u:TS}
def G10:TS:=`kL `aaH
def Fd0(t u:TS):TS:=`kL (t `aGo σ H)
theorem tt0:PSs X [] G10:=λ_ _ σ H _ I h=>A80 `aGp
def T8(h1:PS X st t)(h2:PSs X `aR u):PSs X `aGq (Fd0 t u):=by
 apply `h!;refine wpAny_execs_cons (thn (`b8 h1 `aGo h) `aGr);cases f with
 | next =>
  let#[σ',H',I',q]:=q;exact h2 `r s1 σ' H' D I' q
 | ret v=>exact q
 | brk=>exact q
 | cont=>exact q
def Inv.quiet{σ:St}{s:`w}(I:`A):`aGs `O=`m:=by simp[`aGs,`mn]
def Ge0(te:TE):TS:=`kL (te σ H λ_ H1=>`gc σ H1)
def tz0(he:`gr)(hs:`afN):PS X `afO (Ge0 te):=by
 apply `h!;exact wpAny_Expr_any (`afP `kU #[σ,H1,I1,q1]) I.quiet hs
def Fi0(te:TE):TS:=`kL (te σ H D.rt)
def sg0(he:`gr):PS X `Ps (Fi0 te):=by
 apply `h!;exact wpAny_Return_some (`afP `kU #[x,σ,H1,I1,r1,q1])
def Fw0(c:TT)(t u:TS):TS:=`kL (c σ H λb H1=>`o (b=`d) (t D σ H1) (u D σ H1))
def cf0{c:`J}{a b:`cg}{tc:TT}(hc:PT X c tc)(ha:PSs X a t)(hb:PSs X b u):PS X (.If c a b pos) (Fw0 tc t u):=by
 apply `h!;refine wpAny_If (thn (`b8 hc _ h) λd s1 hq9=>?_);let#[H1,I1,q1]:=hq9;cases d with
 | true=>exact `l3 ha D
 | false=>exact `l3 hb D
def Kx0:TS:=`uY
theorem z80{sts:`cg}:PSs X sts Kx0:=λ_ _ _ _ _ _ h=>`j9
universe zz
abbrev TG:=V->`aGt
abbrev TGs:=`V->`aGt
def PG(X:Cx)(target:`J)(t:TG):Prop :=
 ∀(pins:`au) (s:`w) (σ:St) (H:Hp) (v:V) (u:`B) (Q:`kq),`A->`gi->t v σ H Q ->
  `cp (`hT `N_ `O u) `aGu
def PGs(X:Cx)(ts:`bQ)(t:TGs):Prop :=
 ∀(pins:`au) (s:`w) (σ:St) (H:Hp) (vs:`V) (us:`K) (Q:`kq),`A->`s8->t vs σ H Q ->
  `cp (assignInOrder (`rW ts) us) `aGu
abbrev Pn0:=`aGv
def Im0(X:Cx)(t:Pn0):Prop :=
 ∀(pins:`au) (s:`w) (σ:St) (H:Hp) (o i v:V) (ov iv u:`B) (Q:`iB),`A->`d1 o ov->`d1 i iv->`gi->t o i v H Q ->
  `cp (`Ko ov iv u) (λ_ s'=>∃H',`m3/\Q H')
def Ox0(i:Nat):TG:=`q' (Q `Cd H)
def om0(hN:`ej)(hi:`lq)(hx:`Bz)(hf:`s7):PG X `mo (Ox0 i):=by
 apply `aGw;exact `aGx (ng0 I hN hi hx r (λs' I'=>#[_,H,I',h]) hf)
def Fe0:TGs:=λvs σ H Q=>vs=[]/\Q σ H
def G80(t:TG)(u:TGs):TGs:=λvs σ H Q=>∃v r,vs=v::r/\t v σ H fun σ' H'=>u r σ' H' Q
def Lj0:PGs X [] Fe0:=by
 apply `afQ;let#[e,h]:=h;subst e;cases r;exact assignInOrder_nil `aGp
def Zt0{t:TG}{u:TGs}(h1:PG X e t)(h2:PGs X es u)
  (hs:`H (`rW `gG=`hT e `O::(`afR).map `iA) Aa):PGs X `gG (G80 t u):=by
 apply `afQ;let#[v,vr,e1,h]:=h;subst e1;cases r with
 | cons r rr =>
  rw[hs];refine assignInOrder_cons (thn (h1 `r s σ H _ _ _ I r h) λ_ s1 hq10=>?_);let#[σ1,H1,I1,q1]:=hq10;exact h2 `r s1 σ1 H1 _ _ Q I1 rr q1
def Fo0(K:`z)(n:Nat)(t:TGs):TG:=`q' (`oV `pC (`ar=n/\t xs σ H Q))
def Ip0{k:Nat}{t:TGs}{n:Nat}(hc:`d4)(h:PGs X es t)
  (hn:`H ((`s `afR)=n) Aa) (hst:`aGy `afR):PG X (`CQ es k pos) (Fo0 X.K n t):=by
 intro pins s σ H v u Q I r hw;skip;let#[a,xs,e1,hq,hl,hw]:=hw;subst e1;cases r;let#[its,rv,ht,hz]:=`JG;done;refine assign_Tuple_tuple `m4 ht (by simp[hn,← hl,`Ek]) hst λh' hx=>?_
 have I1:`Cg:=I.kept (t':=`cv) λb o e=>hx b o `afS e
 exact h `r _ σ H xs _ Q I1 (`aGz) hw
def Fs0(to ti:TE)(t:Pn0):TG:=`q' (to σ H λo H1=>ti σ H1 λi H2=>t o i v H2 λH3=>Q σ H3)
def U90{i:`J}{to ti:TE}{t:Pn0}(ho:`afT)(hi:PE X i ti)(hs:Im0 X t)
  (ha:`H (∀v,`hT `afU `O v=(do
   let ov ← `nS [v] `afV
   let iv ← `nS [v,ov] (`bV i `O)
   `afW
   `afX
   `afY)) Ad):PG X `afU (Fs0 to ti t):=by
 apply `aGw;rw[ha];refine A0 (D5 (thn `El λov s1 hq11=>?_));apply `gq hq11;refine A0 (D5 (thn `aGA λiv s2 hq12=>?_));let#[y,H2,I2,r2,q2]:=hq12;refine `kR X2 (D5 (thn (hs `r s2 σ H2 x y v ov iv u _ I2 r1 r2 r q2) λ_ s3 hq13=>?_));let#[H3,I3,q3]:=hq13;exact wpAny_release #[σ,H3,I3,q3]
def J50(te:TE)(g:TG):TS:=`kL (te σ H λx H1=>g x σ H1 `gc)
def im0{g:TG}(he:`gr)(hg:PG X tg g)(hs:`afZ)(hw:`af_)
  (h1:`af0):PS X `af1 (J50 te g):=by
 apply `h!;refine wpAny_Assign_stores (thn `kU λv s1 hq14=>?_) hs hw;apply `gq hq14;rw[h1];exact thn (hg `r s1 σ H1 x v _ I1 r1 q1) λ_ s2 q=>q
def Zk0(hN:`ej)(hi:`lq)(hx:`Bz)(he:`gr)(hs:`i1 e (`c (`aGB)) `l!)(hf:`s7) :
  PS X (`h2 [`aGB] e pos) (J50 te (Ox0 i)):=by
 apply `h!;refine wpAny_Assign_Name (thn `kU λv s1 hq15=>?_) hs;let#[y,H1,I1,r1,q1]:=hq15;exact ng0 I1 hN hi hx r1 (λs2 I2=>#[_,H1,I2,q1]) hf
def Jc0(c:TT)(tb:TS):TS:=λD σ H=>∃W:`axv,(∃m,W m σ H)/\∀m σ H,W m σ H ->
 c σ H λb H1=>if b=`d then ∃N:`kq,(∀σ' H',N σ' H'->∃m',m'<m/\W m' σ' H')/\tb `aGC σ H1 else `gc σ H1
def Oa0{c:`J}{body:`cg}{tc:TT}{tb:TS}(hp:`Em)(hc:PT X c tc)(hb:`aGD):PS X `aGE (Jc0 tc tb):=by
 apply `h!;let#[W,#[m0,w0],J]:=h;refine wpAny_While (codeAny_whileLoop (λn s'=>∃σ' H',`xr/\W n σ' H') ?_ m0 #[σ,H,I,w0]);rintro n s1 ⟨σ1,H1,I1,w1⟩;refine `s? (hc `r s1 σ1 H1 _ I1 (J n σ1 H1 w1)) λb s2 hq16=>?_;let#[H2,I2,q2]:=hq16;cases b with
 | true =>
  let#[N,hN,q2]:=q2;rw[`bp];refine `s? (`NX hb σ1) λf s3 q3=>?_;skip;cases f with
  | next =>
   let#[σ3,H3,I3,n3]:=q3;let#[m',hm,w3]:=hN σ3 H3 n3;done;exact`aGF
  | cont =>
   let#[σ3,H3,I3,n3]:=q3;let#[m',hm,w3]:=hN σ3 H3 n3;done;exact`aGF
  | brk=>done;exact q3
  | ret v=>done;exact q3
 | false =>
  rw[`pD];exact A80 #[σ1,H2,I2,q2]
structure It where
 go:`aGG
 yld:Nat->Hp->`afy
 stop:`aGG
def qv0(X:Cx)(pins:`au)(H:Hp)(b:`e):Prop :=
 `aGH (`oz<=b)
def Inv.fpOk{σ:St}{s:`w}{b:`e}(I:`A)(hb:`Y<=b)(hn:`n4):`af2:=by
 refine#[hn,`En I.lt,I.nofs hb,`p (C0 I.sz hb),`af3,`af4]
 ·let#[v,q]:=`Cc
  exact `px q.lt `aGI
 ·exact `px (A8 (`AQ).1) `aGI
structure Turn(P:`ai)(w:`Q)(K:`z)(tg:`J)(J:It)(fp:`aX)(it:`e)(tn:`af5):Prop where
 mem:it∈fp
 obj:∀i h,tn i h->∀b∈fp,∃o,`ob/\`aGJ
 keep:∀i h h',tn i h->(∀b∈fp,∀o,`ON)->tn i h'
 item:∀(X:Cx),`cB=P->X.w=w->X.K=K->`d4->∀(i:Nat) (pins:`au) (s:`w) (σ:St) (H:Hp) (E:`an),`A->`aGK->`af6->`af7 ->
  `aD `si X.A (`A_ `sN) (λr s1=>∃u,r=`bc /\
   `aD `si X.A `af8 (λ_ s2=>∃x H',`af9/\`i9/\`af'/\tn `fp s2.heap/\∀b∈fp,`n4) E s1) E s
 done:∀(X:Cx),`cB=P->X.w=w->X.K=K->`d4->∀(i:Nat) (pins:`au) (s:`w) (σ:St) (H:Hp) (E:`an),`A->`aGK->`af6->`af! ->
  `aD `si X.A (`A_ `sN) (λr s1=>r=`f/\`a0 H s1) E s
 self:∀(A:`cf) (i:Nat) (s:`w) (Q:`an) (E:`an),`af6->Q `sN s->`dB `si (pyIter `sN)
abbrev TI:=`wf `Pt
def PIE(X:Cx)(pins:`au)(σ:St)(tg:`J)(R:`Pt)(itv:`B)(s2:`w):Prop :=
 ∃(it:`e) (fp:`aX) (tn:`af5) (J:It) (H':Hp),itv=`X it/\`af9/\`aGL/\`aGM/\(∀b∈fp,`af2)/\R J H'
def PI(X:Cx)(tg iter:`J)(wi:TI):Prop :=
 ∀(pins:`au) (s:`w) (σ:St) (H:Hp) (R:`Pt),`A->wi σ H R ->
  `cp (`bV iter `O) (λv s1=>`pB (pyIter v) `aGN s1)
def c20{M:`e6}{A:`cf}{E:`an}{s:`w}{tg:`J}{u:`B}{o:Obj}{n:`cq}{vs:`a5}{Q:`dW}(ho:`dO it=`aq)(hc:`l2=`bM n)(hd:`oy=`Aj)
  (hn:`aGO=`m) (hQ:Q () s):`dB M `af8:=by
 unfold letOwnedTupleGo;cases tg<;>first
  | exact A1 hQ
  | (cases u<;>first
    | exact A1 hQ
    | (apply `m_ wpAny_load ho
       rw[hc,hd];show `dB M (`o ((`aGO&&vs[0]?==`c (`pE _))=`d) _ _);rw[`_ (by intro h;rw[hn,Bool.false_and] at h;cases h)];exact A1 hQ))
def Itl(K:`z)(a:`e):It :=
 #[`aGP,`af? `aGQ,`aGR]
def Itt(K:`z)(a:`e):It :=
 #[λi H=>∃xs x,`pC/\`se,`af? (∀xs,`pC->`se),λi H=>∃xs,`pC/\`_5]
def Itr(lo:Int)(n:Nat):It:=#[λi _=>i<n,`af? (x=`aga),λi _=>n<=i]
theorem Sb0{P:`ai}{w:`Q}(a it:`e):`Pu (Itl K a) `aGS where
 mem:=`a7
 obj:=λi h st b hb=>by
  apply `D?
  subst e;apply `agb;apply `agc
 keep:=`aGT
 item:=by
  apply `kV;skip;apply `kW;apply `agd;apply `aGU;apply `age;apply `pF;done;refine wpAny_pyNext_list_item st `Pv (x:=u) `agf `aGV
  apply `aGW;apply `agg;exact`aGX `aGY
 done:=by
  apply `kV;skip;apply `kW;let#[xs,hq,hx]:=hg;apply `aGU;apply `pF;have hl:=`Ek;done;exact wpAny_pyNext_list_end `m4 st `Pv `pG `Eo
 self:=`agh wpAny_pyIter_listiter
theorem Vs0{P:`ai}{w:`Q}(a it:`e):`Pu (Itt K a) (h.IsTupleIter it a i) where
 mem:=`a7
 obj:=λi h st b hb=>by
  apply `D?
  subst e;apply `agb;apply `agc
 keep:=`aGT
 item:=by
  apply `kV;skip;apply `kW;apply `agd;apply `aGZ;apply `age;apply `pF;done;refine wpAny_pyNext_tuple_item st `aG_ (x:=u) `agf `aGV
  apply `aGW;apply `agg;exact`aGX λys hy=>`k (`aG0 hy hq) hx
 done:=by
  apply `kV;skip;apply `kW;let#[xs,hq,hx]:=hg;apply `aGZ;apply `pF;have hl:=`Ek;done;exact wpAny_pyNext_tuple_end `m4 st `aG_ `pG `Eo
 self:=`agh wpAny_pyIter_tupleiter
theorem V00{P:`ai}{w:`Q}(it:`e)(lo:Int)(n:Nat):`Pu (Itr lo n) (`aG1 h it (lo+(i:Nat)*1) (`bv - (i:Nat)) 1) where
 mem:=`a7
 obj:=λi h st b hb=>by
  apply `D?
  subst e;exact#[_,st,λv z=>by
   have z':`aG2 _=Data.cell v:=z;cases z']
 keep:=λi h h' st k=>k it `aM _ st
 item:=by
  apply `kV;skip;apply `kW;apply `pF;have W:=Walks.range (prog:=`cB) (w:=X.w) `m4 it lo 1 n;done;refine W.item i s _ _ hg st λv h' tk hv J kk=>?_
  let#[t,rfl]:=hv;have I1:`a0 H `xt:=`agi (`ri (kk b o (`u8) e)) f0 f1 f3 f4 f5;refine`pH (c20 (s:=`xt) (n := "range_iterator") J rfl rfl `v #[`aga,H,I1,#[t,?_],`ks,J,`agj]);rw[Int.mul_one]
 done:=by
  apply `kV;skip;apply `kW;apply `pF;done;exact wpAny_pyNext_range_end `m4 st (by have:n<=i:=hg;lia) `Eo
 self:=`agh wpAny_pyIter_rangeiter
def G70(K:`z)(tl:TE):TI:=`Ep tl λx H1=>∃a,`ek/\`aG3/\R (Itl K a) H1
def Fz0(K:`z)(tl:TE):TI:=`Ep tl λx H1=>∃a,`ek/\(∃xs,SqT K H1 a xs)/\R (Itt K a) H1
def Xg0{l:`J}{tl:TE}(hl:PE X l tl):PI X tg l (G70 X.K tl):=by
 apply `Eq;refine thn `aG4 λv s1 hq17=>?_;skip;apply `gq hq17
 apply `aG5;subst e;cases r1;let#[its,rv,p,hz]:=`agk hq;done;refine wpAny_pyIter_list `Pv ?_;refine`aG6 Sb0;have e:b=`j2:=`u8
 subst e;apply `Er
def Jn0{l:`J}{tl:TE}(hl:PE X l tl):PI X tg l (Fz0 X.K tl):=by
 apply `Eq;refine thn `aG4 λv s1 hq18=>?_;skip;apply `gq hq18
 apply `aG5;subst e;cases r1;let#[its,rv,p,hz]:=I1.tuple hq;done;refine wpAny_pyIter_tuple (show s1.heap.IsTuple a `b4 from p) ?_;refine`aG6 Vs0;have e:b=`j2:=`u8
 subst e;apply `Er
def Rx0{σ:St}{s:`w}{R:`Pt}{E:`an}{lo hi:Int}{t u v:Tok}{tk:Nat}(I:`A)(h1:`xu<=lo)(h2:lo<`jY)(h3:`xu<=hi)(h4:hi<`jY)
  (q:R (Itr lo `wg) H):`aD `cI X.A (pyIter `i?) `aGN E `aG7:=by
 refine wpAny_pyIter_range (IsRange.new ..) (small_one h1 h2 h3 h4) ?_;have I1:`a0 H `aG7:=I.kept `AR
 refine#[`agl,[`agl],_,_,H,rfl,
  `JF (t':=tk) `AR,V00 _ lo `wg,?_,`hK,q]
 ·have e1:lo+`vs*1=lo:=`a7
  have e2:`aG8=Builtin.Range.rangeSize lo hi 1:=by rw[rangeSize_one];split<;>lia
  show `aG1 _ _ (lo+`vs*1) (`aG8) 1;rw[e1,e2];exact `gY
 ·have e:b=`agl:=`u8
  subst e;apply `Er
def Hh0(ta:TA):TI:=`Ep ta λvs H1=>∃j:Int,vs=[`iQ]/\`xu<=j/\j<`jY/\R (Itr 0 `ka) H1
def Rm0{a:`J}{ta:TA}{p:Pos}(hg:`aG9)(hm:`aG')(ha:`aG!)(hs:`Pw):PI X tg `aG? (Hh0 ta):=by
 apply `Eq;refine `aHa boot_range λus s1 hq19=>?_;skip;apply `Px hq19;let#[j,e,q1,q2,q]:=q1;subst e;cases r1 with
 | cons r rr =>
  cases rr;apply `jj;done;exact call_range_1 (Rx0 I1 `j `j q1 q2 (`agm))
def Fr0(wi:TI)(g:TG)(tb:TS):TS:=λD σ H=>wi σ H λJ H1=>∃W:`aHb,(∃m,W 0 m σ H1)/\∀i m σ H,W i m σ H ->
 (`af!/\`aaH)∨(`af7/\∃N:`kq,(∀σ' H',N σ' H'->`aar σ' H')/\∀x H',`af'->g x σ H' fun σ2 H2=>tb `aGC σ2 H2)
def l30(fp:`aX)(h:`D):`au:=fp.filterMap λb=>(`qH).map λo=>`Ch
theorem rs0{h:`D}{b:`e}{o:Obj}(hb:b∈fp)(e:`ob):`Ch∈l30 fp h:=List.mem_filterMap.mpr #[b,hb,`aHc]
def Tz0{h:`D}{p:`atG}(hp:p∈l30 fp h):p.1∈fp/\`fZ p.1=`wb:=by
 let#[b,hb,e]:=List.mem_filterMap.mp hp;cases q:`qH with
 | none=>rw[q] at e;cases e
 | some o =>
  rw[q] at e;have e':`Ch=p:=A3 e;subst e';exact#[hb,q]
theorem Inv.pinned{σ:St}{s:`w}(I:`A)(hf:∀b∈fp,`LE)(ho:∀b∈fp,∃o,`gM/\`aGJ):`sc X (`r++l30 fp `aA) :=
 I.pins_of λp hp=>`aFB (λz=>`iN p (D4 _ z)) λz=>by
  skip;let#[hb,e]:=Tz0 z;let#[f0,f1,f2,_]:=hf p.1 hb;let#[o,e',d]:=ho p.1 hb;rw[e] at e';cases e';done;exact#[e,f0,f1,f2,d]
theorem Inv.unpinned{pl:`au}{σ:St}{s:`w}(I:`sc X (`r++pl)):`A:=I.pins_of λp hp=>`iN p (D4 _ (D6 _ hp))
def S80{body:`cg}{wi:TI}{g:TG}{tb:TS}{pos:Pos}(hp:`Em)(hc:`d4)(hi:`agn)(hg:PG X tg g)(hb:`aGD)
  (hs:`e7):PS X `ago (Fr0 wi g tb):=by
 apply `h!;refine wpAny_For (`Po `Es λa5 s2 h2=>?_) hs;skip;let#[it,fp,tn,J,H2,e,I2,T,a3,f2,W,#[m0,w0],a1]:=h2;subst e;have O:`aHd `af2:=λhn b hb=>#[hn b hb,(`l?).2]
 done;refine codeAny_forLoop_any (λn s'=>∃i σ' H',`xr/\`aHe/\`Py n σ') ?_ m0 #[0,σ,H2,I2,a3,λb hb=>(`l?).1,w0];rintro n s3 ⟨i,σ3,H3,I3,Y,Z,w3⟩;skip;rcases a1 i n σ3 H3 w3 with⟨stop,qn⟩|⟨go,N,hN,step⟩
 ·done;refine `s? (T.done X rfl rfl rfl hc i `r s3 σ3 H3 `hG I3 (O Z) Y stop) λr s4 hq20=>?_;let#[hr,I4]:=hq20
  subst hr;exact A80 #[σ3,H3,I4,qn]
 ·done;refine `s? (T.item X rfl rfl rfl hc i `r s3 σ3 H3 `hG I3 (O Z) Y go) λr s4 hq21=>?_;let#[u,hr,h4]:=hq21
  subst hr;refine `s? h4 λ_ s5 hq22=>?_;skip;let#[x,H5,I5,r5,y5,U,a2]:=hq22;have a4:=I5.pinned (O a2) (`Do _ _ U);done;refine `s? (hg _ s5 σ3 H5 x u _ a4 r5 (step x H5 y5)) λ_ s6 hq23=>?_;let#[σ6,H6,I6,q6]:=hq23;refine `s? (hb _ s6 σ6 H6 _ I6 q6) λf s7 q7=>?_;skip;have again:∀{σ7:St} {H7:Hp},Inv X (`r++l30 fp s5.heap) σ7 H7 s7->N σ7 H7->∃m,m<n/\∃i σ' H',`Xm s7/\tn i s7.heap/\`Py m σ':=λ{σ7 H7} I7 n7=>by
   let#[m',hm,w7]:=hN σ7 H7 n7;refine#[m',hm,i+1,σ7,H7,`agp,`agq U (`aHf).1,`hK,w7];let#[o,e,d]:=`Do _ _ U b hb;exact(`aHf).2.1
  cases f with
  | next=>let#[σ7,H7,I7,n7]:=q7;done;exact `aHg
  | cont=>let#[σ7,H7,I7,n7]:=q7;done;exact `aHg
  | brk=>let#[σ7,H7,I7,q7]:=q7;done;exact#[σ7,H7,`agp,q7]
  | ret v=>let#[x7,σ7,H7,I7,r7,q7]:=q7;done;exact#[x7,σ7,H7,`agp,r7,q7]
abbrev R2:=`Et
def OpR(X:Cx)(f:`xv)(r:R2):Prop :=
 ∀(pins:`au) (s:`w) (σ:St) (H:Hp) (x y:V) (v u:`B) (Q:VK),`A->`kX->`fM->`NU ->
  `cp `agr `fE
variable{r':L2.R2}
def UnR(X:Cx)(f:`XK)(r:`At):Prop :=
 ∀(pins:`au) (s:`w) (σ:St) (H:Hp) (x:V) (v:`B) (Q:VK),`A->`kX->r x H Q ->
  `cp (f v) `fE
def CallR(X:Cx)(f:`B)(r:`qR):Prop :=
 ∀(pins:`au) (s:`w) (σ:St) (H:Hp) (xs:`V) (us:`K) (Q:VK),`A->`ei->`Pz ->
  `cp (`eb f us) `fE
def tOp(r:R2)(ta tb:TE):TE:=`bm ta (`ta tb λy H2=>r x y H2 Q)
def tUn(r:`At)(ta:TE):TE:=`bm ta λx H1=>r x H1 Q
def rI(C:`ags)(g:`PA):R2:=`ef (`agt (C i j/\Q `mp H))
def rI0(g:`PA):R2:=`ef (`agt (Q `mp H))
def rU(g:Int->V):`At:=λx H Q=>∃i,`agu/\Q (g i) H
section
variable{a c:`J}{tc:TE}
def Oc0(ha:`ji)(hb:`tb){s:`w}{σ:St}{R:V->`afy}(I:`A)
  (h:ta σ H (`ta tb λy H2=>R x y H2)) {Q:`an} {f:`xv}
  (hf:∀v u s2 x y H2,`aHh->`kX->`fM->R x y H2->`pB `agr Q s2) :
  `cp (`Y6) (`aF3 (`pB `agr Q s₂)):=by
 refine thn `xw λv s1 hq24=>?_;apply `gq hq24
 refine thn `PB λu s2 hq25=>?_;let#[y,H2,I2,r2,q2]:=hq25
 exact hf v u s2 x y H2 I2 r1 r2 q2
def Os0{op:`PC}{r:R2}(ho:`aHi)(ha:`ji)(hb:`tb):PE X `aHj `PD:=by
 apply `bh;exact wpAny_BinOp `aHk
def Gr0{op:UnaryOp}{r:`At}(ho:UnR X (unaryOp op) r)(ha:`ji):PE X (`X2 op a pos) (tUn r ta):=by
 apply `bh;exact UnaryOp_ (`afP `xw (ho `r s1 σ H1 x v Q I1 r1 q1))
def opI{f:`xv}{C:`ags}{g:`aHl}
  (rule:`agv (C i j->`aHm)) :
  OpR X f (rI C `aHn):=by
 apply `fN;skip;let#[i,j,rfl,rfl,hc,q]:=h;apply `cy;apply `cV;done;exact rule i j t t' s _ _ hc `aHo
def I30{f:`xv}{g:`aHl}
  (rule:`agv `aHm) :
  OpR X f (rI0 `aHn):=by
 apply `fN;skip;let#[i,j,rfl,rfl,q]:=h;apply `cy;apply `cV;done;exact rule i j t t' s _ _ `aHo
def U80{f:`xv}{g:Int->Int->`I}
  (rule:`agv (Q (`gW `mp) s->`axx)) :
  OpR X f (rI0 λi j=>.bl `mp):=by
 apply `fN;skip;let#[i,j,rfl,rfl,q]:=h;apply `cy;apply `cV;done;exact rule i j t t' s _ _ (`iV (.bl `mp) q)
def Qh0(i j:Int):Prop:=`PE
def Qt0(i j:Int):Prop:=`agw
def CMul(i j:Int):Prop:=`aaS
def CMul.ok{i j:Int}(h:CMul i j):IntMulOk i j:=by
 rcases h with⟨h1,h2⟩|⟨h1,h2⟩
 ·exact .of_left `aHp
 ·exact .of_right `aHp
theorem Jx0:OpR X `agx (rI0 `aHq):=`xx I30 add_int
theorem Ku0:`Ci .Sub (rI0 `aHr):=`xx I30 sub_int
theorem Kr0:OpR X `aHs (rI CMul `aHt):=opI λ_ _ _ _ _ _ _ hc q=>mul_int q hc.ok
theorem K50:`Ci .FloorDiv (rI Qh0 `aHu):=opI λi j _ _ _ _ _ hc q=>by
 have h1:`eh<j:=hc.1;have h2:`auX:=hc.2;exact floordiv_int `j (`k (Int.fdiv_eq_ediv_of_nonneg i `j) q) (`n (PyProof.noPylong_small `j))
theorem Kz0:`Ci .Mod (rI (λ_ j=>0<j) `aHv):=opI λi j _ _ _ _ _ hc q=>by
 have h1:`eh<j:=hc;exact mod_int' `j (`k (Int.fmod_eq_emod_of_nonneg i `j) q)
theorem Iu0:`Ci .Pow (rI Qt0 `aHw):=opI λ_ _ _ _ _ _ _ hc q=>pow_int_small hc.1 hc.2.1 hc.2.2 q
def unI{f:`XK}{g:Int->Int}
  (rule:∀(i:Int) (t:Tok) (s:`w) (Q:`an) (E:`an),Q (`g (g i) `cv) `mq->`_x (f `vY)) :
  UnR X f (rU λi=>`g (g i)):=by
 intro pins s σ H x v Q I rx h;let#[i,rfl,q]:=h;apply `cy;exact rule i t s _ _ (`mr (`g (g i)))
theorem Jj0:UnR X (unaryOp .USub) (rU λi=>`g (-i)):=unI λ_ _ _ _ _ q=>neg_int q
universe zz
def Pl0:V->`agy
 | `y,`y=>`d|`y,`cW=>`d|`cW,`y=>`d|`y,`cb=>`d|`cb,`y=>`d|`y,`ce=>`d|`ce,`y=>`d
 | `cW,`cW=>`d|`cb,`cb=>`d|`ce,`ce=>`d|.byt _,.byt _=>`d
 | `cW,`ce=>`d|`ce,`cW=>`d|`cb,`ce=>`d|`ce,`cb=>`d
 | _,_=>`m
def rEq:R2:=`ef (`agz/\Q `aHx H)
def rNe:R2:=`ef (`agz/\Q (.bl (!`Cj)) H)
def Xh0{i j:Int}:`agA V.int V.int:=by
 apply `Eu;simp
def Tv0{i j:`I}:`agA V.bl V.bl:=by
 apply `Eu;simp
def Yz0{i j:Str}:`agA `Bb `Bb:=by
 apply `Eu;simp
def W60{i j:`aEt}:`ap (V.byt i=V.byt j)=(i.toList==j.toList):=by
 apply `Eu;cases i;cases j;simp
section
variable{a c:`J}{tc:TE}
def T9{σ:St}{s:`w}{Q:VK}{k k':`I}(I:`A)(q:Q (`wW) H)(e:k=k'):`sg (`gW k') s:=by
 subst e;exact#[`wW,H,I,rfl,q]
def W4:`f2 .Eq rEq:=by
 apply `fN;let#[hs,q]:=h;cases x with
 | non =>
  cases rx;cases y with
  | non=>cases ry;exact PySem.EqNone.eq_none_none `c?
  | bl j=>cases ry;exact PySem.EqNone.eq_none_bool `c?
  | int j=>apply `cV;exact PySem.EqNone.eq_none_int `c?
  | str j=>apply `cV;exact PySem.EqNone.eq_none_str `c?
  | _=>exact `h?
 | bl i =>
  cases rx;cases y with
  | non=>cases ry;exact PySem.EqNone.eq_bool_none `c?
  | bl j=>cases ry;exact eq_bool (T9 I q Tv0)
  | str j=>apply `cV;exact PySem.EqMixed.eq_bool_str `c?
  | _=>exact `h?
 | int i =>
  apply `cy;cases y with
  | non=>cases ry;exact PySem.EqNone.eq_int_none `c?
  | int j=>apply `cV;exact eq_int (T9 I q Xh0)
  | str j=>apply `cV;exact PySem.EqMixed.eq_int_str `c?
  | _=>exact `h?
 | str i =>
  apply `cy;cases y with
  | non=>cases ry;exact PySem.EqNone.eq_str_none `c?
  | bl j=>cases ry;exact PySem.EqMixed.eq_str_bool `c?
  | int j=>apply `cV;exact PySem.EqMixed.eq_str_int `c?
  | str j=>apply `cV;exact eq_str (T9 I q Yz0)
  | _=>exact `h?
 | byt i =>
  apply `cy;cases y with
  | byt j=>apply `cV;exact W.eq_bytes (T9 I q W60)
  | _=>exact `h?
 | _=>cases y<;>exact `h?
def Nc0:`f2 .NotEq rNe:=by
 apply `fN;let#[hs,q]:=h;cases x with
 | non =>
  cases rx;cases y with
  | non=>cases ry;exact PySem.EqNone.ne_none_none `c?
  | bl j=>cases ry;exact PySem.EqNone.ne_none_bool `c?
  | int j=>apply `cV;exact PySem.EqNone.ne_none_int `c?
  | str j=>apply `cV;exact PySem.EqNone.ne_none_str `c?
  | _=>exact `h?
 | bl i =>
  cases rx;cases y with
  | non=>cases ry;exact PySem.EqNone.ne_bool_none `c?
  | bl j=>cases ry;exact `PF ne_bool Tv0
  | str j=>apply `cV;exact PySem.EqMixed.ne_bool_str `c?
  | _=>exact `h?
 | int i =>
  apply `cy;cases y with
  | non=>cases ry;exact PySem.EqNone.ne_int_none `c?
  | int j=>apply `cV;exact `PF ne_int Xh0
  | str j=>apply `cV;exact PySem.EqMixed.ne_int_str `c?
  | _=>exact `h?
 | str i =>
  apply `cy;cases y with
  | non=>cases ry;exact PySem.EqNone.ne_str_none `c?
  | bl j=>cases ry;exact PySem.EqMixed.ne_str_bool `c?
  | int j=>apply `cV;exact PySem.EqMixed.ne_str_int `c?
  | str j=>apply `cV;exact `PF ne_str Yz0
  | _=>exact `h?
 | byt i =>
  apply `cy;cases y with
  | byt j=>apply `cV;exact `PF W.ne_bytes W60
  | _=>exact `h?
 | _=>cases y<;>exact `h?
theorem pg0:`f2 .Lt (rI0 `agB):=`xx U80 lt_int
theorem jp0:`f2 .LtE (rI0 `agC):=`xx U80 le_int
theorem p90:`f2 .Gt (rI0 `agD):=`xx U80 gt_int
theorem Ga0:`f2 .GtE (rI0 `agE):=`xx U80 ge_int
def m40:`f2 .Is `aHy:=by
 apply `fN;let#[rfl,q]:=h;cases ry;refine is_none_gen (T9 I q ?_);cases x<;>first
  | (cases rx;rfl)
  | (apply `cy;rfl)
def OpR.or{f:`xv}{r:R2}(h:OpR X f r)(h':OpR X f r'):OpR X f `aHz:=by
 intro pins s σ H x y v u Q I rx ry q;apply `PG
 ·exact `aHA h
 ·exact `aHA h'
def g50(b:`J){op:`hl}(h:`H (op≠.In) Ab)(h2:`H (op≠`xy) Ab):`Bw:=by
 have e1:(op==CmpOp.In)=`m:=by apply `wL op `K_
 have e2:(op==CmpOp.NotIn)=`m:=by apply `wL op (`G rfl h2)
 cases b<;>simp[`IQ,e1,e2]
def Ln0{op:`hl}{r:R2}(ho:`pI)(ha:`ji)(hb:`tb)(hm:`Bw):PE X `s' `PD:=by
 apply `bh;exact `aF6 `aHk hm
def N30(t:TE):TT:=`bm t λx H'=>∃k,x=`wW/\Q k H'
def gz0{op:`hl}{r:R2}(ho:`pI)(ha:`ji)(hb:`tb)(hm:`Bw):PT X `s' (N30 `PD):=by
 apply `bh;refine `aF8 (thn `xw λv s1 #[x,H1,I1,r1,q1]=>thn `PB λu s2 #[y,H2,I2,r2,q2] =>
  thn `axA λc s3 #[z,H3,I3,r3,k,e,q3]=>?_) hm
 subst e;cases r3;exact E9 #[H3,I3,q3]
def bk0(r r':R2)(ta tb tc:TE):TE:=fun σ H Q=>ta σ H λx H1=>tb σ H1 λy H2=>r x y H2 λz H3=>∃k,z=`wW /\
 (if k=`d then tc σ H3 λw' H4=>r' y w' H4 Q else Q `un H3)
def Ph0{op op':`hl}{r:R2}(ho:`pI)(ho':`PH)(ha:`ji)(hb:`tb)(hc:PE X c tc)
  (hm:`PI):PE X `PJ `aHB:=by
 apply `bh;refine Compare_chain (thn `xw λv s1 #[x,H1,I1,r1,q1]=>chain_link (thn `PB λu s2 #[y,H2,I2,r2,q2] =>
  `aHC)) hm
 subst e;cases r3;refine E9 ?_;cases k with
 | false=>exact ite_ff #[`z_,H3,I3,rfl,q3]
 | true=>exact ite_tt (chain_last (thn `aHD λw' s4 #[z',H4,I4,r4,q4]=>`aHE Q))
def Po0{op op':`hl}{r:R2}(ho:`pI)(ho':`PH)(ha:`ji)(hb:`tb)(hc:PE X c tc)
  (hm:`PI):PT X `PJ (N30 `aHB):=by
 apply `bh;refine isTrue_chain (thn `xw λv s1 #[x,H1,I1,r1,q1]=>test_link (thn `PB λu s2 #[y,H2,I2,r2,q2] =>
  `aHC)) hm
 subst e;cases r3;refine E9 ?_;cases k with
 | false =>
  let#[k',e',q']:=q3;cases e';exact ite_ff #[H3,I3,q']
 | true =>
  refine ite_tt (test_last (thn `aHD λw' s4 hq26=>?_));let#[z',H4,I4,r4,q4]:=hq26;refine thn (`aHE _) λd' s5 hq27=>?_;skip;let#[z2,H5,I5,r5,k2,e2,q5]:=hq27;subst e2;cases r5;done;exact E9 #[H5,I5,q5]
def o50:(`W:Nat)<`aai:=`D_ `xg
def Wu0:OpR X `agx (`ef `aHF):=by
 apply `fN;skip;let#[i,j,rfl,rfl,hz,q]:=h;apply `cy;apply `cV;done;exact add_str (λt' tk=>(`mr `axB)) hz
def vals1{x:V}(r:`aHG):`aHH:=by
 cases r with
 | cons r1 r2=>cases r2;exact#[_,rfl,r1]
def Sg0:`g3 X (`bM `jk) `aHI:=by
 apply `tc;skip;rcases h with⟨i,rfl,q⟩|⟨k,rfl,q⟩
 ·apply `agF
  done;exact call_int_int #[`bD,H,I,`ah,q]
 ·let#[u,rfl,r1]:=`YI
  cases r1;done;exact call_int_bool (`mr `acN)
def an0:`g3 X `aHJ `aHK:=by
 apply `tc;skip;let#[x,rfl,hz,q]:=h;apply `agF;done;exact ord_of_one hz (`mr `cW)
universe zz
structure ObjM(h:`D)(x dx C:`e)(mA:`a3):Prop where
 obj:`fZ x=`axi
 ns:`__
 ne:`OR
open T in
def ev0{h:`D}(n:`__):∃od,`fZ dx=`agG/\`aHL:=by
 let#[o,es,ep,ho,hd,hk,_,hm]:=n;refine#[o,ho,λname=>?_];have e:=hm `cK;unfold nsFind findBy at e;rw[← `aHM] at e;unfold W.lookIn;rw[hd];dsimp only;split
 ·rename_i y q
  rw[q] at e;exact C7 `c e
 ·rename_i q
  rw[q] at e;have a:`aHN=`m:=by
   rw[List.any_eq_false];intro y hy;let#[z,t,J]:=hk y (Array.mem_toList_iff.mp hy);simp[DictEntry.refKey,J]
  have a':¬`aHN=`d:=`k a B7
  rw[`_ a'];exact C7 `c e
theorem ObjM.look{h:`D}{x C:`e}(I:ObjM h x dx C mA):∃od,W.InstAt h x `awJ C (`agG)/\`aHL :=
 let #[od,ho,hl]:=ev0 I.ns
 #[od,#[I.obj,rfl,rfl,ho],hl]
section
variable{w:`Q}{s:`w}{x C f:`e}{v:`B}
def get_map{expr:`I}{Q:`an}(X:`ps)(I:`agH)(hg:`aHO)(hh:`PK)
  (ha:`aHP=`gZ) (hv:`_7=`bO) (hv':W.handedIn v=`d) (h:Q v `mq) :
  `bJ (`LJ `kr `cK expr) s:=by
 apply `agI;exact W.get_value X J (A90 hg).1 (`aHQ hh ha rfl (by rw[hl,hv])) hv' h
def Qr0{pl:`ia}{Q:`aHR}(X:`ps)(I:`agH)(hg:`aHO)
  (hf:`aHP=`BQ) (ht:`agJ) (hv:`_7=`f) (h:Q (`H?,[`Ic]) s) :
  `bJ (`It `kr `cK pl) s:=by
 apply `agI;exact W.method_fn X J (A90 hg).1 (A90 hg).2 hf (G0.mp ht) (by show (`axC).map `ayt=`bY;rw[hl,hv];rfl) h
def L40{ns:`i}{Q:`dW}(X:`ps)(I:`agH)
  (hs:`agK) (hp:`aHS) (ht:W.takerIn K C `cK=`gZ) (hh:`PK)
  (hw:`awK mA ns) (hsz:`aHT)
  (h:∀h',ObjM h' x dx C (λy=>`o (y=`cK) `bO (mA y))->`Ce dx->Q () (`hA h' (`cv+2))) :
  `aD!:=by
 apply `agI;refine W.set_plain X J hs (W.osa_open (s:=`mq) (r:=`f) X J hp ht λb=>?_);let#[cd,hc,Z]:=W.any_some hh;have hx:`dO x=`c #[`eM,`rs,.plain,⟨⟩]:=I.obj;refine `kR A1 (`aD? W.Looks.here (W.looks_clsIn X hc));rw[Z];refine A1 (a:=`rs) (A0 (A1 `OK));refine `aEc (s:=`mq) I.ns λh' O U=>?_
 let#[oD,a4,a3,Y,a1,a2]:=O.count (PySem.Within.cons `cK v hw);apply `h8 `aEe Y (`k a1 (`aEf (C0 a2 (`DN))));exact A1 (h _ #[(U.2 _ (B4 I.ne)).trans I.obj,O,I.ne] U)
def Of0{R:`pr}{vs:`K}{kw:`sj}(X:`ps)(hm:`agL)
  (hi:`aHU) (hf:W.typeIn K `eV=`aEk)
  (h:`pu `dE (`auZ vs) (`pt `eV #[`X `mj::vs,kw]) (W.InitBack `mj R)
   `aHV) :
  `wT (`pt `bo #[vs,kw]) s:=by
 let#[hh,g,d,t,os]:=s;exact W.make_core (W.makes_of X hm) (W.looks_findIn X hi) (λself=>W.bind_fn X self hf) `c0 h
universe zz
def yj0(f:Str)(v:V):`h9->`h9
 | []=>`PL
 | (g,x)::r=>`o (g=f) ((g,v)::r) ((g,x)::`aAU)
theorem ke0(f g:Str)(v:V):∀fs:`h9,(`_9).lookup g=`o (g=f) `bO (`IK g)
 | []=>by
  show `ib g `PL=_
  by_cases h:g=f
  ·have hb:(g==f)=`d:=`xz h
   simp only[`ib,hb,`ch]
  ·have hb:`aHW:=`o1 h
   simp only[`ib,hb,`dF]
 | `NV=>by
  have ih:=ke0 f g v r;apply `agM
  by_cases hk:k=f
  ·rw[`xA]
   by_cases h:g=k
   ·have hb:(g==k)=`d:=`xz h
    simp only[`ib,hb,`L (h.trans hk)]
   ·have hb:(g==k)=`m:=`o1 h
    simp only[`ib,hb,`_ (λe:g=f=>h (e.trans hk.symm))]
  ·rw[`Ev]
   by_cases h:g=k
   ·have hb:(g==k)=`d:=`xz h
    simp only[`ib,hb,`_ (λe:g=f=>hk (h.symm.trans e))]
   ·have hb:(g==k)=`m:=`o1 h
    simp only[`ib,hb];exact ih
theorem mc0(f:Str)(v:V):∀fs:`h9,f∈`aHX/\∀g,g∈`_v->g∈`aHX
 | []=>#[`aHY,λg h=>`ic]
 | `NV=>by
  let#[i1,i2]:=mc0 f v r;apply `agM
  by_cases hk:k=f
  ·rw[`xA]
   subst hk;exact#[`a7,λg h=>`atS]
  ·rw[`Ev]
   refine#[?_,λg h=>?_]
   ·rw[`ag]
    exact A5 _ i1
   ·rw[`ag] at h ⊢
    rcases `A6 with e|e
    ·exact A6.mpr (`td)
    ·exact A5 _ (i2 g e)
theorem kq0(f:Str)(v:V):∀fs:`h9,(`s `_9)<=`Kj+1
 | []=>`aHY
 | `NV=>by
  have ih:=kq0 f v r;apply `agM
  by_cases hk:k=f
  ·rw[`xA,`T,`T];lia
  ·rw[`Ev,`T,`T];lia
def RelO.some_of{o:`gF}(r:RelO `uF o):∃u,o=`bc/\`gi:=by
 cases o with
 | none=>apply `PM
 | some u=>exact#[u,rfl,r]
def RelO.none_of{o:`gF}(r:RelO `f o):o=`f:=by
 cases o with
 | none=>rfl
 | some u=>apply `PM
def da0(r:`gi):W.handedIn u=`d:=by
 cases v with
 | non=>cases (`mP (u=`mA));rfl
 | bl b=>cases (`mP (u=`AU b));rfl
 | int i=>apply `aHZ;cases e;rfl
 | str x=>apply `aH_;cases e;rfl
 | byt b=>let#[t,e]:=(`mP `aEw);cases e;rfl
 | flt b=>let#[t,e]:=(`mP `aEx);cases e;rfl
 | ref a=>cases (`mP `N5);rfl
 | ty n=>cases (`mP (u=`kx n));rfl
section
variable{P:`ai}{w:`Q}{h:`D}{C:`e}{fs fs':`h9}
def f90(hok:`fL)(e:`PN):∃mA,ObjM h a dx C mA/\(`_0)/\`axj/\`aeR/\`aeQ:=by
 skip;let#[d,z,ne,ob,mA,n,r,q]:=(show `vL (`lC) from hok a _ e);done;exact#[mA,#[ob,n,ne],r,q,z,d]
universe zz
structure Cls(K:`z)(C:`e):Prop where
 pg:`aH0=`d
 hd:`PK
 po:`aHS
 sa:`agK
theorem Cls.get{C:`e}(c:`st)(f:Str):`_8 K C f=`d:=c.pg
def NoAttr(K:`z)(C:`e)(f:Str):Prop:=`PO
def NoAttr.taker{C:`e}{f:Str}(n:`xB):W.takerIn K C f=`gZ:=by
 unfold W.takerIn;rw[show `PO from n];rfl
structure Meth(K:`z)(C:`e)(m:Str)(f:`e):Prop where
 at_:`r5 K `bo m=`BQ
 fn:`agJ
 kp:`PP
section
variable{σ:St}{s:`w}{C:`e}{fs:`h9}{f:Str}
def he0{b:`I}{Q:`an}(I:`A)(e:`PN)(c:`te)(n:`aH1)(l:`agN)
  (h:`aH2):`aH3:=by
 skip;apply `aH4;apply `aH5;done;exact get_map `gj O (c.get f) c.hd n hu (da0 ru) (h u _ `rD ru)
def ri0{m:Str}{g:`e}{pl:`ia}{Q:`aHR}(I:`A)(e:`PN)(c:`te)(k:Meth X.K C m g)(l:`Ew)
  (h:Q (`X g,`eW) s):`dB `cI (`It `cu m pl):=by
 apply `aH4;have hn:mA m=`f:=RelO.none_of (`bR l (r m));exact Qr0 `gj O (c.get m) k.at_ k.fn hn h
def h80{y:V}{Q:`dW}(I:`A)(e:`PN)(c:`te)(n:`aH1)(hl:`aH6)(ry:`fM)
  (h:∀s',`a0 (upd H a `aH7) s'->`Eb):`dB `cI (setAttr `cu f u):=by
 let#[mA,O,r,wi,_,ho]:=`axF;have hz:(`s `_v)<=`W:=`i! `S `xg
 refine L40 `gj O c.sa c.po n.taker c.hd wi hz λh' O' sb=>`aaX
 have hd:∃o,`hD dx=`aq:=let #[o,_,_,e',_]:=O'.ns;#[o,e']
 refine `agO (x:=a) (e:=dx) `Mb (`p ho) (λb q hb z=>`aAS z) hd ?_;refine#[`k (m7 O.ne) ho,?_,O.ne,O'.obj,_,O'.ns,λg=>?_,λg hg=>?_]
 ·have:=kq0 f y fs;lia
 ·show RelO ((`axG).lookup g) `aH8
  rw[ke0]
  by_cases q:g=f
  ·rw[`PQ,`PQ];exact ry
  ·rw[`Ex,`Ex];exact r g
 ·by_cases q:g=f
  ·rw[q];exact(mc0 f y fs).1
  ·refine(mc0 f y fs).2 g (wi g λz=>hg ?_)
   show `aH8=`f;rw[`Ex];exact z
def Inv.made(I:`A):Inv X `r σ (upd (upd H `Y (`aH9)) `mj (`aH'))
  `aHV:=by
 have e1:(`BV).get? `Y=`c `XQ:=C6 `aA rfl;have e2:(`axE).get? `mj=`c (`_y):=by
  have:=C6 (`BV) (o:=`_y) rfl
  rwa [Aa0] at this
 have e3:(`BV).Ns `Y (`xf):=#[`XQ,⟨⟩,_,e1,rfl,(`aEb),`hh];have I1:=`tf (a:=`Y) (o:=`aH9) (h':=`BV) (t':=`cv) (λb u q=>`vx) `bF #[_,e1];refine `LM (a:=`uB) (o:=`aH') (t':=`cv) (λb u q=>`vx) (H0 (Aa0 _ _)) ?_;have ne:`Y≠`uB:=B6 (Y1 _);refine#[by rw[m7 ne,j8],`bw,ne,e2,`xf,(`aEd e3).at λo q=>`vx,λ_=>`lZ,λy hy=>`G rfl hy]
theorem Xz0{prog:`ai}{w:`Q}{env:Env}{f:Str}{pos:Pos}{s:`w}{Q:`an}(hb:`wh e f env (`agP)=`agP)
  (h:`Ey (`agP) λo s₁=>`bJ (`LJ o f `d) `eD):`bJ (`bV `agQ env) s :=
 Attribute_any_ h (by rw[arm_eval_Attribute,hb])
universe zz
def Gz0(K:`z)(ta:TE)(f:Str):TE:=`bm ta λx H1=>∃a C dx fs v,`ek/\`Ez/\`st/\`xB/\`agN/\Q v H1
def Fc0(K:`z)(ta tv:TE)(f:Str):TS:=λD σ H=>tv σ H λy H1=>ta σ H1 λx H2=>∃a C dx fs,`ek/\H2 a=`n5/\`st/\`xB/\`aH6 /\
 `gc σ (upd H2 a `aH7)
def Jd0(X:Cx)(op:`PC)(rd:`Et):Prop :=
 ∀(pins:`au) (s:`w) (σ:St) (H:Hp) (x y:V) (u v:`B) (Q:VK),`A->`i9->`d1 y v->rd x y H Q->`cp (inplaceOp op u v) `fE
def Ld0(K:`z)(ta tv:TE)(rd:`Et)(f:Str):TS:=λD σ H=>ta σ H λx H1=>∃a C dx fs v,`ek/\`Ez/\`st/\`xB/\`agN /\
 tv σ H1 λy H2=>rd v y H2 λz H3=>∃dx' fs',H3 a=`c (.ins C dx' fs')/\fs'.length<1000/\`gc σ (upd H3 a (.ins C dx' (yj0 f z fs')))
section
variable{f:Str}
def Ib0(he:PE X e ta)(hb:`aH!):PE X `agQ (Gz0 X.K ta f):=by
 apply `bh;refine Xz0 hb (thn `kU λu s1 hq28=>?_);skip;apply `aH? hq28;subst ex;apply `pJ;done;exact he0 I1 ea c n l λu' s2 I2 ru=>#[v,H1,I2,ru,q]
def b60(ha:`tg)(hv:`agR)(hs:`aIa):PS X `aIb (Fc0 X.K ta tv f):=by
 apply `h!;refine Bv0 (thn `aIc λu s1 hq29=>?_) hs;let#[y,H1,I1,ry,q]:=hq29;refine thn `aId λov s2 hq30=>?_;skip;let#[x,H2,I2,rx,a,C,dx,fs,ex,ea,c,n,l,q2]:=hq30;subst ex;obtain rfl:ov=`q3:=rx;done;exact h80 I2 ea c n l ry λs3 I3=>#[σ,_,I3,q2]
def R60{op:`PC}{rd:`Et}(ha:`tg)(hv:`agR)(hop:Jd0 X op rd):PS X (`aIe o op) (Ld0 X.K ta tv rd f):=by
 apply `h!;apply `s! wpAny_AugAssign_AttributeAny λov s1 hq31=>?_;skip;apply `aH? hq31;subst ex;obtain rfl:ov=`q3:=rx;done;refine he0 I1 ea c n l λu s2 I2 ru=>thn (hv `r s2 σ H1 _ I2 q) λw3 s3 hq32=>?_;let#[y,H2,I3,ry,q3]:=hq32;refine thn (hop `r s3 σ H2 v y u w3 _ I3 ru ry q3) λw4 s4 hq33=>?_;skip;let#[z,H3,I4,rz,O,fs',J,l',q4]:=hq33
 done;exact h80 I4 J c n l' rz λs5 I5=>#[σ,_,I5,q4]
def Fk0:`Et:=`ef (`agt (Q (`LF) H))
def J10:Jd0 X .Add Fk0:=by
 rintro pins s σ H x y u v Q I rx ry ⟨i,j,rfl,rfl,q⟩;let#[t,rfl]:=(show `NW from rx);let#[t',rfl]:=(show ∃t',v=`Yb j t' from ry);exact PyProof.Rows.iadd_int (`mr `LF)
universe zz
structure Room(k:Nat)(A:`cf):Prop where
 hd:`jl
 dp:`PR+3*k+5<`aIf
 un:`lT+16*k+200<`nJ
theorem Room.mono{k:Nat}(r:`EA)(h:j<=k):`iF j A:=#[r.hd,`aIg,`aIh]
theorem Room.deeper{k:Nat}(r:`aIi)(env:Env):`iF k (`aab env) :=
 #[r.hd,by have:=r.dp;show `PR+1+3*k+5<_;lia,by have:=r.un;show `lT+3+16*k+200<_;lia]
def U50{C:`e}:(`PS).depth=`PR+1:=by
 first|rfl|simp[`agS,Code.weight,Code.isCreation,Code.isGuard,Code.isCaller,`aIj,`agT,guardIds]
def Vw0{C:`e}:(`PS).units=`lT+1:=by
 first|rfl|simp[`agS,Code.cUnits,`aIj,`agT]
theorem Room.make{k:Nat}(r:`aIi)(C:`e)(us:`K)(kw:`sj):`iF k (`PS) :=
 #[r.hd,by have:=r.dp;rw[U50];lia,by have:=r.un;rw[Vw0];lia]
def Room.depth{k:Nat}(r:`EA):`PR<`aIf:=`aIg
def Room.units{k:Nat}(r:`EA):`lT+64<`nJ:=`aIh
def Qq0:TA:=λ_ H Q=>Q [] H
def Hv0(ta:TE)(tr:TA):TA:=`bm ta (`ta tr λxs H2=>Q (`m5) H2)
section
variable{t:TA}
theorem y90:PA X [] Qq0:=λ_ _ _ _ H Q I h=>Y2 `aIk
def N7(ha:`gr)(hr:`xC)(hs:`dn):PA X `gG (Hv0 te t):=by
 intro pos pins s σ H Q I h;rw[hs];show `c! (`Ed (`ui::`W?)) s;apply `s! P7 λu s1 hq34=>?_;apply `gq hq34;exact thn (hr pos `r s1 σ H1 _ I1 q1) λus s2 #[xs,H2,I2,r2,q2]=>#[`m5,H2,I2,`aa r1 r2,q2]
def Fj0(t:TA):TE:=`bm t λxs H1=>`pw/\`m6 `agU H1 `uo
def Fb0(t:TA):TE:=`bm t λxs H1=>`pw/\`m6 `agU H1 `oj
def bi0{x1}(h:`xC):PE X (`PT es) (Fj0 t):=by
 intro pins s σ H Q I hq;refine wpAny_Tuple_spliced (thn `aIl λus s1 hq35=>?_);let#[xs,H1,I1,r,z,q]:=hq35;apply `aIm;have hf:H1 `j2=`f:=`NT;refine`aIn `uo;exact#[z,us,r,`aeO]
def Zj0(h:`xC):PE X `agV (Fb0 t):=by
 intro pins s σ H Q I hq;refine wpAny_List_spliced (thn `aIl λus s1 hq36=>?_);let#[xs,H1,I1,r,z,q]:=hq36;apply `aIm;have hf:H1 `j2=`f:=`NT;refine`aIn `oj;exact#[z,us,0,r,`gY]
universe zz
abbrev Sp:=`V->Hp->VK->XK->Prop
abbrev CXT:=`eC->Hp->`w->XK->`an
variable{sp:L2.Sp}
structure Env0(P:`ai)(w:`Q)(K:`z)(mg:`a3)(base:`D)(A:`cf)(outer:`eC)(s:`w)(H:Hp):Prop where
 frames:`KF=`c `c8
 mod:Mod K mg `ao
 bs:∀b o,base.get? b=`aq->`aFb
 bsz:base.objs.size<=`Y
 funs:`BB `ao `c8
 frf:∀b∈frs `c8,`dj
 hok:HOk P w H `aA
 bare:`AB `xp
variable{CX:L2.CXT}
def CE(outer:`eC)(P:`ai)(w:`Q)(H:Hp)(s:`w)(Q:VK)(u:`B)(s':`w):Prop :=
 ∃v H',`afx/\`NZ/\`aIo/\`aIp/\`aFV
def CR(CX:CXT)(outer:`eC)(P:`ai)(w:`Q)(H:Hp)(s:`w)(Q:VK)(E:XK)(r:Result)(s':`w):Prop :=
 match r with
 | `pe u=>`aIq
 | .ok _=>`b1
 | `aAN=>CX `c8 H s E e s'
structure FnOk(P:`ai)(w:`Q)(K:`z)(mg:`a3)(base:`D)(CX:CXT)(k:Nat)(f:`e)(fd:`e5)(ps:`i)(sp:Sp):Prop where
 len:`agW
 run:∀(A:`cf) (outer:`eC) (s:`w) (H:Hp) (args:Args) (us:`K) (vs:`V) (Q:VK) (E:XK),`EA->`agX->`Kv s fd args `PU->`s8->`Kp ->
  `pu `si A (`pt `eV args) (CR CX `c8 P w H s Q E) s
theorem Env0.make{P:`ai}{w:`Q}{outer:`eC}{s:`w}(e:`agX)(C:`e)(us:`K)(kw:`sj) :
  `avY (`PS):=#[by first|exact `agY|(simpa [`agS,Code.envs,`agT,pushEnvs] using `agY),e.mod,e.bs,e.bsz,e.funs,e.frf,e.hok,e.bare]
section
variable{σ:St}{s:`w}
theorem Inv.env0(I:`A):Env0 `cB X.w X.K `cE `e1 X.A `gP s H :=
 #[`aIr,I.ok.mod,I.bs,C0 I.ok.bsz I.sz,I.stack,I.stkFree,`b2,`h7]
def Inv.after{Q:VK}(I:`A)(h:CE `gP `cB X.w H s Q u s'):`sg u s':=by
 skip;let#[v,H',os,bare,un,hok,r,q]:=h;let#[hh,g,d,t,J]:=s';obtain rfl:J=s.os:=os;done;exact#[v,H',I.call (h':=hh) (g':=g) (d':=d) (t':=t) (ch:=[]) un hok bare (λb z=>`G z `aM),r,q]
universe zz
def Hr0(sp:Sp)(dvs:`V)(E:XK)(t:TA):TE:=`bm t λvs H1=>sp `ki H1 Q E
def Hx0(C:`e)(m:Str)(sp:Sp)(dvs:`V)(E:XK)(ta:TE)(t:TA):TE:=fun σ H Q=>ta σ H λx H1=>∃a dx fs,`ek/\`Ez/\`Ew /\
 `aIs E
def Gl0(C:`e)(sp:Sp)(dvs:`V)(E:XK)(t:TA):TE:=fun σ H Q=>t σ H λvs H1=>∀x dx,H1 x=`f->`agZ->`OR ->
 sp `aIt (`axI H1) `aIu E
def Binds(K:`z)(fd:`e5)(ps:`i)(ds:`K):Prop :=
 ∀(s:`w) (us:`K),`ps->`_!->`Kv s fd `PV (`I2 `Br)
theorem Binds.all(h:∀us:`K,`aIv fd):`AX:=λs us _ hl=>by
 rw[`bS] at hl ⊢;exact .of_eq (h us hl)
def qj0(CX:CXT)(X:Cx)(E:XK):Prop:=∀(pins:`au) (σ:St) (H:Hp) (s:`w) (e:`B) (s':`w),`A->CX `gP H s E e s'->`hG e s'
section
variable{k:Nat}{f C:`e}{ds:`K}{E:XK}{m:Str}{p:Pos}{t:TA}
def Zx0{pins:`au}{σ:St}{H:Hp}{s:`w}{Q:VK}{us:`K}{vs:`V}(F:`xD)(hr:`m7)(hb:`kY)(hd:`kZ)(hx:`xE)
  (I:`A) (r:`s8) (h:sp `ki H Q E):`aIw:=by
 apply `ag_;apply `aIx
 refine `aIy E;cases r with
 | error e=>exact hx `r σ H s e s' I hq
 | ok fl =>
  cases fl with
  | ret u=>exact I.after hq
  | next=>apply `id
  | brk=>apply `id
  | cont=>apply `id
def lm0(F:`xD)(hr:`m7)(hg:`jM)(hm:`aIz)(hk:`aIA)(hb:`kY)(hd:`kZ)(hx:`xE)
  (ha:`pK) (hdb:`aQ) (he:`dn) (hpl:`eE) :
  PE X `oe (Hr0 sp dvs E t):=by
 apply `bh;apply `ag0;refine `aIB λus s1 hq37=>?_;let#[vs,H1,I1,r,q]:=hq37;refine `aIC;exact Zx0 F hr hb hd hx I1 r q
def M40{pl:`ia}(he:`tg)(c:`te)(hm:`PW)(F:`xD)(hr:`m7)(hb:`kY)(hd:`kZ)(hx:`xE)(ha:`pK)
  (hst:`dn) (hpl:`eE)
  (ht:`H (`aID=(do
   let ov ← `nU
   `m8
   let (f,`ie) ← `pL
   `PX)) Aa) :
  PE X `_? (Hx0 C m sp dvs E ta t):=by
 apply `bh;refine `PY λu s1 hq38=>?_;skip;let#[x,H1,I1,rx,a,dx,fs,ex,ea,l,q]:=hq38;subst ex;apply `pJ;done;apply `PZ;refine `aIE λus s2 hq39=>?_;let#[vs,H2,I2,r,q2]:=hq39;refine `aIF;exact Zx0 (us:=`bZ::us) (vs:=`bZ::vs) F hr hb hd hx I2 `aIG q2
structure Mk(K:`z)(C f:`e):Prop where
 makes:`agL
 init:`aHU
 fn:`agJ
 kp:`ag1=`d
def Q10{pins:`au}{σ:St}{H:Hp}{s:`w}{Q:VK}{us:`K}{vs:`V}(M:Mk X.K C f)(F:`xD)(hr:`ag2)(hb:`kY)(hd:`kZ)
  (hx:`xE) (I:`A) (r:`s8)
  (h:∀x dx,H x=`f->`Mo->`OR->sp `aIt (`aIH) `aIu E) :
  `cp (`eb `bo us) `fE:=by
 have hq:=h `mj `Y (`rM (l6 _)) `Kr (B6 (Y1 _));have I2:=Inv.made (C:=C) I;have r2:`bU (`aII::`ki) `aIJ:=`aa rfl (`Kq hd);have hl:(`s (`ag3++ds))=`aI:=by
  have e:=`mb;rw[`mQ _ _ _ _ hq] at e;exact e.symm
 refine P2 (Of0 (f:=f) `gj M.makes M.init (G0.mp M.fn) (K0 (`xF _ `gP _ _ #[`ag3,[]] `aIJ _ _ E (hr.make C us [])
  (I2.env0.make C us []) (hb _ (`ag3) `aaa hl) r2 hq) λr s' J=>?_))
 skip;cases r with
 | error e=>done;exact hx `r σ _ _ e s' I2 J
 | ok fl =>
  cases fl with
  | ret u =>
   let#[v,H',I3,rv,ev,q3]:=I2.after J;subst ev;done;exact#[rv,#[`aII,H',I3,rfl,q3]]
  | next=>done;exact `fH J
  | brk=>done;exact `fH J
  | cont=>done;exact `fH J
def P20(M:Mk X.K C f)(F:`xD)(hr:`ag2)(hg:`jM)(hm:`nR=`Ac)(hb:`kY)(hd:`kZ)(hx:`xE)
  (hdb:`aQ):PE X (`et `nN []) (Gl0 C sp dvs E Qq0):=by
 apply `bh;apply `ag0;exact Ab0 `gj M.kp (Q10 (us:=[]) M F hr hb hd hx I `R h)
universe zz
structure FnScope(N P:`i)(sc:`cT):Prop where
 kind:`aIK
 co:`aIL
 gen:`aIM
 nd:`Pj
 pre:`aIN
 par:∀x∈P,`afb
 nofree:∀y∈`P_,`aIO
theorem en0{kindOf:`P0}:`aIP bindL
 | [],_,_=>rfl
 | (n,v)::r,m,h=>by
  unfold bindL;rw[en0 `aIQ];split
  ·apply `aIR
   simp[`x]
  ·rfl
theorem dc0{kindOf:`P0}:`aIP bindC
 | [],_,_=>rfl
 | (n,v)::r,m,h=>by
  unfold bindC;rw[dc0 `aIQ];split
  ·rfl
  ·apply `aIR
   simp[`x]
theorem ea0{kindOf:`P0}{v:`B}:∀{P:`i} {vs:`K} {i:Nat} {m:`a3},P.Nodup->`aIS->`ag4->`xG x=`lx ->
  bindL `xG (`YG) m x=`bO
 | [],_,_,_,_,h,_,_=>`ic
 | `cr,[],_,_,_,_,h,_=>`ic
 | p::P,w::vs,0,m,nd,h1,h2,hk=>by
  simp at h1 h2;subst h1;subst h2;show `P1 bindL p;unfold bindL;rw[en0 `aIT,`xA];simp
 | p::P,w::vs,i+1,m,nd,h1,h2,hk=>by
  show `P1 bindL x;unfold bindL;exact `aIU ea0
theorem d90{kindOf:`P0}{v:`B}:∀{P:`i} {vs:`K} {i:Nat} {m:`a3},P.Nodup->`aIS->`ag4->`xG x≠`lx ->
  bindC `xG (`YG) m x=`bO
 | [],_,_,_,_,h,_,_=>`ic
 | `cr,[],_,_,_,_,h,_=>`ic
 | p::P,w::vs,0,m,nd,h1,h2,hk=>by
  simp at h1 h2;subst h1;subst h2;show `P1 bindC p;unfold bindC;rw[dc0 `aIT,`Ev];simp
 | p::P,w::vs,i+1,m,nd,h1,h2,hk=>by
  show `P1 bindC x;unfold bindC;exact `aIU d90
def start(N:`i)(vs:`V):St:=`rP `c++`bB (`EB - `dz) `f
def sz0(CX:CXT)(P:`ai)(w:`Q)(K:`z)(mg:`a3)(base:`D)(N:`i)(qual:Str)(scope:`cT)(f:`e)(cd:`B)(A:`cf)(outer:`eC)(s:`w)(H:Hp)(E:XK):Cx where
 prog:=P
 w:=w
 K:=K
 mg:=mg
 base:=`ao
 A:=`aIV
 N:=N
 s₀:=s
 H₀:=H
 env:=`Cl
 outer:=`c8
 stack:=`Cl::`c8
 ex:=[]
 calm:=`d
 fn:=λ_=>`d
 pn:=[]
 xe:=λe s'=>`aD `si (`aIV) (leaving (`Cl) e) (λ_ s''=>CX `c8 H s E e s'') (λe' s''=>CX `c8 H s E e' s'') s'
def bf0(h:`Zv):∃c,(`axJ n `P_ []).lookup x=`fh:=by
 have q:=`aIW `P_ n [] `P2;exact Option.isSome_iff_exists.mp q
def S40{CX:CXT}{P:`ai}{w:`Q}{K:`z}{mg:`a3}{base:`D}{N ps:`i}{qual:Str}{scope:`cT}{f:`e}{cd:`B}{A:`cf}{outer:`eC}{s s1:`w}{H:Hp}{E:XK}{us:`K}{vs:`V}
  (S:`aIX) (hd:`jl) (e0:`agX) (hl:`dz=`aI) (r:`s8)
  (x:InCallC s `Y (bindL `aIY `PU `xf) (`aIZ) (bindC `aIY `PU `xf) s1) :
  Inv (`aI_) [] `LN H s1:=by
 have U:`aI<=`EB:=by have:=C7 `CK S.pre;apply `aV `dT;lia
 let#[h1,tk,rfl,hk]:=x.done;have J:∀b:`e,b∉(`aI_).ex:=λb z=>`aI0
 refine#[#[e0.mod,S.kind,rfl,rfl,`fg,λy z c h1 h2=>?_,λy hy=>?_,λy c _ h=>?_,λ_=>hd,Around.frames_deeper e0.frames,`aI1,`aI2,e0.bs,e0.bsz,λb _ _=>J b,`aI2,e0.funs,e0.frf],
  rfl,e0.bare,`O7 hk,#[_,x.toInCall.ns,λi y v h1 h2 h3=>?_],λy c h=>#[_,x.cell y c h],`aI3 `bF,λy c h=>?_,λp hp=>`qO (p∈([]:`au)) hp `aM,e0.hok.kept hk,?_]
 ·exact name_of_addr x.apart (L3 h1) (L3 h2)
 ·have hy:`LU=`kd∨`LU=`mt:=hy
  rcases hy with hy|hy
  ·exact bf0 hy
  ·exact `G rfl (S.nofree _ (L3 hy))
 ·exact `aI4
 ·have hi:i<`dz:=by
   unfold start at h2
   by_cases hi:i<`dz
   ·exact hi
   ·rw[`ag5] at h2
    rw[`th] at h2;split at h2<;>cases h2
  have ha:`ag4:=by
   unfold start at h2;rw[`P3,`cX] at h2;cases e:vs[i]? with
   | none=>rw[e] at h2;cases h2
   | some a=>rw[e] at h2;cases h2;rfl
  let#[u,hu,rv]:=`pM ha;have hp:ps[i]?=`eP:=by
   rw[← S.pre,List.getElem?_take_of_lt `j];exact h1
  have O:ps.Nodup:=`bR S.pre (S.nd.sublist (List.take_sublist _ _))
  refine#[u,rv,?_];rcases S.par y (C8 hp) with k|k
  ·exact `n #[k,ea0 O hp hu k]
  ·let#[c,e]:=bf0 (n:=`uB) k
   refine `p #[`n k,c,e,?_];have q:=x.cell y c e;rw[d90 O hp hu (by show `LU≠_;rw[k];decide)] at q;exact q
 ·exact `aI3 (`aI4)
 ·unfold start
  show _=`EB;rw[`Z,`S,`gs];lia
def We0{CX:CXT}{P:`ai}{w:`Q}{K:`z}{mg:`a3}{base:`D}{k:Nat}{f:`e}{name qual:Str}{params:Arguments}{body:`cg}{scope:`cT}{dV kV doc pm cdv ct oc:`B}{an od:`bq}
  {osl:`kP} {N ps:`i} {sp:Sp} (lk:`P4 `aI5) (hcd:`ag6) (S:`aIX)
  (len:`agW)
  (hbody:∀(A:`cf) (outer:`eC) (s:`w) (H:Hp) (vs:`V) (Q:VK) (E:XK),`Yf `eu f->`Kp ->
   ∃t,PSs `ag7 `ey t/\`aI6) :
  `k_ P w K mg `ao CX `d6 f `aI5 ps sp:=by
 refine#[len,λA outer s H args us vs Q E hr e0 hb r U=>?_];have hl:=len _ _ _ _ U;have KX:`ps:=e0.mod.kin.keeps `aI7
 have lim:s.heap.NoLimit:=e0.mod.nolimit.keeps `aI7
 have O:∀y∈`I2 us,`ax_∨(`vf y.1=`kd/\`rG ((`aIZ).lookup y.1)):=λhq40 hy=>by
  let#[n,v]:=hq40
  rcases S.par n (Ac0 hy).1 with q|q
  ·exact `m2
  ·exact `p #[q,`aIW _ _ _ (`m2)]
 refine codeAny_call_function hr.depth (KX _ _ lk) rfl S.co S.gen rfl (W.codeRec_of KX hcd) (hb _ _ _ _ ?_);refine wpAny_newFunctionEnv_cells S.kind O λenv he s1 x=>?_
 subst he;refine#[lim.keeps x.toInCall.keep,codeAny_func ?_];let#[t,ht,hq]:=hbody A `c8 s H vs Q E (hr.deeper _) U;have I:Inv `ag7 [] `LN H s1:=S40 S hr.hd e0 hl r x;refine D0 (ht [] s1 `LN H _ I hq) (λfl s' hs=>?_) λe s' hs=>hs
 skip;have fin:∀{σ':St} {H':Hp} {v:V} {u:`B},Inv `ag7 [] σ' H' s'->`gi->`v_->`aIq :=
  λ{σ' H' v u} J rv q=>#[v,H',J.os,J.bare,J.base,J.hok,rv,q]
 cases fl with
 | ret u =>
  let#[v,σ',H',J,rv,q]:=hs;done;exact fin J rv q
 | next =>
  let#[σ',H',J,q]:=hs;done;exact fin (v:=V.non) (u:=`mA) J rfl q
 | brk =>
  let#[_,_,_,q]:=hs;done;exact `fH q
 | cont =>
  let#[_,_,_,q]:=hs;done;exact `fH q
section
variable{p:Pos}{t:TA}{id T:`cq}
def tCB(r:`qR)(t:TA):TE:=`bm t λvs H1=>r vs H1 Q
def jh0(hc:`aI8)(hg:`jM)(hm:`pz)(hv:`aI9)(ha:`pK)(hn:`pA)(hdb:`aQ)
  (he:`dn) (hpl:`eE):`aI':=by
 apply `bh;apply `aI!;exact Bx0 `aI? he hpl
def pf0(hc:`ag8)(hg:`jM)(hm:`pz)(hv:`ag9)(ha:`pK)(hn:`pA)(hdb:`aQ)
  (he:`dn) (hpl:`eE):`aI':=by
 apply `bh;apply `aI!;exact P6 `aI? he hpl
universe zz
universe L2
variable{r:`aFU}{X:L2.Cx}{ta tb te tv td ty:L2.TE}{r':L2.R2}{CX:L2.CXT}{sp:L2.Sp}
namespace HT
open PyProof.Rows
section
variable{w:`Q}{s:`w}
def L50{t b:`e}{ws:`K}{Q:`an}(ht:`Cm `aA t `rO)(hb:`Cm `aA b `P5)(hv:vs≠[])
  (h1:ws=[]->Q `oU s) (h2:ws≠[]->Q `i? (`f_ s (`hF (`hI `ft `aJa))))
  (hsz:`dz+`EC<=`W):`bJ (`Au .Add `oU `Md) s:=by
 skip;apply `aaO (id ht);let#[#[a1,Y,data2,Z],J,U,n2,O]:=id hb;simp only at hc hd U O;subst hc hd U O;have e:`rO++`P5=`aJa:=`a7
 by_cases hw:ws=[]
 ·done;exact t9 `ti `aJb Ad0 Ae0 Af0 Ag0 (Ah0 _ _)
   (tuple_addW1 t b `rO `P5 n n2 dd Y sl Z `ag' (by simp[hw])) #[ho,J,h1 hw]
 ·done;refine t9 `ti `aJb Ad0 Ae0 Af0 Ag0 (Ah0 _ _)
   (tuple_addW2 t b `rO `P5 n n2 dd Y sl Z `ag' `au1 (`fz `cm `cm hsz)) #[ho,J,?_]
  rw[e];exact h2 hw
def sIx(n d:Nat):`aJc
 | `f=>d
 | `bO=>`P6
def Jq0(n d:Nat)(hd:d<=n)(o:`aP):sIx n d o<=n:=by
 cases o with
 | none=>exact hd
 | some v =>
  show (`P6)<=n
  by_cases hv:v<0
  ·rw[`L hv];lia
  ·rw[`_ hv];exact By0 _ _
def Yw0(v:Int)(n d:Nat):`aJd=(`ad (sIx n d `uF)):=by
 show `aJd=(`ad (`P6))
 by_cases hv:v<0
 ·simp only[`L hv];lia
 ·simp only[`_ hv];lia
def Wv0(lo hi:`aP)(n:Nat):`aJe=(`P7,`aJf):=by
 have h1:¬(`rN<0):=`F
 unfold Builtin.Slice.sliceAdjust;apply `mR h1;refine Prod.ext ?_ ?_
 ·cases lo with
  | none=>rfl
  | some v=>exact Yw0 v n 0
 ·cases hi with
  | none=>rfl
  | some v=>exact Yw0 v n n
def Vj0(i j:Nat):`ag! `u! `cC 1=j - i:=by
 unfold Builtin.Slice.slicePlaces;have h1:`rN > 0:=`F
 simp only[h1,`hZ,Int.ediv_one];split<;>lia
def g60{v:`B}{o:`aP}{Q:`aP->`eL}(p:`AS v o)(h:Q o s):`bJ (Builtin.Slice.slicePartIndex v) s:=by
 cases p with
 | none=>exact `aJg h
 | int i t=>exact slicePart_int h
def qm0{sl:`e}{hi:`aP}{n:Nat}{Q:Int×Int×Nat->`eL}(hs:`P8)(pl:`P9)(pu:`P')
  (h:Q (`P7,1,`axM - `au0) s):`bJ (Builtin.Slice.sliceApplied `LO (`ct `bv)) s:=by
 let#[os,O,U,J]:=id hs;unfold Builtin.Slice.sliceApplied Builtin.Slice.sliceFields;refine A0 (`ag? vl (`ag? vu (`ag? `al `JD)));refine A0 (`aJg ?_);show `c! (`o ((`rN==0)=`d) _ _) s;rw[`dS];refine A0 (g60 pl (A0 (g60 pu (`OQ))));show `c! (match `aJe with|(lo,hi)=>`ct (lo,`rN,`ag! lo hi 1)) s;rw[Wv0 lo hi n];show `c! (`ct (`P7,`rN,`ag! `P7 `aJf 1)) s;rw[Vj0];exact A1 h
def Pb0(xs:`a5)(i k:Nat):(`hW ((`bP k).filterMap `aJh))=(`hW ((xs.toList.drop i).take k)):=by
 have e:(`aJh)=`aJi:=by
  funext m
  have:`axN=i+m:=`F
  rw[`x]
 rw[e];have:=pick_run xs i k;apply `aV List.filterMap_map;have e2:((λx=>xs[x]?) ∘ λx=>i+x)=`aJi:=rfl
 apply `aV e2;rw[`x]
def kb0{t sl:`e}{items:`a5}{hi:`aP}{Q:`an}(ht:`aJj)(hs:`P8)(pl:`P9)(pu:`P')
  (hw:¬(`aJk))
  (h:Q `i? (`f_ s (`hF (`l8 `ft `aJl))))
  (hsz:`f?<=`W):`aJm:=by
 have J:sizeOk (`aJl):=by
  show (`axO).toArray.size<=`W;rw[`cm,`dT,`kB,`Pr];omega
 have hj:`Y7<=`f?:=Jq0 _ _ `bF hi;let#[os,Y,Z,a1]:=id hs;have U:`aJn := #[os,Y,Z];unfold getItem
 apply `ED
 first|refine `OQ|try fail
 refine `aJo;refine A0 (i3 (name:=`aJp) `sO Y3
  `aJq)
 apply `aJr;refine `aJs;apply `m_ P1 U;rw[`OL];refine `aJt;have O:¬(`acQ):=by
  intro q;rw[`bd,`bd] at q;have q1:`avm=0:=`P! q.1.1;have q2:`Y8=`f?:=`P! q.2;exact hw #[`b7,`b7]
 apply `aJu;rw[`P?,Pb0]
 first
  | exact `aJv
  | exact `aad (A0 `aJw)
  | exact A0 (`aad `aJw)
  | exact A0 (`aJv)
universe zz
universe HT
namespace L2
open Spec PyProof.Rows
abbrev TO:=`wf `aJx
def PO(X:Cx)(e:`rk)(t:TO):Prop :=
 ∀(pins:`au) (s:`w) (σ:St) (H:Hp) (Q:`aJx),`A->`rC ->
  `cp (evalPart e `O) (λu s'=>∃o H',`m3/\`AS u o/\Q o H')
def Lu0:TO:=λ_ H Q=>Q `f H
def Ht0(t:TE):TO:=`bm t λx H1=>∃i,`agu/\Q (`rc) H1
section
variable{lo hi:`rk}{tl th:TO}
def Mm0:PO X `f Lu0:=by
 apply `bh;rw[`aJy];exact A1 #[`f,H,I,`al,h]
def L30(h:`gr):PO X (`c e) (Ht0 te):=by
 apply `afE;rw[evalPart_some];refine thn `afF λu s1 hq41=>?_;skip;apply `gq hq41
 let#[i,rfl,q]:=q1;apply `aha;done;exact#[`rc,H1,I1,`g i t,q]
def SlR(X:Cx)(r:`tj):Prop :=
 ∀(pins:`au) (s:`w) (σ:St) (H:Hp) (x:V) (v vl vu:`B) (lo hi:`aP) (sl:`e) (Q:VK),`A->`kX->`P8->`P9->`P'->`aJz ->
  ∃T id,`aJA/\`rE v T/\`cp (`oO v `LO) `fE
def SlR.or{r r':`tj}(h:SlR X r)(h':SlR X r'):SlR X (`Qa (`aJz∨r' x lo hi H Q)):=by
 intro pins s σ H x v vl vu lo hi sl Q I rx hs pl pu q;apply `PG
 ·exact `aJB h
 ·exact `aJB h'
def tSl(r:`tj)(te:TE)(tl th:TO):TE:=`bm te (`ta tl λl H2=>th σ H2 λu H3=>r x l u H3 Q)
def P40{r:`tj}(hr:SlR X r)(he:`gr)(hl:PO X lo tl)(hu:PO X hi th):PE X `aJC (tSl r te tl th):=by
 apply `bh;refine `Qb (thn `kU λv s1 hq42=>?_);apply `gq hq42;refine `aJD (thn `aJE λvl s2 hq43=>?_);let#[l,H2,I2,pl,q2]:=hq43;refine thn `aJF λvu s3 hq44=>?_;let#[u,H3,I3,pu,q3]:=hq44;rw[`aJy];refine `j5;have I4:`a0 H3 `ahb:=I3.kept (t':=s3.toks) `YH
 let#[T,id,hT,ht,hg]:=hr `r `ahb σ H3 x v vl vu l u `wi Q I4 r1 `aJG pl pu q3;show `pB (`aJH e `aAZ v (`aJI)) `fE `ahb;exact `ahc (ops:=[`aJI,v]) ht hT hg (by with_unfolding_all rfl)
def me0(xs:`V)(lo hi:`aP):`V:=`axR `rU
def ki0(xs:`V)(lo hi:`aP):(`s `LP)<=`ar:=by
 unfold me0;rw[`dT,`kB];omega
def Fn0(K:`z):`tj:=λx lo hi H Q=>∃a xs,`ek/\`pC /\
 ¬`aJJ/\`m6 `ez H (`aJK)
def Jk0:SlR X (Fn0 X.K):=by
 apply `Qc;skip;apply `aJL;cases rx;apply `aJM;apply `aJN
 done;refine#[`er,_,Y3.lookup,`sO,?_];refine HT.kb0 ht hs pl pu (`Qd) ?_ (`k J hz);rw[J];refine`ahd `aJK `ahe;exact#[`aJO,_,`aJP,`ahf]
def N10(K:`z):R2:=λx y H Q=>∃a b xs ys,`ek/\`EE/\`pC/\`aJQ/\`ahg/\`L! /\
 (ys=[]->Q `cu H)/\(ys≠[]->`m6 `ez H (`ahh))
def Vals.nil_iff(r:`ei):us=[]↔`xH:=by
 cases r with
 | nil=>simp
 | cons _ _=>simp
def Me0:`ahi N10:=by
 apply `fN;skip;let#[a,b,xs,ys,rfl,rfl,ha,hb,hx,hz,q1,q2]:=h;cases rx;cases ry;apply `aJR;let#[J,r2,p2,_]:=`lY hb;done;refine HT.L50 p1 p2 (λz=>hx (`aJS z)) (λz=>(`iV `bZ (q1 (r2.nil_iff.mp z)))) (`he) (by rw[← `oI,← `mb];exact hz);refine`ahd `ahh (q2 (λw=>z (r2.nil_iff.mpr w)) _ `Kr);exact#[`aJT,_,`Qe,`ahf]
universe zz
def ixN(n:Nat)(i:Int):`Qf:=`aJU
def atI{α:Type}(xs:`a6)(i:Int):`OD:=`aJV
def M60{i:Int}(h:ixN n i=`Qg):seqIndex? i n=`Qg/\j<n/\`aag/\i<n:=by
 unfold ixN at h
 by_cases h0:0<=i
 ·rw[`pN] at h
  by_cases h1:i<n
  ·rw[`EF] at h
   have e:`fA=j:=A3 h;exact#[by rw[`aJW h0 h1,e],`F,`F,h1]
  ·rw[`EG] at h;cases h
 ·rw[`jm] at h
  by_cases h1:`aag
  ·rw[`EF] at h
   have e:`axS=j:=A3 h;exact#[by rw[`aJX `j h1,e],`F,h1,`F]
  ·rw[`EG] at h;cases h
def go0{xs:`a6}{i:Int}{v:α}(h:`Co=`bO):∃j,seqIndex? i `ar=`Qg/\`aah=`bO/\j<`ar/\-(`ar:Int)<=i/\`xI:=by
 unfold atI at h;cases e:`axT with
 | none=>rw[e] at h;cases h
 | some j =>
  rw[e] at h;let#[h1,h2,h3,h4]:=M60 e;exact#[j,h1,h,h2,h3,h4]
def ob0(b:`J):Prop:=`azl b
def IxR(X:Cx)(r:R2):Prop :=
 ∀(value slice:`J) (pins:`au) (s:`w) (σ:St) (H:Hp) (x y:V) (v u:`B) (Q:VK),`A->`kX->`fM->`NU ->
  `Qh `tk `m v u=`_L [v,u] (`oO v u)->`cp (`aJH `g2 `tk v u) `fE
def MtR(X:Cx)(id:`cq)(r:`jn):Prop :=
 ∀(pins:`au) (s:`w) (σ:St) (H:Hp) (x:V) (xs:`V) (v:`B) (us:`K) (Q:VK),`A->`kX->`ei->r x xs H Q ->
  `aJY
section
variable{a:`J}
def IxR.or{r:R2}(h:`ahj)(h':IxR X r'):IxR X `aHz:=by
 intro value slice pins s σ H x y v u Q I rx ry q hs;apply `PG
 ·exact `aJZ h
 ·exact `aJZ h'
def V20{r:R2}(hr:`ahj)(ha:`ji)(hb:`tb)(hs:ob0 b):PE X `EH `PD:=by
 apply `bh;exact `Qb (Oc0 ha hb I h λv u s2 x y H2 I2 rx ry q=>hr a b `r s2 σ H2 x y v u Q I2 rx ry q (hs _ _))
def If0(K:`z):R2:=`ef (`aJ_ `Qi)
def Kn0(K:`z):R2:=`ef (`aJ_ `ahk)
def Kv0:R2:=`ef (∃z i c,x=`nV/\y=`bD/\`wj/\`aJ0=`fh/\Q (`wp) H)
def Xb0:IxR X (If0 X.K):=by
 apply `ahl;skip;apply `aJ1;cases rx;apply `ahm;apply `ahn;apply `aho;let#[w,ew,J]:=`pM h2;have hl:=`cd;have hn:=o50;apply `aJ2
 by_cases h0:0<=i
 ·have hj:`fA=j:=by
   rw[`aJW h0 h5] at h1;exact A3 h1
  done;exact item_listR `m9 h0 `j `aJ3 fin hs
 ·have hj:(i+(`ma:Int)).toNat=j:=by
   rw[`aJX `j h4] at h1;rw[`cm,← hl];exact A3 h1
  done;exact `aJ4 (x:=w) `aJ5 `ahp
   (wpAny_getItem_list_neg (Q:=`aJ6) `m9 `j `ahq `j `aJ3 `aJ7) hs
def ay0:IxR X (Kn0 X.K):=by
 apply `ahl;skip;apply `aJ1;cases rx;apply `ahm;apply `Qj;apply `aho;let#[w,ew,J]:=`pM h2;have hl:=`cd;have hn:=o50;apply `aJ2;done;exact `aJ4 (x:=w) pl.typeIs slot_tuple_getitem.lookup
  (getItem_tuple (j:=j) (Q:=`aJ6) pl `j `j (`ahr hl h1) (`bl ew) `aJ7) hs
def Jw0:IxR X Kv0:=by
 apply `ahl;skip;let#[z,i,c,rfl,rfl,hz,he,q]:=h;apply `cy;apply `cV;apply `aho;have hl:z.cps.toList.length=`XE:=`g6 Str.length
 rw[hl] at h1 h4 h5;have hn:=o50;done;exact `ahc (b4 s z t) slot_str_getitem.lookup (getItem_str (c:=c) (by
  have e1:`ap (i < `aJ8)=`m:=`ahs;have e2:`ap (i ≥ 2 ^ 63)=`m:=`ahs;rw[e1,e2,`OH]) (by rw[h1];simpa using h2) (`mr `wp)) hs
def rIx(K:`z):R2:=`ef (`EI If0∨`EI Kn0∨Kv0 x y H Q)
theorem H30:IxR X (rIx X.K):=Xb0.or (ay0.or Jw0)
def Z30(lo hi:`aP)(n:Nat):(`aht).1=(`ad (`j0 n 0 lo))/\(`aht).2.1=(`ad (`j0 n n hi))/\(`aht).2.2=1:=by
 refine#[?_,?_,rfl]
 ·cases lo with
  | none=>simp[`rX,`j0]
  | some i =>
   apply `aJ9
   by_cases h:i<0
   ·simp only[h,`hZ]<;>lia
   ·simp only[h,`g?]<;>lia
 ·cases hi with
  | none=>simp[`rX,`j0]
  | some i =>
   apply `aJ9
   by_cases h:i<0
   ·simp only[h,`hZ]<;>lia
   ·simp only[h,`g?]<;>lia
def dl0(its:`K)(lo hi:`aP):slicePick `b4 lo hi `f=(`hW ((its.drop (`aJ')).take (`j0 `sh `sh hi - `aJ'))):=by
 let#[h1,h2,h3]:=Z30 lo hi `ma;unfold slicePick;rw[h1,h2,h3];simp only[sliceRange_one,pick_run,`cm]<;>rfl
def Fg0(K:`z):`tj:=`Qa (∃a xs,`ek/\`sd/\`m6 `ez H (`aJ!))
def Nt0:SlR X (Fg0 X.K):=by
 apply `Qc;skip;let#[a,xs,rfl,hx,q]:=h;cases rx;let#[its,r,ht,hz]:=`iJ hx;have J:=`cd;done;refine#[`fX,_,`ahp,`aJ?,?_];refine C80 ht.isList hs pl pu `al `aM ?_ `ahq;rw[dl0,← J];refine`ahd `aJ! `ahe;exact#[`aJO,_,0,`aJP,`gY]
def t90:`agy
 | `y=>`d
 | `cb=>`d
 | `cW=>`d
 | `ce=>`d
 | _=>`m
def eqV:V->`agy
 | `y,y=>`ahu
 | .bl a,y=>`ahv
 | `EJ,y=>`ahw
 | `ja,y=>`ahx
 | _,_=>`m
def Jp0{s:`w}{y x:V}{v:`B}(ry:`fM)(rx:`kX)(fy:t90 y=`d)(fx:`ahy):`vT A s u v (`aaj):=by
 cases y with
 | non =>
  cases ry;cases x with
  | non=>cases rx;exact n9 _
  | bl b=>cases rx;exact `aKa b
  | int b=>apply `cy;exact y8 b t
  | str b=>apply `cy;exact y9 b t
  | _=>apply `Qk
 | bl a =>
  cases ry;cases x with
  | non=>cases rx;exact `aKb a
  | bl b=>cases rx;exact `aKc a b
  | int b=>apply `cy;exact `aKd a b t
  | str b=>apply `cy;exact `aKe a b t
  | _=>apply `Qk
 | int a =>
  apply `cV;cases x with
  | non=>cases rx;exact A00 a t'
  | bl b=>cases rx;exact `aKf a t' b
  | int b=>apply `cy;exact A10 a t' b t
  | str b=>apply `cy;exact o0 a t' b t
  | _=>apply `Qk
 | str a =>
  apply `cV;cases x with
  | non=>cases rx;exact A20 a t'
  | bl b=>cases rx;exact `aKg a t' b
  | int b=>apply `cy;exact o3 a t' b t
  | str b=>apply `cy;exact A30 a t' b t
  | _=>apply `Qk
 | _=>exact `qO `zT fy B7
def eqU(x:V)(u:`B):`I:=match u with
 | `al=>eqV `y x
 | `Pl=>eqV `sw x
 | `g i _=>eqV `fq x
 | `u z _=>eqV `ss x
 | _=>`m
def T50{x y:V}(r:`fM)(f:t90 y=`d):eqU x u=`aaj:=by
 cases y with
 | non=>cases r;rfl
 | bl b=>cases r;rfl
 | int i=>apply `jj;rfl
 | str z=>apply `jj;rfl
 | _=>exact `qO `zT f B7
theorem o80{x:V}:∀{xs:`V} {us:`K},`ei->`Ql->us.any `NY=`aKh
 | _,_,`R,_=>rfl
 | y::xs,u::us,`s1,f=>by
  rw[`pO,`bd] at f;rw[`pP,`pP,T50 r f.1,o80 t f.2]
theorem tr0{s:`w}{x:V}{v:`B}(rx:`kX)(fx:`ahy):∀{xs:`V} {us:`K},`ei->`Ql->∀u∈us,`vT A s u v (eqU x u)
 | _,_,`R,_=>λu hu=>by cases hu
 | y::xs,u::us,`s1,f=>λu' hu=>by
  rw[`pO,`bd] at f;rcases `cF hu with rfl|hu
  ·rw[T50 r f.1];exact Jp0 r rx f.1 fx
  ·exact tr0 rx fx t f.2 u' hu
def inV(x:V)(xs:`V):`I:=`aKh
def rIn(K:`z)(neg:`I):R2:=`ef (∃p xs,y=`fW/\(`Qi∨`ahk)/\`ahy/\`Ql/\Q (.bl (`o neg (!inV x xs) (inV x xs))) H)
def R70:`f2 .In (rIn X.K `m):=by
 apply `fN;skip;apply `aKi;cases ry;apply `Qm
 ·apply `ahn
  done;refine `Qn SeqAt.in_listAt `m9;apply `Qo;exact q
 ·apply `Qj
  done;refine `Qn SeqAt.in_tupleAt pl;apply `Qo;exact q
def cs0:`f2 `xy (rIn X.K `d):=by
 apply `fN;skip;apply `aKi;cases ry;apply `Qm
 ·apply `ahn
  done;refine `Qn SeqAt.notIn_listAt `m9;apply `Qo;exact q
 ·apply `Qj
  done;refine `Qn SeqAt.notIn_tupleAt pl;apply `Qo;exact q
def mk0:`g3 X `ahz (`h6 (`Qp `acR `acS `aKj)):=by
 apply `tc;skip;let#[p,ys,rfl,hq,q]:=h;apply `Qq;cases rx;have hn:=o50;apply `Qm
 ·apply `ahA
  have J:=`ph;done;exact Calls.call_len_list `m9 `Qr `aKk
 ·apply `ahB
  have J:=`ph;done;exact len_tuple pl `Qr `aKk
def a80:`g3 X `ahz (`h6 `aKl):=by
 apply `tc;skip;let#[z,rfl,hz,q]:=h;apply `agF;have hn:=o50;done;exact len_str `j (`mr `aak)
def CallR.or{f:`B}{r':`qR}(h:`g3 X f r)(h':`g3 X f r'):`g3 X f (`h6 (`Pz∨r' xs H Q)):=by
 intro pins s σ H xs us Q I rs q;apply `PG
 ·exact `aKm h
 ·exact `aKm h'
def tf0:`g3 X `Le (`h6 (`Qp `acR `acS `aKn)):=by
 apply `tc;skip;let#[p,ys,rfl,hq,q]:=h;apply `Qq;cases rx;have fin:∀(its:`K),`aKo->`ahC->∀(h':`D) (c':Nat),(∀b o',`qK=`Kk->`uK=`Kk) ->
   `ahD=`c (`Du `b4 c')->`sg `i? `jZ:=λits r' hz h' c' kp e =>
  #[`lv,_,`tf (t':=`cv) kp `bF (show `Ea _ _ `vz from #[hz,its,c',r',e]),rfl,`ahe]
 apply `Qm
 ·apply `ahA
  have J:=`ph;let#[o,ho,hc,n,hd]:=`m9;done;exact `aKp `c0
 ·apply `ahB
  have J:=`ph;let#[o,ho,hc,n,hd]:=pl;done;exact `aKp `jo
def wq0:`g3 X `MB `aKq:=by
 apply `tc;skip;let#[p,ys,rfl,h]:=h;apply `Qq;cases rx;rcases h with⟨hq,q⟩|⟨hq,q⟩
 ·apply `ahA
  have J:=`ph;done;refine call_tuple_list `m9 (λh' kp=>?_) `Qr;have I1:`Cg:=I.kept (t':=`cv) kp;have I2:`a0 (upd H `Cp `Kf) ((`f_ s (`ahE (`hI `ft `b4)))) :=
   `LM (t':=`cv) (`AR) `bF (show `h' `cB X.w _ _ _ `Kf from #[hz,its,r',`ahf])
  exact#[`aKr,_,I2,rfl,q _ (`NT)]
 ·apply `ahB
  done;exact call_tuple_same pl (`iV `fW q)
def tyV(K:`z)(T:`cq)(x:V)(H:Hp):Prop:=match x with
 | `ce=>T = `jp
 | `cW=>T = `jk
 | `fW=>(T = `fX/\∃xs,`Qi)∨(T = `er/\∃o,`bW p=`aq/\`O0/\`O1) ∨
   (T = `J5/\((∃kvs,`adc)∨∃kvs,H p=`ays))∨(T = "set"/\∃S n,H p=`c (.set S n))
 | _=>`b1
def T90{σ:St}{s:`w}{T:`cq}{x:V}{v:`B}(I:`A)(r:`kX)(ty:tyV X.K T x H) :
  `rE v T/\∀a,`LZ->∃ob,`I8=`O6/\`aKs:=by
 skip;cases x with
 | str z =>
  apply `jj;cases (show T = `jp from ty);done;exact#[b4 s z t,λ_ e=>nomatch e]
 | int i =>
  apply `jj;cases (show T = `jk from ty);done;exact#[i4 s i t,λ_ e=>nomatch e]
 | ref p =>
  cases r;rcases ty with⟨rfl,xs,hq⟩|⟨rfl,o,hk,hc,hd⟩|⟨rfl,hk⟩|⟨rfl,S,n,hk⟩
  ·let#[its,_,pl,_]:=`vP
   done;refine#[`aJ5,λa e=>?_];skip;cases e;let#[o,n,e,c,hd,_]:=pl;done;exact#[o,e,hd]
  ·done;refine#[#[o,`gj p o hk,hc],λa e=>?_]
   cases e;exact#[o,`gj _ o hk,hd]
  ·have z:∃o,`dO p=`aq/\`aKt:=by
    rcases hk with⟨kvs,hk⟩|⟨kvs,hk⟩
    ·skip;apply `aKu
     done;exact`aKv
    ·skip;apply `aKu
     done;exact`aKv
   let#[o,e,ex]:=z;done;apply `aKw;cases e2;exact`aKx
  ·let#[o,_,_,_,e,ex,_]:=`axU
   done;apply `aKw;cases e2;exact`aKx
 | _=>done;exact `fH ty
def Fp0(K:`z)(T:`cq)(r:`jn)(to:TE):TE:=`bm to λx H1=>`aKy/\r x [] H1 Q
def tBM(K:`z)(T:`cq)(r:`jn)(to:TE)(t:TA):TE:=`bm to λx H1=>`aKy/\t σ H1 λxs H2=>r x xs H2 Q
variable{to:TE}{t:TA}{T id:`cq}{r:`jn}
def T20(pa:`aKz)(slot:`aKA)(hty:`ahF)(hm:`ahG)(ho:`afT)
  (hbase:`ahH) (hline:`hm):PE X (`sS `ahI []) (Fp0 X.K T r to):=by
 apply `bh;refine wpAny_Call_method0_late `hn `jq (thn `El λv s1 hq45=>?_);skip;let#[x,H1,I1,r1,ty,q1]:=hq45;let#[h1,h2]:=T90 I1 r1 ty;done;exact`aKB (Al0 rfl (PySem.evalArgs_none (hm `r s1 σ H1 x [] v [] Q I1 r1 `R q1)))
def ph0(pa:`aKz)(slot:`aKA)(hty:`ahF)(hm:`ahG)(ho:`afT)(ha:`pK)
  (hbase:`ahH)
  (hfew:`H ((`Xy `W'
  &&`JO `ahJ)=`d) Aa)
  (hline:`hm) (hs:`dn) (hplain:`H (`aKC=`m) Aa) :
  PE X (`sS `ahI `gG) (tBM X.K T r to t):=by
 apply `bh;refine wpAny_Call_method_late `hn hfew `jq rfl (thn `El λv s1 hq46=>?_);skip;let#[x,H1,I1,r1,ty,q1]:=hq46;let#[h1,h2]:=T90 I1 r1 ty;done;refine`aKB ?_;have hA:=ha `jS `r s1 σ H1 _ I1 q1;rw[hs] at hA ⊢;refine Al0 (by show (`m||`aKC)=`m;rw[`tl]<;>rfl) (Am0 ?_);exact thn hA λus s2 #[vs,H2,I2,r2,q2]=>hm `r s2 σ H2 x vs v us Q I2 r1 r2 q2
universe zz
def MtM(X:Cx)(id:`cq)(r:`jn):Prop :=
 ∀(pins:`au) (s:`w) (σ:St) (H:Hp) (x:V) (xs:`V) (v:`B) (us:`K) (Q:VK),`A->`kX->`ei->r x xs H Q ->
  `aJY
def Vals.one:∀{x:V} {us:`K},`aHG->`aHH:=by
 intro x us h
 cases h with
 | cons r t=>cases t;exact`avH
def Vals.two:∀{x y:V} {us:`K},`bU [x,y] us->∃u v,us=[u,v]/\`i9/\`d1 y v:=by
 intro x y us h
 cases h with
 | cons r t=>cases t with
  | cons q t=>cases t;exact`k0 r q
theorem Vals.zero:∀{us:`K},`bU [] us->us=[]
 | _,`R=>rfl
def Vals.dropLast(h:`ei):`bU `ZB us.dropLast:=by
 induction h with
 | nil=>exact `R
 | cons r t ih =>
  cases t with
  | nil=>exact `R
  | cons q t'=>exact `D2
def Vals.reverse(h:`ei):`bU `Qs us.reverse:=by
 induction h with
 | nil=>exact `R
 | cons r t ih=>rw[`gt,`gt];exact `aKD ih (`aa r `R)
theorem Vals.rep(h:`ei):∀k:Nat,`bU `aKE (`kl k us)
 | 0=>`R
 | k+1=>by
  rw[`da,`da,`gu,`gu];exact `aKD h (Vals.rep h k)
def Wq0(l:`a6):l.eraseIdx (`bK - 1)=l.dropLast:=by
 induction l with
 | nil=>rfl
 | cons a r ih =>
  cases r with
  | nil=>rfl
  | cons b r =>
   have e:`aKF - 1=(`aKG - 1)+1:=by
    have h1:`aKF=`cd+2:=rfl;have h2:`aKG=`cd+1:=rfl;lia
   rw[e,List.eraseIdx_cons_succ,ih]
   all_goals rfl
theorem foldl_rep(its:`K):∀(k:Nat) (acc:`K),
  List.foldl (λx1 x2=>x1++x2) `aKH (`bB k `b4)=(`hW (acc++`aKI))
 | 0,acc=>`a7
 | k+1,acc=>by
  have e:`aKH++`b4=(`hW `ahK):=`a7
  have e2:(`ahK)++`aKI=acc++(`kl `d6 its):=by
   rw[`da,`gu,`bg]
  rw[← e2,← foldl_rep its k (`ahK),← e,`da,List.foldl_cons]
section
variable{σ:St}{s:`w}{l b:`e}{ys zs:`V}
def Inv.lset{its its':`K}{n:Nat}{f:`a5->`a5}{t':Nat}(I:`A)(hH:`Qt)
  (e:`aKJ) (hf:f `b4=its'.toArray) (hv:`bU ys its') (hz:`ahC) :
  `a0 (upd H l `vz) ((`hA (`CJ l (`oZ f)) t')):=by
 have q:=PySem.IsL.update e f;rw[hf] at q;refine `agO (x:=l) (e:=l) (`k hH `jr) `c0 (λb' u hb hu=>(L4 `aA (`oZ f) (B4 hb)).trans hu) `js ?_;exact#[hz,its',_,hv,q]
theorem Inv.lnew{its:`K}{t':Nat}(I:`A)(hv:`aKo)(hz:`ahC) :
  `a0 (upd H `Y `vz) ((`hA (`hF (`hI `iS `b4)) t')) :=
 `tf `ahL `bF #[hz,its,0,hv,`gY]
theorem Inv.fresh(I:`A):H `Y=`f:=`Yc
def Inv.lstM(I:`A)(hH:`Qt):`aeP (`ar=`sh/\`aKJ):=by
 let#[z,its,n,r,e]:=`b2 l _ hH;exact#[z,its,n,r,`cd,e]
def Pw0(h:`xJ):`Qu n=`m:=by
 apply `aKK;exact `ahs
universe zz
def Mz0:`jn:=`aKL [y] (`ar<`W/\Q `y (upd H l (`t (xs++[y]))))
def pc0:MtM X `aKM Mz0:=by
 apply `Qv;skip;let#[l,xs,y,rfl,rfl,hH,hz,q]:=h;cases rx;apply `ahM;apply `ahN;done;refine b5 F.slot_list_append `ahO F.entry_list_append (F.args_list_append_2 _ _) (PySem.list_append l `b4 n u `EK) #[e,?_];refine`aKN [u] (`aa ru `R);apply `hJ;lia
def Fl0:`jn:=`aKL [] (xs[`ar - 1]?=`eP/\Q y (upd H l `ahP))
def Tr0:MtM X "list.pop" Fl0:=by
 apply `Qv;skip;let#[l,xs,y,rfl,rfl,hH,hy,q]:=h;cases rx;have J:=rv.zero;subst J;apply `ahN;let#[u,hu,ru]:=`pM hy;have O:`b4[`ma - 1]?=`bc:=by
  show `b4[`sh - 1]?=`bc;rw[← `aKO,← hl];exact hu
 done;refine b5 F.slot_list_pop `ahO F.entry_list_pop (F.args_list_pop_1 _) (MeetsSeq.list_pop_last l `b4 n u O `EK) #[e,?_];refine#[y,_,I.lset (its':=its.dropLast) hH e ?_ r.dropLast ?_,ru,q]
 ·show its.toArray.eraseIdxIfInBounds (`ma - 1)=its.dropLast.toArray
  rw[`cm,List.eraseIdxIfInBounds_toArray,Wq0]
 ·rw[List.length_dropLast]
  lia
def len_rep(xs:`a6)(k:Nat):(`Jb `axV)=k*`ar:=by
 induction k with
 | zero=>simp
 | succ k ih=>rw[`da,`gu,`Z,ih,Nat.succ_mul,Nat.add_comm]
universe L2
namespace Att
open PySem.W PySem.Calls PyProof.Rows
def ho0{P:`aan}{h:`D}:∀(ns:`M) (vs:`K),WellAll P h vs (`nI WData.int)->`EL:=by
 intro ns
 induction ns with
 | nil =>
  intro vs w;rw[`mx] at w;cases w;exact `R
 | cons n ns ih =>
  intro vs w;rw[`ag] at w;cases w with
  | cons a b =>
   cases a;exact `aa _ _ (ih _ b)
def Rl0{l:`ahQ}(hn:`Qw){P:`aan}{h:`D}{args:`af WData}{vals:`K}
  (hpre:l.row.toRowW.claim.pre args=`d) (hwl:WellAll P h vals args) :
  ∃a vs ns,vals=[`q3]/\args=[WData.list (`nI WData.int)]/\`iI=`axW/\`EL/\`Qx:=by
 skip;have O:WShape.hasAll [] args [.list `g]=`d:=(`aKP).1;have hc:l.pre.holds [] { args:=args }=`d:=(`aKP).2;let#[d,r,rfl,h1,h2]:=hasAllW_cons O;obtain rfl:=hasAllW_nil h2;let#[xs,rfl,h3]:=hasW_list h1;let#[ns,rfl]:=items_int h3;have J:`Qx:=by
  unfold OpenLaw.pre at hc;have h4:(WTm.not (.lt (.lit `qB) (.len (.arg 0)))).holds [] { args:=[.list (`nI `g)] }=`d:=by
   have h4:=(holds_andW hc).1;rw[hn] at h4;exact h4
  have h5:=condW_of h4 (w_not (w_lt w_lit (w_len_list (w_arg rfl))));rw[`S] at h5;refine An0 λq=>?_
  have q':`bv<((`f':Nat):Int):=`b7
  first
   | (rw[`b0 q'] at h5;exact `G h5 `v)
   | (simp at h5;omega)
 cases hwl with
 | cons w1 w2 =>
  cases w2;cases w1 with
  | list ho hall=>done;exact#[_,_,ns,rfl,rfl,ho,ho0 ns _ hall,J]
theorem Sd0(l:`ahQ)(args:`af WData):l.row.toRowW.claim.post args `Dn args=`d :=
 postW_of (r:=`aKQ) (X:=`aKR)
  (show WShape.has [] `Dn `gW=`d by first|rfl|decide|simp[WShape.has,WShape.arms,WShape.armsAll])
  (show (WTm.eq .res (.lit `Dn)).value [] { args:=args,res:=`c `Dn,after:=args }=`c (`gW `aKR) from w_eq_bool (w_res rfl) w_lit) rfl
def Y40{l:`ahQ}{n:Nat}{q:`ai}{loose:`i}{XP:`DT}{YP:`DU}{d:DefRec}
  (hn:`Qw) (hdf:`ahR)
  (call:∀(w:`Q) (s₀ s₁:`w) (mg mb:`a3) (fa:`e) (o:Obj) (pm cd doc:`B) (a:`e) (vs:`K) (ns:`M),
   Ground q loose [] XP w s₀ mg mb `od->YP w `od ->
   `LS fa=`aq->`oy=`dp (docDef `ZC d.params d.body d.scope pm cd doc)->s₁.heap.CodeRec cd `ZC->`ahS ->
   `aKS->`EL->`Qx->`aKT ->
   `axX (`zM `ci w)) :
  `axY WalkO:=by
 intro w s₀ s₁ mg mb G Y fa o pm cd doc dV kV ho hd a3 hD a2 hg args vals as Z a4 a6 a1 a5;skip;obtain rfl:dV=`al:=Dflts.none hD hdf;obtain rfl:kV=`al:=Dflts.noKw hD;let#[a,vs,ns,rfl,rfl,O,J,U]:=Rl0 hn Z a1;done;refine enter_call (K0 (`eb w s₀ `eD mg mb fa o pm cd doc a vs ns G Y ho (fd_plain hd) a3 a2 O J U hg) `xK);let#[rfl,h2,h3,h4]:=hq;exact#[`n #[`IR,`IR,[],rfl,`hh,`IR,Sd0 l _,λ_=>#[`aKU,λ_ hm=>(nomatch hm)]],h2,h3,h4]
universe Att
namespace L2
open Spec PyProof.Rows
theorem e00:∀{vs:`K} {ns:`M},`EL->`bU `Bt vs
 | _,_,`R=>`R
 | _,_,`aa n t h=>`aa `Qy (e00 h)
def Only(H:Hp):Prop:=∀b,`dj∨∃o xs,H b=`Ky
def Pa0{P:`ai}{w:`Q}{K:`z}{mg mb:`a3}{CX:CXT}{k:Nat}{fa a:`e}{fd:`e5}{x:Str}{sp:Sp}{s₁:`w}{vs:`K}{ns:`M}
  (KX:K.In `od) (hns:`ahT `f4 mg) (hb:`ahT `afa mb) (hbb:`aE5) (hlim:s₁.heap.NoLimit) (hg:`aKT)
  (ha:`aKS) (hi:`EL) (hl:`aHT) (hr:`ahU)
  (F:∀base:`D,`ae?->`O8->`k_ P w K mg `ao CX k fa fd [x] sp) (hbind:`ahV)
  (hsp:∀H:Hp,Only H->`ahW->sp `eW H `ahX `uY)
  (hCX:∀H e s',CX [] H `eD `xL e s'->`b1) :
  `aKV:=by
 have rv:=e00 hi;have a1:=hi.length;have U:∀H:Hp,Only H->`ahW->HOk P w H `od->(∀b,`ahY->b=a)->(H a≠`f->`bW a=`f) ->
   `aKV:=by
  intro H hO hS hok hA hK;have J:∀{b:`e} {o:Obj},`LS b=`aq->`dj->`xM `EM:=λe n=>Qz0 e n
  have a2:∀{b:`e} {o:Obj} {es:`zN DictEntry} {ep:Nat},`LS b=`aq->`aKW->`dj:=λ{b o es ep} e d=>by
   cases q:H b with
   | none=>rfl
   | some u =>
    have e':b=a:=`aKX;subst e';rw[ha] at e;cases e;have d':Data.seq `rO _=Data.dict es ep:=d;cases d'
  have O:∀{b:`e} {m:`a3},`ahT b m->(`EM).Ns b m:=λ{b m} #[o,es,ep,e,d,r]=>#[o,es,ep,J e (a2 e d),d,r]
  have Y:K.In (`EM):=λb o e=>J (KX b o e) (by
   cases q:H b with
   | none=>rfl
   | some u =>
    have e':b=a:=`aKX;subst e';rw[hK (`aam)] at e;cases e)
  have hM:Mod K mg (`EM):=#[Y,O hns,#[mb,O hb,hbb],let #[mc,h1,h2]:=hlim;#[mc,O h1,h2]];have e0:Env0 P w K mg (`EM) `Ku [] `eD H:=#[rfl,hM,`j_ (Kh0 e),H0 (Uc0 _ _),`jr,λb hb=>`qO `aac hb `aM,hok,.of_eq hg];refine K0 ((F _ Y (O hns)).run `Ku [] `eD H `aKY `eW `eW _ _ hr e0 (hbind `eD `cu) `ahZ (hsp H hO hS)) λr s' h=>?_
  skip;cases r with
  | error e=>done;exact(hCX H e s' h).elim
  | ok fl =>
   cases fl with
   | next=>done;exact `fH h
   | brk=>done;exact `fH h
   | cont=>done;exact `fH h
   | ret u =>
    let#[v,H',os,bare,un,Z,r',q]:=h;have q':v=`lu:=q;subst q';obtain rfl:u=`Qz:=r';done;refine#[rfl,OldK.of_keep `aKZ,os,bare];skip;cases q:H b with
    | none=>done;exact un.keep b o e q (by intro z;exact `aI0) `aM
    | some u =>
     rcases hO b with z|⟨ob,xs,z⟩
     ·rw[q] at z;cases z
     ·have z2:=un.frzs b ob _ z
      let#[e1,_]:=hok b _ z;let#[e2,_]:=Z b _ z2;rw[e] at e1;cases e1;done;exact e2
 cases hk:`bW a with
 | some o =>
  have e:=KX a o hk;rw[ha] at e;cases e;refine U (`xf) (λ_=>`lp) (`p #[_,`rO,_,hk,rfl,rfl,rfl,`fz `cm a1 hl,`aGz]) (λb u z=>by have z':(`f:`s2)=`bc:=z;cases z') (λb z=>`aK_) λz=>`aK_
 | none =>
  refine U (λb=>`a! (b=a) (.frz `_A (`t `Bt))) (λb=>?_) (`n (`p #[`_A,`bp])) (λb u z=>?_) (`aaZ) λ_=>hk
  ·apply `m1
   ·exact `p #[_,_,`dY]
   ·exact `n (`cz)
  ·apply `m1
   ·have z':=(`dY).symm.trans z
    cases z';subst hb;exact#[ha,`k `S hl,vs,_,rv,ha]
   ·have z':=(`cz).symm.trans z
    cases z'
  ·apply `m1
   ·exact hb
   ·exact `G (`cz) z
def K40{l:`ah_}{n k:Nat}{q:`ai}{loose:`i}{XP:`DT}{YP:`DU}{d:DefRec}{K:`aK0}{CX:`Q->CXT}{sp:`Q->Sp}{x:Str}
  (hn:`Qw) (hn2:`xJ) (hdf:`ahR) (hr:`ahU)
  (hY:`aK1)
  (F:∀(w:`Q) (mg:`a3) (fa:`e) (h:`D),`LT h->`DX->`ahS ->
   ∃fd:`e5,(`ahV) /\
    `aK2 (CX w) w)
  (hsp:`aK3 (Only H->`aK4 w))
  (hCX:∀(w:`Q) (H:Hp) (s:`w) (e:`B) (s':`w),CX w [] H s `xL e s'->`b1) :
  `aK5:=by
 refine Att.Y40 hn hdf λw s₀ s₁ mg mb fa o pm cd doc a vs ns G Y ho hd a1 Z U O J hg=>?_
 have KX:=hY w _ Y;let#[fd,hb,hF]:=F w mg fa _ KX G.T.g Z;exact Pa0 KX G.T.g G.T.b G.T.builtins G.T.nolimit hg U O (C0 J hn2) hr hF hb (λH hO hS=>hsp w H a ns J hO hS) λH e s'=>hCX w H `eD e s'
def U4(s:`a1):Arguments:=match s with
 | `ah0 a _ _=>a
 | _=>{ posonlyargs:=[],args:=[],vararg:=`f,kwonlyargs:=[],kw_defaults:=[],kwarg:=`f,defaults:=[] }
def X4(s:`a1):`cg:=match s with
 | `ah0 _ b _=>b
 | _=>[]
def t6(s:`a1):`cT:=match s with
 | `ah0 _ _ sc=>sc
 | _=>{ kind:=`r6,names:=[],isGenerator:=`m,isCoroutine:=`m }
abbrev CX0:CXT:=λ_ _ _ _ _ _=>`b1
abbrev E0:XK:=`uY
theorem nc0:qj0 CX0 X E0:=λ_ _ _ _ _ _ _ h=>`j9
structure Fun(K:`z)(x qual:Str)(st:`a1)(f:`e)(fd:`e5):Prop where
 ex:∃(oc:`B) (od:`bq) (kV doc pm:`B) (an:`bq) (cdv ct:`B) (osl:`kP),
  fd=`QA/\`P4 fd/\`ag6
 kp:`PP
section
variable{P:`ai}{w:`Q}
def Fun.ok{st:`a1}{f:`e}{k:Nat}(F:`aK6)(S:`xN)(len:`agW)
  (hbody:∀(cdv:`B) (A:`cf) (outer:`eC) (s:`w) (H:Hp) (vs:`V) (Q:VK) (E:XK),`Yf `uZ f->`Kp ->
   ∃t,PSs (`Lc CX0 N f).nox `QB t/\`aI6):`QC `d6 ps sp:=by
 skip;let#[oc,od,kV,doc,pm,an,cdv,ct,U,rfl,lk,O]:=F.ex;done;refine We0 lk O S len λA outer s H vs Q E hr J=>?_
 let#[t,h,q]:=hbody cdv A `c8 s H vs Q E hr J;exact#[t,h.nox,q]
def Fun.binds{st:`a1}{f:`e}{ps:`i}(F:`aK6)
  (h:∀(kV doc pm:`B) (an:`bq) (cdv ct:`B) (us:`K),`aIv (`QA)):`AX:=by
 skip;let#[oc,od,kV,doc,pm,an,cdv,ct,O,rfl,lk,J]:=F.ex;done;exact .all (h kV doc pm an cdv ct)
theorem z20{st:`a1}{f:`e}{osl:`kP}{kV:`B}(l:`P4 (`QA))
  (c:`ag6) (k:`PP):Fun K x `iO st f (`QA):=#[#[oc,od,kV,doc,pm,an,cdv,ct,osl,rfl,l,c],k]
universe zz
theorem yu0{k:Nat}(hr:`EA):`EN:=P8 (Nat.add_le_add_left (`aw:1<=64) _) `ah1
structure Same(H H':Hp):Prop where
 old:`aK7
 nf:∀b o xs,`aK8
instance{H H':Hp}:`e8 `be `aK7:=#[Same.old]
theorem Same.refl(H:Hp):`dc H H:=#[λ_ _ h=>h,`ah2]
theorem Same.trans{H1:Hp}(a:`dc H H1)(b:`QD):`dc H H2:=#[λc o h=>b c o (a c o h),λc o xs h=>a.nf c o xs (b.nf c o xs h)]
def Same.free(e:`be){l:`e}(h:H' l=`aK9):H l=`aK9:=by
 cases q:H l with
 | none=>rfl
 | some o =>
  rw[e l o q] at h;cases h
def Its(x:Str):It:=#[λi _=>i<`EO,λi H v H'=>H'=H/\∃c,`ah3=`fh/\v=`wp,λi _=>`EO<=i]
theorem cy0{P:`ai}{w:`Q}{K:`z}{tg:`J}(it:`e)(T:`cq)(hT:T = `aK'∨T = `aK!)(x:Str)(t:Tok) :
  `Pu (Its x) (h.IsStrIter it T x t i) where
 mem:=`a7
 obj:=λi h st b hb=>by
  apply `D?
  subst e;apply `agb;apply `agc
 keep:=λi h h' st k=>by
  let#[o,e,r]:=st;exact#[o,`axs,r]
 item:=by
  apply `kV;skip;apply `kW;have U:i<`EO:=hg;have hx:`ah3=`c x.cps[i]:=by simp[U]
  apply `pF;have fin:∀h',h'.IsStrIter it T x t `fp->`Ce it ->
    ∃u,(`c (`K' `aK? `cv))=`bc/\`aD `cI X.A `af8 (λ_ s2=>∃x_1 H',`af9/\`d1 x_1 u/\(Its x).yld i H x_1 H'/\s2.heap.IsStrIter it T x t `fp/\∀b∈[it],`n4) E `QE:=by
   intro h' J sb;have I1:`a0 H `QE:=`agi `acM f0 f1 f3 f4 f5;apply `agg;refine`pH (c20 (s:=`QE) (n:=T) e c d (`at1 hT) #[`u `aK?,H,I1,`ah,#[rfl,_,hx,rfl],J,`agj])
  rcases hT with rfl|rfl
  ·done;exact wpAny_pyNext_ascii_item st hx `aLa
  ·done;exact wpAny_pyNext_wide_item st hx `aLa
 done:=by
  apply `kV;skip;apply `kW;have O:`EO<=i:=hg;have hx:`ah3=`f:=by simp[O]
  apply `pF;rcases hT with rfl|rfl
  ·done;exact wpAny_pyNext_ascii_end `m4 st hx `Eo
  ·done;exact wpAny_pyNext_wide_end `m4 st hx `Eo
 self:=λ_ _ _ _ _ st h=>by
  rcases hT with rfl|rfl
  ·exact wpAny_pyIter_striter_ascii st h
  ·exact wpAny_pyIter_striter_wide st h
def Fq0(te:TE):TI:=`Ep te λv H1=>∃x,`QF/\R (Its x) H1
def Iz0(he:`gr):PI X tg e (Fq0 te):=by
 apply `Eq;refine thn `kU λv s1 hq47=>?_;skip;let#[y,H1,I1,r1,q1]:=hq47
 let#[x,rfl,q]:=q1;apply `aha;have fp:∀(o:Obj),∀b∈`ah4,`Jk H1:=λo b hb=>by
  have e:b=`j2:=`u8
  subst e;apply `Er
 cases ha:x.cps.all (·<128) with
 | true =>
  done;exact `aLb wpAny_pyIter_ascii `aK' `c0
 | false =>
  done;exact `aLb wpAny_pyIter_wide `aK! `jo
def X8(X:Cx)(scope:`cT)(cl:`tm)(N':`i)(s:`w)(H:Hp)(ex:`aX):Cx :=
 { X with N:=N',s₀:=s,H₀:=H,env:=compEnvC `eu cl `Y `O,outer:=`gP,ex:=ex,fn:=λ_=>`m,pn:=[],xe:=`nT }
structure CompOk(sc scope:`cT)(N N':`i)(n:Nat)(caps:`h):Prop where
 kind:`aLc
 nocell:∀y∈`g7,`aLd
 loc:∀y∈`g7,`aLe
 free:∀y∈`g7,`aLf
 nd:N'.Nodup
 len:`aLg
 cap:∀k∈`bP `wk,`aLh
def G5(n:Nat)(caps:`h)(σ:St):St:=`bB n `f++`aLi
def Tl0(n:Nat)(caps:`h)(σ:St):`aLj=n+`wk:=by simp[G5]
theorem qg0{env:Env}:∀(names:`aLk),(∀x∈`ig,`aLl)->∀acc:`tm,
  ∃cl:`tm,(`CO `ig acc (λ(x:`ax1) (cs:`tm)=>if (x.2==`jQ)=`d then do let a ← cellOf env x.1;`ct (`LW ((x.1,a)::cs)) else `ct (`LW cs)):Sem (`tm))=`ct cl /\
   (∀y c,`ah5->`LV y=`fh∨`aLm)/\(∀x∈`ig,`ah6)/\(∀y c,`aLm->∃c',`Kw y=`c c')
 | [],_,acc=>#[acc,rfl,λ_ _ h=>`p h,(λ_ h=>nomatch h),λ_ c h=>#[c,h]]
 | `ah7,h,acc=>by
  skip;cases hk:(`_B) with
  | true =>
   have hk':k=`jQ:=`bl hk
   let#[c,hc]:=h (n,k) A4 hk';let#[cl,e,h1,h2,h3]:=qg0 r (`pQ) ((n,c)::acc);done;refine#[cl,?_,`aLn,`aLo,`aLn]
   ·rw[`aa']
    simp only[hk,`hZ,cellOf,hc,pure_bind];exact e
   ·rcases h1 y d hy with z|z
    ·exact `gR
    ·rw[`gv] at z
     cases q:(y==n) with
     | true =>
      rw[q] at z;cases z;have:y=n:=`agm
      subst this;exact `n hc
     | false =>
      rw[q] at z;exact `p z
   ·apply `m'
    ·exact h3 n c (`g6 `gv)
    ·exact h2 x hx hf
   ·by_cases q:y=n
    ·subst q
     exact h3 y c (`g6 `gv)
    ·refine h3 y d ?_
     have:(y==n)=`m:=`agm
     rw[`gv,`x];exact hy
  | false =>
   let#[cl,e,h1,h2,h3]:=qg0 r (`pQ) acc;done;refine#[cl,?_,h1,`aLo,h3]
   ·rw[`aa']
    simp only[hk,`tn,`g?,pure_bind];exact e
   ·apply `m'
    ·have:k=`jQ:=hf
     rw[`x] at hk;exact `G hk `v
    ·exact h2 x hx hf
def pa0{env:Env}(h:∀x∈`g7,`aLl) :
  ∃cl:`tm,closureFor `eu env=`ct cl/\(∀y c,`ah5->`LV y=`fh)/\∀x∈`g7,`ah6:=by
 let#[cl,e,h1,h2,_]:=qg0 `g7 h [];refine#[cl,?_,λy c hy=>(h1 y c hy).elim id `hM,h2];simp only[closureFor];rw[← bind_pure (`CO _ _ _)] at e
 first
  | exact e
  | (refine Eq.trans ?_ e;rfl)
theorem tx0{env:Env}:∀(names:`aLk) (x:Str),
  (`Bf `ah8).lookup x =
   (names.lookup x).map λk=>`ah9
 | [],_=>rfl
 | `ah7,x=>by
  have ih:=@tx0 env r x;have l1:`ib x ((`ah7).map `ah8) =
    `ib x ((`o `aLp (n,`Bu) (n,k))::r.map `ah8):=rfl
  rw[l1,`gv (as:=r)]
  by_cases hc:`aLp
  ·rw[`EP,`gv]
   cases hx:x==n with
   | true =>
    have e:x=n:=`aLq
    subst e;show `c `Bu=`c (`ah9);rw[`EP]
   | false=>exact ih
  ·rw[`to,`gv]
   cases hx:x==n with
   | true =>
    have e:x=n:=`aLq
    subst e;show `fG=`c (`ah9);rw[`to]
   | false=>exact ih
section
variable{w:`Q}{R:`pr}{s:`w}
def bv0{elt target iter:`J}{ifs:`bQ}{scope:`cT}{pos:Pos}{it acc:`B}{env:Env}(I:`ah')
  (turn:∀n s,I n s->`aD `dE A (`A_ it) (λr s₁=>match r with
   | `f=>R `aLr `eD
   | `bO=>`aD `dE A (`aAR `N_ it v) (λ_ s₁'=>`aD `dE A (`hT `N_ env v) (λ_ s₂ =>
     `aD `dE A (`aLs (`K8 c env (`bV c env))) (λok s₃ =>
      if ok=`d then `aD `dE A (`bV elt env) (λx s₄ =>
       `aD `dE A (`eb (`cn `aKM) [acc,x]) (λ_ s₅=>∃m,m<n/\I m s₅) `pR s₄) `pR s₃
      else ∃m,m<n/\I m s₃) `pR s₂) `pR s₁') `pR `eD) `pR s)
  (n:Nat) (h:I n s) :
  `wT (.compLoop `aLt 0 it acc env) s:=by
 refine codeAny_loop rfl I (λn s hI=>?_) n h;show `aD _ A ((compTurn `aLt 0 it acc env).onRaise (λx=>do `EQ x env;theTreesLotGoes x)) _ _ s;refine wpAny_noted ?_;rw[compTurn_list];refine `kR X2 (D0 (turn n s hI) (λr s₁ h₁=>?_) `aLu);cases r with
 | none=>exact A1 h₁
 | some v =>
  refine `ER h₁ λ_ s₁' J=>?_;refine `ER J λ_ s₂ h₂=>`ER h₂ λok s₃ h₃=>?_;cases ok with
  | false=>exact A1 #[rfl,h₃]
  | true =>
   exact A0 (`ER h₃ λx s₄ h₄=>`ER h₄ λ_ s₅ h₅=>A1 (A1 #[rfl,h₅]))
universe zz
def PF(X:Cx)(ifs:`bQ)(t:TT):Prop :=
 ∀(pins:`au) (s:`w) (σ:St) (H:Hp) (Q:`Ec),`A->`rC ->
  `cp (`aLs (`K8 c `O (`bV c `O))) `afA
theorem Jt0:PF X [] λ_ H Q=>Q `d H:=`s9 (wpAny_tests_nil #[H,I,h])
theorem Ks0{c:`J}{t:TT}(h:PT X c t):PF X [c] t:=λpins s σ H Q I q=>wpAny_tests_one (`b8 h Q q)
def Wk(σ σ':St):Prop:=`afq/\∀(j:Nat) (v:V),`ah!->σ'[j]?=`oc
def cg0(n:Nat)(caps:`h)(wi:TI)(g:TG)(tt:TT)(te:TE):TE:=fun σ H Q=>wi σ H λJ H1=>∀D,H1 D=`f ->
 ∃W:`QG,(`aLv H1)/\∀i m ys H2,`ah? ->
  `aLw∨(J.go i H2/\∀x H3,`aLx->g x `fF H3 fun σ4 H4=>`aLy/\tt σ4 H4 λb H5 =>
   `aLz)
section
variable{wi:TI}{g:TG}{tt:TT}
def Go0(X:Cx)(pins:`au)(H:Hp)(C:`e):Prop :=
 H C=`f/\C≠`f1/\`oz<=C/\(`K7 C)/\∀p∈`u5,p.1≠C
def e50{pins:`au}{σ:St}{H2:Hp}{s2:`w}{it:`e}{fp:`aX}{tn:`af5}{J:It}{cl:`tm}{Q:VK}{RR:`B->`e->`pr}{E:`an}
  (hc:`d4) (hsc:`lK) (ok:`pS)
  (hcl1:∀y c,`ah5->`aE7) (hcl2:∀x∈`g7,`ah6)
  (hg:∀s H ex,`ax4) (ht:∀s H ex,`ax5) (he:∀s H ex,`ax6)
  (I2:`aHh) (T:`aGL) (st2:`aGM) (f2:∀b∈fp,`Jk H2)
  (q:∀D,H2 D=`f->∃W:`QG,(`aLv H2)/\∀i m ys H2,`ah? ->
   `aLw∨(J.go i H2/\∀x H3,`aLx->g x `fF H3 fun σ4 H4=>`aLy/\tt σ4 H4 λb H5 =>
    `aLz))
  (hend:∀(D C:`e) (H':Hp) (s':`w) (m:`a3),`m3->Go0 X `r H' C->s'.heap.Ns C m->Q `sP H'->RR `sP C `aLr s') :
  `aD `cI X.A (`aia) (λacc s₃=>`aD `cI X.A (newFunctionEnv `eu `acK cl [] X.env.qual `f `al (`c `O)) (λcenv s₄ =>
   `pu `cI X.A (.compStart `oC 0 `sN acc { cenv with scope:=`auo }) (RR acc cenv.locals) s₄) E s₃) E s2:=by
 refine N3 (wpAny_newFunctionEnv ok.nocell (by intro y hy;simp at hy) (λh₁ Z Y=>?_) `Cf);dsimp only at Z Y ⊢;obtain⟨D,hD⟩:∃D,D=`ES:=`ah;have I3:`a0 (upd H2 `ES `n2) `aLA:=I2.lnew (its:=[]) (t':=`aas) `R `kp;have e4:H2 `ES=`f:=I2.fresh;let#[W,#[m0,w0],c3]:=q `ES e4;generalize hs3:(`aLA:`w)=s3 at *;have a8:`ax2=s3.heap:=`QH
 have i0:`aas=s3.toks:=`QH
 rw[a8] at Z Y ⊢;generalize hH3:upd H2 `ES (HO.lst [])=H3 at *;rw[← hD] at c3 hH3 e4 ⊢;have old:∀b o,`aLB->`aib:=`j_ (`QI b o `afS (`rd))
 have c4:∀b o,s2.heap.get? b=`aq->`aLB:=`j_ (`bR a8 `rd)
 have f0:∀b∈fp,b<`wi:=λb hb=>by
  apply `aLC;exact A8 (c4 b o e)
 have g4:∀b∈fp,b≠D:=λb hb z=>by
  apply `aLC;rw[z,hD] at e;exact `G `Bp `aic
 obtain⟨X',O⟩:∃X',X'=`aLD:=`ah;have okX:X'.Ok:=by
  subst O;refine#[I3.ok.mod,`Cf,I3.ok.glob,I3.ok.blt,`fg,λx y c h1 h2=>I3.ok.inj x y c (hcl1 x c h1) (hcl1 y c h2),`m!,λx c h _=>`G h (by simp[X8]),I3.ok.hd,I3.ok.frames,`lp,
   λb hb=>#[`aLE,`aLF],`j_ (I3.bs b o e),C0 I3.ok.bsz I3.sz,λb o e hb=>?_,λb hb hf=>?_,I3.stack,I3.stkFree]
  ·have a4:(`Cr=`kd)∨(`Cr=`mt):=hx
   have q2:=tx0 (env:=`O) `g7 x;have q3:`aLG:=q2
   cases e:`vf x with
   | none =>
    rw[q3,e] at a4;rcases a4 with z|z<;>cases z
   | some k =>
    have hk:k=`jQ:=by
     rw[q3,e] at a4;have nc:=ok.nocell (x,k) (L3 e);cases k<;>first
      | rfl
      | exact `G rfl nc
      | (rcases a4 with z|z<;>simp at z)
    subst hk;exact hcl2 `aid (L3 e) rfl
  ·rcases `aLH with z|z
   ·exact I3.ok.noex b o e z
   ·exact `px (A8 (I3.ok.bs b o e).1) z
  ·apply `aLI
   ·exact`aie z
   ·exact(`l?).2.2.1 z
 have I4:Inv X' [] `fF H3 `aLJ:=by
  refine#[okX,?_,?_,?_,?_,`w1,?_,`w1,`gm,(`N0 (I3.hok.kept old)),?_]
  ·subst O;rfl
  ·exact I3.bare
  ·subst O;exact `O7 old
  ·subst O
   refine#[_,Z,`afk];skip;have hi:n<=i:=by
    by_cases hi:i<n
    ·unfold G5 at e2
     rw[`P3,`th,`L hi] at e2;cases e2
    ·lia
   obtain⟨k,rfl⟩:∃k,i=n+k:=#[i - n,`F];have hk:k<`wk:=by
    have:=(`c7 e1).1;have e5:(`aLD).N.length=n+`wk:=ok.len;lia
   let#[c1,c2]:=ok.cap k (`mD hk);have e9:`aao=`du:=e1;unfold G5 at e2;rw[`aLK,`gs,`aLL,`cX] at e2;obtain⟨j,hj⟩:∃j,`XN=`Qg:=#[caps[k],by simp[hk]];rw[hj] at e2 c1;have h9:X.N[j]?=`du:=by rw[← e9,c1];rfl
   have a3:`aap=`bO:=A3 e2;have f4:`ah!:=by
    cases q:`vy with
    | none=>rw[q] at a3;cases a3
    | some o=>rw[q] at a3;rw[show o=`bO from a3]
   rw[e9] at c2;have U:`vf x=`mt:=`bl c2
   have b3:=ok.free `aid (L3 U) rfl;let#[m,hn,hl]:=I3.loc;let#[u,ru,l]:=hl j x v h9 f4 (by
    rcases b3 with z|z
    ·exact `p (`n `aLM)
    ·apply `jt `aLM)
   done;refine#[u,ru,`p `tp]
   ·have q3:`aLG:=tx0 `g7 x
    rw[U] at q3;show `Cr=_∨`Cr=_;rw[q3]
    by_cases hcc:(`Y9==`Y9&&`aA0&&`aA1)=`d
    ·left;simp only[`ky,`L hcc]
    ·right;simp only[`ky,`_ hcc]
   ·skip;let#[c',e7]:=hcl2 `aid (L3 U) rfl
    rcases l with⟨f7,_⟩|⟨_,c,g5,c8⟩
    ·have b2:`IA:=f7
     rw[hsc] at b2;done;rcases b3 with z|z<;>(rw[b2] at z;cases z)
    ·have:=hcl1 x c' e7
     apply `aV g5;cases `x;let#[o,ho,hd]:=c8;done;exact#[_,e7,o,old _ o ho,hd]
  ·apply `aLN
   let#[v,o,ho,hd]:=I3.cell x c (hcl1 x c e');exact#[v,o,old _ o ho,hd]
  ·subst O;exact I3.hok.fresh `bF
  ·apply `aLN
   exact I3.freeC x c (hcl1 x c e')
  ·subst O;exact `aLO
  ·subst O
   show _=`ax0;rw[Tl0,ok.len]
 have a7:X'.calm=`d:=`N0 hc
 have a2:`aHd (qv0 X' [] H' b):=λ{H'} hn b hb=>by
  subst O;refine#[hn b hb,`aLE,λhf=>?_,`n hb,`aLF,λp hp=>`aLO];apply `aLI
  ·exact`aie z
  ·exact(`l?).2.2.1 z
 have g8:∀b∈fp,H3 b=`f:=λb hb=>by rw[← hH3,m7 (g4 b hb)];exact(`l?).1
 have d2:tn 0 h₁:=`agq st2 (old b o (c4 b o e))
 have loop:∀s4:`w,s4=`aLJ ->
   `pu `cI X.A (.compLoop `oC 0 `sN `sP X'.env) (RR `sP `wi) s4:=by
  rintro s4 rfl;refine bv0 (λk s'=>∃i ys H',Inv X' [] `fF H' s'/\`aHe/\`Py k ys) ?_ m0 #[0,[],H3,I4,d2,g8,w0];rintro k s5 ⟨i,ys,H5,I5,d1,e8,w5⟩;have eP:X'.prog=`cB:=`ET
  have ew:X'.w=X.w:=`ET
  have eK:X'.K=X.K:=`ET
  have eA:X'.A=X.A:=`ET
  rcases c3 i k ys H5 w5 with⟨stop,qe⟩|⟨go,step⟩
  ·have T':=T.done X' eP ew eK a7 i [] s5 `fF H5 `pR I5 (a2 e8) d1 stop
   rw[eA] at T';refine thn T' λr s6 hq48=>?_;let#[hr,I6]:=hq48
   subst hr;have f8:Un (`xq) fp H3 H5 s3.heap s6.heap:=`QJ I6.base
   have g7:s6.os=s3.os:=`QJ I6.os
   have f3:`vM H5 s6.heap:=`QJ I6.hok
   have IX:`a0 H5 s6:=I3.call' g7 f8 f3 I6.bare λb hb=>#[`aLH,`aie,`ax3,(`l?).2.2.2.2.2]
   let#[m6,h4,_]:=I6.loc;have f6:s6.heap.Ns `wi m6:=`N0 h4
   refine hend D `wi H5 s6 m6 IX #[`QJ I6.free,D3 I3.lt,I3.sz,`af3,`af4] f6 qe
   ·let#[v,qc]:=I3.cell x c e
    exact `px qc.lt `aLP
   ·exact `px (A8 (I3.pin p hp).1) `aLP
  ·have T':=T.item X' eP ew eK a7 i [] s5 `fF H5 `pR I5 (a2 e8) d1 go
   rw[eA] at T';refine thn T' λr s6 hq49=>?_;let#[u,hr,h6]:=hq49
   subst hr;refine thn h6 λ_ s7 hq50=>?_;skip;let#[x,H7,I7,r7,y7,b1,g6]:=hq50
   have f9:=I7.pinned (a2 g6) (`Do _ _ b1);have e6:=hg s3 H3 fp;have e0:=ht s3 H3 fp;have d3:=he s3 H3 fp;rw[← O] at e6 e0 d3;have g1:=e6 _ s7 `fF H7 x u _ f9 r7 (step x H7 y7);rw[eP,ew,eA] at g1;have a5:X'.xe=`nT:=`ET
   rw[a5] at g1;done;refine thn g1 λ_ s8 hq51=>?_;let#[σ8,H8,I8,a6,q8]:=hq51
   have t1:=e0 _ s8 σ8 H8 _ I8 q8;rw[eP,ew,eA,a5] at t1;refine thn t1 λb s9 hq52=>?_;let#[H9,I9,q9]:=hq52
   have back:∀{σa:St} {Ha:Hp} {sa:`w} {b0:`V} {ma:Nat},Inv X' ([]++l30 fp s7.heap) σa Ha sa->σa.length=`aLj->(∀(j:Nat) v,`fF[j]?=`oc->σa[j]?=`oc)->W `fp ma b0 Ha ->
     ∃i ys H',Inv X' [] `fF H' sa/\tn i sa.heap/\`Py ma ys:=λ{σa Ha sa b0 ma} Ia hl hw wa=>by
    refine#[i+1,b0,Ha,(Ia.weak hl.symm hw).unpinned,`agq b1 (`aLQ).1,`hK,wa];let#[o,e,d]:=`Do _ _ b1 b hb;exact(`aLQ).2.1
   cases b with
   | false =>
    rw[`pD];rw[`pD] at q9;let#[m',hm,w9]:=q9;exact#[m',hm,back I9 a6.1 a6.2 w9]
   | true =>
    rw[`bp];rw[`bp] at q9;have e1:=d3 _ s9 σ8 H9 _ I9 q9;rw[eP,ew,eA,a5] at e1;refine thn e1 λv g3 hq53=>?_;skip;let#[y,h5,h0,h3,f5,f1,m',hm,h7]:=hq53
    have a1:=pc0 (X:=X') _ g3 σ8 h5 `sP [y] `sP [v] (λ_ H'=>W `fp m' (ys++[y]) H') h0 rfl (`aa h3 `R) #[D,ys,y,rfl,rfl,f5,f1,h7];rw[eP,ew,eA,a5] at a1;done;refine thn a1 λ_ j2 hq54=>?_;let#[_,j1,h8,_,g9]:=hq54
    exact#[m',hm,back h8 a6.1 a6.2 g9]
 subst O;exact codeAny_compStart_list (loop _ (`QH)) (T.self X.A 0 _ _ _ d2 (loop _ (`QH)))
def f70(hc:`d4)(hsc:`lK)(ok:`pS)(hi:`agn)
  (hg:`aLR) (ht:`aLS) (he:`aLT)
  (hs:`e7) :
  PE X `oC (cg0 n `di wi g tt te):=by
 apply `bh;let#[cl,O,Y,U]:=pa0 (env:=`O) (scope:=`eu) λx hx hf=>`afv x.1 (by
  rcases ok.free x hx hf with z|z
  ·apply `aLU
  ·apply `aLV)
 rw[eval_ListComp];refine Ch0 (use:=`f) rfl hs O `Cf ok.loc (`Po `Es λa2 s2 h2=>?_);skip;apply `aLW;done;refine `aLX Q `f `fE;intro D C H' s' m IX as hn qe;refine#[m,hn,λh' sb=>#[`X D,H',`aLY IX.turned s'.toks `acM,rfl,qe]]
def jq0{py spos:Pos}(hN:`ej)(hiN:X.N[i]?=`eP)(hy:`atU)(hc:`d4)(hsc:`lK)(ok:`pS)(hi:`agn)
  (hg:`aLR) (ht:`aLS) (he:`aLT)
  (hsw:`aif)
  (hs:`e7)
  (hf:`ju) :
  PS X `ayk (`kL (cg0 n `di wi g tt te σ H `aLZ)):=by
 apply `h!;let#[cl,O,Y,U]:=pa0 (env:=`O) (scope:=`eu) λx hx hf=>`afv x.1 (by
  rcases ok.free x hx hf with z|z
  ·apply `aLU
  ·apply `aLV)
 rw[exec_Assign_Name_used _ _ _ _ hsw];refine A0 (X2 `OK);show `aD _ X.A (do let _ ← comprehension `oC `eu `O _ (`aia) `m (`bV iter `O) (`aig)) _ _ s;refine A0 (D0 (Ch0 (use:=`aig) (Q:=`aL_) rfl hs O `Cf ok.loc
  (`Po `Es λa6 s2 h2=>?_)) (λ_ s' hq=>A1 (A1 hq)) `afn)
 skip;apply `aLW;done;refine `aLX `aLZ (`aig) (`aL_);intro Da C H' s' m IX as hn qe;show `aD _ X.A (`hT `IS `O (`X Da)) _ _ _;refine `aGx (d10 IX hN hiN hy (v:=`X Da) rfl (λa2 a4 hq55=>?_) hf);let#[a,sb,ha]:=hq55;have a5:C≠a:=by
  rcases ha with z|z
  ·rw[z];exact as.2.1
  ·exact B4 (`aL0 y a z)
 refine#[m,hn.sameBut sb a5,λh' a3=>#[_,H',`aLY a4.turned a2.toks (`ri ((a3.2 b hb).trans e)),qe]]
universe zz
universe L2
namespace DL
open Spec PyProof.Rows
inductive D where
 | non|bl (b:`I)|int (i:Int)|str (x:Str)|tup (ds:`l)|lst (ds:`l)|dct (ks:Sum (`aih) (`af (`aih))) (ds:`l)|fn (ks:`aih) (ds:`l)
 deriving Inhabited
variable{items ns ds:`J!}{q:`aat}{f':`aL1}{F bg bg':`aL2}{b' n':DL.D}
@[simp] def unl:D->D
 | `C [_,d]=>d
 | d=>d
@[simp] def isL:`dZ
 | `EU=>`d
 | _=>`m
inductive Sl where
 | un|sh (d:D)|ow (d:D)
 | ex (c:Str) (n:`aP)
variable{s1:DL.Sl}
abbrev Ds:=`af Sl
inductive Res where
 | nx (δ:Ds)|rt (d:D)|bk (δ:Ds)|ct (δ:Ds)|rf (d:D)
variable{f:`aL3}{g ge gb:`aL4}{gt:`aL5}{δ':`sk}{gi gA:`aL6}
abbrev GE:=`cY
abbrev GB:=`ho
variable{g0 go g1:DL.GE}
abbrev GA:=`fO
abbrev GS:=`jv
@[simp] def asB:D->`qL
 | `f3=>`oD
 | _=>`f
variable{G Gh:DL.GS}
@[simp] def asI:D->`aP
 | `bD=>`rc
 | _=>`f
@[simp] def gv(i:Nat):GE:=fun δ=>match `c4 with
 | `aaE=>`bk
 | _=>`f
@[simp] def gc(d:D):GE:=λ_=>`bk
@[simp] def o2(ga gb:GE)(f:`br):GE:=`EV λx=>`aii λy=>f x y
@[simp] def ob(g:GE):GB:=`gw asB
@[simp] def zp0(g:GB):GB:=`xO (!·)
@[simp] def vw0(gt gu:GB):GB:=`wn `wo (`o `sl (gu δ) `bY)
@[simp] def z90(gt gu:GB):GB:=`wn `wo (`o `sl `e9 (gu δ))
@[simp] def pq0(ga gb:GE):GE:=`wn `aL7 (`o `sl `fy `tq)
@[simp] def orG(ga gb:GE):GE:=`wn `aL7 (`o `sl `hb `fy)
@[simp] def Q90(ga:GE):GE:=`wn (ob ga δ).map (.bl (!t))
@[simp] def v8:GA:=`aL8
@[simp] def z7(g:GE)(gA:GA):GA:=`gw λd=>(`eN).map λds=>`aC
@[simp] def yk0(gA:GA):GE:=`EW λds=>`o `xP `QK `f
@[simp] def U7(gA:GA):GE:=`EW λds=>`o `xP `xQ `f
@[simp] def oA(gA:GA)(f:`U):GE:=`EW f
@[simp] def wh0(f:`dZ)(g:GE):GE:=`xO λd=>.bl (f d)
@[simp] def O2(d:D):`d_:=match d with
 | `bD=>`r9 (-i)
 | _=>`f
@[simp] def unG(f:`zO)(g:GE):GE:=`gw f
@[simp] def v9(G1 G2:GS):GS:=fun δ=>match `eY with
 | `eZ=>`vn
 | r=>r
@[simp] def t7:GS:=`aL9
@[simp] def X6(g:GE):GS:=`xO .rt
@[simp] def gN(i:Nat):`a?:=λd δ=>`c `QL
@[simp] def Z8(f:`a?)(g:GE):GS:=`gw λd=>(`vR).map .nx
@[simp] def ifD(gt:GB)(Ga Gb:GS):GS:=`aL'
def zg0(f:`a?)(G:GS):`l->`jv
 | [],δ=>`wm
 | `aC,δ=>match `aL! G with
  | `eZ=>`aL?
  | `aij=>`aL?
  | `aik=>`eZ
  | r=>r
@[simp] def rc0(gi:GA)(f:`a?)(G:GS):GS:=fun δ=>`xR λitems=>`ail
@[simp] def N60:`EX
 | `ev=>`nY
 | _=>`f
@[simp] def Ow0:`EX
 | `dg=>`nY
 | _=>`f
def signs(x:Str):`l:=x.cps.toList.map `aMa
@[simp] def Yt0:`EX
 | `c3=>`c (`jw x)
 | _=>`f
@[simp] def Vc0(g:GE):GA:=`gw N60
@[simp] def tupI(g:GE):GA:=`gw Ow0
@[simp] def ku0(g:GE):GA:=`gw Yt0
def G7(lo hi:Int):`l:=(`bP `wg).map λk=>`g (lo+(k:Nat))
@[simp] def iv0(ds:`l):`ul:=match ds with
 | [`iQ]=>`a! (`xu<=j/\j<`jY) (G7 0 j)
 | _=>`f
@[simp] def ys0(gA:GA):GA:=`EW iv0
@[simp] def noT:GB:=λ_=>`e9
@[simp] def lv0:`QM->Sl
 | `aaE=>`f5
 | _=>.un
@[simp] def zc0(n:Nat)(caps:`h)(δ:Ds):Ds:=`aMb++`aMc
def yx0(f:`a?)(gt:GB)(ge:GE)(δ:Ds):`aim
 | []=>`wl
 | `aC=>match `vR with
  | `f=>`f
  | `Bv=>match `EY with
   | `f=>`f
   | `bY=>`aMd
   | `e9=>match `LX with
    | `f=>`f
    | `eP=>(`aMd).map λr=>y::r
@[simp] def K9(n:Nat)(caps:`h)(gi:GA)(f:`a?)(gt:GB)(ge:GE):GE :=
 fun δ=>`xR λitems=>`o `tr (`aMe `t) `f
@[simp] def U6(N:`i)(ds:`l):Ds:=ds.map .sh++`bB (`EB - `bN) .un
@[simp] def isInt:`dZ
 | `cW=>`d|`cb=>`d|_=>`m
@[simp] def isStr:`dZ
 | `ce=>`d|_=>`m
@[simp] def isBool:`dZ
 | `cb=>`d|_=>`m
@[simp] def isTup:`dZ
 | `EU=>`d|_=>`m
@[simp] def ii(f:Int->Int->`d_):`br
 | `bD,`iQ=>f i j
 | _,_=>`f
@[simp] def zb0:`br:=`xS (`g `LG)
@[simp] def j4:`br:=ii λi j=>`o `PE `aMf `f
@[simp] def o8:`br:=ii λi j=>`o (0<j) `ain `f
@[simp] def qa0:`br:=ii λi j=>`o `agw (`c (`axz)) `f
@[simp] def ltD:`br:=`xS (`hU (i<j))
@[simp] def leD:`br:=`xS `avT
@[simp] def gtD:`br:=`xS (`hU (j<i))
@[simp] def geD:`br:=`xS `avU
@[simp] def eqS(x y:D):`qL:=match x with
 | `y=>(match y with|`y=>`e9|`cW=>`bY|`cb=>`bY|`ce=>`bY|_=>`f)
 | `bD=>(match y with|`y=>`bY|`iQ=>`aio|`ce=>`bY|_=>`f)
 | .bl i=>(match y with|`y=>`bY|.bl j=>`aio|`ce=>`bY|_=>`f)
 | `u i=>(match y with|`y=>`bY|`cW=>`bY|`cb=>`bY|`u j=>`aio|_=>`f)
 | _=>`f
@[simp] def eqD(x y:D):`d_:=`aMg .bl
@[simp] def neD(x y:D):`d_:=`aMg λb=>.bl (!b)
@[simp] def Hp0:`dZ
 | `y=>`d|_=>`m
@[simp] def pl0(x y:D):`d_:=match y with
 | `y=>`C9 (Hp0 x)
 | _=>`f
def ixN(n:Nat)(i:Int):`Qf:=`aJU
def atI{α:Type}(xs:`a6)(i:Int):`OD:=`aJV
@[simp] def ixD:`br
 | `dv,`bD=>`Co
 | `fo,`bD=>`Co
 | `nV,`bD=>`o `wj ((`aJ0).map `aMa) `f
 | _,_=>`f
def sIx(n d:Nat):`aJc
 | `f=>d
 | `bO=>`P6
def cutD(xs:`l)(lo hi:`aP):`l:=(`rU (`aip)).take (`aMh - `aip)
abbrev GO:=`xT
@[simp] def Q9:GO:=λ_=>`gZ
@[simp] def someO(g:GE):GO:=`gw λd=>(asI d).map `c
@[simp] def T3:`U
 | `LQ=>`o `wj (`c (`aak)) `f
 | [`dv]=>`aMi
 | [`fo]=>`aMi
 | _=>`f
def jj0:`l->`aB (`i)
 | []=>`wl
 | `wY::ds=>(jj0 ds).map λr=>b::r
 | _=>`f
@[simp] def c70(d:D)(ds:`l):`d_:=match d,ds with
 | `u sep,[`dv]=>(jj0 xs).bind λys=>`o `aMj (`c `aMk) `f
 | _,_=>`f
@[simp] def nk0(g:GE)(gA:GA):GE:=`gw λd=>`ts λds=>c70 d ds
@[simp] def ss0:`U
 | `EZ=>`QK
 | [`dg]=>`QK
 | _=>`f
theorem qf0{gt:GB}{ge:GE}{δ:Ds}(p:`dZ)(h:D->D):∀{items:`l},(∀d∈`b?,∃δ',`aiq/\`EY=`c (p d)/\(p d=`d->`aMl)) ->
  `aMm=`c ((items.filter p).map h)
 | [],_=>rfl
 | `aC,H=>by
  let#[δ',e1,e2,e3]:=H d A4;have ih:=qf0 p h λd hd=>H d (A5 _ hd)
  unfold yx0;rw[e1];dsimp only;rw[e2];cases hp:p d with
  | false =>
   dsimp only;rw[List.filter_cons_of_neg (`air)];exact ih
  | true =>
   dsimp only;rw[e3 hp,ih,List.filter_cons_of_pos hp];rfl
def qy0{gt:GB}{ge:GE}{δ:Ds}(h:D->D)(H:∀d∈`b?,∃δ',`aiq/\`EY=`e9/\`aMl):`aMm=`c (items.map h):=by
 have:=qf0 (f:=f) (gt:=gt) (ge:=ge) (δ:=δ) (λ_=>`d) h (items:=`b?) λd hd=>by
  let#[δ',a,b,c]:=H d hd;exact#[δ',a,b,λ_=>c]
 apply `aV (List.filter_eq_self.mpr `aM);exact `x
theorem strs_map(h:α->Str):∀l:`a6,`aMn=`c (`c6 h)
 | []=>rfl
 | a::l=>by
  show (`aMn).map (λr=>h a::r)=_;rw[strs_map h l];rfl
theorem oq0(P:Nat->Ds->Prop):∀(items:`l) (i:Nat) (δ:Ds),(∀j d δ,`b?[j]?=`bk->P (i+j) δ->∃δ1 δ2,`aMo/\`aMp/\P (i+j+1) δ2)->P i δ ->
  ∃δ',`ail=`eZ/\P (i+`dh) δ'
 | [],i,δ,_,h=>#[δ,rfl,h]
 | `aC,i,δ,H,h=>by
  skip;let#[δ1,δ2,e1,e2,h2]:=H 0 d δ rfl h;let#[δ',e3,h3]:=oq0 P ds `fp δ2 (λj d δ hj hp=>by
   have q:i+`xU=i+1+j:=`F
   let#[a,b,c,d',e]:=H `xU d δ (`E_) (`k q hp);exact#[a,b,c,d',by rw[q] at e;exact e]) h2
  have q:i+`QN=i+1+`bN:=`DN
  done;refine#[δ',?_,`k q h3];unfold zg0;rw[e1];simp only[`q,e2];exact e3
def J00{G1 G2:GS}{δ:Ds}(h:`ais):`QO=`vn:=`ait
def d8{G1 G2:GS}{δ:Ds}{d:D}(h:`eY=`v1):`QO=`v1:=`ait
def V2{g:GE}{δ:Ds}{d:D}(h:`jx):X6 g δ=`v1:=by unfold X6;rw[h];rfl
def V7{g:GE}{δ:Ds}{d:D}(h:`jx):Z8 `aaN g δ=`ay `QL:=by unfold Z8;rw[h];rfl
def O9{g:GB}{Ga Gb:GS}{δ:Ds}(h:`ax=`e9):`aMq=Ga δ:=`aMr
def W5{g:GB}{Ga Gb:GS}{δ:Ds}(h:`ax=`bY):`aMq=`Cs:=`aMr
def q50{gi:GA}{gt:GB}{ge:GE}{δ:Ds}{out:`l}(h1:`QP)(h2:`tr)(h3:`aau=`c out):`aMs=`c (`t out):=by
 unfold K9;rw[h1];show (`o `tr (`aMe `mk) `f)=_;rw[`E0,h3];rfl
def sr0{gi:GA}{δ:Ds}{r:`zW}(h1:`QP)(h2:`ail=r):rc0 gi f G δ=r:=by
 unfold rc0;rw[h1];exact h2
def cons_of{g:GE}{gA:GA}{δ:Ds}{d:D}(h1:`jx)(h2:`tt):z7 g gA δ=`c `j?:=by unfold z7;rw[h1,h2];rfl
def Z1{gA:GA}{δ:Ds}{f:`U}(h:`tt):oA gA f δ=f ds:=by unfold oA;rw[h];rfl
def o5{ga gb:GE}{δ:Ds}{x y:D}{f:`br}(h1:`ex=`du)(h2:`fy=`eP):`aMt=f x y:=by unfold o2;rw[h1,h2];rfl
def Nk0{g:GE}{gA:GA}{δ:Ds}{x:D}(h1:`ax=`du)(h2:`tt):nk0 g gA δ=c70 x ds:=by unfold nk0;rw[h1,h2];rfl
def vl0{xs:`a6}{i:Int}(h0:0<=i)(h1:`xI)(d:α):`Co=`c (`QQ `fA d):=by
 unfold atI ixN;rw[`pN,`EF];show xs[`fA]?=_;have:`fA<`ar:=`b7
 simp[`b5,`x]
universe DL
variable{f:`aL3}{items ns ds:`J!}{g ge gb:`aL4}{s1:DL.Sl}{q:`aat}{gt:`aL5}{G Gh:DL.GS}{δ':`sk}{gi gA:`aL6}{f':`aL1}{F bg bg':`aL2}{g0 go g1:DL.GE}{b' n':DL.D}
namespace DL
open Spec PyProof.Rows L2
abbrev BS:=`fP
abbrev St:=L2.St
variable{B B' B₀:DL.BS}
structure NB(o:`s2):Prop where
 ne:o≠`f
 nf:∀ob u,o=`aeW->∃xs,u=`dv
 nt:∀xs,o≠`iZ
instance{o:`s2}:`e8 (NB o) (o=`f->`b1):=#[λh e=>h.ne e]
def NB.of{o:`s2}{u:HO}(h:o=`bc)(n:∀ob u',u≠`avL)(t:∀xs,u≠`fo):NB o:=by
 subst h;exact#[`aMu,λob u' z=>`G `QR (n ob u'),λxs z=>t xs `QR]
def NB.keep(q:`E1)(h:`nZ):NB (H' a):=by
 cases e:H a with
 | none=>exact `G e h.ne
 | some o=>rw[q o e,← e];exact h
theorem NB.same(q:`be)(h:`nZ):NB (H' a):=h.keep λo e=>q a o e
def SqT'(K:`z)(H:Hp)(B:BS)(a:`e)(xs:`V):Prop:=`sm/\H a=`iZ
def SqL'(K:`z)(H:Hp)(B:BS)(a:`e)(xs:`V):Prop:=(`aMv)∨`b1
theorem SqT'.to(h:`LY):`pC:=`n (`n h.2)
theorem SqL'.at(h:`Ct):`aMv:=`j9 id `fH
theorem SqL'.to(h:`Ct):`sd:=`n h.at.2
def Gr(H H':Hp)(B B':BS):Prop:=∀b o,`wt->H b=`aq->¬B' b/\H' b=`aq
theorem SqT'.mono(g:`eF)(h:`LY):SqT' K H' B' a xs:=`aMw
def SqL'.mono(g:`eF)(h:`Ct):SqL' K H' B' a xs:=by
 obtain⟨n,h|⟨o,h⟩⟩:=h.at
 ·exact `n #[(`QS).1,`n (`QS).2]
 ·exact `n #[(`QS).1,`p #[o,(`QS).2]]
theorem Gr.same(s:`be):`aMx:=λb o n h=>#[n,s b o h]
theorem Gr.less(h:`E2):Gr H H B B':=λb o n e=>#[λz=>n (h b z),e]
abbrev KS:=Sum (`hy) (`af (`hy))
def dOb:KS->`V->HO
 | `AC,xs=>`QT
 | `E3,xs=>`aiu
def dLn:KS->Nat
 | `AC=>`iK
 | `E3=>`iK
def He0(fd:`e5)(x y:Str)(c cd:`e):Prop :=
 ∃p1 p2 p3,fd.body=.expr (`lS (`bx x p1) (`bx y p2) p3)/\fd.scope.isCoroutine=`m/\fd.scope.isGenerator=`m/\fd.scope.kind=`r6/\`aMy y=`lx/\`aMy x=`mt /\
  (∀z∈fd.scope.names,z.2≠`ur)/\fd.closure=[(x,c)]/\fd.code=`X cd/\fd.globals=`f4/\`atH/\`atK/\`auh /\
  ∀u:`B,`aiv fd `ZD=`ct [(y,u)]
def rk(n:Nat):`hy:=`Z7 λ(i:Nat)=>`ox `u!
def TelO(K:`z)(H:Hp)(B:BS)(p:`e)(kvs:`hf):Prop:=(¬B p/\`adc)∨∃xs,SqL' K H B p xs/\kvs=(rk `ar).zip xs
def TelO.mono{p:`e}(g:`eF)(h:`aMz):TelO K H' B' p kvs:=by
 rcases h with h|⟨xs,h,e⟩
 ·exact `n (`aMw)
 ·exact `p #[xs,h.mono g,e]
def FnAtH(K:`z)(H:Hp)(B:BS)(f:`e)(kvs:`hf):Prop :=
 ∃(oF oC oK:Obj) (fd:`e5) (c cd p:`e) (x y:Str),(¬B f/\`O2 f oF f)/\(oF.cls=`uU/\oF.data=`dp fd/\He0 fd x y c cd)/\(¬B c/\`O2 c oC c)/\oC.data=`ur `aa_ /\
  (¬B cd/\`O2 cd oK cd)/\(∃vs t,oK.data=`Aj/\`Ca=`c (`u fd.qualname t))/\`aMz
def FnAtH.mono{f:`e}(g:`eF)(h:FnAtH K H B f kvs):FnAtH K H' B' f kvs:=by
 skip;let#[oF,oC,oK,fd,c,cd,p,x,y,#[b1,h1],a,#[b2,h2],e,#[b3,h3],q,h4]:=h;done;exact#[oF,oC,oK,fd,c,cd,p,x,y,g _ _ b1 h1,a,g _ _ b2 h2,e,g _ _ b3 h3,q,h4.mono g]
mutual
def Rp(K:`z)(H:Hp)(B:BS):D->V->Prop
 | `y,v=>`wX
 | `f3,v=>v=`f3
 | `bD,v=>`E4
 | `c3,v=>`QF
 | `dg,v=>`aMA
 | `ev,v=>`aMB
 | `k1,v=>`aMC
 | `tu,v=>`aMD
def Rps(K:`z)(H:Hp)(B:BS):`aME
 | [],xs=>`xH
 | `aC,xs=>`aMF
end
mutual
theorem Rp.mono(g:`eF):`E5 `aMG
 | `y,_,h=>`QU
 | `cb,_,h=>`QU
 | `cW,_,h=>`QU
 | `ce,_,h=>`QU
 | `dg,_,h=>by
  apply `AW;apply `QV;exact`aMH
 | `ev,_,h=>by
  apply `AW;apply `QV;exact`aMH
 | `k1,_,h=>by
  apply `AW;skip;let#[a,xs,e,n,q,l,r]:=h;done;exact#[a,xs,e,(g _ _ n q).1,(g _ _ n q).2,l,`aay]
 | `tu,_,h=>by
  apply `AW;let#[a,xs,e,q,l,r]:=h;exact#[a,xs,e,`aax,l,`aay]
theorem Rps.mono(g:`eF):`k2 `aiw
 | [],_,h=>by unfold Rps at h ⊢;exact h
 | `aC,_,h=>by
  unfold Rps at h ⊢;apply `E6;exact#[x,r,e,`ZF g h1,`Y' g h2]
end
def R3:`iz `y=(`wX):=`QW
def U3{b:`I}:`iz `sw=(v=`f3):=`QW
def Z6{i:Int}:`iz `fq=(`E4):=`QW
def T5:`iz `oS=(`QF):=`QW
def Q5:`iz `or=`aMA:=`QX
def S7:`iz `u_=`aMB:=`QX
def ol0{ks:KS}:`iz (`k1)=`aMC:=`QX
def Nd0:`iz (`tu)=`aMD:=`QX
theorem g70:`iz (`E7)=`oV `sm (`vZ `QT/\`aav):=ol0
theorem fj0{ks:`af (`hy)}:`iz (`df (`E3) ds)=`oV `sm (`vZ `aiu/\`aav):=ol0
def d7:`qz []=(`xH):=by unfold Rps;rfl
def j7{d:D}:`qz `j?=`aMF:=by conv=>lhs;unfold Rps
theorem Rps.length:`k2 (`bC->`ar=`bN)
 | [],_,h=>by rw[d7] at h;subst h;rfl
 | `aC,_,h=>by
  rw[j7] at h;let#[x,r,rfl,_,h2]:=h;simp[Rps.length h2]
theorem Rps.get:∀{ds:`l} {xs:`V} {i:Nat} {d:D},`bC->ds[i]?=`bk->∃x,`se/\`Cu
 | [],_,_,_,_,e=>`OX
 | `aC,_,0,d',h,e=>by
  rw[j7] at h;let#[x,r,rfl,h1,_]:=h;simp at e;subst e;exact`QY
 | `aC,_,i+1,d',h,e=>by
  skip;rw[j7] at h;let#[x,r,rfl,_,h2]:=h;let#[y,e1,e2]:=Rps.get (i:=i) h2 `D1;done;exact#[y,`aMI,e2]
theorem Rps.snoc:∀{ds:`l} {xs:`V} {d:D} {x:V},`bC->`Cu->`k3 (ds++[d]) (`aix)
 | [],_,_,_,h,r=>by
  rw[d7] at h;subst h;rw[`hQ,`hQ,j7];exact`E8 _ r
 | `aC,_,_,_,h,r=>by
  rw[j7] at h;apply `QZ;rw[`kb,`kb,j7];exact#[y,_,rfl,h1,`sp h2 r]
theorem Rps.append:∀{ds es:`l} {xs ys:`V},`bC->`aMJ->`k3 (ds++es) `Ks
 | [],_,_,_,h,r=>`aMK r
 | `aC,_,_,_,h,r=>by
  rw[j7] at h;apply `QZ;rw[`kb,`kb,j7];exact#[y,_,rfl,h1,Rps.append h2 r]
theorem Rps.drop:`aML (`k3 (`abq n) `aeN)
 | _,_,0,h=>h
 | [],_,n+1,h=>by rw[d7] at h;subst h;simpa [d7]
 | `aC,_,n+1,h=>by
  rw[j7] at h;apply `QZ
  simpa using Rps.drop n h2
theorem Rps.take:`aML (`k3 (ds.take n) (`OY))
 | _,_,0,h=>`aiy
 | [],_,n+1,h=>`aiz
 | `aC,_,n+1,h=>by
  rw[j7] at h;apply `QZ;rw[`aMM,`aMM,j7];exact#[y,_,rfl,h1,Rps.take n h2]
theorem Rps.same(s:`be)(h:`bC):`Av H' xs:=`Y' `wq h
theorem Rp.same{d:D}(s:`be)(h:`c'):`_C:=`ZF `wq h
def RpO(K:`z)(H:Hp)(B:BS)(d:D)(a:`e):Prop:=match d with
 | `ev=>∃xs,H a=`I3/\`bC
 | `k1=>∃xs,`ax!
 | _=>`b1
def RpO.same{d:D}(s:`be)(h:`jy):RpO K H' B d a:=by
 apply `Q_
 ·apply `pT;exact#[xs,`aiA,`Q0]
 ·apply `aiB;exact#[xs,`aiA,l,`Q0]
def RpO.rp{d:D}(l:`E2)(n:¬B' a)(h:`jy):Rp K H B' d `cu:=by
 apply `Q_
 ·apply `pT
  rw[S7];exact#[a,xs,rfl,`n #[n,`td],`dw (`kv l)]
 ·let#[xs,e,q,r]:=h
  rw[ol0];exact#[a,xs,rfl,n,e,q,`dw (`kv l)]
def RpO.live{d:D}(h:`jy):`nZ:=by
 apply `Q_
 ·apply `pT;apply `aMN
 ·let#[xs,e,q,r]:=h;refine .of e (λ_ _ z=>?_) λ_ z=>?_<;>(unfold dOb at z;split at z<;>cases z)
def RpX(K:`z)(H:Hp)(B:BS)(ks vs:`l)(a:`e):Prop:=∃(ts:`h)(xs:`V),ks=[]/\`vZ (.dX (ts.zip xs))/\ts.length=`ar/\`qz vs
def yh0:`l->`Qf
 | [`c3,`bD]=>`o (x = "@") (`c `fA) `f
 | _=>`f
mutual
def RpN(K:`z)(H:Hp)(B:BS)(as:`aX):D->V->Prop
 | `y,v=>`wX
 | `f3,v=>v=`f3
 | `bD,v=>`E4
 | `c3,v=>`QF
 | `dg,v=>`aMO
 | d,v=>`c'
def RpNs(K:`z)(H:Hp)(B:BS)(as:`aX):`aME
 | [],xs=>`xH
 | `aC,xs=>`aMP
end
mutual
theorem RpN.mono(g:`eF)(l:`aMQ):`E5 (`k4->RpN K H' B' as' d v)
 | `y,_,h=>`Q1
 | `cb,_,h=>`Q1
 | `cW,_,h=>`Q1
 | `ce,_,h=>`Q1
 | `dg,_,h=>by
  apply `YJ;skip;rcases h with⟨k,a,e,q,r⟩|⟨n,a,xs,e,q,r⟩
  ·done;exact `n #[k,a,e,l k a q,r]
  ·done;exact `p #[n,a,xs,e,`aax,`aiC g l r]
 | `ev,_,h=>`aiD
 | `k1,_,h=>`aiD
 | `tu,_,h=>`aiD
theorem RpNs.mono(g:`eF)(l:`aMQ):`k2 (`h_->RpNs K H' B' as' ds xs)
 | [],_,h=>by unfold RpNs at h ⊢;exact h
 | `aC,_,h=>by
  unfold RpNs at h ⊢;apply `E6;exact#[x,r,e,RpN.mono g l h1,`aiC g l h2]
end
theorem rm0{F G:`kT}(h:`aeV):`aMR
 | _,_,`R=>`R
 | _,_,`s1=>`aa (h _ _ r) (rm0 h t)
def NodeOk(K:`z)(H:Hp)(B:BS)(as:`aX)(n:D)(so:`dM):Prop:=match n with
 | `ev=>∃xs,`aiE/\`h_
 | `E7=>∃xs,so=`QT/\`vA/\`h_
 | `aMS=>`aMT
 | _=>`b1
def NodeOk.mono(g:`eF){n:D}(h:`Q2):`k5 K H' B' as n so:=by
 unfold NodeOk at h ⊢;split at h
 ·apply `pT;exact#[xs,e,`aiF]
 ·apply `aiB;exact#[xs,e,l,`aiF]
 ·skip;let#[C,dx,ns,xs,e,f,l,c,q,r]:=h;done;exact#[C,dx,ns,xs,e,f,l,c,q,`aiF]
 ·exact `j9
structure RpW(K:`z)(H:Hp)(B:BS)(ns:`l)(a:`e)(as:`aX)(sos:`E9):Prop where
 hd:`aMU
 nd:`tv
 at':`azc
 own:∀b∈as,b=a∨(`wt/\`J6)
 len:`Q3
 all:`b' (`k5 K H B as) ns sos
 ins:`aMV
def RpD(K:`z)(H:Hp)(B:BS)(ns:`l)(a:`e):Prop:=∃as sos,`fQ
def RpD.mono(s:`E1)(g:`eF)(h:`aaD):RpD K H' B' ns a:=by
 let#[as,sos,h]:=h;exact#[as,sos,h.hd,h.nd,s _ `xV,`ade λz=>g b _ z.1 z.2,`jz,`aiG `w0,h.ins]
def RpD.live(h:`aaD):`nZ:=by
 let#[as,sos,h]:=h;exact .of `xV `aMW λ_ z=>nomatch z
def RpG(K:`z)(H:Hp)(B:BS)(d:D)(a:`e):Prop:=match d with
 | `C es=>`aMX
 | d=>`jy
def RpO.toG{d:D}(h:`jy):`m?:=by
 cases d with
 | tup es=>apply `aiH
 | _=>exact h
def RpG.toO{d:D}(n:`Ka)(h:`m?):`jy:=by
 cases d with
 | tup es=>cases n
 | _=>exact h
def RpG.same{d:D}(s:`be)(h:`m?):RpG K H' B d a:=by
 cases d with
 | tup es=>apply `aiI;exact`aMY
 | _=>exact(RpO.same s `Q4).toG
def RpG.live{d:D}(h:`m?):`nZ:=by
 cases d with
 | tup es=>apply `aiI;exact `tw
 | _=>exact RpO.live `Q4
def RpO.plain{d:D}(h:`jy):`aiJ:=by
 intro o ys z;cases d with
 | lst ds=>apply `pT;rw[e] at z;cases z
 | dct ks ds =>
  apply `pT;rw[e] at z;unfold dOb at z;split at z<;>cases z
 | _=>apply `aiH
def RpG.plain{d:D}(h:`m?):`aiJ:=by
 skip;cases d with
 | tup es=>let#[x,ns,e,as,sos,r]:=h;done;intro o xs z;rw[r.at'] at z;cases z
 | _=>done;exact RpO.plain `Q4
def RpL(K:`z)(H:Hp)(B:BS)(d:D)(a:`e):Prop:=match d with
 | `C es=>(∃d',es=[`qU,d']/\`In d')∨(∃ks vs,es=[`t ks,`Ah]/\RpX K H B ks vs a)∨`aMX
 | d=>`jy
def RpO.toL{d:D}(h:`jy):`mv:=by
 cases d with
 | tup es=>apply `aiH
 | _=>exact h
def RpL.toO{d:D}(n:`Ka)(h:`mv):`jy:=by
 cases d with
 | tup es=>cases n
 | _=>exact h
def RpG.toL{d:D}(h:`m?):`mv:=by
 cases d with
 | tup es=>apply `jt h
 | _=>exact h
def RpL.same{d:D}(s:`be)(h:`mv):`aMZ:=by
 skip;cases d with
 | tup es =>
  apply `aiK
  ·done;exact `n #[d',q,`Q0]
  ·done;exact `aM_ `aiA `Q0
  ·done;apply `jt `aMY
 | _=>done;exact(RpO.same s `E').toL
def RpL.live{d:D}(h:`mv):`nZ:=by
 skip;cases d with
 | tup es =>
  apply `aiK
  ·done;exact `tw
  ·done;apply `aMN
  ·done;exact `tw
 | _=>done;exact RpO.live `E'
def RpL.plain{d:D}(h:`mv):`aiJ:=by
 skip;cases d with
 | tup es =>
  rcases h with⟨d',q,r⟩|⟨ks,vs,q,ts,xs,q1,e,q2,r⟩|⟨x,ns,_,as,sos,r⟩
  ·done;exact r.plain
  ·done;intro o ys z;rw[e] at z;cases z
  ·done;intro o xs z;rw[r.at'] at z;cases z
 | _=>done;exact RpO.plain `E'
def gl0(a C:`e)(od:`bq):`oa:=λh=>∃oe,`iI=`Bl/\`DZ=`eM/\(∀dx,`Q5->`Zp=`rs)/\∃vs,`xd
def Oo0(H:Hp)(B:BS)(od:`bq):`aiL
 | `f=>True
 | `oq=>∃dx,`Q5/\¬B dx/\H dx=`c `w2
def XcR(K:`z)(H:Hp)(B:BS)(c:Str)(n:`aP)(a:`e):Prop:=∃C od,`sm/\H a=`c `aBD/\`kj/\`aM0
def XcR.mono{n:`aP}(g:`eF)(h:`aM1):XcR K H' B' c n a:=by
 let#[C,od,h1,h2,h3,h4]:=h;refine#[C,od,(`aM2).1,(`aM2).2,h3,?_];cases n with
 | none=>trivial
 | some n=>let#[dx,e,q1,q2]:=h4;exact#[dx,e,(`aM3).1,(`aM3).2]
def SlR(K:`z)(H:Hp)(B:BS)(o:`ea):Sl->Prop
 | .un=>True
 | `f5=>∃v,o=`bO/\`c'
 | `uM=>∃a,o=`n8/\`aM4
 | `rS=>∃a,o=`n8/\`aM1
theorem Pd.get{F:`kT}:∀{l:`a6} {m:`s4} {i:Nat} {b:β},`r7->`aiM->∃a,`tx/\`BT
 | _,_,_,_,`R,e=>`OX
 | _,_,0,_,`aeK,e=>`aeL
 | _,_,i+1,b,`xk,e=>by
  let#[u,h1,h2]:=`oJ (i:=i) (b:=b) t `D1;exact`aeM
def Pd.imp{F G:`kT}(h:`aeV):`aMR:=by
 intro l m p
 induction p with
 | nil=>exact `R
 | cons r t ih=>exact `aa (h _ _ r) ih
theorem Pd.set{F:`kT}{a:α}{b:β}(r:`BT):∀{l:`a6} {m:`s4} (i:Nat),`r7->`b' F (`aiN) `aM5
 | _,_,_,`R=>`R
 | _,_,0,`xk=>`s1
 | _,_,i+1,`aa q t=>`aa q (`E! r i t)
theorem Pd.len{F:`kT}:`aaz (`r7->`bK=`dP)
 | _,_,`R=>rfl
 | _,_,`xk=>`g6 (`rH t)
def Pd.app{F:`kT}:∀{l l':`a6} {m m':`s4},`r7->`b' F l' m'->`b' F (l++l') (m++m'):=by
 intro l l' m m' p s
 induction p with
 | nil=>exact s
 | cons r t ih=>exact `D2
structure Env(K:`z)(H:Hp)(B:BS)(σ:St)(δ:Ds):Prop where
 all:`aM6
 bad:`uE
 own:∀(i j:Nat) (a:`e) (ds es:D),`aye->`kt=`aM7->`kh->`vy=`zX->i=j
section
variable{σ σ':St}{δ:Ds}
def SlR.same{o:`ea}{s:Sl}(q:`be)(h:`Q6):SlR K H' B o s:=by
 cases s with
 | un=>trivial
 | sh d=>apply `ih;exact#[v,e,`JJ q]
 | ow d=>let#[a,e,b,r]:=h;exact#[a,e,b,`JJ q]
 | ex c n=>let#[a,e,r]:=h;exact#[a,e,`dw (`XF q)]
theorem Env.same(q:`be)(e:`bs):`jK H' δ :=
 #[`Ds (λ_ _ h=>`Q7 q) `mw,(λa b=>(`oG a b).same q),`CB]
theorem Env.free(e:`bs){p:`e}(h:`ez):¬B p:=λz=>`oG p z h
def Env.get(e:`bs){d:D}(h:`aM8):∃v,`D9/\`c':=by
 let#[o,h1,v,rfl,r]:=`aM9;exact#[v,h1,r]
def Env.set(e:`bs)(i:Nat){d:D}(r:`c'):Env K H B `Cd `QL:=by
 refine`aiO `aM' `ac0;have hj:j≠i:=by
  rintro rfl
  by_cases hl:j<`l9
  ·rw[`xW] at h1;cases h1
  ·rw[`E?] at h1;cases h1
 have hk:k≠i:=by
  rintro rfl
  by_cases hl:k<`l9
  ·rw[`xW] at h2;cases h2
  ·rw[`E?] at h2;cases h2
 rw[`py] at h1 h3;rw[`aM!] at h2 h4;apply `Q8
universe zz
theorem Y9{p:`e}{o:HO}(h:`ez)(hz:`aM?:=by intro _ _ z;cases z):`dc H `aiP:=#[λb u e=>`k (m7 (V5 e h)) e,λb ob xs e=>by
 by_cases z:b=p
 ·subst z
  rw[j8] at e;exact `G (A3 e) (hz ob xs)
 ·rw[m7 z] at e;exact e]
def tD(K:`z)(B:BS)(δ:Ds)(g:`cY):TE:=`cw (∃d,`bs/\`jx/\`xX)
structure PD(X:Cx)(e:`J)(g:`cY):Prop where
 mk::go:`aNa
instance{X:Cx}{e:`J}{g:`cY}:`e8 `db `aNa:=#[PD.go]
def tDT(K:`z)(B:BS)(δ:Ds)(g:`ho):TT:=`cw (∃b,`bs/\`ax=`oD/\∀H',`be->Q b H')
structure PTD(X:Cx)(e:`J)(g:`ho):Prop where
 mk::go:`aNb
instance{X:Cx}{e:`J}{g:`ho}:`e8 (PTD X e g) `aNb:=#[PTD.go]
structure PWD(X:Cx)(e:`J)(g:`ho):Prop where
 mk::go:`aNc
instance{X:Cx}{e:`J}{g:`ho}:`e8 (PWD X e g) `aNc:=#[PWD.go]
def tDA(K:`z)(B:BS)(δ:Ds)(g:`fO):TA:=`cw (∃ds,`bs/\`ax=`nY/\∀vs H',`be->`Av H' vs->`afz)
structure PDA(X:Cx)(es:`bQ)(g:`fO):Prop where
 mk::go:`aNd
instance{X:Cx}{es:`bQ}{g:`fO}:`e8 (PDA X es g) `aNd:=#[PDA.go]
def i20{d:D}{b:`I}(h:asB d=`oD):d=`f3:=by
 apply `BA d asB
 subst h;rfl
def Op2(K:`z)(r:R2)(f:`br):Prop:=∀(H:Hp) (B:BS) (x y:V) (dx dy d:D) (Q:VK),`pU->`aiQ->`aNe->f dx dy=`bk->(`xX)->`NU
def FnR(K:`z)(r:`qR)(f:`U):Prop:=∀(H:Hp) (B:BS) (xs:`V) (ds:`l) (d:D) (Q:VK),`pU->`bC->`Q9->(`xX)->`Pz
section
variable{a c:`J}{ga:`cY}{gu:`ho}{rest:`bQ}
theorem _root_.L2.PE.imp{t t':TE}(h:PE X e t)(q:`Q'):PE X e t':=`aNf
theorem _root_.L2.PT.imp{t t':TT}(h:PT X e t)(q:`Q'):PT X e t':=`aNf
theorem _root_.L2.PW.imp{t t':TT}(h:PW X e t)(q:`Q'):PW X e t':=λw pins s σ H Q I z=>h w `r s σ H Q I `aaG
theorem _root_.L2.PA.imp{t t':TA}(h:`xC)(q:`Q'):PA X es t':=λp pins s σ H Q I z=>h p `r s σ H Q I `aaG
def Hi0{δ:Ds}{d:D}(h:gv i δ=`bk):`aM8:=by
 unfold gv at h;split at h
 ·cases h;assumption
 ·cases h
theorem z8(i:Nat)(hN:`dG)(hv:`eG)(hd:`aQ)
  (hcd:`dX):PD X `mo (gv i):=.mk λB δ=>`aNg fun σ H Q hq56=>by
 apply `bG hq56
 let#[v,e,r]:=en.get (Hi0 h);exact#[v,e,k v H `vm r]
theorem v7{i:Int}:PD X `aFY (gc `fq):=`eH H60.imp fun σ H Q hq57=>by apply `bG hq57;cases h;exact `CF
theorem G8{i:`I}:PD X (`we (`gW i)) (gc (.bl i)):=`eH Gh0.imp fun σ H Q hq58=>by apply `bG hq58;cases h;exact `aaP
theorem u20:PD X (`we `al) `kN:=`eH Sl0.imp fun σ H Q hq59=>by apply `bG hq59;cases h;exact `gQ `pg
theorem j9:PD X `aFZ (gc `oS):=`eH Jv0.imp fun σ H Q hq60=>by apply `bG hq60;cases h;exact `Q!
theorem f80(hm:∃t,`nR=`aNh)(hg:`fR)(hd:`aQ):PD X `mo (gc `Lh):=.mk λB δ=>by
 let#[t,hm]:=hm;exact(`adb `ok `Qy).imp fun σ H Q hq61=>by apply `bG hq61;cases h;exact `Q!
theorem zh0{i:Int}(hm:∃t,`nR=`c `vY)(hg:`fR)(hd:`aQ):PD X `mo (gc `fq):=.mk λB δ=>by
 let#[t,hm]:=hm;exact(`adb `bD `Qy).imp fun σ H Q hq62=>by apply `bG hq62;cases h;exact `CF
def g80{r:R2}{f:`br}(hf:Op2 K r f){δ:Ds}{σ:St}{Q:VK}(h:`gd tD K `Fa):tOp r (`Fb ga) (`Fb gb) σ H Q:=by
 skip;apply `xY;unfold o2 at h;cases e1:`ex with
 | none=>rw[e1] at h;cases h
 | some x =>
  cases e2:`fy with
  | none=>apply `dq;cases h
  | some y =>
   apply `dq;done;apply `xZ;exact hf H2 B v1 v2 x y d Q `aiR `Fc r2 h λv H' s r=>k v H' (`IB s) r
theorem nj0{op:`PC}{r:R2}{f:`br}(ho:`aHi)(hf:`x_)(ha:`cA)(hb:`dr):PD X `aHj `Fa:=`eH (Os0 ho `bt `e').imp `aiS
theorem sk0{op:`hl}{r:R2}{f:`br}(ho:`pI)(hf:`x_)(ha:`cA)(hb:`dr)(hm:`aiT):PD X `s' `Fa :=
 `eH (Ln0 ho `bt `e' hm).imp `aiS
theorem Hc0{r:R2}{f:`br}(ho:`ahj)(hf:`x_)(ha:`cA)(hb:`dr)(hs:`Q?):PD X `EH `Fa :=
 `eH (V20 ho `bt `e' hs).imp `aiS
theorem o9{op:`hl}{r:R2}{f:`br}(ho:`pI)(hf:`x_)(ha:`cA)(hb:`dr)(hm:`aiT):`Fd `s' `Fa :=
 .mk λB δ=>(gz0 ho `bt `e' hm).imp fun σ H Q hq63=>by
  apply `na hq63
  unfold ob at h;cases e:`aMt with
  | none=>rw[e] at h;cases h
  | some d =>
   rw[e] at h;cases i20 h;exact g80 hf `aiU
theorem zx0(h:`db)(he:`afG):`Fd e g :=
 .mk λB δ=>(R10 `dk he).imp fun σ H Q hq64=>by
  apply `na hq64
  unfold ob at h;cases e:`ax with
  | none=>rw[e] at h;cases h
  | some d =>
   rw[e] at h;cases i20 h;exact`aiU
theorem oi0(h:`Fe):PTD X `Ej (zp0 gt) :=
 .mk λB δ=>(Ux0 `dk).imp fun σ H Q hq65=>by
  apply `na hq65
  unfold zp0 at h;cases e:`jX with
  | none=>rw[e] at h;cases h
  | some b =>
   rw[e] at h;cases h;exact#[b,en,e,λH' s=>`Kz]
theorem j60(h:`Fe):PWD X `afH gt:=`eH Xl0 `dk
theorem tu0(h:`Fe):PWD X `afI gt:=`eH S10 `dk
theorem ge0(ha:`Fe)(hb:PWD X `Ef gu):PWD X `Eg (vw0 gt gu) :=
 .mk λB δ=>(Tx0 `bt `e').imp fun σ H Q hq66=>by
  apply `na hq66
  unfold vw0 at h;cases e:`jX with
  | none=>rw[e] at h;cases h
  | some b =>
   rw[e] at h;refine`aNi;cases b with
   | true=>apply `aNj
   | false =>
    simp at h;subst h;rw[`pD];exact `Kz
theorem si0(ha:`Fe)(hb:PWD X `Eh gu):PWD X `Ei (z90 gt gu) :=
 .mk λB δ=>(N40 `bt `e').imp fun σ H Q hq67=>by
  apply `na hq67
  unfold z90 at h;cases e:`jX with
  | none=>rw[e] at h;cases h
  | some b =>
   rw[e] at h;refine`aNi;cases b with
   | false=>apply `aNj
   | true =>
    simp at h;subst h;rw[`bp];exact `Kz
theorem PWD.pt(h:PWD X e gt):PTD X e gt:=.mk λB δ=>(`W9).pt
theorem iw0{op}(h:PD X a g):PD X `aGa g:=`eH Ji0 `dk
theorem co0(ha:`cA)(hb:PD X `Ef gb):PD X `Eg (pq0 ga gb) :=
 .mk λB δ=>(Kl0 `bt `e').imp fun σ H Q hq68=>by
  apply `bG hq68
  unfold pq0 ob at h;cases e:`ex with
  | none=>rw[e] at h;cases h
  | some x =>
   rw[e] at h;apply `aiV;cases x with
   | bl c =>
    rw[U3] at r;refine`aNk;cases c with
    | true=>apply `aNl
    | false =>
     simp[asB] at h;rw[`pD];exact `aiW
   | _=>simp[asB] at h
theorem Gc0(ha:`cA)(hb:PD X `Eh gb):PD X `Ei (orG ga gb) :=
 .mk λB δ=>(Gj0 `bt `e').imp fun σ H Q hq69=>by
  apply `bG hq69
  unfold orG ob at h;cases e:`ex with
  | none=>rw[e] at h;cases h
  | some x =>
   rw[e] at h;apply `aiV;cases x with
   | bl c =>
    rw[U3] at r;refine`aNk;cases c with
    | false=>apply `aNl
    | true =>
     simp[asB] at h;rw[`bp];exact `aiW
   | _=>simp[asB] at h
theorem Io0(ha:`cA):PD X `Ej (Q90 ga) :=
 .mk λB δ=>(Iy0 `bt).imp fun σ H Q hq70=>by
  apply `bG hq70
  unfold Q90 ob at h;cases e:`ex with
  | none=>rw[e] at h;cases h
  | some x =>
   rw[e] at h;apply `aiV;cases x with
   | bl c =>
    rw[U3] at r;simp[asB] at h;exact#[c,r,`aiW]
   | _=>simp[asB] at h
theorem u5:PDA X [] v8:=`eH y90.imp fun σ H Q hq71=>by let#[ds,en,h,k]:=hq71;cases h;exact k [] H `vm (`k6)
theorem v5(ha:`db)(hr:`x0)(hs:`dn):PDA X `gG (z7 g gA) :=
 .mk λB δ=>(N7 `bt (hr B δ) hs).imp fun σ H Q hq72=>by
  skip;let#[ds,en,h,k]:=hq72
  unfold z7 at h;cases e1:`ax with
  | none=>rw[e1] at h;cases h
  | some d =>
   cases e2:`eN with
   | none=>apply `dq;cases h
   | some es' =>
    apply `dq;cases h;done;refine`Ra d #[es',`i_,e2,λvs H2 s2 r2=>k _ H2 `mz ?_];rw[j7];exact#[v,vs,rfl,`rj,r2]
theorem xv0{x1}(h:`x0):PD X (`PT es) (yk0 gA) :=
 .mk λB δ=>(bi0 `dk).imp fun σ H Q hq73=>by
  apply `bG hq73
  unfold yk0 at h;cases e1:`eN with
  | none=>rw[e1] at h;cases h
  | some ds =>
   rw[e1] at h
   by_cases hl:`xP
   ·apply `aiX
    cases h;apply `aNm;rw[Q5];exact#[p,vs,rfl,#[(`i_).free hp,j8],`Iz `gh]
   ·apply `aiY
    cases h
theorem w50(h:`x0):PD X `agV (U7 gA) :=
 .mk λB δ=>`aNn fun σ H Q hq74=>by
  apply `bG hq74
  unfold U7 at h;cases e1:`eN with
  | none=>rw[e1] at h;cases h
  | some ds =>
   rw[e1] at h
   by_cases hl:`xP
   ·apply `aiX
    cases h;apply `aNm;rw[S7];exact#[p,vs,rfl,`n #[(`i_).free hp,`aiZ],`Iz `gh]
   ·apply `aiY
    cases h
def bh0{f:`U}(hf:FnR K r f){δ:Ds}{σ:St}{Q:VK}(h:`gd tD K `I5):tCB r (tDA K B δ gA) σ H Q:=by
 apply `xY;unfold oA at h;cases e1:`eN with
 | none=>rw[e1] at h;cases h
 | some ds =>
  rw[e1] at h;exact#[ds,en,e1,`La (hf H1 B vs ds d Q `ai_ r1 h `aNo)]
theorem ud0{id:`cq}{p:Pos}{f:`U}(hc:`aI8)(hf:`Rb)(hm:`pz)(hv:`aI9)(ha:`k7)(hg:`fR)
  (hn:`pA) (hdb:`aQ) (he:`dn) (hpl:`eE) :
  `Ff:=`eH (`Rc jh0 hc `bt).imp `ai0
theorem v60{T:`cq}{p:Pos}{f:`U}(hc:`ag8)(hf:`Rb)(hm:`pz)(hv:`ag9)(ha:`k7)(hg:`fR)
  (hn:`pA) (hdb:`aQ) (he:`dn) (hpl:`eE) :
  `Ff:=`eH (`Rc pf0 hc `bt).imp `ai0
def spD(K:`z)(f:`U):Sp:=`aNp `xX
theorem L70{k:Nat}{p:Pos}{f:`U}(F:`IL CX0 fa (spD X.K f))(hr:`m7)(hm:`nR=`JM)(hk:`vk X.K `Jm=`d)(hb:`aNq)
  (ha:`k7) (hg:`fR) (hdb:`aQ) (he:`dn) (hpl:`eE) :
  `Ff:=.mk λB δ=>(`Rd hr hk `bt).imp fun σ H Q h=>by
 apply `xY;unfold oA at h;cases e1:`eN with
 | none=>rw[e1] at h;cases h
 | some ds =>
  rw[e1] at h;refine`aNr;show spD X.K f `Mz H1 Q E0;rw[`bS];exact#[B,ds,d,`ai_,r1,h,`aNo]
universe zz
universe DL
variable{B B' B₀:DL.BS}
namespace DL
open Spec PyProof.Rows L2
structure EnvS(K:`z)(H₀:Hp)(B₀:BS)(H:Hp)(σ:St)(δ:Ds):Prop where
 same:`Re
 ex:∃B:BS,`aNs/\`aNt/\`bs
 fr:`aNu
 b0:`ai1
def Il0(K:`z)(H₀:Hp)(B₀:BS)(D:Ends):Res->Prop
 | `Ae=>`aNv
 | .rt d=>∀v H,`Re->Rp K H `ab d v->D.rt v H
 | .bk δ=>∀σ H,`cx->D.bk σ H
 | .ct δ=>∀σ H,`cx->D.ct σ H
 | .rf d=>∀p H,`ai2->`Re->RpL K H (λa=>`nK∨a=p) d p->D.rt `kg H
def tDS(K:`z)(H₀:Hp)(B₀:BS)(δ:Ds)(G:`jv):TS:=`Rf `cx Il0 K
structure PSD(X:Cx)(st:`a1)(G:`jv):Prop where
 mk::go:`aNw
instance{X:Cx}{st:`a1}{G:`jv}:`e8 `ai3 `aNw:=#[PSD.go]
structure PSsD(X:Cx)(st:`cg)(G:`jv):Prop where
 mk::go:`aNx
instance{X:Cx}{st:`cg}{G:`jv}:`e8 (PSsD X st G) `aNx:=#[PSsD.go]
section
variable{σ:St}{δ:Ds}
theorem EnvS.grow(e:`cx)(s:`be):`iy K H' δ:=#[`ai4 s,let #[B,b1,b2,en]:=e.ex;(`sQ (`fY s)),e.fr,e.b0]
universe zz
structure Wr(idx:`h)(σ σ':St)(δ δ':Ds):Prop where
 len:`afq
 oth:∀j,j∉idx->σ'[j]?=`vy/\`Xz=`kt
 own:∀j∈idx,∀ds,`Xz≠`Lb
def tDG(K:`z)(idx:`h)(f:`a?)(B:BS)(d:D)(δ:Ds):TG:=`q' (∃δ',`c'/\`bs/\`aiq/\∀σ',`aNy->Env K H B σ' δ'->Q σ' H)
structure PGD(X:Cx)(tg:`J)(idx:`h)(f:`a?):Prop where
 mk::go:`aNz
instance{X:Cx}{tg:`J}{idx:`h}{f:`a?}:`e8 `Fg `aNz:=#[PGD.go]
theorem _root_.L2.PG.imp{t t':TG}(h:PG X tg t)(q:∀v σ H Q,t' v σ H Q->t v σ H Q):PG X tg t':=λpins s σ H v u Q I r z=>h `r s σ H v u Q I r (q v σ H Q z)
def cl0{σ:St}{δ:Ds}{d:D}:Wr [i] σ `Cd δ `QL:=by
 refine#[`a7,`ai5,λj hj ds h=>?_]
 ·have:j≠i:=`E_
  rw[`aNA,`aNA];exact`ks
 ·have:j=i:=`E_
  subst this
  by_cases hl:j<`l9
  ·rw[`xW] at h;cases h
  ·rw[`E?] at h;cases h
theorem m5(i:Nat){pos:Pos}(hN:`ej)(hi:`dG)(hx:`ai6)
  (hf:`s7):PGD X `mo [i] `aaN:=.mk λB d δ=>(`Rg).imp λv σ H Q hq75=>by
 let#[δ',r,en,e,k]:=hq75
 cases e;exact k _ cl0 (en.set i r)
section
variable{st:`a1}{G G1 G2 Ga Gb:`jv}{c:`J}{as bs body:`cg}
theorem u9:PSsD X [] t7:=.mk λH₀ B₀ δ pins s σ H D I hq76=>by
 apply `hp hq76
 cases e;apply `Rh
theorem v6(h1:PSD X st G1)(h2:PSsD X `aR G2):`Ri PSsD v9:=.mk λH₀ B₀ δ pins s σ H D I hq77=>by
 skip;apply `hp hq77
 unfold v9 at e;cases e1:`eY with
 | none=>rw[e1] at e;cases e
 | some r1 =>
  rw[e1] at e;cases r1 with
  | nx δ'=>done;exact T8 `aA! (h2 `ae `ab δ') `r s σ H D I `aBB
  | rt d=>cases e;done;apply `Rj
  | bk δ'=>cases e;done;apply `Rj
  | ct δ'=>cases e;done;apply `Rj
  | rf d=>cases e;done;apply `Rj
theorem Z4(h:`db):`Rk X6 g:=.mk λH₀ B₀ δ pins s σ H D I hq78=>by
 skip;apply `ba hq78
 unfold X6 at e1;apply `aY;cases e2:`ax with
 | none=>apply `aj;cases e1
 | some d =>
  apply `aj;cases e1;done;exact `ty `dk (`Fh (`Dq (k v H' (`Mr s') (`dw (`kv b1)))))
def EnvS.wr{σ σ':St}{δ:Ds}(e:`cx)(b1:`lU)(b2:`lV)(s:`be)(w:`aNy)(en:Env K H' B σ' δ'):`aNB:=by
 refine#[`ai4 s,(`sQ en),`aBa,e.b0]
 by_cases hi:i∈idx
 ·exact `G h1 (w.own i hi ds)
 ·rw[(`tz i hi).2] at h1
  rw[(`tz i hi).1] at h2;exact `aNC
theorem Y6(h:`db)(hg:`Fg)(hs:`afZ)(hw:`af_)
  (h1:`af0):PSD X `af1 (Z8 f g):=.mk λH₀ B₀ δ pins s σ H D I hq79=>by
 skip;apply `ba hq79
 unfold Z8 at e1;apply `aY;cases e2:`ax with
 | none=>apply `aj;cases e1
 | some d =>
  apply `aj;apply `e!;cases e3:`vR with
  | none=>apply `cs;cases e1
  | some δ' =>
   apply `cs;cases e1;done;exact `aND (hg B d δ) (`Dq #[δ',r,`ai7,e3,`aNE H' en.wr s'])
theorem X7(hc:`Rl)(ha:PSsD X as Ga)(hb:PSsD X bs Gb):`ai8 PSD ifD:=.mk λH₀ B₀ δ pins s σ H D I hq80=>by
 skip;apply `ba hq80
 unfold ifD at e1;apply `aY;cases e2:`jX with
 | none=>apply `aj;cases e1
 | some t =>
  apply `aj;done;refine cf0 `Rm (ha `ae `ab δ) (hb `ae `ab δ) `r s σ H D I `aNF;cases t with
  | true=>apply `Rn
  | false=>apply `Rn
structure ItD(K:`z)(B:BS)(J:It)(items:`l)(H₁:Hp):Prop where
 go:∀i H,`ai9->`Fi->`af7
 yld:∀i H x H',`ai9->`af'->`Fi->`be/\∃d,`b?[i]?=`bk/\∀B':BS,Gr H₁ H' B B'->(∀a,B' a->`nZ)->Rp K H' B' d x
 stop:∀i H,`ai9->`dh<=i->`af!
def tDI(K:`z)(B:BS)(δ:Ds)(g:`fO):TI:=fun σ H R=>∃items,`bs/\`ax=`JI/\∀J H',`be->ItD K B J `b? H'->R J H'
structure PID(X:Cx)(tg e:`J)(g:`fO):Prop where
 mk::go:`aNG
instance{X:Cx}{tg e:`J}{g:`fO}:`e8 (PID X tg e g) `aNG:=#[PID.go]
theorem _root_.L2.PI.imp{t t':TI}(h:PI X tg e t)(q:∀σ H R,t' σ H R->t σ H R):PI X tg e t':=λpins s σ H R I z=>`b8 h R (q σ H R z)
theorem Z90(h:`db):`ai' Vc0:=.mk λB δ=>`Fj (Xg0 `dk) fun σ H R hq81=>by
 apply `Fk hq81
 unfold Vc0 at e1;cases e2:`ax with
 | none=>apply `aj;cases e1
 | some d =>
  apply `aj;cases d<;>simp[N60] at e1
  subst e1;apply `ai!;rw[S7] at r;apply `ai?;apply `aNH
  ·have:`xI:=`N1
   apply `aja
  ·let#[e3,y]:=y
   apply `ajb;have:=`ajc;apply `aV e4;cases `x;subst e3;apply `ajd
  ·apply `aje
theorem Yy0(h:`db):`ai' tupI:=.mk λB δ=>`Fj (Jn0 `dk) fun σ H R hq82=>by
 apply `Fk hq82
 unfold tupI at e1;cases e2:`ax with
 | none=>apply `aj;cases e1
 | some d =>
  apply `aj;cases d<;>simp[Ow0] at e1
  subst e1;apply `ai!;rw[Q5] at r;apply `ai?;apply `aNH
  ·have:`xI:=`N1
   apply `aja
  ·let#[e3,y]:=y
   apply `ajb;have:=`ajc;apply `aV e4;cases `x;subst e3;apply `ajd
  ·apply `aje
def fy0(x:Str):(`s (`jw x))=`EO:=`g6 `jw
theorem Yv0(h:`db):`ai' ku0:=.mk λB δ=>`Fj (Iz0 `dk) fun σ H R hq83=>by
 apply `Fk hq83
 unfold ku0 at e1;cases e2:`ax with
 | none=>apply `aj;cases e1
 | some d =>
  apply `aj;cases d<;>simp[Yt0] at e1
  subst e1;apply `ai!;rw[T5] at r;refine#[_,r,`aA?]
  ·rw[fy0] at hi;exact hi
  ·let#[e3,c,hc,rfl]:=y
   subst e3;refine#[`IG,`wp,?_,λB' gB _=>`auL];unfold signs;rw[`cX,`aKO,hc];rfl
  ·rw[fy0] at hi;exact hi
def jc0(lo hi:Int):(`s (G7 lo hi))=`wg:=by simp[G7]
def Ls0(lo hi:Int):ItD K B (Itr lo `wg) (G7 lo hi) H:=by
 refine`_D
 ·rw[jc0] at hi;exact hi
 ·let#[e3,rfl]:=y
  rw[jc0] at hi;subst e3;exact#[`IG,`aga,by simp[G7,hi],λB' gB _=>`IT]
 ·rw[jc0] at hi;exact hi
open T in
theorem yq0{a:`J}{p:Pos}(hm:`aG')(ha:`aNI)(hg:`H (`aG9) Aa)(hs:`Pw):PID X tg `aG? (ys0 gA) :=
 .mk λB δ=>`Fj (Rm0 hg hm `bt hs) fun σ H R hq84=>by
 apply `Fk hq84
 unfold ys0 at e1;cases e2:`eN with
 | none=>apply `aj;cases e1
 | some ds =>
  apply `aj;apply `e!;unfold iv0 at e1;split at e1
  ·split at e1
   ·rename_i j hj
    cases e1;apply `aNJ;rw[j7] at r;apply `Ro;rw[d7] at r2;subst r2;rw[Z6] at r1;subst r1;refine#[j,rfl,hj.1,hj.2,k _ H' s' ?_];have:=Ls0 (K:=X.K) (B:=B) (H:=H') 0 j;apply `aV Int.sub_zero;exact `x
   ·cases e1
  ·cases e1
def EnvS.lower{H₁:Hp}{σ:St}{δ:Ds}(e:`hV K H₁ `ab H σ δ)(s:`aNK)(b0:`ai1):`cx:=by
 apply `ajf;exact#[`aA6 `Rp,#[B,b1,`aNL,en],λi ds a h1 h2=>`aaJ (`aNC),b0]
open Classical in
theorem rz0(hp:`Em)(hc:`d4)(hi:`ii)(hg:`Fg)(hb:`aNM)
  (hs:`e7):PSD X `ago (rc0 gi f G):=.mk λH₀ B₀ δ pins s σ H D I hq85=>by
 apply `ba hq85
 unfold rc0 at e1;apply `aY;cases e2:`Ak with
 | none=>apply `aj;cases e1
 | some items =>
  apply `aj;apply `e!;apply `aNN
  apply `aNO `aNP `aNQ
  apply `aNR;apply `aNS
  apply `aNT
  apply `aNU
  apply `aNV
  have a3:`dc Hh H1:=#[λb o h=>by
   by_cases z:`AD
   ·rw[`aNW] at h;cases h
   ·rw[U] at h
    have h':`aNX:=h;rw[`k8] at h';exact h',λb o xs h=>by
   by_cases z:`AD
   ·apply `aNY
    apply `aNZ;cases h0
   ·rw[U]
    show (`L2)=_;rw[`k8];exact h]
  have hS:`aN_:=#[λb o h=>by
   have h1:=`aN0
   by_cases z:B b
   ·rcases b2 b z with q|q
    ·rw[a4 b q];exact h1
    ·rw[h] at q;cases q
   ·rw[Y b z];exact h1,`aN1]
  have Z:=`jV;have start:`aN2:=by
   apply `aN3
   ·by_cases q:`nK
    ·exact `m2
    ·exact `aN4
   ·have hn:=`aN5
    have nb:¬`nK:=λz=>`oW a z hn
    apply `aN6;rw[h2] at e3;cases e3;cases e4;exact a1 a hB nb
   ·rw[a4 a z]
    exact `aN7
  obtain⟨W,hW⟩:∃W:`aHb,∀i m σ H,W i m σ H↔`aN8 zg0:=`ajg;refine#[W,#[_,`tA #[rfl,`bw,δ,`eU,e1]],?_];intro i m σi Hi w0;let#[hm,c3,δi,O,ei]:=`ajh;clear w0;subst hm;apply `aN9
  by_cases hlt:`Fi
  ·refine `aN' zg0 #[`Rq,`F,`tA #[rfl,hlt,δn,en',e']]
   apply `aN!;apply `aN?;have a6:`aOa:=rd B' (λb o n h=>by
    have h':Hh b=`aq:=`acV
    apply `aOb;rcases c2 b z with q|q
    ·exact n (b1 b q)
    ·rw[h'] at q;cases q) env0.bad
   have a5:=`aOc
   replace O:=O.grow sm
   have a2:`aOd:=by
    apply `Rr;congr 1;rw[`Rs] at hd;exact A3 hd
   rw[a2] at ei;unfold zg0 at ei;cases e3:f d δi with
   | none=>rw[e3] at ei;cases ei
   | some δ2 =>
    rw[e3] at ei;simp only[`q] at ei;apply `aOe;apply `aOf;cases e4:G δ2 with
    | none=>rw[e4] at ei;cases ei
    | some rb =>
     rw[e4] at ei;apply `aOg;cases rb with
     | nx δn=>apply `Rt
     | ct δn=>apply `Rt
     | bk δn =>
      cases ei;apply `aOh
     | rt d' =>
      cases ei;apply `aOi
     | rf d' =>
      cases ei;apply `aOj
  ·have e:i=`dh:=`F
   subst e;apply `aOk;rw[`x1] at ei;cases ei;exact `aOl
structure PFD(X:Cx)(ifs:`bQ)(g:`ho):Prop where
 mk::go:`aOm
instance{X:Cx}{ifs:`bQ}{g:`ho}:`e8 (PFD X ifs g) `aOm:=#[PFD.go]
theorem uj0:PFD X [] noT:=.mk λB δ pins s σ H Q I hq86=>by
 let#[b,en,e,k]:=hq86
 cases e;exact `b8 Jt0 Q (`Ru)
theorem Nr0(h:`Rl):PFD X [c] gt:=`eH Ks0 `dk
def bb0{σ:St}(h:j<n):`fF[j]?=`gZ:=by
 unfold G5;rw[`fw `i4,`th,`ch]
theorem o00:`kH (`b' `L0 (`bB n (`f:`ea)) (`aOn))
 | 0=>`R
 | n+1=>`aa `jr (o00 n)
theorem Zm0{σ:St}{δ:Ds}(en:`bs):∀caps:`h,`b' `L0 (`aLi) (`aMc)
 | []=>`R
 | j::`di=>by
  refine `aa ?_ (Zm0 en `di);show SlR K H B `aap (lv0 `kt);cases h:`kt with
  | none=>trivial
  | some sl =>
   cases sl with
   | un=>trivial
   | ow ds=>trivial
   | ex c n=>trivial
   | sh d =>
    let#[v,e,r]:=en.get h;rw[e];exact`aM'
def Rs0{o:`QM}{ds:D}(h:lv0 o=`Yd):`b1:=by
 cases o with
 | none=>cases h
 | some s=>cases s<;>cases h
def uh0{δ:Ds}{ds:D}(h:`ke[i]?=`Lb):`b1:=by
 unfold zc0 at h
 by_cases hi:i<n
 ·rw[`P3,`th,`L hi] at h
  cases h
 ·rw[`ag5,`cX] at h
  cases q:`di[i - (`s `aOn)]? with
  | none=>rw[q] at h;cases h
  | some j =>
   rw[q] at h;exact Rs0 (A3 h)
theorem Env.comp{σ:St}{δ:Ds}(en:`bs)(n:Nat)(caps:`h):Env K H B `fF `ke :=
 #[`x2 (o00 n) (Zm0 en `di),en.bad,`aji]
def SlR.gr{o:`ea}{s:Sl}(g:`eF)(no:∀ds,s≠`Yd)(h:`Q6):SlR K H' B' o s:=by
 cases s with
 | un=>trivial
 | sh d=>apply `ih;apply `Fl
 | ow ds=>exact `G rfl (no ds)
 | ex c n=>let#[a,e,r]:=h;exact#[a,e,`w0]
def Pd.impG(g:`eF):∀{σ:St} {δ:Ds},(`aOo)->`aM6->`b' (SlR K H' B') σ δ:=by
 intro σ δ no p
 induction p with
 | nil=>exact `R
 | cons r t ih=>exact `aa (r.gr g λds z=>no 0 ds (`Fm z)) (ih λi ds z=>no `fp ds `aOp)
def tDF(K:`z)(B:BS)(δ:Ds)(g:`cY):TE:=`cw (∃d,`bs/\`jx/\`aOq)
structure PDF(X:Cx)(e:`J)(g:`cY):Prop where
 mk::go:`aOr
instance{X:Cx}{e:`J}{g:`cY}:`e8 `x3 `aOr:=#[PDF.go]
def tD.toF{δ:Ds}{σ:St}{Q:VK}(h:`gd tD K g):`gd tDF K g:=by
 let#[d,en,e,k]:=h;exact#[d,en,e,λp H' hp s r=>k _ H' s (r.rp (λa z=>`gR) (en.free hp))]
theorem PDF.pd(h:`x3):`db:=`eH (`W9).imp fun σ H Q z=>z.toF
def ml0{K:`z}{B:BS}{δ:Ds}{σ:St}{H:Hp}{Q:VK}{caps:`h}{gi:`fO}{f:`a?}{gt:`ho}{ge:`cY}(hidx:∀j∈idx,j<n)
  (h:`gd tDF K `L4) :
  cg0 n `di (tDI K B δ gi) `aOs (`cw (∃B δ,`gd tDT K gt)) (`cw (∃B δ,`gd tD K ge)) σ H Q:=by
 apply `xY;unfold K9 at h;cases e1:`Ak with
 | none=>rw[e1] at h;cases h
 | some items =>
  rw[e1] at h;apply `fS
  by_cases hsz:`tr
  ·rw[`L hsz] at h
   cases e2:`aau with
   | none=>rw[e2] at h;cases h
   | some out =>
    rw[e2] at h;cases h;refine#[`b?,en,e1,`aOt];skip;have Y:=`i_;have a8:¬B L:=Y.free hL;obtain⟨Bp,O⟩:∃Bp:BS,Bp=λa=>B a∨a=L:=`ah
    have a6:Bp L:=`k O `uq
    have b0:∀a,B a->Bp a:=λa z=>`k O `gR
    have a2:∀a,Bp a->B a∨a=L:=λa z=>`ajj O z
    have gr:∀{H2:Hp},`QD->`aOu:=λ{H2} s2 b o nb hb=>#[(λz=>by
     rcases a2 b z with q|q
     ·exact nb q
     ·subst q;rw[hL] at hb;cases hb),s2 b o hb]
    obtain⟨W,hW⟩:∃W:`QG,∀i m ys H2,`ah?↔m=`dh - i/\`aOv/\`aOw/\`QD/\`fs<=i/\∃pre rest,out=pre++`aR/\`aOx/\`A? `ke (`lP i)=`c `aR:=`ajg;done;refine#[W,#[_,`tA #[rfl,`bw,j8,Y9 hL,`fg,[],out,rfl,`k6,e2]],?_];intro i m ys H2 w0;skip;let#[hm,b2,hD,s2,b1,pre,rest,ho,rp,ec]:=`ajh;clear w0;subst hm;have U:Env K H2 Bp `fF `ke:=by
     refine#[`aOy Y.comp,`jd,`aji];rcases a2 a z with q|q
     ·exact(Y.same s2).bad a q
     ·subst q;rw[hD];exact .of rfl `aMW λ_ z=>nomatch z
    by_cases hlt:`Fi
    ·done;refine `p #[it.go i H2 `ajk hlt,`aOz]
     let#[sm,dx,a1,rx]:=`aaM i H2 x H3 `ajk y hlt;have a3:`aOA:=rx Bp (gr (`KL sm)) U.bad
     replace U:=U.same sm
     replace s2:=`KL sm
     replace hD:=sm _ _ hD
     replace rp:=`Rv sm
     have Z:`lP i=dx::`L3:=by
      apply `Rr;congr 1;rw[`Rs] at a1;exact A3 a1
     rw[Z] at ec;unfold yx0 at ec;cases e3:f dx `ke with
     | none=>rw[e3] at ec;cases ec
     | some δ' =>
      rw[e3] at ec;dsimp only at ec;refine#[Bp,dx,`Ie,δ',a3,U,e3,`aOB λj v z=>?_]
      ·by_cases hj:j∈idx
       ·rw[bb0 (hidx j hj)] at z;cases z
       ·rw[(`tz j hj).1];exact z
      ·cases e4:`EY with
       | none=>rw[e4] at ec;cases ec
       | some t =>
        rw[e4] at ec;refine#[Bp,δ',t,en4,e4,`aOC];cases t with
        | false =>
         rw[`pD];exact#[`Rq,`F,`tA #[rfl,hlt,s5 _ _ hD,`KL s5,`F,pre,`aR,ho,`Rv s5,ec]]
        | true =>
         rw[`bp];dsimp only at ec;cases e5:`LX with
         | none=>rw[e5] at ec;cases ec
         | some yd =>
          rw[e5] at ec;dsimp only at ec;cases e6:`A? `ke (`L3) with
          | none=>rw[e6] at ec;cases ec
          | some rest' =>
           rw[e6] at ec;cases ec;refine#[Bp,δ',yd,`aOD,e5,λv H6 s6 r6=>?_];have a5:`aOE:=s6 _ _ (s5 _ _ hD);have g6:`aOF:=λb o nb hb=>#[nb,by
            rw[m7 (λz=>nb (`k z a6))];exact hb]
           refine#[a5,`F,`Rq,`F,`tA #[rfl,hlt,j8,#[λb o hb=>?_,λb ob zs hb=>?_],`Xp,pre++[yd],rest',`g1 ho,?_,e6]]
           ·have a7:b≠L:=λz=>by rw[z,hL] at hb;cases hb
            rw[m7 a7];exact s6 _ _ (s5 _ _ (s2 _ _ hb))
           ·by_cases z:b=L
            ·rw[z,j8] at hb;cases hb
            ·rw[m7 z] at hb
             exact s2.nf _ _ _ (s5.nf _ _ _ (s6.nf _ _ _ hb))
           ·exact(`sp ((`Rv s5).same s6) r6).mono g6
    ·have e:i=`dh:=`F
     subst e;done;refine `n #[`acW _ H2 `ajk `bF,?_];rw[`x1] at ec;have a4:`ajl=`aR:=A3 ec;subst a4;rw[`bS] at ho;subst ho;refine k L H2 (`CC hL) `mz #[ys,hD,?_];rw[O] at rp;exact rp
  ·rw[`_ hsz] at h;cases h
theorem Z70{sc scope:`cT}{elt iter:`J}{ifs:`bQ}{N':`i}{n:Nat}{caps:`h}{gi:`fO}{idx:`h}{f:`a?}{ge:`cY}
  (hc:`d4) (hsc:`lK) (ok:`pS) (hidx:∀j∈idx,j<n) (hi:`ii)
  (hg:`jA) (ht:`x4) (he:`tB)
  (hs:`e7) :
  `aOG:=.mk λB δ =>
 (f70 hc hsc ok `acU (g:=`ws) (tt:=`ajm) (te:=`ajn)
  `Fn
  `aOH
  `ajo hs).imp fun σ H Q h=>ml0 hidx h
theorem No0{sc scope:`cT}{elt iter:`J}{ifs:`bQ}{N':`i}{n:Nat}{caps:`h}{gi:`fO}{idx:`h}{f:`a?}{ge:`cY}
  (hc:`d4) (hsc:`lK) (ok:`pS) (hidx:∀j∈idx,j<n) (hi:`ii)
  (hg:`jA) (ht:`x4) (he:`tB)
  (hs:`e7) :
  `aOI:=(`ajp Z70 ok).pd
theorem Yi0(i:Nat){y:Str}{py spos:Pos}{sc scope:`cT}{elt iter:`J}{ifs:`bQ}{N':`i}{n:Nat}{caps:`h}{gi:`fO}{idx:`h}{f:`a?}{ge:`cY}
  (hN:`ej) (hc:`d4) (hsc:`lK) (ok:`pS) (hidx:∀j∈idx,j<n) (hi:`ii)
  (hg:`jA) (ht:`x4) (he:`tB)
  (hiN:`pV) (hy:`k9)
  (hsw:`aif)
  (hs:`e7)
  (hf:`ju) :
  `aOJ:=.mk λH₀ B₀ δ pins s σ H D I hq87=>by
 skip;apply `ba hq87
 unfold Z8 at e1;apply `aY;cases e2:`aMs with
 | none=>apply `aj;cases e1
 | some d =>
  apply `aj;cases e1;done;refine jq0 (i:=i) hN hiN hy hc hsc ok `acU (g:=`ws) (tt:=`ajm) (te:=`ajn)
   `Fn
   `aOH
   `ajo hsw hs hf `r s σ H D I (ml0 hidx (tD.toF (`Fh (`N2 (k _ H' (en.wr b1 b2 s' cl0 ((`ai7).set i r')))))))
universe zz
theorem ul0{N:`i}:∀{ds:`l} {vs:`V},`Rw->`b' `L0 (`rP `c) (ds.map `sX)
 | [],_,h=>`aMK `R
 | `aC,_,h=>by
  rw[j7] at h;apply `Fo;exact `aa `QY (ul0 (N:=N) h2)
def um0{es:D}(h:`z5[i]?=`aM7):`b1:=by
 unfold U6 at h
 by_cases hi:i<`bN
 ·rw[`P3,`cX] at h
  cases q:ds[i]? with
  | none=>rw[q] at h;cases h
  | some d=>rw[q] at h;cases h
 ·rw[`ag5,`th] at h
  apply `ajq
section
variable{P:`ai}{w:`Q}
def okD{st:`a1}{k:Nat}{f:`U}{G:`jv}(F:`Fp)(S:`xN)
  (body:`aOK)
  (hf:∀ds d,`Q9->`bN=`aI/\`aOL) :
  `am `d6 ps (spD K f):=by
 apply `ajr
 ·skip;apply `aOM;done;rw[`cd];exact(`Fq).1
 ·skip;apply `aON;done;apply `aOO
  skip;have en:`ajs:=by
   apply `aOP;unfold L2.start U6;rw[`cd];exact `aOQ
  rcases (`Fq).2 with e|⟨rfl,δ,e⟩|⟨e,hn⟩
  ·done;apply `aOR
  ·done;exact#[_,en,e,`r! (q `y H' `Oc `pg)]
  ·done;exact#[_,en,e,`N3 (q _ H' s' ((r'.toO hn).rp (λa z=>`gR) (λz=>hb p z hp)))]
def spN(K:`z)(f:`U):Sp:=`aNp `aOq
def okN{st:`a1}{k:Nat}{f:`U}{G:`jv}(F:`Fp)(S:`xN)
  (body:`aOK)
  (hf:∀ds d,`Q9->`bN=`aI/\`acY) :
  `am `d6 ps (spN K f):=by
 apply `ajr
 ·skip;apply `aOM;done;rw[`cd];exact(`Fq).1
 ·skip;apply `aON;done;apply `aOO
  have en:`ajs:=by
   apply `aOP;unfold L2.start U6;rw[`cd];exact `aOQ
  exact#[_,en,(`Fq).2.1,`N3 (q p H' hp s' (r'.toO (`Fq).2.2))]
universe zz
universe DL
namespace L2
open Spec PyProof.Rows
theorem Zy0:∀{ys:`i} {us:`K},`aOS->StrsAre us ys
 | [],_,r=>`aOT
 | y::ys,_,r=>by
  rw[`ag] at r;cases r with
  | cons r1 r2 =>
   let#[t,e]:=r1;subst e;exact `aa y t (Zy0 r2)
def Nz0:MtR X "str.join" (λx xs H Q=>∃(sep:Str) (p:`e) (ys:`i),x=`u sep/\`Dm/\SqL X.K H p `Cw/\`aMj/\Q `aMk H):=by
 apply `aOU;skip;let#[sep,p,ys,rfl,rfl,hq,hz,q]:=h;apply `cy;let#[u,rfl,ru]:=rs.one;cases ru;let#[its,rv,pl,_]:=`vP;done;exact join_list `m9 (`bl (Zy0 rv)) hz `aOV
def part_of{o:`aP}(p:`AS u o):∃l:`aB (Int×Tok),u=partValue l/\`c6 `cD=o:=by
 cases p with
 | none=>exact`Rx `f
 | int i t=>exact`Rx (`c (i,t))
def Ko0:SlR X (`Qa (∃z,x=`nV/\`wj/\Q `aOW H)):=by
 apply `Qc;skip;let#[z,rfl,hz,q]:=h;apply `cy;let#[l,rfl,rfl]:=part_of pl;let#[u,rfl,rfl]:=part_of pu;done;refine#[`jp,_,F.slot_str_getitem.lookup,b4 _ _ _,wpAny_getItem_str_slice (l:=l) (u:=u) (st:=`f) ?_ rfl (post_val_or_str #[C0 (Txt.slice_le z _ _) hz,`aOV])];let#[o,h1,h2,h3]:=hs;exact#[o,h1,h2,h3]
universe L2
namespace DL
open Spec PyProof.Rows L2
def tyD:D->`cq
 | `y => "NoneType"|`cb => `x5|`cW => `jk|`ce => `jp|`EU => `er|`eB => `fX|`pW => `J5|`pX => `uT
def okT(T:`cq)(f:`dZ):Prop:=∀(K:`z) (d:D),W.kitOne K (`bM (tyD d)) `oB=`c (f d)
theorem L80:okT `jk isInt:=`Ry
theorem W70:okT `jp isStr:=`Ry
theorem b90:okT `x5 `Rz:=`Ry
theorem es0:okT `er isTup:=`Ry
section
def Q40{T:`cq}{f:`dZ}(hT:okT T f):`g3 X (`cn `x6) (`h6 (∃B d x,xs=[x,.ty T]/\`RA/\Q (.bl (f d)) H)):=by
 intro pins s σ H xs us Q I rs h;skip;let#[B,d,x,rfl,r,q]:=h;let#[u,c,rfl,ru,rc]:=rs.two;obtain rfl:c=`kx T:=rc;have fin:∀tk,`sg (`gW (f d)) ((`Id tk)):=λtk=>#[`cb,H,I.tok tk,rfl,q]
 have e:=hT X.K d;cases d with
 | non=>rw[R3] at r;subst r;cases (`Dr (u=`mA));done;exact `pf W.kitx_none `lZ
 | bl y=>rw[U3] at r;subst r;cases (`Dr (u=`AU y));done;exact `pf W.kitx_bool `lZ
 | int i=>rw[Z6] at r;subst r;let#[t,rfl]:=(`Dr `NW);done;exact `pf W.kitx_int `lZ
 | str y=>rw[T5] at r;subst r;let#[t,rfl]:=(`Dr (∃t,u=`K' y t));done;exact `pf W.kitx_str `lZ
 | tup ds =>
  rw[Q5] at r;apply `ajt;apply `RB;let#[its,_,p,_]:=`lY `pY;let#[o,h1,h2,_]:=p;done;exact `pf W.kitx_tuple `aOX
 | lst ds =>
  rw[S7] at r;apply `ajt;apply `RB;let#[its,_,p,_]:=`iJ `pY;let#[o,n,h1,h2,_]:=p;done;exact `pf W.kitx_list `aOX
 | dct ks ds =>
  rw[ol0] at r;let#[a,xs,rfl,_,hq,_]:=r;apply `RB;cases ks with
  | inl ks =>
   let#[_,_,vs,_,p]:=(`aOY `QT);let#[o,es,ep,h1,h2,_]:=p;done;apply `aOZ
  | inr ks =>
   let#[_,_,vs,_,o,es,ep,h1,h2,_]:=(`aOY `aiu);done;apply `aOZ
 | fn ks ds =>
  rw[Nd0] at r;apply `ajt;apply `RB;let#[oF,_,_,_,_,_,_,_,_,#[_,h1],#[h2,_],_]:=hq;done;exact `pf KfT.kit #[oF,(`b2 a _ h1).1,h2]
theorem qs0{T:`cq}{f:`dZ}{Tn:Str}{p p2 pos:Pos}(hT:okT T f)(hb:`q9 Tn=`c `oB)(hm:`cE `x6=`f)(hmT:`cE Tn=`f)(h:`db)(hg:`ku `x6)(hgT:`ku Tn)
  (hn:`abc Tn) (hd:`vo Tn)
  (he:`j8 [e,`KA] (`ui::`aju)) (he2:`Ib `aju (`l1 (`KA)))
  (hpl:`qF (`vg `aju)) :
  PD X (`et (`bx `x6 p) [e,`KA]) (wh0 f g) :=
 .mk λB δ=>(jh0 (Q40 hT) hg hm PyProof.Rows.boot_isinstance (N7 `dk (N7 (Mo0 (v:=.ty T) hgT hmT hb rfl hn hd) y90 he2) he) `v `v he hpl).imp fun σ H Q hq88=>by
  apply `bG hq88
  unfold wh0 at h;cases e1:`ax with
  | none=>rw[e1] at h;cases h
  | some x =>
   rw[e1] at h;cases h;exact`Ra x #[B,x,v,rfl,r1,k _ H1 s1 `Kb]
open T in
def i50{C:`ags}[∀i j,`nb (C i j)]{g:`PA}{g':`aO_}(hg:`aO0):Op2 K (rI C g) (ii λi j=>`a! (C i j) (g' i j)):=by
 apply `jB;apply `aO1
 rename_i i j;split at h
 ·cases h
  rw[Z6] at rx ry;subst rx ry;exact#[i,j,rfl,rfl,`uh,`aO2]
 ·cases h
open T in
def mw0{g:`PA}{g':`aO_}(hg:`aO0):`Fr g (`xS (g' i j)):=by
 apply `jB;apply `aO1
 rename_i i j;rw[Z6] at rx ry;subst rx ry;exact#[i,j,rfl,rfl,`aO2]
instance decDiv(i j:Int):`nb (Qh0 i j):=inferInstanceAs (`nb (`PE))
instance decPow(i j:Int):`nb (Qt0 i j):=inferInstanceAs (`nb (`agw))
variable{a:`J}{ga:`cY}
theorem z40(ha:`cA)(hb:`dr):`k' (`sf .Sub) zb0:=nj0 Ku0 (mw0 (g':=`aHr) `ajv) ha hb
theorem Y5(ha:`cA)(hb:`dr):`k' (`sf .FloorDiv) j4:=`ajw K50 Qh0 `aHu
theorem Z0(ha:`cA)(hb:`dr):`k' (`sf .Mod) o8:=`ajw Kz0 (λ_ j=>0<j) `aHv
theorem sp0(ha:`cA)(hb:`dr):`k' (`sf .Pow) qa0:=`ajw Iu0 Qt0 `aHw
universe zz
universe DL
namespace L2
open Spec PyProof.Rows
def Nf0(K:`z):R2:=`ef (∃l b xs zs,`ajx/\`EE/\`Ix l/\`aO3/\`aO4/\`m6 `ez H `RC)
def Yq0:`ahi Nf0:=by
 apply `fN;skip;apply `aO5;cases rx;cases ry;let#[its,r,p1,z1]:=`iJ hH;apply `aO6;apply `aO7;let#[#[a3,Z,data2,a2],Y,U,n2,O]:=`ajy;simp only at hc hd U O;subst hc hd U O;have e:`b4++`ajz=(`hW (its++J)):=`a7
 have a1:`aO8:=by
  rw[`cm,`cm,← `cd,← `mb];exact hz
 done;refine t9 `ti #[_,Y,rfl] noFill_list_add seq_list_add PySem.F.slot_list_add PySem.F.entry_list_add (PySem.F.args_list_add_2 _ _) (list_addW l b `b4 `ajz n n2 dd Z sl a2 a1) #[ho,Y,?_];rw[e];exact`aO9 (`Kq r2) (`aJT)
universe L2
namespace DL
open Spec PyProof.Rows L2
section
variable{a:`J}{p:Pos}{ga:`cY}
theorem em0(hb:`uE){p:`e}(h:`ez):¬B p:=λz=>hb p z h
def oa0{p:`e}(hb:`uE)(h:`ez)(r:`bC):Rp K (upd H p `oj) B `u_ `kg:=by
 rw[S7];exact#[p,xs,rfl,`n #[em0 hb h,`aiZ],`aO']
def gy0{p:`e}(hb:`uE)(h:`ez)(r:`bC):Rp K (upd H p `uo) B `or `kg:=by
 rw[Q5];exact#[p,xs,rfl,#[em0 hb h,j8],`aO']
theorem sq0:`Fr `agB ltD:=`RD `agB
theorem l60:`Fr `agC leD:=`RD `agC
theorem sm0:`Fr `agD gtD:=`RD `agD
theorem H20:`Fr `agE geD:=`RD `agE
def Rg0{x y:V}{dx dy:D}{b:`I}(rx:`aiQ)(ry:`aNe)(h:`ajA=`oD):`agz/\`Cj=b:=by
 cases dx<;>cases dy<;>simp only[eqS] at h<;>try cases h
 all_goals
  simp only[R3,U3,Z6,T5] at rx ry;subst rx ry;refine`aeq;simp
def Z7:Op2 K rEq eqD:=by
 apply `jB;unfold eqD at h;cases e:`ajA with
 | none=>rw[e] at h;cases h
 | some b =>
  rw[e] at h;cases h;let#[h1,h2]:=Rg0 rx ry e;exact`aO!
def Us0:Op2 K rNe neD:=by
 apply `jB;unfold neD at h;cases e:`ajA with
 | none=>rw[e] at h;cases h
 | some b =>
  rw[e] at h;cases h;let#[h1,h2]:=Rg0 rx ry e;exact`aO!
def k60:Op2 K `aHy pl0:=by
 apply `jB;have hy:dy=`y:=by cases dy<;>first|rfl|cases h
 subst hy;cases h;rw[R3] at ry;refine#[ry,`RE];rw[U3];cases dx<;>simp only[R3,U3,Z6,T5,Q5,S7,ol0,Nd0] at rx
 all_goals first
  | (subst rx;rfl)
  | (let#[a,xs,rfl,_]:=rx;rfl)
theorem Rk0(xs:`a6)(i:Int):`ajB=DL.atI xs i:=rfl
def pu0(n d:Nat)(o:`aP):`j0 n d o=sIx n d o:=`Ni o
def X00{i:Int}{d:D}(r:`bC)(h:DL.atI ds i=`bk):∃v,`ajB=`bO/\`c':=by
 rw[Rk0];unfold DL.atI at h ⊢;rw[`cd];cases e:DL.ixN `bN i with
 | none=>rw[e] at h;cases h
 | some j =>
  rw[e] at h;exact `pM h
def Ia0:Op2 K (rIx K) ixD:=by
 apply `jB;cases dx<;>cases dy<;>simp only[ixD] at h<;>try cases h
 ·split at h
  ·rename_i hz
   rw[T5] at rx;rw[Z6] at ry;subst rx ry;let#[c,hc,rfl]:=u4.mp h;apply `jt #[_,_,c,rfl,rfl,hz,hc,`Q!]
  ·cases h
 ·skip;rw[Q5] at rx
  rw[Z6] at ry;subst ry;apply `RF rx;let#[v,hv,rv]:=X00 r h;done;exact `p (`aO?)
 ·skip;rw[S7] at rx
  rw[Z6] at ry;subst ry;apply `RF rx;let#[v,hv,rv]:=X00 r h;done;exact `aO?
theorem V1(ha:`cA)(hb:`dr)(hs:`Q?):`k' `EH ixD:=Hc0 H30 Ia0 ha hb hs
structure PDO(X:Cx)(e:`rk)(g:`xT):Prop where
 mk::go:`aPa
instance{X:Cx}{e:`rk}{g:`xT}:`e8 (PDO X e g) `aPa:=#[PDO.go]
theorem M3:PDO X `f Q9:=.mk λB δ pins s σ H Q I hq89=>by
 let#[o,en,h,k]:=hq89
 cases h;exact `b8 Mm0 Q (`Ru)
theorem Q7(h:`db):PDO X (`c e) (`fu g):=.mk λB δ pins s σ H Q I hq90=>by
 let#[o,en,hq,k]:=hq90
 unfold someO at hq;cases e1:`ax with
 | none=>rw[e1] at hq;cases hq
 | some d =>
  rw[e1] at hq;cases d<;>simp[asI] at hq
  subst hq;exact L30 `dk `r s σ H Q I #[_,en,e1,`Dq #[_,`aPb,k H' s']]
def Xt0(r:`bC)(lo hi:`aP):`k3 (cutD ds lo hi) (`LP):=by
 unfold cutD me0;rw[`cd,pu0,pu0];exact(r.drop _).take _
def yp0{d:D}(h:`qz [d]):∃v,xs=[v]/\`c':=by
 rw[j7] at h;apply `Fo;rw[d7] at h2;subst h2;exact`QY
def H90:FnR K (`h6 ((`aKl)∨`Qp `ajC `ajD `aKj)) T3:=by
 apply `x7;unfold T3 at h;split at h
 ·split at h
  ·cases h
   apply `jC;rw[T5] at r1;subst r1;exact `n #[_,rfl,`uh,`CF]
  ·cases h
 ·skip;cases h
  apply `jC;rw[S7] at r1;apply `x8;done;exact `p #[a,ys,rfl,`ajE,`aPc]
 ·skip;cases h
  apply `jC;rw[Q5] at r1;apply `x8;done;exact `p #[a,ys,rfl,`ajF,`aPc]
 ·cases h
theorem G4(hm:`aPd)(ha:`RG)(hg:`aPe)(he:`gx)(hpl:`nc) :
  PD X `aPf (oA gA T3):=ud0 (a80.or mk0) H90 hm b6 ha hg `v `v he hpl
theorem Z60:∀{ds:`l} {xs:`V} {bs:`i},`bC->jj0 ds=`c bs->xs=bs.map `Bb
 | [],_,_,r,h=>by
  cases h;rw[d7] at r;exact r
 | `aC,_,bs,r,h=>by
  rw[j7] at r;apply `Ro;cases d<;>simp only[jj0] at h<;>try cases h
  let#[t',e,rfl]:=u4.mp h;rw[T5] at r1;rw[r1,Z60 r2 e];rfl
theorem Xu0{apos cpos:Pos}(ho:PD X o g)(ha:`RG)(hbase:`Bs "join")
  (hfew:`H ((`tC
  &&`ajG)=`d) Aa)
  (hline:`hm) (hs:`gx) (hplain:`pZ) :
  PD X (`p_ o "join" [e]) (nk0 g gA):=.mk λB δ =>
 (`aPg F.slot_str_join F.type_str_join Nz0).imp fun σ H Q hq91=>by
  skip;apply `bG hq91
  unfold nk0 at h;cases e1:`ax with
  | none=>rw[e1] at h;cases h
  | some x =>
   cases e2:`eN with
   | none=>apply `dq;cases h
   | some ds =>
    apply `dq;apply `fS;unfold c70 at h;split at h
    ·cases e3:jj0 _ with
     | none=>rw[e3] at h;cases h
     | some ys =>
      rw[e3] at h;apply `fS;split at h
      ·cases h
       done;refine`aPh;rw[T5] at r1;subst r1;refine`aPi;skip;let#[w,rfl,r3]:=yp0 r2;rw[S7] at r3;let#[a,zs,rfl,q,rr]:=r3;have:=Z60 rr e3;subst this;done;exact#[_,a,ys,rfl,rfl,`ge,`uh,k _ H2 `mz `JL]
      ·cases h
    ·cases h
def h00:FnR K (`h6 (∃p ys,`Dm/\((`ajC/\`aA_)∨(`ajD/\Q `kg H)))) ss0:=by
 apply `x7;unfold ss0 at h;split at h
 ·skip;cases h
  apply `jC;rw[S7] at r1;apply `x8;done;exact#[a,ys,rfl,`n #[`ge,`ayB gy0]]
 ·skip;cases h
  apply `jC;have J:=r1;rw[Q5] at r1;apply `x8;done;exact#[a,ys,rfl,`p #[`ge,k _ H `vm J]]
 ·cases h
universe zz
section
variable{a:`J}{p:Pos}{ga:`cY}
theorem wp0(h:`cA):PD X (`X2 .USub a pos) (unG O2 ga):=.mk λB δ=>(Gr0 Jj0 `dk).imp fun σ H Q hq92=>by
 apply `bG hq92
 unfold unG at h;cases e1:`ex with
 | none=>rw[e1] at h;cases h
 | some x =>
  rw[e1] at h;apply `BA x O2
  subst h;exact#[_,en,e1,`Bx #[_,`aPb,k _ H' s `An]]
def FnD(P:`ai)(w:`Q)(K:`z)(mg:`a3)(base:`D)(x:Str)(k:Nat)(ps:`i)(f:`U):Prop :=
 ∃(fa:`e) (fd:`e5),`am k ps (spD K f)/\`RH
def O8{k:Nat}{f:`U}(C:`aPj)(hr:`tD)(hk:k<=m)(ha:`k7)(hg:`fR)(hdb:`aQ)
  (he:`dn) (hpl:`eE):`Ff:=by
 apply `ajH;exact L70 F `jD hm kp hb ha hg hdb he hpl
theorem gh0{sc scope:`cT}{elt iter tg:`J}{ifs:`bQ}{N N':`i}{n:Nat}{caps:`h}{gi:`fO}{idx:`h}{f:`a?}{gt:`ho}{ge:`cY}
  (ok:`tE) (hidx:∀j∈idx,j<n) (hi:`ii)
  (hg:`jA) (ht:`x4) (he:`tB)
  (hc:`k!) (hsc:`x9) (hN:`x') (hs:`e7) :
  `aOI:=`ajp No0 `x!
theorem Qf0(i:Nat){y:Str}{py spos:Pos}{sc scope:`cT}{elt iter tg:`J}{ifs:`bQ}{N N':`i}{n:Nat}{caps:`h}{gi:`fO}{idx:`h}{f:`a?}{gt:`ho}{ge:`cY}
  (hnd:`Pj) (ok:`tE) (hidx:∀j∈idx,j<n) (hi:`ii)
  (hg:`jA) (ht:`x4) (he:`tB)
  (hc:`k!) (hsc:`x9) (hN:`x')
  (hiN:`pV) (hy:`k9)
  (hsw:`aif)
  (hs:`e7)
  (hf:`ju) :
  `aOJ:=Yi0 i (hN▸hnd) hc hsc `x! hidx hi hg ht he hiN hy hsw hs hf
universe zz
universe DL
namespace DL
open Spec PyProof.Rows
@[simp] def fz:D->Sl
 | `C [`eB,`eB]=>.un
 | `C (`ce::_)=>.un
 | `C [`cW,`EU]=>.un
 | d=>.sh (unl d)
@[simp] def Z80:Sl->Sl
 | `uM=>fz d
 | s=>s
@[simp] def frz(δ:Ds):Ds:=δ.map Z80
@[simp] def flat:`dZ
 | `y=>`d|`cb=>`d|`cW=>`d|`ce=>`d|_=>`m
@[simp] def ut0(g:GE):GE:=fun δ=>`ajI λd=>`o `p0 `bk `f
@[simp] def U40(g:GE):GE:=fun δ=>`vS
@[simp] def wj0(i:Nat)(g:GE):GS:=`xO λd=>.nx `so
abbrev GX:=Ds->`aB (D×Ds)
@[simp] def V4(g:GE):GX:=`xO λd=>(d,δ)
variable{gx:DL.GX}
@[simp] def yi0(gx:GX)(ft:`a?):GS:=`kC `RI ((ft r.1 r.2).map .nx)
@[simp] def Z3(gx:GX):GS:=`kC `Fs (.nx r.2)
@[simp] def owL(i:Nat)(δ:Ds):`ul:=match `c4 with
 | `aPk=>`nY
 | _=>`f
@[simp] def wz0(i:Nat)(g:GE):GX:=fun δ=>`ajJ λds=>`k? λd=>`o (`bN<`W) (`c (`y,`aPl)) `f
@[simp] def wy0(i:Nat)(g:GE):GX:=fun δ=>`ajJ λds=>`k? λd=>match d with
 | `l_=>`o (`bN+`g9<=`W) (`c (`y,`aPm)) `f
 | _=>`f
@[simp] def jg0(i:Nat):GX:=fun δ=>`ajJ λds=>(`aPn).map λd=>(d,`aPo)
abbrev J6:=`ZE
@[simp] def yy0:D->`aB J6
 | `bD=>`c (`n i)
 | `c3=>`c (`pv)
 | _=>`f
def qu0:`l->`aPp
 | []=>`wl
 | `aC=>`RJ λk=>(`RK).map (k::·)
@[simp] def qp0:D->`aPp
 | `dg=>`RK
 | _=>`f
def vz0{κ:Type}[`nd]:`ne->`l->κ->`d_
 | `la,`aC,q=>`o (k=q) `bk `ajK
 | _,_,_=>`f
def y70{κ:Type}[`nd](ks:`ne)(k:κ):`I:=ks.any λq=>`ap (q=k)
def xi0{κ:Type}[`nd](ks:`ne)(k:κ):`ne:=`o (`Cz=`d) ks (ks++[k])
def xj0{κ:Type}[`nd](ks:`ne)(ds:`l)(q:κ)(v:D):`l:=`o (`tF=`d) (`aPq (`av')) (ds++[v])
@[simp] def gp0(i:Nat)(δ:Ds):`aB (`aPr):=match `c4 with
 | `oX (`E7)=>`c (ks,ds)
 | _=>`f
@[simp] def putAt(i:Nat)(g:GE):`a?:=λv δ=>`aPs λr=>`k? λd=>`RJ λk =>
 `a! (r.1.length<`W) (`co (`df (`n (xi0 r.1 k)) (xj0 r.1 r.2 k v)))
@[simp] def p20:`br
 | `k1,d=>match ks with
  | `AC=>`RJ `aPt
  | `E3=>(qp0 d).bind `aPt
 | _,_=>`f
@[simp] def ve0(neg:`I):`br
 | d,`k1=>match ks with
  | `AC=>(yy0 d).map `aPu
  | `E3=>(qp0 d).map `aPu
 | _,_=>`f
def J4(gt:GB)(G:GS):Nat->`jv
 | 0,_=>`f
 | n+1,δ=>match `jX with
  | `bY=>`wm
  | `e9=>match G δ with
   | `eZ=>`aPv
   | `aij=>`aPv
   | `aik=>`eZ
   | r=>r
  | `f=>`f
@[simp] def ak0(i j:Nat):`a?
 | `C [a,b],δ=>`c ((`g_ i (.sh a)).set j (.sh b))
 | _,_=>`f
mutual
def deq:D->`dZ
 | `y,y=>`ahu
 | .bl a,y=>`ahv
 | `EJ,y=>`ahw
 | `ja,y=>`ahx
 | `fo,y=>(match y with|`Jl=>`RL|_=>`m)
 | `dv,y=>(match y with|`Ad=>`RL|_=>`m)
 | _,_=>`m
def we0:`l->`vq
 | [],[]=>`d
 | `m5,y::ys=>`sa&&`RL
 | _,_=>`m
end
mutual
def lean:D->Nat->`I
 | `pW,_=>`m
 | `pX,_=>`m
 | `fo,n+1=>`ajL
 | `dv,n+1=>`ajL
 | `EU,0=>`m
 | `eB,0=>`m
 | _,_=>`d
def leans:`l->Nat->`I
 | [],_=>`d
 | `m5,n=>lean x n&&`ajL
end
@[simp] def fc0(x y:D):`d_:=`a! `Ov (.bl (`sa))
@[simp] def f50(x y:D):`d_:=`a! `Ov (.bl (!`sa))
@[simp] def eqF:D->`dZ
 | `y,y=>`ahu
 | .bl a,y=>`ahv
 | `EJ,y=>`ahw
 | `ja,y=>`ahx
 | _,_=>`m
@[simp] def u50(neg:`I):`br
 | x,`Ad=>`aPw
 | x,`Jl=>`aPw
 | _,_=>`f
@[simp] def intOfD:`U
 | [`bD]=>`BF
 | [`wW]=>`c (`acN)
 | _=>`f
@[simp] def xr0:`U
 | `EZ=>`xQ
 | [`dg]=>`xQ
 | _=>`f
def mkF(n:Nat)(N:`i)(G:GS)(ds:`l):`d_:=if `p1 then (match `oN with
 | `v1=>`bk
 | `r8=>`aPx
 | `c (.nx _)=>`xs
 | _=>`f) else `f
def G3{d:D}(h:`aPy):`p1/\`aOL:=by
 unfold mkF at h;split at h
 ·rename_i hl
  refine`ajM;split at h
  ·rename_i e;cases h;exact `td
  ·rename_i e
   split at h
   ·cases h
   ·rename_i hn
    cases h;apply `jt `aPz
  ·rename_i e;cases h;exact `p (`n #[rfl,_,e])
  ·cases h
 ·cases h
def mkN(n:Nat)(N:`i)(G:GS)(ds:`l):`d_:=if `p1 then (match `oN with
 | `r8=>`aPx
 | _=>`f) else `f
def te0{d:D}(h:`aPA):`p1/\`acY:=by
 unfold mkN at h;split at h
 ·rename_i hl
  refine`ajM;split at h
  ·rename_i e
   split at h
   ·cases h
   ·rename_i hn
    cases h;exact`aPz
  ·cases h
 ·cases h
def K6{d:D}(hl:`p1)(h:`avp)(hn:`H (`Ka) Aa):`aPA:=by
 unfold mkN;rw[`rY,h];simp only[];rw[hn];rfl
@[simp] def M6(g:GE):GS:=`xO .rf
@[simp] def mm0(i:Nat):GS:=fun δ=>match `c4 with
 | `r'=>`r8
 | _=>`f
def R5{G1 G2:GS}{δ:Ds}{d:D}(h:`eY=`r8):`QO=`r8:=`ait
def zq0{g:GE}{δ:Ds}{d:D}(h:`jx):M6 g δ=`r8:=by unfold M6;rw[h];rfl
def U5{d:D}(hl:`p1)(h:`aBe):`aPy:=by
 unfold mkF;rw[`rY,h]
theorem t8{G1 G2:GS}{δ:Ds}{r:`zW}(h:`ais)(k:`RM):`QO=r:=(J00 h).trans k
@[simp] def m8:`br
 | `bD,`iQ=>`c (`LF)
 | `c3,`ok=>`a! (`rF+`Ml<=`W) (`u (x++y))
 | `dv,`Ad=>`aPB
 | `fo,`Jl=>`o `L! (`c (`ahh)) `f
 | _,_=>`f
@[simp] def V9:`br
 | `bD,`iQ=>`aPC
 | _,_=>`f
@[simp] def slA(d:D)(lo hi:`aP):`d_:=match d with
 | `nV=>`o `wj (`c `aOW) `f
 | `dv=>`o' `ajN
 | `fo=>`c (`C (`ajN))
 | _=>`f
@[simp] def K3(g:GE)(gl gh:GO):GE:=`gw λd=>`aPD λl=>`aPE λh=>slA d l h
universe DL
variable{gx:DL.GX}
namespace Dep
open Spec PyProof.Rows
section
variable{w:`Q}{K:Type}[`Ip K]{knd:`aPF}{s:`w}{d:`e}{xs:`aPG}{k:K}{v:`B}{Q:`dW}
def At(knd:`aPF)(h:`D)(d:`e)(xs:`aPG):Prop :=
 `aEG (`fZ d=`aq) knd ((∀x∈xs,knd.is h x.1 x.2.1)/\`aEH)
def At.old{h:`D}(x:At knd h d xs):h.DictOfH knd d xs:=by skip;let#[o,es,ep,a,b,c,e,f,g,_]:=x;done;exact#[o,es,ep,a,b,c,e,f,g]
def put(hu:knd.room A)(hkey:`aPH)(hm:`aPI)
  (hQ:`aPJ) (hsz:`pw) :
  `bJ (`aPK) s:=by
 skip;let#[o,es,ep,ho,hc,hd,he,J,hn,hp]:=hm;done;unfold dictSet
 apply `ED
 apply `h8 knd.pyHash hu hkey;unfold dictSetHashed
 apply `ED
 refine A0 (wpAny_dictFind_heap (s:=`ajO) hu hkey ho hd he J hn ?_ ?_)
 ·intro U
  have O:=atKey_none_of_get U;have Y:k∉`LB `cD:=not_mem_keys_of_get U;refine A0 (d5 (wpAny_updateDictKeys (hz:=by have e:=size_of_entries he;lia) (s:=`ajO) ho hd (hQ _ ?_ `ajP)));rw[storedH_new O];refine#[_,_,ep+1,E2 _ ho (`aPL (`aPM)),hc.mapDictKeys _,`aPM,by simp[he,`ajQ],`m!,?_,`air]
  ·rcases `XC with hx|hx
   ·exact `ajR (J x hx)
   ·rw[`dK hx];exact `ajR hkey
  ·rw[`aU,`RN]
   exact#[hn,`a7,λx hx y hy e=>Y (by rw[`ag,`mx,`aPN] at hy;have e2:x=k:=e.trans hy;rw[← e2];exact hx)]
 ·intro j p hj
  have Z:=atKey_of_get hn hj;refine `kR d5 (wpAny_updateDict (s:=`ajO) ho hd (u7 (hQ _ ?_ `ajP)));rw[storedH_old Z];refine#[_,_,ep,E2 _ ho (`aPL (`aPO)),hc.mapDict _,`aPO,?_,`m!,?_,`air]
  ·have:=modify_map_putAt (`ajQ knd) (λe:DictEntry=>{ e with val:=v }) k v (λ_ _=>rfl) hn hj
   rw[← he] at this;let#[l]:=es
   apply `Db
  ·apply `ajS
   unfold putAt;split<;>exact `ajR (J y hy)
  ·rw[keys_map_putAt];exact hn
def set(hu:knd.room `h1)(hkey:`aPH)(hm:`aPI)
  (hQ:`aPJ) (hsz:`pw) :
  `bJ (`Ko (`X d) `cu v) s:=by
 have ty:=hm.old.typeIs;unfold setItem
 apply `ED
 apply `h8 Ai0 ty `v;refine A0 (i3 (name:=`Cn `aPP) ty `aPQ (P3 `aPQ ty entry_dict_setitem ?_ (args_dict_setitem _ _ _)));show `c! (Builtin.Dict.notOrdered `aPP #[[`X d,`bZ,v],[]]>>=_) s;apply `m_ wpAny_notOrdered_dict ty;show `c! (`aPK>>=_) s;exact A0 (put hu hkey hm (λh' O J=>A1 #[`al,rfl,A1 (hQ h' O J)]) hsz)
universe zz
universe Dep
namespace L2
open Spec PyProof.Rows
section
variable[`nd]
def xd0(kvs:`hk)(k:κ):`ea:=(kvs.find? `YL).map `iA
def putK(kvs:`hk)(k:κ)(v:V):`hk :=
 if `RO=`d then `N6 (λkv=>`o `Kc (kv.1,v) kv) else kvs++[(k,v)]
def qk0{p:κ×V}{r:`hk}{k:κ}(e:p.1=k):`aPR=`wb:=`aPS
def qe0{p:κ×V}{r:`hk}{k:κ}(e:¬p.1=k):`aPR=xd0 r k:=`aPS
theorem bp0(k:κ):∀kvs:`hk,`RO=(`l5).isSome
 | []=>rfl
 | p::r=>by
  rw[`pP]
  apply `Ft
  ·simp only[qk0 e,`b0 e,Bool.true_or,Option.isSome_some]
  ·rw[qe0 e,`bE e,Bool.false_or];exact bp0 k r
def sa0(kvs:`hk)(k:κ)(v:V):`av7<=`jW+1:=by
 unfold putK;split
 ·rw[`S];lia
 ·rw[`Z,`T,`n1];lia
def RelO.isSome_eq{o:`ea}{u:`gF}(r:RelO o u):`Fu=u.isSome:=by
 cases o with
 | none=>cases u with
  | none=>rfl
  | some _=>apply `PM
 | some _=>cases u with
  | none=>apply `PM
  | some _=>rfl
def KV.val{kvs:`hk}{vs:`xl}(r:`p2)(k:κ):RelO `RP (`aPT):=by
 unfold KV at r
 induction r with
 | nil=>exact `lZ
 | @cons p q ps qs h t ih =>
  apply `ajT
  apply `Ft
  ·have e':q.1=k:=`aaU
   have b:`aPU=`c q.2:=`aPV
   rw[qk0 e,b];exact h2
  ·have e':¬q.1=k:=`aaV
   have b:`aPU=`L? qs k:=`aPV
   rw[qe0 e,b];exact ih
def KV.any{kvs:`hk}{vs:`xl}(r:`p2)(k:κ):`RO=`aPW:=by
 unfold KV at r
 induction r with
 | nil=>rfl
 | cons h t ih=>rw[`pP,`pP,ih,h.1]
def KV.repl{kvs:`hk}{vs:`xl}(r:`p2)(k:κ){y:V}(ry:`fM) :
  KV `aPX (`rP λkv=>`o `Kc (kv.1,u) kv):=by
 unfold KV at r ⊢
 induction r with
 | nil=>exact `R
 | @cons p q ps qs h t ih =>
  rw[`ag,`ag];refine `aPY;apply `ajT
  apply `Ft
  ·rw[`gy,`aPZ];exact#[h1,ry]
  ·rw[`e?,`aP_];exact`aP0
def KV.put{kvs:`hk}{vs:`xl}(r:`p2)(k:κ){y:V}(ry:`fM):KV (`Kd y) (stored vs k u):=by
 unfold putK stored;rw[r.any k]
 by_cases e:(`aPW)=`d
 ·rw[`gy,`gy];exact `aP1
 ·rw[`e?,`e?];exact `aP2 r #[rfl,ry]
theorem KV.length{kvs:`hk}{vs:`xl}(r:`p2):`jW=`dz:=`aeJ r
universe zz
def nm0{P:`ai}{w:`Q}{k:Key}(r:`aP3):(J9 P w).is k u=`d:=by
 cases k with
 | inl i=>apply `aHZ;subst e;exact Zz0 P w i t
 | inr x=>apply `aH_;subst e;exact Y30 P w x t
theorem e80{P:`ai}{w:`Q}:∀{ks:`hy} {us:`K},`bU (`Ma) us->ItemsAre `BS ks us
 | [],_,r=>`aOT
 | `la,_,r=>by
  rw[`ag] at r;cases r with
  | cons h t=>exact `aa (nm0 h) (e80 t)
abbrev KT(H:Hp):`kS->`s3->Prop:=`b' λp q=>`aEF
def KT.val{kvs:`kS}{xs:`s3}(r:`x?)(k:`hy):RelO `RP (`aP4):=by
 induction r with
 | nil=>exact `lZ
 | @cons p q ps qs h t ih =>
  let#[h1,_,h2]:=h
  apply `Ft
  ·have e':q.1=k:=`aaU
   have b:`aP5=`c q.2:=`aP6
   rw[qk0 e,b];exact h2
  ·have e':¬q.1=k:=`aaV
   have b:`aP5=atKey qs k:=`aP6
   rw[qe0 e,b];exact ih
def KT.repl{kvs:`kS}{xs:`s3}(r:`x?)(k:`hy){y:V}(ry:`fM) :
  KT H `aPX (`LB (`DF k u)):=by
 induction r with
 | nil=>exact `R
 | @cons p q ps qs h t ih =>
  rw[`ag,`ag];refine `aPY;let#[h1,h2,h3]:=h;unfold putAt
  apply `Ft
  ·rw[`gy,`aPZ];exact#[h1,h2,ry]
  ·rw[`e?,`aP_];exact#[h1,h2,h3]
def KT.put{kvs:`kS}{xs:`s3}(r:`x?)(k:`hy){b:`e}{y:V}(hb:`Fv)(ry:`fM) :
  KT H (`Kd y) (storedH xs k b u):=by
 have e:`RO=`aP7:=by
  rw[bp0,(r.val k).isSome_eq,`ajU]
 unfold putK storedH;rw[e]
 by_cases q:`aP7=`d
 ·rw[`PQ,`PQ];exact `aP1
 ·rw[`Ex,`Ex];exact `aP2 r #[rfl,hb,ry]
theorem KT.keeps{kvs:`kS}{xs:`s3}(r:`x?)(ht:∀b ys,H b=`abg->H' b=`abg):KT H' kvs xs :=
 `aEQ r λ_ _ z=>`aER
section
variable{P:`ai}{w:`Q}{h:`D}
theorem N80{u:HO}(ok:`fL)(e:Rd H a u):`aEW:=e.ok ok
theorem k70(ok:`fL)(e:`ajV):`aeS :=
 show `vL `J' from N80 ok e
theorem ca0(ok:`fL)(e:`Fw):`aeS:=k70 ok (`td)
def my0(ok:`fL)(e:H a=`c `aP8):`aP9 h ks a:=by
 skip;let#[_,its,r,o,h1,h2,n,h3,_]:=(show `vL `aP8 from ok a _ e);done;exact#[o,`b4,n,h1,h2,h3,`bl (e80 r)]
def Ss0{kvs:`kS}(ok:`fL)(e:`RQ):`vJ/\`vK /\
  ∃xs,`x?/\Dep.At `aeT h a xs:=by
 skip;let#[z,y,xs,r,o,es,ep,h1,h2,h3,h4,h5,h6]:=(show `vL `YM from N80 ok e);done;refine#[z,y,xs,r,o,es,ep,h1,h2,h3,h4,`m!,h5,h6];have all:∀{l:`kS} {m:`s3},KT H l m->∀x∈m,`aP9 h x.1 x.2.1:=by
  intro l m q
  induction q with
  | nil=>intro x hx;exact nomatch hx
  | @cons p q ps qs hq t ih =>
   intro x hx;rcases `Xk with e|hx
   ·subst e
    exact my0 ok (`bR hq.1 hq.2.1)
   ·exact ih x hx
 exact all r x hx
def g40{kvs:`kS}(ok:`fL)(e:`RQ):`vJ/\`vK /\
  ∃xs,`x?/\h.DictOfH `aeT a xs:=by
 let#[z,y,xs,r,d]:=Ss0 ok e;exact#[z,y,xs,r,d.old]
universe zz
def DGet(H:Hp)(a:`e)(y:V)(r:`ea):Prop :=
 (∃kvs k,`ajV/\y=kV k/\r=`l5)∨∃kvs k b,`RQ/\`EE/\`Fv/\r=`l5
def DPut(H:Hp)(a:`e)(y v:V)(H':Hp):Prop :=
 (∃kvs k,`Fw/\y=kV k/\`Fx/\H'=`ajW) ∨
 ∃kvs k b,`aP'/\`EE/\`Fv/\`Fx/\H'=upd H a (.dT (`ZK))
theorem DGet.k{k:Key}(e:`Fw):DGet H a `aaW `RP:=`n #[kvs,k,`td,rfl,rfl]
theorem DGet.t{b:`e}{kvs:`kS}{k:`hy}(e:`aP')(eb:`Fv):DGet H a `Md `RP:=`p #[kvs,k,b,`td,rfl,eb,rfl]
theorem DPut.k{k:Key}(e:`Fw)(hl:`Fx):DPut H a `aaW v (`ajW):=`n #[kvs,k,e,rfl,hl,rfl]
section
variable{σ:St}{s:`w}{y:V}{r:`B}{o:`ea}
def Inv.big(I:`A):`IF<`Y:=by
 have h:`f4<`Y:=(`aAO).lt;exact N4 `v h
def S60(hu:`EN)(I:`A)(g:DGet H a y `uF)(ry:`fM)(h:`aP! v) :
  `dB `cI (`oO `cu u):=by
 skip;apply `ajX
 ·subst ey
  apply `ajY;let#[w',hw,J]:=`acO (v:=v) (o:=`aPT) `aP?;done;exact wpAny_getItem_of `Fy `ajZ hw (`aQa)
 ·subst ey
  apply `RR;apply `aj_;let#[w',hw,J]:=`acO (v:=v) (o:=`aP4) `aP?;let#[p,hp,O]:=u4.mp hw;done;refine wpAny_getItem_heap `RS `RT dd hp ?_;rw[O];exact `aQa
def Fx0(hu:`EN)(I:`A)(g:`aj0)(ry:`fM)(h:∀s',`LI->Q (`gW `Fu) s') :
  `dB `cI (`Pm .In u `cu):=by
 skip;apply `ajX
 ·subst ey
  apply `ajY;done;refine wpAny_in_of `Fy hd `ajZ ?_;rw[← `RU,← l];exact `RV
 ·subst ey
  apply `RR;apply `aj_;done;refine wpAny_in_heap `RS `RT hd dd ?_;have q:=`RU;rw[`ajU] at q;rw[← q,← l];exact `RV
def Lo0(hu:`EN)(I:`A)(g:`aj0)(ry:`fM)(h:∀s',`LI->Q (`gW (!`Fu)) s') :
  `dB `cI (`Pm `xy u `cu):=by
 skip;apply `ajX
 ·subst ey
  apply `ajY;done;refine wpAny_notIn_of `Fy hd `ajZ ?_;rw[← `RU,← l];exact `RV
 ·subst ey
  apply `RR;apply `aj_;done;refine wpAny_notIn_heap `RS `RT hd dd ?_;have q:=`RU;rw[`ajU] at q;rw[← q,← l];exact `RV
theorem lg0{t':Nat}{ob:HO}(I:`A)(mu:Mut (H a))(hs:`aFI)(he:`aj1)(new:`Ea `aQb a ob) :
  `a0 `aQb `oA :=
 `agO (x:=a) (e:=a) mu `c0 (λb q hb z=>`xh b hb z) he new
theorem cx0{P:`ai}{w:`Q}{H':Hp}{vs:`aj2}(z:`vJ)(hd:`vK)(rel:`p2)(dd:h'.DictOf `BS a vs) :
  `h' P w H' h' a `J':=#[z,hd,vs,rel,dd]
def Td0{Q:`dW}(hu:`EN)(I:`A)(g:DPut H a y v H')(ry:`fM)(rv:`d1 v r)(h:∀s',`m3->`Eb) :
  `dB `cI (`Ko `cu u r):=by
 skip;rcases g with⟨kvs,k,e,ey,l,eH⟩|⟨kvs,k,b,e,ey,eb,l,eH⟩
 ·subst ey eH
  apply `aQc;apply `aQd
  apply `aj3
  done;refine wpAny_setItem_pairs (hsz:=hz) `Fy dd `aQe
  have he:`aj1:=`aj4
  exact `aQf
 ·subst ey eH
  apply `RR;let#[z,hd,xs,rel,dd]:=Ss0 `b2 (`td);have hz:`pw:=`bR (`aeJ rel) z
  apply `aj3
  done;refine Dep.set `RS `RT dd (`aQe) hz;skip;let#[q,es,ep,hq,h2,h3,h4,_,h5]:=J;done;refine lg0 I `Mb hs `av8 #[hl,hd,_,(rel.put k eb rv).keeps λc ys ec=>?_,q,es,ep,hq,h2,h3,h4,h5];rw[m7 (Hf0 ec e `hM)];exact ec
universe zz
def Vb0(i:`J):Prop:=∀ov iv,`Qh i `m ov iv=`_L [ov,iv] (`oO ov iv)
def K20{prog:`ai}{w:`Q}{A:`cf}{E:`an}{s:`w}{env:Env}{value slice:`J}{pos:Pos}{T id:`cq}{Q:`an}
  (hl:`aJA) (hs:Vb0 `tk)
  (h:`Ey (`bV `g2 env) λo s₁=>`aD `dE A (`bV `tk env) (λi s₂=>s₂.TypeIs o T/\`bJ (`oO o i) s₂) E `eD) :
  `bJ (`bV (`lS `g2 `tk pos) env) s:=by
 refine `Qb (D0 h (λo s₁ h₁=>D0 h₁ (λi s₂ h₂=>?_) `s0) `s0);let#[hT,h₂]:=h₂;unfold subscriptTail;refine `rz;rw[getitemInPython_of_ne hT.not_modules];apply `h8 E6 hT hl;have fin:`aD `dE A (`Qh `tk `m o i) (λr s₃=>`bJ (letTemporaryGo `g2 o r>>=λ_=>`ct r) s₃) E s₂:=by
  rw[hs o i];exact wpAny_operating (D0 h₂ (λr s₃ h₃=>A0 (wpAny_letTemporaryGo (A1 h₃))) `s0)
 first
  | exact `aQg
  | exact A0 (`aQg)
  | exact A0 fin
def Y70{σ:St}{s:`w}{y:V}{o:`ea}(I:`A)(g:`aj0):`aQh := by
 skip;rcases g with⟨kvs,k,e,_,_⟩|⟨kvs,k,b,e,_,_,_⟩
 ·let#[_,_,vs,_,dd]:=`ZL
  done;exact `Mc
 ·let#[_,_,xs,_,dd]:=`ZM
  done;exact `Mc
def Hs0(td ty:TE):TE:=`bm td (`ta ty λy H2=>∃a v,`ek/\DGet H2 a y `uF/\Q v H2)
def Fv0(ty td:TE):TE:=`bm ty λy H1=>`aQi `Fu
def M20(ty td:TE):TE:=`bm ty λy H1=>`aQi (!`Fu)
section
variable{i:`J}
def Yn0(hu:`lb)(ho:`RW)(hi:`aj5)(hs:Vb0 i):PE X `afU (Hs0 td ty):=by
 apply `bh;refine K20 PySem.F.slot_dict_getitem.lookup hs (thn `El λu s1 hq93=>?_);let#[x,H1,I1,rx,q1]:=hq93;refine thn `aGA λiv s2 hq94=>?_;skip;let#[y,H2,I2,ry,a,v,ex,g,q2]:=hq94;subst ex;apply `pJ;done;exact#[Y70 I2 g,S60 hu I2 g ry λw' s3 I3 J=>#[v,H2,I3,J,q2]]
def Jy0(hu:`lb)(hi:`aj5)(ho:`RW):PC X .In i o (Fv0 ty td):=by
 apply `bh;refine thn `Es λiv s1 hq95=>?_;let#[y,H1,I1,ry,q1]:=hq95;refine thn `aQj λu s2 hq96=>?_;skip;let#[x,H2,I2,rx,a,ov,ex,g,q2]:=hq96
 subst ex;apply `pJ;done;exact `aQk Fx0 ov.isSome
def Sq0(hu:`lb)(hi:`aj5)(ho:`RW):PC X `xy i o (M20 ty td):=by
 apply `bh;refine thn `Es λiv s1 hq97=>?_;let#[y,H1,I1,ry,q1]:=hq97;refine thn `aQj λu s2 hq98=>?_;skip;let#[x,H2,I2,rx,a,ov,ex,g,q2]:=hq98
 subst ex;apply `pJ;done;exact `aQk Lo0 (!ov.isSome)
universe zz
theorem by0{P:`ai}{w:`Q}(h:`D)(hb:`IF<`dy):`h' P w H (h.push `Yz) `dy (`ya) :=
 #[`bw,`o1 (B4 (B6 hb)),[],`R,Heap.DictOf.new h]
def Ij0:TE:=λ_ H Q=>`m6 `ez H (`ya)
theorem Qm0:PE X `aQl Ij0:=λpins s σ H Q I h =>
 wpAny_Dict_empty #[`lv,_,`tf (a:=`Y) (o:=`ya) (t':=`cv) `ahL `bF (by0 `aA I.big),rfl,h _ `Kr]
def iq0:`Fz->`wf `aQm
 | [],_,H,Q=>Q [] H
 | (tk,tv)::r,σ,H,Q=>tk σ H (`ta tv λy H2=>iq0 r σ H2 λps H3=>Q ((x,y)::ps) H3)
abbrev VV:`my->`aQn->Prop:=`b' λp q=>`d1 p.1 q.1/\`aEz
def PPs(X:Cx)(pos:Pos)(keys:`FA)(values:`bQ)(trs:`Fz):Prop :=
 ∀(pins:`au) (s:`w) (σ:St) (H:Hp) (Q:`aQm),`A->`aQo ->
  `cp (evalPairs (pairTrees keys values `O pos)) (λvs s'=>∃ps H',`m3/\VV ps vs/\Q ps H')
theorem Ly0:PPs X pos [] [] []:=λpins s σ H Q I h=>pairTrees_nil_walk `aIk
theorem P80{k v:`J}{ks:`FA}{vs:`bQ}{tk:TE}{trs:`Fz}(hk:PE X k tk)(hv:PE X v tv)(hr:PPs X pos ks vs trs) :
  PPs X pos (`fG::ks) (v::vs) ((tk,tv)::trs):=λpins s σ H Q I h =>
 pairTrees_cons_walk (thn (`b8 hk _ h) λu s1 #[x,H1,I1,rx,q1]=>thn (`l3 hv _) λw2 s2 #[y,H2,I2,ry,q2] =>
  thn (`NX hr σ) λws s3 #[ps,H3,I3,rel,q3]=>#[(x,y)::ps,H3,I3,`aa #[rx,ry] rel,q3])
def sx0(kvs more:`hf):`hf:=more.foldl (λacc kv=>putK acc kv.1 kv.2) kvs
def KV.merge:∀{more:`hf} {rs:`aj2} {kvs:`hf} {vs:`aj2},KV more rs->`p2->KV (`aQp) (merged vs rs):=by
 intro more rs kvs vs r;unfold KV at r
 induction r generalizing kvs vs with
 | nil=>intro q;exact q
 | @cons p q ps qs h t ih =>
  intro r0;have e:KV `aj6 (stored vs q.1 q.2):=by
   have:=r0.put p.1 h.2;rw[← h.1];exact `x
  exact ih e
theorem nu0:∀(more kvs:`hf),(`s `aQp)<=`jW+`aj7
 | [],kvs=>`dQ (`jW<=`jW+0)
 | p::r,kvs=>by
  have h1:=nu0 r `aj6;have h2:=sa0 kvs p.1 p.2;show (`s (sx0 `aj6 r))<=_;rw[`T];lia
theorem jv0{P:`ai}{w:`Q}:∀{kvs:`hf} {ws:`aQn},VV (`N6 `aj8) ws->∃rs,Carries `BS ws rs/\KV kvs rs
 | [],_,r=>by rw[`mx] at r;cases r;exact#[[],`lZ,`R]
 | p::kvs,_,r=>by
  rw[`ag] at r;cases r with
  | @cons a b as bs h t =>
   let#[rs,c,q]:=jv0 (P:=P) (w:=w) t;let#[b1,b2]:=b;exact#[(p.1,b2)::rs,#[nm0 h.1,rfl,c],`aa #[rfl,h.2] q]
def Gx0(trs:`Fz):TE:=`cw (∀p,`ez->iq0 trs σ (upd H p (`ya)) λps H2=>H2 p=`c (`ya)/\∃kvs:`hf,ps=`N6 (`aj8)/\`jW<=15/\Q `kg (upd H2 p (.dK (sx0 [] kvs))))
def Nu0{keys:`FA}{values:`bQ}{trs:`Fz}(h:PPs X pos keys values trs)(hall:`aQq)(hl:`RX=values.length)(h0:keys≠[])
  (h15:`RX<=15):PE X (.Dict keys values pos) (Gx0 trs):=by
 intro pins s σ H Q I q;have hn:=`rM (A2 `Y);have I1:=`tf (a:=`Y) (o:=`ya) (h':=`OS) (t':=`cv) `ahL `bF (by0 `aA I.big);refine wpAny_Dict_walk (knd:=`aQr) hall hl h0 h15 (thn (h `r _ σ _ _ I1 (q _ hn)) λws s2 hq99=>?_);skip;let#[ps,H2,I2,rel,e,kvs,ep,lk,q2]:=hq99;subst ep;let#[rs,c,rk]:=jv0 (P:=`cB) (w:=X.w) rel;let#[z,hd,O,r0,dd]:=ca0 I2.hok e;cases r0;done;refine#[rs,c,dd,λh' J hs=>#[`lv,_,?_,rfl,q2]];have hz:(`s (sx0 [] kvs))<=`W:=by
  have h1:=nu0 kvs [];rw[`n1] at h1;rw[`xg];lia
 have he:∃q,`ahD=`dt:=`aj4
 exact lg0 I2 `Mb hs he (cx0 hz hd (rk.merge `R) J)
structure M2(X:Cx)(o:`J)(m:Str)(apos:Pos)(e f:`J)(cpos:Pos):Prop where
 base:`wh o m `O `afV=`nU
 few:(`aQs
 &&`aQt)=`d
 line:`atQ
 trees:`aQu
def IsD(H:Hp)(a:`e):Prop:=(∃kvs,`ajV)∨∃kvs,`RQ
def I90{σ:St}{s:`w}(I:`A)(d:IsD H a) :
  `aQh/\(∀b,`q3=`u9->∃ob,`qK=`O6/\`aKs)/\`vK:=by
 rcases d with⟨kvs,e⟩|⟨kvs,e⟩
 ·let#[_,hd,vs,_,dd]:=`ZL
  refine`aQv;skip;cases q;apply `aQw;done;exact`aQx
 ·let#[_,hd,xs,_,dd]:=`ZM
  refine`aQv;skip;cases q;apply `aQw;done;exact`aQx
universe L2
namespace DL
open Spec PyProof.Rows L2
section
variable{σ σ':St}{δ:Ds}
theorem Gr.fresh{p:`e}{o:HO}(h:`ez):Gr H `aiP B `v0:=λb u n e=>by
 have hb:b≠p:=V5 e h;exact#[λz=>`eA n hb,`k (m7 hb) e]
theorem Gr.own{o:HO}(h:B a):Gr H `g8 B B:=λb u n e=>#[n,`k (m7 (λz=>n (`k z h))) e]
def RpO.mono{d:D}(s:`E1)(g:`eF)(h:`jy):RpO K H' B' d a:=by
 apply `Q_
 ·apply `pT;exact#[xs,s _ e,`w0]
 ·apply `aiB;exact#[xs,s _ e,l,`w0]
def RpG.mono{d:D}(s:`E1)(g:`eF)(h:`m?):RpG K H' B' d a:=by
 cases d with
 | tup es=>apply `aiI;exact`aQy
 | _=>exact(RpO.mono s g `Q4).toG
def RpL.mono{d:D}(s:`E1)(g:`eF)(h:`mv):RpL K H' B' d a:=by
 skip;cases d with
 | tup es =>
  apply `aiK
  ·done;exact `n #[d',q,`aj9 s g r]
  ·done;exact `aM_ (s _ e) `w0
  ·done;apply `jt `aQy
 | _=>done;exact(RpO.mono s g `E').toL
theorem Pd.get'{F:`kT}:∀{l:`a6} {m:`s4} {i:Nat} {a:α},`r7->`tx->∃b,`aiM/\`BT
 | _,_,_,_,`R,e=>`OX
 | _,_,0,_,`aeK,e=>`aeL
 | _,_,i+1,a,`xk,e=>by
  let#[u,h1,h2]:=`wy (i:=i) (a:=a) t `D1;exact`aeM
def Pd.impI{F G:`kT}:`aaz ((∀(i:Nat) a b,`tx->`aiM->`avK)->`ayb):=by
 intro l m h p
 induction p with
 | nil=>exact `R
 | cons r t ih=>exact `aa (h 0 _ _ rfl rfl r) (ih λi a b e1 e2=>h `fp a b (`aMI) (`bl e2))
theorem aw0:∀{l:`a6} {i:Nat} {a:α},`tx->`aiN=l
 | [],_,_,h=>`ic
 | x::l,0,a,h=>by simp at h;subst h;rfl
 | x::l,i+1,a,h=>by rw[List.set_cons_succ,aw0 `i4]
def Pd.setR{F:`kT}{a:α}{b:β}(r:`BT){l:`a6}{m:`s4}(e:`tx)(h:`r7):`b' F l `aM5:=by
 have:=`E! r i h
 rwa [aw0 e] at this
def get_set{l:`a6}{a b:α}(h:(`aiN)[j]?=`oD):(i=j/\a=b/\j<`bK)∨(i≠j/\l[j]?=`oD):=by
 by_cases e:i=j
 ·subst e
  by_cases hl:i<`bK
  ·rw[`xW] at h
   exact `n #[rfl,A3 h,hl]
  ·rw[`E?] at h;cases h
 ·rw[`lF e] at h
  exact `p #[e,h]
theorem Env.len(e:`bs):`vN=`l9:=`rH `mw
def Env.at(e:`bs){d:D}(h:`avs):∃a,`kh/\`aM4:=by
 let#[o,h1,a,rfl,hb,r]:=`aM9;exact#[a,h1,hb,r]
def Env.mut(e:`bs){d0 d:D}{o:HO}(hi:`FB)(hs:`kh)(r:RpL K `g8 B d a):`aQz:=by
 apply `aQA;rw[hs] at h1;cases h1;refine`aQB
 ·
  have h0:`aQC `g8:=`Ds (λo' s h=>by
   cases s with
   | un=>exact `n `jr
   | ex c n=>apply `ih;exact `aQD
   | sh d=>apply `ih;exact `aQD
   | ow d =>
    apply `RY
    by_cases z:b=a
    ·subst z;exact `aQE
    ·exact `n #[b,e,O,`dw (λo h=>`k (m7 z) h) `oY]) `mw
  apply `aQF;apply `aQG;apply `aQH
  ·exact h
  ·skip;apply `aQI
   ·cases e3;done;exact`N7
   ·done;apply `aQJ
 ·by_cases z':b=a
  ·subst z';exact `tw
  ·rw[m7 z'];exact `aj'
 ·have q1:`aQK:=by
   skip;apply `RZ
   ·done;exact`R_
   ·done;exact`R0
  have q2:`aQL:=by
   skip;apply `aQM
   ·done;exact`R_
   ·done;exact`R0
  let#[d1,q1]:=q1;let#[d2,q2]:=q2;exact `aQN
def EnvS.mut(en:`cx)(s:`be)(b1:`lU)(b2:`lV){d0 d:D}{o:HO}(hi:`FB)(hs:`kh)
  (env:`jK `aQO `so):`iy K `aQO `so:=by
 have h0:=`aQP;have J:i<`l9:=`NS;apply `aQQ
 ·apply `aQR
  rw[`FC];exact s _ _ `aQS
 ·by_cases z:b=a
  ·apply `aQT
   rw[hs] at e1;cases e1;rw[z] at h;exact `aQU
  ·rw[m7 z] at h
   exact `aj! b ob xs (s.nf b ob xs h)
 ·skip;apply `RZ
  ·rw[hs] at h2;cases h2;done;exact h0
  ·done;exact `aQV
def EnvS.take(en:`cx)(b1:`lU)(b2:`lV)(e:`bs)(i:Nat){d:D}{p:`e}(hp:`ez)(s:`be)
  (r:`ayi):`aQW:=by
 apply `aQX
 have J:`ai2:=`aj?;have live:`aQY:=λ{j d' b} h1 h2=>by
  apply `aQZ;rw[h2] at q1;cases q1;apply `aQ_
 apply `aQ0
 ·apply `R1
  ·exact `aaI
  ·exact `p J
 ·refine `aQ1 r.toL
  cases sl with
  | un=>trivial
  | ex c n=>apply `ih;apply `Fl
  | sh d=>apply `ih;apply `Fl
  | ow d=>apply `RY;apply `aQ2
 ·apply `R1
  ·exact`aQ3
  ·exact `tw
 ·skip;apply `R2
  ·apply `R3
   ·done;rfl
   ·apply `aQ4
    ·cases e3
     apply `FD;done;exact `aQ5
    ·done;exact `R4
  ·apply `R3
   ·apply `aQ6
    ·cases e4
     rw[`p3] at h3;done;exact `aQ7
    ·done;exact `aQ8
   ·rw[`p3] at h3
    apply `FD;done;apply `Q8
 ·skip;apply `R2
  ·apply `aQ9
   ·cases e3;done;exact J
   ·done;exact `R4
  ·rw[`p3] at h2
   done;exact `aQ'
def G90{d e:D}(h:DL.fz d=.ow e):`b1:=by
 unfold DL.fz at h;apply `ajq
def Xc0{s:Sl}{e:D}(h:Z80 s=.ow e):`b1:=by
 cases s with
 | ow d=>exact G90 h
 | un=>cases h
 | sh d=>cases h
 | ex c n=>cases h
def RpL.fz{d:D}(l:`E2)(n:¬B' a)(h:`mv):SlR K H B' (`n8) (DL.fz d):=by
 skip;cases d with
 | tup es =>
  rcases h with⟨d',rfl,r⟩|⟨ks,vs,rfl,_⟩|⟨x,ns,rfl,_⟩
  ·cases d' with
   | tup es=>done;trivial
   | _=>done;exact`pH (RpO.rp l n (RpG.toO rfl r))
  ·done;trivial
  ·done;trivial
 | _=>done;exact`pH (RpO.rp l n `E')
def Env.frz(e:`bs):∃B':BS,(`E2)/\(∀a,B a->B' a∨`aa0)/\Env K H B' σ `aQ!:=by
 refine#[`aQ?,`aa1,`jd,?_,λa z=>`oG a z.1,`aRa]
 ·by_cases q:`aa0
  ·exact `p q
  ·exact `n `abr
 ·have:`b' (λo s=>SlR K H (`aQ?) o (Z80 s)) σ δ:=`acZ (λi o s e1 e2 h=>by
   cases s with
   | un=>trivial
   | ex c n=>apply `ih;exact`aRb
   | sh d=>apply `ih;exact`aRb
   | ow d =>
    let#[a,rfl,hb,r]:=h;exact r.fz (`aa1) λz=>z.2 #[i,d,e2,e1]) `mw
  have mp:∀{l:St} {m:Ds} {F:`ea->Sl->Prop},`b' (λo s=>F o (Z80 s)) l m->`b' F l (m.map Z80):=by
   intro l m F h
   induction h with
   | nil=>exact `R
   | cons r t ih=>exact `D2
  exact mp `x
 ·unfold DL.frz at h1
  rw[`cX] at h1;cases q:`c4 with
  | none=>rw[q] at h1;cases h1
  | some s=>rw[q] at h1;exact`aRc
def EnvS.frz(en:`cx):`iy K H `aQ!:=by
 skip;apply `aY;let#[B',c1,c2,J]:=env.frz;done;refine#[`fY,#[B',`jd,λa z=>b2 a (c1 a z),J],λi ds a h1 _=>?_,`oW]
 ·skip;rcases c2 a `aaK with q|⟨i,d,q1,q2⟩
  ·done;exact q
  ·done;exact `G (`wu i d a q1 q2) (`oW a z)
 ·unfold DL.frz at h1
  rw[`cX] at h1;cases q:`c4 with
  | none=>rw[q] at h1;cases h1
  | some s=>rw[q] at h1;exact`aRc
def q20{d:D}(h:`p0)(r:`c'):`aaw:=by
 apply `aka
 ·rw[R3] at r ⊢;exact r
 ·rw[U3] at r ⊢;exact r
 ·rw[Z6] at r ⊢;exact r
 ·rw[T5] at r ⊢;exact r
universe zz
section
variable{st:`a1}{g:GE}{gt:GB}
theorem a90(h:`db):PD X e (ut0 g):=.mk λB δ pins s σ H Q I hq100=>by
 skip;let#[d,en,hq,k]:=hq100
 apply `akb;unfold ut0 at hq;cases e1:`vS with
 | none=>rw[e1] at hq;cases hq
 | some x =>
  rw[e1] at hq
  by_cases hf:`ayo
  ·apply `R5 `yb
   cases hq;done;exact `aRd (q20 hf r)
  ·apply `R5 `R6
   cases hq
theorem ym0{gA:GA}(h:`x0):PDF X `agV (U7 gA) :=
 .mk λB δ=>`aNn fun σ H Q hq101=>by
  apply `bG hq101
  unfold U7 at h;cases e1:`eN with
  | none=>rw[e1] at h;cases h
  | some ds =>
   rw[e1] at h
   by_cases hl:`xP
   ·apply `aiX
    cases h;refine#[ds,en,e1,`La #[`aA9,λp hp=>k _ _ `aRe `aA8 #[vs,j8,r1.mono `Mi]]]
   ·apply `aiY
    cases h
theorem db0:PDF X `aQl `ady:=.mk λB δ=>Qm0.imp fun σ H Q hq102=>by
 apply `bG hq102
 cases h;exact λp hp=>k p _ hp `gh #[[],j8,rfl,`k6]
theorem un0(i:Nat){px:Pos}(h:`x3)(hN:`ej)(hi:`dG)(hx:`ai6)
  (hs:`avS `R7) (hw:`Zy `R7 e)
  (h1:`H (`rW `R7=[`hT `gL `O]) Aa)
  (hf:`s7):PSD X (`h2 `R7 e pos) (wj0 i g):=.mk λH₀ B₀ δ pins s σ H D I hq103=>by
 skip;apply `ba hq103
 unfold wj0 at e1;apply `aY;cases e2:`ax with
 | none=>apply `aj;cases e1
 | some d =>
  apply `aj;cases e1;done;exact `aND (`Rg) λp H' hp s' r=>k _ H' (en.take b1 b2 env i hp s' r)
universe zz
universe DL
namespace L2
open Spec PyProof.Rows
open PySem.AutoSeq1 (wpAny_loadPart')
theorem Ws0(p:`e)(xs:`a5)(k:Nat)(q:`e)(ys:`a5)(m:Nat)(dq:`bq)(sq:`kP)(h0:¬(!xs.isEmpty&&`Qu (`u4+`Ao))=`d)(h1:`u4<=`W)(h2:`u4+`Ao<=`W+1) :
  Meets (Builtin.«list.extend» #[[`fW,`X q],[]]) (λ_ R s=>`dO p=`c (`Du xs k)/\`dO q=`c { cls:=`iS,dict:=dq,data:=`mi ys m,slots:=sq }/\R (`pe `mA) (`f_ s (`CJ p (`oZ λz=>z++ys)))) :=
 .of_wp λprog w A R s h=>by
  skip;let#[hp,g,d,tk,os]:=s;let#[hl,hb,h]:=h;have f1:=AutoSeq1.idx_int;have f2:=AutoSeq1.sub_tuple_tuple;have f3:=AutoSeq1.sub_list_list;have f4:=AutoSeq1.sub_tuple_list;have f5:=AutoSeq1.sub_list_tuple;have J:(xs++ys).size<=`W+1:=`k Array.size_append h2
  done;wp_walk using (i6 hl rfl (hz:=h1) (_hz':=J)),Ap0 hl,Ap0 hb
  exact`aRf
def Qy0(K:`z):`jn:=λx vs H Q=>∃l b xs zs,`ajx/\vs=[`u9]/\`Qt/\`aO3/\`aO4/\Q `y (upd H l `RC)
def g00:MtM X "list.extend" (Qy0 X.K):=by
 apply `Qv;skip;apply `aO5;cases rx;apply `ahM;cases ru;apply `ahN;apply `aO6;let#[#[a4,Z,data2,a2],a3,Y,n2,U]:=`ajy;simp only at Y U;subst Y U;have hl2:=`mb;have a1:`aO8:=`aRg
 have O:¬(!`akc&&`Qu (`aym))=`d:=by
  rw[Pw0 a1,`ayz];exact B7
 done;refine b5 F.slot_list_extend `ahO F.entry_list_extend (F.args_list_extend_2 _ _)
  (Ws0 l `b4 n b `ajz n2 Z a2 O `EK `j) #[e,a3,?_]
 refine`aKN J r2;rw[`Z];lia
def Kj0:`aGv:=λo i v H Q=>∃a H',o=`bZ/\DPut H a i v H'/\Q H'
def set_dict(hu:`lb):Im0 X Kj0:=by
 intro pins s σ H o i v ov iv u Q I ro ri rv h;let#[a,H',rfl,g,q]:=h;cases ro;exact Td0 hu I g ri rv λs3 I3=>#[H',I3,q]
universe L2
namespace DL
open Spec PyProof.Rows L2
section
variable{σ σ':St}{δ:Ds}
def Rps.dropLast(h:`bC):Rps K H B `ayn `ZB:=by
 rw[`aRh,`aRh,h.length];exact h.take _
structure EnvV(K:`z)(H₀:Hp)(B₀:BS)(H:Hp)(σ:St)(δ:Ds)(d:D)(v:V):Prop where
 same:`Re
 ex:∃B:BS,`R8 `c'
 fr:`aNu
 b0:`ai1
theorem EnvV.s{d:D}(h:`FE):`cx:=#[`Q7,let #[B,b1,b2,e,_]:=h.ex;(`sQ e),h.fr,h.b0]
theorem EnvV.mk'{d:D}(h:`cx)(b1:`lU)(b2:`lV)(e:`bs)(r:`c'):`FE:=#[`Q7,#[B,b1,b2,e,r],h.fr,h.b0]
universe zz
def tX(K:`z)(H₀:Hp)(B₀:BS)(δ:Ds)(gx:GX):TE:=`cw (∃r,`cx/\`gS=`dR/\`aRi K r.1)
structure PX(X:Cx)(e:`J)(gx:GX):Prop where
 mk::go:`aRj
instance{X:Cx}{e:`J}{gx:GX}:`e8 `p4 `aRj:=#[PX.go]
def tTG(K:`z)(H₀:Hp)(B₀:BS)(ft:`a?)(d:D)(δ:Ds):TG:=`q' (∃δ',`FE/\ft d δ=`Bv/\∀σ' H',`aNB->Q σ' H')
structure PTG(X:Cx)(tg:`J)(ft:`a?):Prop where
 mk::go:`aRk
instance{X:Cx}{tg:`J}{ft:`a?}:`e8 `aRl `aRk:=#[PTG.go]
section
variable{st:`a1}{g:GE}{gt:GB}
theorem W9(h:`db):PX X e (V4 g):=.mk λH₀ B₀ δ pins s σ H Q I hq104=>by
 skip;apply `ba hq104
 unfold V4 at e1;apply `aY;cases e2:`ax with
 | none=>apply `aj;cases e1
 | some d =>
  apply `aj;cases e1;done;exact `FF h (`Fh (`Dq (k v H' (`su `acT (`ai7) r))))
def bc0{δ:Ds}(h:`oF=`nY):`c4=`aPk:=by
 unfold owL at h;split at h
 ·cases h;assumption
 ·cases h
def Xj0{δ:Ds}{r:`aPr}(h:`L9=`dR):`c4=`oX (`df (`n r.1) r.2):=by
 unfold gp0 at h;split at h
 ·cases h;assumption
 ·cases h
theorem md0(i:Nat)(h:`db)(hN:`dG)(hv:`eG)(hd:`aQ)(hcd:`dX)
  (hbase:`FG `Mw)
  (hfew:`H ((`tC
  &&`R9)=`d) Aa)
  (hline:`hm) (hs:`gx) (hplain:`pZ) :
  PX X (`p_ `gL `Mw [e]) (wz0 i g):=.mk λH₀ B₀ δ pins s σ H Q I hq105=>by
 skip;apply `ba hq105
 unfold wz0 at e1;apply `aY;cases e2:`oF with
 | none=>apply `aj;cases e1
 | some ds =>
  cases e3:`ax with
  | none=>apply `yc;cases e1
  | some d =>
   apply `yc;apply `e!;split at e1
   ·rename_i hz
    cases e1;have hi:=bc0 e2;apply `akd;done;refine ph0 Q1 Aq0 Ar0 pc0 `l6 (N7 `dk y90 hs) `hn hfew `jq hs `tl `r s σ H Q I
     #[_,J,`ake,d,env,e3,λv H1 s1 r1=>#[a,xs,v,rfl,rfl,`ac3,`k `akf hz,?_]]
    have O:`kf (upd H1 a (`t `CT)) (`aPl):=`aRm `sp r1;apply `aRn
   ·cases e1
open T in
theorem ad0(i:Nat)(h:`db)(hN:`dG)(hv:`eG)(hd:`aQ)(hcd:`dX)
  (hbase:`FG `R')
  (hfew:`H ((`tC
  &&`R9)=`d) Aa)
  (hline:`hm) (hs:`gx) (hplain:`pZ) :
  PX X (`p_ `gL `R' [e]) (wy0 i g):=.mk λH₀ B₀ δ pins s σ H Q I hq106=>by
 apply `ba hq106
 unfold wy0 at e1;apply `aY;cases e2:`oF with
 | none=>apply `aj;cases e1
 | some ds =>
  cases e3:`ax with
  | none=>apply `yc;cases e1
  | some d =>
   apply `yc;apply `e!;cases d<;>try cases e1
   rename_i es;dsimp only at e1;split at e1
   ·rename_i hz
    cases e1;have hi:=bc0 e2;apply `akd;refine ph0 Q1 Cq0 Cr0 g00 `l6 (N7 `dk y90 hs) `hn hfew `jq hs `tl `r s σ H Q I
     #[_,J,`ake,_,env,e3,`Cy]
    rw[S7] at r1;let#[b,zs,rfl,hq,rz]:=r1;refine#[a,b,xs,zs,rfl,rfl,`ac3,`pY,`fz `akf rz.length hz,?_];have O:`kf (upd H1 a `RC) (`aPm):=`aRm Rps.append rz;apply `aRn
   ·cases e1
theorem Jo0(i:Nat)(hN:`dG)(hv:`eG)(hd:`aQ)(hcd:`dX)
  (hbase:`FG "pop") (hline:`hm) :
  PX X (`p_ `gL "pop" []) (jg0 i):=.mk λH₀ B₀ δ pins s σ H Q I hq107=>by
 skip;apply `ba hq107
 unfold jg0 at e1;apply `aY;cases e2:`oF with
 | none=>apply `aj;cases e1
 | some ds =>
  apply `aj;apply `e!;cases e3:`aPn with
  | none=>apply `cs;cases e1
  | some d =>
   apply `cs;cases e1;have hi:=bc0 e2;apply `akd;rw[List.getLast?_eq_getElem?] at e3;let#[y,hy,ry]:=rx.get e3;done;refine T20 Q1 Cs0 Ct0 Tr0 `l6 `hn `jq `r s σ H Q I
    #[_,J,`ake,a,xs,y,rfl,rfl,hx,`k `akf hy,?_]
   have O:`kf (upd H a `ahP) (`aPo):=env.mut hi J #[_,j8,rx.dropLast.mono `oY];exact k _ _ (`su (`Dt `w_ b1 b2 hi J O) O (ry.mono `oY))
theorem ir0(h:`Fg):PTG X tg f:=.mk λH₀ B₀ d δ pins s σ H v u Q I r hq108=>by
 skip;let#[δ',en,e1,k]:=hq108
 apply `akg;done;exact h B d δ `r s σ H v u Q I r #[δ',rv,env,e1,`aNE H en.s.wr `w_]
theorem wi0{ft:`a?}(h:`p4)(hg:`aRl)(hs:`afZ)(hw:`af_)
  (h1:`af0):PSD X `af1 (yi0 gx ft):=.mk λH₀ B₀ δ pins s σ H D I hq109=>by
 skip;apply `ba hq109
 unfold yi0 at e1;cases e2:`gS with
 | none=>apply `aj;cases e1
 | some q =>
  apply `aj;apply `e!;cases e3:ft q.1 q.2 with
  | none=>apply `cs;cases e1
  | some δ' =>
   apply `cs;cases e1;done;exact im0 (h `ae `ab δ) (hg `ae `ab q.1 q.2) hs hw h1 `r s σ H D I (`vD λv H' J=>#[δ',J,e3,fun σ' H'' en''=>k σ' H'' en''])
theorem T7(h:`p4)(hs:`afN):PSD X `afO (Z3 gx):=.mk λH₀ B₀ δ pins s σ H D I hq110=>by
 apply `ba hq110
 unfold Z3 at e1;cases e2:`gS with
 | none=>apply `aj;cases e1
 | some q =>
  apply `aj;cases e1;exact `R! (h `ae `ab δ) (`vD λv H' J=>k σ H' J.s)
theorem l20(n:Nat){c:`J}{body:`cg}(hp:`Em)(hc:`Rl)(hb:`aNM):PSD X `aGE (J4 gt G n):=.mk λH₀ B₀ δ pins s σ H D I hq111=>by
 apply `ba hq111
 have O:PT X c (`ajm):=λpins s σ H Q I #[B,δ,h]=>`FF hc h
 have U:PSs X `ey (`kL (∃δ,`aNP)):=λpins s σ H D I #[δ,h]=>`aNQ
 refine Oa0 hp O U `r s σ H D I #[λm σ H=>∃δ',`iy X.K H δ'/\`aRo,#[n,δ,en,e1],?_];rintro m σ1 H1 ⟨δ1,J,e2⟩;skip;cases m with
 | zero=>cases e2
 | succ m =>
  unfold J4 at e2;let#[B,b1,b2,env]:=J.ex;cases e3:gt δ1 with
  | none=>rw[e3] at e2;cases e2
  | some t =>
   rw[e3] at e2;done;refine#[B,δ1,t,env,e3,λH2 s2=>?_];cases t with
   | false =>
    rw[`pD];cases e2;exact k σ1 H2 (J.grow s2)
   | true =>
    rw[`bp];dsimp only at e2;refine#[fun σ' H'=>∃δ',`aaL `ae δ'/\`aRo,fun σ' H' z=>#[m,Y1 m,z],δ1,?_];cases e4:G δ1 with
    | none=>rw[e4] at e2;cases e2
    | some rb =>
     rw[e4] at e2;refine#[rb,J.grow s2,e4,?_];cases rb with
     | nx δn=>apply `aRp
     | ct δn=>apply `aRp
     | bk δn=>cases e2;exact `r! (k σ' H' en')
     | rt d'=>cases e2;exact `N2 (k v H' s' r')
     | rf d'=>cases e2;exact `N3 (k p H' hp s' r')
open T in
theorem Pu0(i j:Nat){p2 p3:Pos}{kk}(hN:`ej)(hij:i≠j)(hc:`k!)(hi:`dG)(hj:`p5)
  (hx:`ai6) (hy:`k9)
  (hf:`s7) (hf2:`ju)
  (hs1:`H ((`akh).map `iA=`hT (`awN) `O::`aRq) Aa) (hs2:`H (`aRq=`hT (`_E) `O::`rW []) Aa)
  (hn:`H ((`s `akh)=2) Aa) (hst:`aGy `akh) :
  PGD X (`CQ `av9 kk pos) [i,j] (ak0 i j):=.mk λB d δ=>(Ip0 hc (Zt0 (`Rg) (Zt0 (om0 (i:=j) hN hj hy hf2) Lj0 hs2) hs1) hn hst).imp λv σ H Q hq112=>by
 let#[δ',r,en,e1,k]:=hq112
 unfold ak0 at e1;split at e1
 ·rename_i da db
  cases e1;rw[Q5] at r;let#[p,xs,rfl,hq,rs]:=r;rw[j7] at rs;let#[va,t1,rfl,ra,rs]:=rs;rw[j7] at rs;let#[vb,t2,rfl,rb,rs]:=rs;rw[d7] at rs;subst rs;refine#[p,_,rfl,`pY,rfl,va,[vb],rfl,vb,[],rfl,rfl,k _ ?_ ((en.set i ra).set j rb)];refine#[`a7,`tG,λq hq ds h=>?_]
  ·have h1:q≠i:=λz=>hq `Ne
   have h2:q≠j:=λz=>hq (`k z `aki)
   rw[`aRr,`aRs,`aRr,`aRs];exact`ks
  ·rcases `lQ h with⟨rfl,e3,_⟩|⟨n1,e3⟩
   ·cases e3
   ·rcases `lQ e3 with⟨rfl,e4,_⟩|⟨n2,e4⟩
    ·cases e4
    ·simp at hq
     rcases hq with z|z
     ·exact n2 `rJ
     ·exact n1 `rJ
 ·cases e1
universe zz
universe DL
namespace HT
open PyProof.Rows
section
variable{w:`Q}{s:`w}
def m10{t sl:`e}{items:`a5}{hi:`aP}{Q:`an}(ht:`aJj)(hs:`P8)(pl:`P9)(pu:`P')
  (hw:`aJk) (h:Q `oU s):`aJm:=by
 let#[os,U,Y,Z]:=id hs;have O:`aJn := #[os,U,Y];unfold getItem
 apply `ED
 first|refine `OQ|try fail
 refine `aJo;refine A0 (i3 (name:=`aJp) `sO Y3
  `aJq)
 apply `aJr;refine `aJs;apply `m_ P1 O;rw[`OL];refine `aJt;have J:`acQ:=by
  rw[hw.1,hw.2];simp
 apply `aJu;rw[`L J];unfold Builtin.Tuple.tupleIsExact;refine A0 (A0 (P1 `sO `JD));rw[`OL];exact A0 (d5 `aae)
universe zz
universe HT
namespace L2
open Spec PyProof.Rows
def Ho0(K:`z):`tj:=`Qa (∃a xs,`ek/\`pC/\`aJJ/\Q `cu H)
def K10:SlR X (Ho0 X.K):=by
 apply `Qc;skip;apply `aJL;cases rx;apply `aJM;apply `aJN
 done;exact#[`er,_,Y3.lookup,`sO,HT.m10 ht hs pl pu (`Qd) (`iV `bZ q)]
def Sa0(K:`z):R2:=`ef (∃a b ys,`ek/\`EE/\SqT K H a []/\`aJQ/\Q `Md H)
def Pk0:`ahi Sa0:=by
 apply `fN;skip;let#[a,b,ys,rfl,rfl,ha,hb,q]:=h;cases rx;cases ry;apply `aJR;let#[Y,r2,p2,_]:=`lY hb;have e:its=[]:=r1.zero;subst e;apply `aaO (id p1);let#[#[a2,Z,data2,a1],U,O,n2,J]:=id p2;simp only at hc hd O J;subst hc hd O J;done;exact t9 `ti `aRt Ad0 Ae0 Af0 Ag0 (Ah0 _ _)
  (tuple_addW0 a b _ Y.toArray n n2 dd Z sl a1 rfl) #[ho,U,(`iV `u9 q)]
universe L2
namespace DL
open Spec PyProof.Rows L2
mutual
theorem n00:∀(d:D) (n:Nat),`tH->deq d d=`d
 | `y,_,_=>by unfold deq;rfl
 | `f3,_,_=>`akj
 | `nO,_,_=>`akj
 | `wY,_,_=>`akj
 | `dg,0,h=>by apply `CD;cases h
 | `dg,n+1,h=>`aRu
 | `ev,0,h=>by apply `CD;cases h
 | `ev,n+1,h=>`aRu
 | `pW,n,h=>by apply `CD;cases h
 | `pX,n,h=>by apply `CD;cases h
theorem mr0:∀(ds:`l) (n:Nat),`yd->we0 ds ds=`d
 | [],_,_=>by unfold we0;rfl
 | `aC,n,h=>by
  unfold leans at h;apply `p6;unfold we0;rw[n00 d n h.1,mr0 ds n h.2];rfl
end
theorem uv0:∀ds es:`l,`ZP=((`bP (`aRv)).all (`akk)&&`aRw)
 | [],[]=>`akl
 | [],`cr=>`akl
 | `cr,[]=>`akl
 | `aC,e::es=>by
  unfold we0;rw[uv0 ds es];have h1:min `QN `ahJ=`aRv+1:=by simp only[`T];lia
  rw[h1,`aRx,`pO,`aRy];have h2:(`QN==`ahJ)=(`aRw):=by
   apply `Eu;simp
  rw[h2,Bool.and_assoc];rfl
theorem sf0:∀{ds:`l} {n j:Nat} {d:D},`yd->ds[j]?=`bk->`tH
 | [],_,_,_,_,h=>`ic
 | `aC,n,0,_,h,e=>by
  unfold leans at h;apply `p6;simp at e;subst e;exact h.1
 | `aC,n,j+1,_,h,e=>by
  unfold leans at h;apply `p6;exact sf0 (j:=j) h.2 `D1
section
variable{σ:St}{s:`w}
inductive V6 (X:Cx) (s:`w) (H:Hp) (B:BS):Nat->D->V->`aa3
 | non (n:Nat):`Am `y `y `al
 | bl (n:Nat) (b:`I):`Am `sw `sw (`Pl)
 | int (n:Nat) (i:Int) (t:Tok):`Am `fq `fq `vY
 | str (n:Nat) (z:Str) (t:Tok):`Am `ss `ss (`u z t)
 | tup (n:Nat) (ds:`l) (a:`e) (xs:`V) (its:`K) (l:`yd) (q:SqT' X.K H B a xs) (r:`R?) (v:`xn) (p:`axu):`aRz `or
 | lst (n:Nat) (ds:`l) (a:`e) (xs:`V) (its:`K) (l:`yd) (q:SqL' X.K H B a xs) (r:`R?) (v:`xn) (p:`I9 a `b4):`aRz `u_
def view(I:`A){d:D}{x:V}(l:`tH)(h:`RA)(r:`i9):`CE:=by
 skip;cases d with
 | non=>rw[R3] at h;subst h;cases r;done;exact `y _
 | bl b=>rw[U3] at h;subst h;cases r;done;exact .bl _ b
 | int i=>rw[Z6] at h;subst h;apply `jj;done;exact `g _ i t
 | str z=>rw[T5] at h;subst h;apply `jj;done;exact `u _ z t
 | tup ds =>
  rw[Q5] at h;let#[a,xs,rfl,q,rr]:=h;let#[its,rv,p,_]:=`lY `ge;cases n with
  | zero=>apply `ye;cases l
  | succ m=>apply `ye;cases r;done;exact `C m ds a xs its l q rr rv p
 | lst ds =>
  rw[S7] at h;let#[a,xs,rfl,q,rr]:=h;let#[its,rv,p,_]:=`iJ `ge;cases n with
  | zero=>apply `ye;cases l
  | succ m=>apply `ye;cases r;done;exact `t m ds a xs its l q rr rv `Pv
 | dct a b=>apply `ye;cases l
 | fn a b=>apply `ye;cases l
def Zh0(I:`A){es:`l}{its:`K}(ih:`aRA)(l:`yd)(l':`aRB)(r:`R?)(r':Rps X.K H B' es xs)(v:`xn):ds=es:=by
 refine m4 (`By `cd `ph) `aRC
 skip;let#[x,ex,rx]:=`pM (C1 h1);let#[y,ey,ry]:=r'.get (C1 h2);rw[ex] at ey;cases ey;let#[u,_,ru]:=v.get ex;done;exact ih (view I (sf0 l (C1 h1)) rx ru) (view I (sf0 l' (C1 h2)) ry ru)
def V6.inj(I:`A):`aRA:=by
 induction n with
 | zero =>
  intro m d e x u h h';cases h<;>cases h'<;>rfl
 | succ n ih =>
  intro m d e x u h h';cases h with
  | tup _ ds a xs its l q r v p =>
   cases h' with
   | tup _ es _ ys _ l' q' r' _ _ =>
    have:=`aG0 `ge q'.to;subst this;rw[`aRD]
   | lst _ es _ ys _ _ _ _ _ p'=>exact `G rfl (Cu0 p' p)
  | lst _ ds a xs its l q r v p =>
   cases h' with
   | lst _ es _ ys _ l' q' r' _ _ =>
    have:=`axt `ge q'.to;subst this;rw[`aRD]
   | tup _ es _ ys _ _ _ _ _ p'=>exact `G rfl (Cu0 p p')
  | _=>cases h'<;>rfl
theorem in1_units:A.in1.units=`lT+1:=rfl
def nd0{es:`l}{ys:`V}{ws:`K}{A:`cf}(ld:`yd)(le:`aRB)(r1:`R?)(r2:Rps X.K H B' es ys)(v1:`ei)(v2:`bU ys ws)
  (ih:∀d e x y u w,`tH->`aRE->`RA->`aRF->`i9->`akm->`akn) :
  ∀j (h1:j<us.toArray.size) (h2:j<ws.toArray.size),`vT A s `aRG `aRH (`at8):=by
 intro j h1 h2;skip;have l1:j<`bN:=by rw[← `oI,v1.length];simpa using h1
 have l2:j<`g9:=by rw[← `mb,v2.length];simpa using h2
 let#[x,ex,rx]:=r1.get (C1 l1);let#[y,ey,ry]:=r2.get (C1 l2);let#[u,eu,ru]:=v1.get ex;let#[w,ew,J]:=v2.get ey;have hu:`aRG=u:=by
  have:us[j]?=`bc:=eu;simp at h1;apply `aV (`l4 h1)
  simpa using `abf
 have hw:`aRH=w:=by
  have:ws[j]?=`c w:=ew;simp at h2;apply `aV (`l4 h2)
  simpa using `abf
 done;rw[hu,hw];have e1:`awO=ds[j]:=by simp[`b5,l1]
 have e2:`awP=es[j]:=by simp[`b5,l2]
 rw[e1,e2];exact ih _ _ _ _ _ _ (sf0 ld (C1 l1)) (sf0 le (C1 l2)) rx ry ru J
def V6.step(I:`A){d e:D}{x y:V}{w:`B}(hu:`lT<`nJ)(ih:∀k,n=k+1->∀{m:Nat} {d e:D} {x y:V} {u w:`B},V6 X s H B k d x u->`Sa->`ZN `vT `h1)(h:`CE)(h':`Sa):`akn:=by
 cases h with
 | tup k ds a xs its l q r v p =>
  cases h' with
  | tup k' es a' ys its' l' q' r' v' p' =>
   by_cases hab:a=a'
   ·subst hab
    rw[← `aRI `C `C,n00 `or `d6 l];exact .same _
   ·refine `aRJ
    have:=`ako A40 `aRK;show `akp;rw[uv0]
    simpa [← v.length,← `aBp,`cd,`ph] using `x
  | _=>show `aRL;first|apply `E (SeqAt.EqAt.tuple_none p hu)|apply `E (SeqAt.EqAt.tuple_bool _ p hu)|apply `E (`ij SeqAt.EqAt.tuple_int)|apply `E (`ij SeqAt.EqAt.tuple_str)|apply `E (`yf SeqAt.EqAt.tuple_list)
 | lst k ds a xs its l q r v p =>
  cases h' with
  | lst k' es a' ys its' l' q' r' v' p' =>
   by_cases hab:a=a'
   ·subst hab
    rw[← `aRI `t `t,n00 `u_ `d6 l];exact .same _
   ·refine `aRJ
    apply `akq
    apply `akr
    show `akp;rw[uv0]
    by_cases hl:`bN=`g9
    ·have:=`aks `aRM `aRK
     apply `aV s1;rw[hl] at this ⊢
     apply `Db
    ·have:=`aRN
     apply `aRO;exact `x
  | _=>show `aRL;first|apply `E (SeqAt.EqAt.list_none p hu)|apply `E (SeqAt.EqAt.list_bool _ p hu)|apply `E (`ij SeqAt.EqAt.list_int)|apply `E (`ij SeqAt.EqAt.list_str)|apply `E (`yf SeqAt.EqAt.list_tuple)
 | _=>cases h'<;>dsimp only [deq]<;>first|apply `E (n9 _)|apply `E (`aKc _ _)|apply `E (A10 _ _ _ _)|apply `E (A30 _ _ _ _)|apply `E (`aKd _ _ _)|apply `E (`aKf _ _ _)|apply `E (`aKa _)|apply `E (y8 _ _)|apply `E (y9 _ _)|apply `E (`aKb _)|apply `E (`aKe _ _ _)|apply `E (A00 _ _)|apply `E (o0 _ _ _ _)|apply `E (A20 _ _)|apply `E (`aKg _ _ _)|apply `E (o3 _ _ _ _)|apply `E (SeqAt.EqAt.none_list `nf hu)|apply `E (`yg SeqAt.EqAt.bool_list)|apply `E (`ik SeqAt.EqAt.int_list)|apply `E (`ik SeqAt.EqAt.str_list)|apply `E (SeqAt.EqAt.none_tuple `nf hu)|apply `E (`yg SeqAt.EqAt.bool_tuple)|apply `E (`ik SeqAt.EqAt.int_tuple)|apply `E (`ik SeqAt.EqAt.str_tuple)
def V6.eq(I:`A):∀{m:Nat} {d e:D} {x y:V} {u w:`B} {A:`cf},`akt->`CE->`Sa->`akn:=by
 induction n with
 | zero=>exact λhu=>V6.step I `j λk z=>nomatch z
 | succ n ih =>
  intro m d e x y u w A hu;refine V6.step I `j λk z=>?_
  cases z;exact ih `aBq
universe zz
universe DL
namespace DL
open Spec PyProof.Rows L2
section
variable{σ:St}{s:`w}
def V6.rc(I:`A){d e:D}{x y:V}{w:`B}(hn:`akt)(h:`CE)(h':`Sa):`aRP:=by
 have hu:`lT<`nJ:=`F
 cases h with
 | tup k ds a xs its l q r v p =>
  cases h' with
  | tup k' es a' ys its' l' q' r' v' p' =>
   apply `aRQ
   apply `akq
   apply `akr
   have q1:=`ako A40 J;have q2:=`ako SeqAt.RcNeAt.tuples J;rw[s1,s2,← uv0] at q1 q2;exact`FH
  | _=>show `aRR;constructor<;>first|apply `E (SeqAt.RcAt.tuple_none p hu)|apply `E (SeqAt.RcAt.tuple_bool _ p hu)|apply `E (`ij SeqAt.RcAt.tuple_int)|apply `E (`ij SeqAt.RcAt.tuple_str)|apply `E (`yf SeqAt.RcAt.tuple_list)|apply `E (SeqAt.RcNeAt.tuple_none p hu)|apply `E (SeqAt.RcNeAt.tuple_bool _ p hu)|apply `E (`ij SeqAt.RcNeAt.tuple_int)|apply `E (`ij SeqAt.RcNeAt.tuple_str)|apply `E (`yf SeqAt.RcNeAt.tuple_list)
 | lst k ds a xs its l q r v p =>
  cases h' with
  | lst k' es a' ys its' l' q' r' v' p' =>
   apply `aRQ
   apply `akq
   apply `akr
   show `akp/\`Ld A s _ _ (!`ZP);rw[uv0]
   by_cases hl:`bN=`g9
   ·have q1:=`aks `aRM J
    have q2:=`aks SeqAt.RcNeAt.lists J;rw[s1] at q1 q2;rw[hl] at q1 q2 ⊢;simp only[`XU,`OG,Bool.and_true];exact`FH
   ·have q1:=`aRN
    have q2:=SeqAt.RcNeAt.lists_lengths (A:=A) p p' `ayy hu;apply `aRO;exact`FH
  | _=>show `aRR;constructor<;>first|apply `E (SeqAt.RcAt.list_none p hu)|apply `E (SeqAt.RcAt.list_bool _ p hu)|apply `E (`ij SeqAt.RcAt.list_int)|apply `E (`ij SeqAt.RcAt.list_str)|apply `E (`yf SeqAt.RcAt.list_tuple)|apply `E (SeqAt.RcNeAt.list_none p hu)|apply `E (SeqAt.RcNeAt.list_bool _ p hu)|apply `E (`ij SeqAt.RcNeAt.list_int)|apply `E (`ij SeqAt.RcNeAt.list_str)|apply `E (`yf SeqAt.RcNeAt.list_tuple)
 | _=>cases h'<;>dsimp only [deq]<;>(try change _/\`ayA)<;>(try change _/\`Ld A s _ _ `m)<;>constructor<;>first|apply `E SeqAt.RcAt.none_none|apply `E (SeqAt.RcAt.bool_bool _ _)|apply `E (SeqAt.RcAt.int_int _ _ _ _)|apply `E (SeqAt.RcAt.str_str _ _ _ _)|apply `E (SeqAt.RcAt.bool_int _ _ _)|apply `E (SeqAt.RcAt.int_bool _ _ _)|apply `E (SeqAt.RcAt.none_bool _)|apply `E (SeqAt.RcAt.none_int _ _)|apply `E (SeqAt.RcAt.none_str _ _)|apply `E (SeqAt.RcAt.bool_none _)|apply `E (SeqAt.RcAt.bool_str _ _ _)|apply `E (SeqAt.RcAt.int_none _ _)|apply `E (SeqAt.RcAt.int_str _ _ _ _)|apply `E (SeqAt.RcAt.str_none _ _)|apply `E (SeqAt.RcAt.str_bool _ _ _)|apply `E (SeqAt.RcAt.str_int _ _ _ _)|apply `E (SeqAt.RcAt.none_list `nf hu)|apply `E (`yg SeqAt.RcAt.bool_list)|apply `E (`ik SeqAt.RcAt.int_list)|apply `E (`ik SeqAt.RcAt.str_list)|apply `E (SeqAt.RcAt.none_tuple `nf hu)|apply `E (`yg SeqAt.RcAt.bool_tuple)|apply `E (`ik SeqAt.RcAt.int_tuple)|apply `E (`ik SeqAt.RcAt.str_tuple)|apply `E SeqAt.RcNeAt.none_none|apply `E (SeqAt.RcNeAt.bool_bool _ _)|apply `E (SeqAt.RcNeAt.int_int _ _ _ _)|apply `E (SeqAt.RcNeAt.str_str _ _ _ _)|apply `E (SeqAt.RcNeAt.bool_int _ _ _)|apply `E (SeqAt.RcNeAt.int_bool _ _ _)|apply `E (SeqAt.RcNeAt.none_bool _)|apply `E (SeqAt.RcNeAt.none_int _ _)|apply `E (SeqAt.RcNeAt.none_str _ _)|apply `E (SeqAt.RcNeAt.bool_none _)|apply `E (SeqAt.RcNeAt.bool_str _ _ _)|apply `E (SeqAt.RcNeAt.int_none _ _)|apply `E (SeqAt.RcNeAt.int_str _ _ _ _)|apply `E (SeqAt.RcNeAt.str_none _ _)|apply `E (SeqAt.RcNeAt.str_bool _ _ _)|apply `E (SeqAt.RcNeAt.str_int _ _ _ _)|apply `E (SeqAt.RcNeAt.none_list `nf hu)|apply `E (`yg SeqAt.RcNeAt.bool_list)|apply `E (`ik SeqAt.RcNeAt.int_list)|apply `E (`ik SeqAt.RcNeAt.str_list)|apply `E (SeqAt.RcNeAt.none_tuple `nf hu)|apply `E (`yg SeqAt.RcNeAt.bool_tuple)|apply `E (`ik SeqAt.RcNeAt.int_tuple)|apply `E (`ik SeqAt.RcNeAt.str_tuple)
theorem Tg0(I:`A)(n m:Nat)(d e:D)(x y:V)(u w:`B)(A:`cf)(hu:`akt)(ld:`tH)(le:`aRE)(hx:`RA)(hy:`aRF)(rx:`i9)(ry:`akm) :
  `aRP:=V6.rc I hu (view I ld hx rx) (view I le hy ry)
universe zz
section
variable{a:`J}{p:Pos}{ga:`cY}
def Wa0(K:`z)(neg:`I):R2:=`ef (∃B B' dx dy,`aiQ/\Rp K H B' dy y/\`JC dx/\`JC dy/\Q (`L' (deq dx dy)) H)
def Jm0(hu:`aRS):`f2 .Eq (Wa0 X.K `m):=by
 apply `fN;skip;apply `aRT;done;exact(`aRU).1 _ _ _ _ (`iV `cb (by rw[`wv] at q;exact q))
def J20(hu:`aRS):`f2 .NotEq (Wa0 X.K `d):=by
 apply `fN;skip;apply `aRT;done;exact(`aRU).2 _ _ _ _ (`iV `cb (by rw[`Sb] at q;exact q))
def Lh0:Op2 K (Wa0 K `m) fc0:=by
 apply `jB;unfold fc0 at h;split at h
 ·rename_i hl
  cases h;exact`aRV (`gQ (by rw[U3,`wv]))
 ·cases h
def Nj0:Op2 K (Wa0 K `d) f50:=by
 apply `jB;unfold f50 at h;split at h
 ·rename_i hl
  cases h;exact`aRV (`gQ (by rw[U3,`Sb]))
 ·cases h
def Qb0:Op2 K (`ef (rI0 (`aHq) x y H Q∨(`aHF)∨`EI Nf0∨`EI N10∨`EI Sa0)) m8:=by
 apply `jB;cases dx<;>cases dy<;>simp only[m8] at h<;>try cases h
 ·rw[Z6] at rx ry
  subst rx ry;exact `n #[_,_,rfl,rfl,`CF]
 ·split at h
  ·cases h
   rw[T5] at rx ry;subst rx ry;exact `p (`n #[_,_,rfl,rfl,`uh,`Q!])
  ·cases h
 ·split at h
  ·skip;rename_i hz
   cases h;have O:=ry;have U:=rx;rw[Q5] at rx ry;apply `aku;apply `aRW
   by_cases he:`xH
   ·subst he
    have e:`aRX=`aRX:=rfl;have hn:=`oI;simp at hn;have J:=`akv;subst J;done;exact `tI (`p #[a,b,ys,rfl,rfl,q1.to,q2.to,`gQ (`k `hQ O)])
   ·done;refine `tI (`n #[a,b,xs,ys,rfl,rfl,q1.to,q2.to,he,`akw,`he,λz p hp=>k _ _ `gh (gy0 hb hp (`Qe))])
    subst z;have hn:=`mb;simp at hn;have J:=`akv;subst J;exact `gQ (`k `bS U)
  ·cases h
 ·split at h
  ·skip;rename_i hz
   cases h;rw[S7] at rx ry;apply `aku;apply `aRW;done;apply `jt (`n #[a,b,xs,ys,rfl,rfl,q1.to,q2.to,`akw,`wZ `gh (oa0 hb hp (`Qe))])
  ·cases h
theorem d9(ha:`cA)(hb:`dr):`k' `aRY m8:=nj0 (Jx0.or (Wu0.or (Yq0.or (Me0.or Pk0)))) Qb0 ha hb
theorem Yu0(h:`bC):∀k:Nat,Rps K H B (`kl k ds) `aKE
 | 0=>`aiy
 | k+1=>by
  rw[`da,`da,`gu,`gu];exact h.append (Yu0 h k)
instance decMul(i j:Int):`nb (CMul i j):=inferInstanceAs (`nb (`aaS))
theorem Q6(ha:`cA)(hb:`dr):`k' `aRZ V9:=nj0 Kr0 ((show (ii λi j=>`aPC)=V9 from by funext x y;cases x<;>cases y<;>rfl)▸i50 (C:=CMul) (g':=`aHt) `ajv) ha hb
def Rn0{xs:`l}{hi:`aP}(h:`aip=0/\`aMh=`ar):`ajN=xs:=by
 unfold cutD;rw[h.1,h.2];simp
open T in
theorem M7{lo hi:`rk}{gl gh:`xT}{p2:Pos}(he:`db)(hl:`aR_)(hh:`aR0) :
  PD X `aJC (K3 g gl gh):=.mk λB δ =>
 (P40 (Ko0.or (Nt0.or (Jk0.or K10))) (he B δ) (hl B δ) (hh B δ)).imp fun σ H Q hq113=>by
  apply `bG hq113
  unfold K3 at h;cases e1:`ax with
  | none=>rw[e1] at h;cases h
  | some x =>
   cases e2:gl δ with
   | none=>apply `dq;cases h
   | some l =>
    cases e3:`CA with
    | none=>rw[e1,e2,e3] at h;cases h
    | some u =>
     rw[e1,e2,e3] at h;apply `fS;refine`Ra x (`aR1 `ZG ?_);have S:=`tJ;have r3:=(`rj).same s3;have hb:=(`akx).bad;cases x<;>simp only[slA] at h<;>try cases h
     ·split at h
      ·cases h
       rw[T5] at r3;exact `n #[_,r3,`uh,k _ H3 S `JL]
      ·cases h
     ·have r4:=r3
      rw[Q5] at r3;apply `RF r3;rename_i dxs
      by_cases hw:sIx `Sc 0 l=0/\sIx `Sc `Sc u=`Sc
      ·refine `tI #[a,xs,rfl,`ge,`aR2,k _ _ S ?_]
       rw[Rn0 hw];exact r4
      ·apply `jt (`n #[a,xs,rfl,`ge,`aR2,`wZ (S.trans `gh) (gy0 hb hp `aR3)])
     ·rw[S7] at r3
      apply `RF r3;exact `p (`n #[a,xs,rfl,`ge,`wZ (S.trans `gh) (oa0 hb hp `aR3)])
def Jg0:FnR K `aHI intOfD:=by
 apply `x7;unfold intOfD at h;split at h
 ·cases h
  apply `jC;rw[Z6] at r1;subst r1;exact `n `aR4
 ·cases h
  apply `jC;rw[U3] at r1;subst r1;exact `p `aR4
 ·cases h
def fv0:FnR K (`h6 (`Qp `ajC `ajD `aKn)) xr0:=by
 apply `x7;unfold xr0 at h;split at h
 ·skip;cases h
  apply `jC;rw[S7] at r1;apply `x8;done;exact#[a,ys,rfl,`ajE,`aR5]
 ·skip;cases h
  apply `jC;rw[Q5] at r1;apply `x8;done;exact#[a,ys,rfl,`ajF,`aR5]
 ·cases h
universe zz
universe DL
namespace DL
open Spec PyProof.Rows
@[simp] def mn0:`br
 | `dv,`Ad=>`aPB
 | _,_=>`f
def vk0{gA:GA}{δ:Ds}(h:`tt)(hl:`xP):yk0 gA δ=`QK:=by
 unfold yk0;rw[h,`q,`rY]
def Ns0{n:Int}{d:D}(h:d∈`Jo):∃k:Nat,`d5<n/\d=`lI:=by
 let#[k,hk,rfl]:=`de h;have:=`u1 hk;exact#[k,`F,by rw[`Sd]]
def Kf0(f:D->α)(n:Int):(`Jo).map f=`Se λ(k:Nat)=>f (`lI):=by
 unfold G7;rw[`cS];have:n - 0=n:=`F
 rw[`x];refine Q2 λk _=>?_
 show f (`g (0+`d5))=_;rw[`Sd]
def uk0(n:Int):`aR6=`iW:=by unfold G7;simp
def X40{n:Int}{d:D}(h:`JP[j]?=`bk):j<`iW/\d=`gN:=by
 have hj:j<`iW:=by
  have:=`FI
  rwa [uk0] at this
 refine#[hj,?_];unfold G7 at h;rw[`cX,`aR7 (`E_)] at h;have:=A3 h;rw[← `x];show `b3 (0+`cC)=_;rw[`Sd]
def aj0{gt:GB}{ge:GE}{δ:Ds}{n:Int}(h:Nat->D)(H:∀k:Nat,`d5<n->∃δ',gN 0 (`lI) δ=`Bv/\`EY=`e9/\`LX=`c (h k)) :
  yx0 `dD gt ge δ `JP=`c (`Se h):=by
 rw[qy0 (`Sf `iQ (h `ka)) (λd hd=>by
  let#[k,hk,rfl]:=Ns0 hd;exact H k hk),Kf0]
 rfl
universe DL
namespace DL
open Spec PyProof.Rows L2
section
variable{a:`J}{p:Pos}{ga:`cY}
theorem W00(ha:`cA)(hb:`dr):PDF X `aRY (o2 ga gb mn0):=.mk λB δ=>(Os0 Yq0 `bt `e').imp fun σ H Q hq114=>by
 skip;apply `bG hq114
 unfold o2 at h;cases e1:`ex with
 | none=>rw[e1] at h;cases h
 | some x =>
  cases e2:`fy with
  | none=>apply `dq;cases h
  | some y =>
   apply `dq;apply `fS;done;apply `xZ;cases x<;>cases y<;>simp only[mn0] at h<;>try cases h
   split at h
   ·skip;rename_i hz
    cases h;have r1:=`rj;rw[S7] at r1 r2;let#[a,xs,rfl,q1,r1]:=r1;let#[b,ys,rfl,q2,r2]:=r2;done;exact#[a,b,xs,ys,rfl,rfl,q1.to,q2.to,`akw,λp hp=>k p _ (`aR8 hp) (`IB `gh) #[_,j8,(`Qe).mono `Mi]]
   ·cases h
theorem Q20(hm:`pz)(hv:`vO=`ayH)(ha:`db)(hg:`fR)
  (hn:`pA) (hdb:`aQ) (he:`gx) (hpl:`nc) :
  PDF X `aR9 (oA `C6 xr0):=.mk λB δ=>(`Rc pf0 tf0 (N7 `bt y90 he)).imp fun σ H Q hq115=>by
 apply `bG hq115
 unfold oA z7 v8 at h;cases e1:`ax with
 | none=>rw[e1] at h;cases h
 | some x =>
  rw[e1] at h;apply `oE `q `ky;refine#[x,en,e1,`Cy];cases x<;>simp only[xr0] at h<;>try cases h
  ·rw[Q5] at r1
   apply `aR';exact#[q,xs,rfl,`p `pY,`aR!]
  ·rw[S7] at r1
   apply `aR';exact#[q,xs,rfl,`n `pY,`aR!]
universe zz
section
variable{p:Pos}
def FnN(P:`ai)(w:`Q)(K:`z)(mg:`a3)(base:`D)(x:Str)(k:Nat)(ps:`i)(f:`U):Prop :=
 ∃(fa:`e) (fd:`e5),`am k ps (spN K f)/\`RH
def q80{k:Nat}{f:`U}(C:`aR?)(hr:`tD)(hk:k<=m)(ha:`k7)(hg:`fR)(hdb:`aQ)
  (he:`dn) (hpl:`eE):PDF X `oe `I5:=by
 apply `ajH;exact .mk λB δ=>(`Rd `jD kp `bt).imp fun σ H Q h=>by
  apply `xY;unfold oA at h;cases e1:`eN with
  | none=>rw[e1] at h;cases h
  | some ds =>
   rw[e1] at h;refine`aNr;show spN X.K f `Mz H1 Q E0;rw[`bS];exact#[B,ds,d,`ai_,r1,h,λp H' hp s r=>k p H' `aRe (`q0 s) r]
theorem so0{k:Nat}{f:`U}(C:`aR?)(hr:`tD)(hk:k<=m)(ha:`k7)(hg:`fR)(hdb:`aQ)
  (he:`dn) (hpl:`eE):`Ff:=(q80 C hr hk ha hg hdb he hpl).pd
theorem ze0(h:`x3):`Rk M6 g:=.mk λH₀ B₀ δ pins s σ H D I hq116=>by
 skip;apply `ba hq116
 unfold M6 at e1;apply `aY;cases e2:`ax with
 | none=>apply `aj;cases e1
 | some d =>
  apply `aj;cases e1;done;exact `ty `dk (`Fh λp H' hp s' r=>k p H' (`aj?) (`Mr s') (`dw (λo h=>h) (`kv λa z=>z.imp (b1 a) id)).toL)
open T in
theorem kv0(i:Nat){px:Pos}(hN:`dG)(hv:`eG)(hd:`aQ)(hcd:`dX) :
  PSD X (`Xx (`c `gL) pos) (mm0 i):=.mk λH₀ B₀ δ pins s σ H D I hq117=>by
 apply `ba hq117
 unfold mm0 at e1;apply `aY;split at e1
 ·rename_i d hi
  let#[a,hs,hb,ro]:=`oH;cases e1;exact `ty `l6 #[_,hs,k a H (`wu i d a hi hs) `fY (ro.mono (λo h=>h) (`kv λb z=>`eA (b1 b) λq=>`k q hb))]
 ·cases e1
universe zz
universe DL
namespace DL
@[simp] def Wb0:`U
 | [`ev,`l_]=>`c (`C (`aSa `aSb))
 | _=>`f
@[simp] def pp0:`U
 | `EZ=>`c (`t ds.reverse)
 | _=>`f
def qz0(ds:`l):`l:=(`bP `bN).map λ(k:Nat)=>`C [`lI,ds.getD k `y]
def Zl0:`aim
 | `EZ=>`c (qz0 ds)
 | _=>`f
def jz0(gA:GA):GA:=`EW Zl0
mutual
def tree:`dZ
 | `eB=>`m
 | `pW=>`m
 | `pX=>`m
 | `dg=>`aky
 | _=>`d
def trees:`vq
 | []=>`d
 | `aC=>tree d&&`aky
end
def m50(g:GE):GE:=fun δ=>`ajI λd=>`o `akz `bk `f
def gf0{g:GE}{δ:Ds}{d:D}(h:`vS=`bk)(ht:`akz):m50 g δ=`bk:=by
 unfold m50;rw[h,`q,`akA]
def iz0(g:GE)(gA:GA)(f:`Sg):GE:=`gw λd=>`ts λds=>f d ds
def tn0:`Sg
 | `ja,[`wY]=>`c `aBt
 | _,_=>`f
def o20{gA:GA}{δ:Ds}{n:Int}(h:`eN=`c `FJ)(h1:`xu<=n)(h2:n<`jY):ys0 gA δ=`Sh:=by
 unfold ys0;rw[h,`q];simp only[iv0];rw[`L `aP0]
universe DL
namespace RevL
open Spec PyProof.Rows
def Wd0:`ms `Si "__len__"=`Sj:=by apply `xi;kernel_rfl
def Qx0:`ms `Si `aa4=`ct (`c (`cn "list_reverseiterator.__length_hint__")):=by apply `xi;kernel_rfl
def Mu0:`aeg `Si `Si=`aeD:=by rw[`aeB];kernel_rfl
section
variable{w:`Q}{s:`w}{R:`pr}
variable{wr:`aX}{G:`aSc}{P:`aSd}{St:`ah'}
def K80(W:`aSe)(hT:`akB)(C:`e)(res:`B)(c0:Nat)(st:St 0 s)(hC:C∉fp)(hI:I∈fp)
  (gC:`dO C=`c (`l8 `iS (`mi ⟨⟩ c0)))
  (hR:`aSf (`pe res)) (hn:`xJ) :
  `aD `dE `h1 (`aa5 `bo `KC res)
   `aex `aey s:=by
 have ne:C≠I:=λe=>hC (e▸hI)
 apply `aSg;refine A0 (P1 `Sk (by
  have q1:`Sl `bo `KC=`m:=by simp[`Sl,ne]
  have q2:(`aSh==`kx `fX)=`m:=`aw
  have q3:(`aSh==`kx `er)=`m:=`aw
  simp only[q1,q2,q3,`OH,`tn,`g?];refine A0 (W.self 0 _ _ _ st (A0 (D5 (by
   apply `aSi;refine A0 (E6 `Sk Wd0 (by
    show `kK (`aSj I) _;apply `h8 E6 `Sk Qx0;apply `h8 A50 `Sk Mu0;rw[`dS];dsimp only;rw[`L `cZ,`dS];refine `j5;rw[`_ `cZ];refine A1 #[i8 PySem.F.plain_extend_loop _,?_];exact codeAny_extend_loopS W hn _ hC _ n 0 _ _ _ rfl `kp st gC (ItemsOf.nil P) λs' acc' c' m e J=>hR s' acc' c' m e J))))))))
def P10(W:`aSe)(hT:`akB)(C:`e)(st:St 0 s)(hC:C∉fp)(hI:I∈fp)
  (gC:`dO C=`aSk)
  (hR:`aSf (`pe `al)) (hn:`xJ) :
  `aD `dE `h1 (Builtin.«list.__init__» #[[`eM,`X I],[]])
   `aex `aey s:=by
 show `kK (do let old ← Builtin.List.listItems `bo;Builtin.List.listUpdate `bo (λ_=>⟨⟩);letGo old.toList.reverse;`aSl) s;refine A0 (by
  unfold Builtin.List.listItems;refine A0 (r8 gC rfl (A1 (by
   show `kK (`Sm C (λ_=>⟨⟩)>>=λ_=>letGo (⟨⟩:`a5).toList.reverse>>=λ_=>`aSl) s;have g2:=E2 `aSm gC rfl;have oth:`CP C (`gM->`xM (`CJ C `aSm)):=`aSn
   refine A0 (i6 gC rfl (A0 (wpAny_letGo (K80 W hT C `al _ (`aSo λb hb o e=>oth b o (λh=>hC (h▸hb)) e) hC hI g2 (λs' acc' c' m e J=>?_) hn))));exact hR s' acc' c' (Moved.trans W.gtrans ((Moved.refl W.grefl).then_heap `bF λb o hb e=>oth b o (λh=>hb (h▸A4)) e) m) e J))))
universe zz
section
variable{w:`Q}{s:`w}
variable{wr:`aX}{G:`aSc}{P:`aSd}{St:`ah'}
def df0{Q:`an}(W:`ayD A.in1.in1)(hT:`akB)(st:St 0 s)(hfp:∀b∈fp,b<`Y)(hI:I∈fp)
  (hQ:∀s' acc' c',Moved (`Y::wr) G `aSp s' ->
   `ayE `Y=`ayF->`aSq->Q `i? s') (hn:`xJ) :
  `bJ (`eb `Le [`X I]) s:=by
 have hC:`Y ∉fp:=λz=>D9 _ (hfp _ z)
 refine `aSr (Q₁:=λob s1=>ob=`lv/\s1=`aSp) PySem.F.called_list (PySem.F.typeCall_list_1 _) PySem.F.entry_list_init (code_list_new _ `ks) λob s1 h1=>?_
 let#[rfl,rfl]:=h1;have gC:(`ayG).get? `Y=`aSk:=`gY;exact#[#[_,gC,rfl],PySem.F.args_list_init_2 _ _,P10 W hT _ (`aSo λb _ o e=>`rd) hC hI gC (λs' acc' c' m e J=>#[rfl,hQ s' acc' c' m e J]) hn]
def ds0{l:`e}{its:`a5}{Q:`an}(hh:`jl)(hl:`I9 l its)(hz:`_4)
  (h:∀(h':`D) (tk c:Nat) (a:`e),`O?->`hD a=`c (`Du `akC c)->(∀b o,`wx)->Q `cu `xt) :
  `Ey (`eb (`bM `ov) [`AT]) λv s1=>`bJ (`eb `Le [v]) s1:=by
 refine call_reversed_list hl ?_;let#[ol,gl,_,_]:=id hl;have U:l<`Y:=A8 gl;have Z:A.in1.in1.handled=`f:=`akD
 have Wk:=(Walks.listRev (prog:=prog) (w:=w) Z `Y l (B6 U) its).toS;refine df0 Wk (λi s x=>x.2.1.typeIs) #[`bw,#[_,`gY,rfl,by
  show `aG2 ⟨`AT,`pE (`Sn)⟩=_;have z:`Sn - `vs=`Sn:=`b7
  rw[z]],hl.push _] `Ph `aM (λs' J c' m e O=>?_) hz
 ·show b<`akE
  rw[`So];apply `aSs;rcases hb with rfl|rfl
  ·exact Y1 _
  ·exact Cy0 U
 ·skip;let#[h',g',d',a1,Y]:=s'
  obtain rfl:g'=`xp:=m.gens;obtain rfl:d'=`Pg:=m.drawn;obtain rfl:Y=s.os:=m.os;have ea:J=`akC:=by
   apply Array.ext
   ·rw[O.1,Array.size_reverse]
   ·intro i h1 h2
    have q:its[`JQ - 1 - i]?=`c J[i]:=O.2 i J[i] (c5 h1);have hi:i<`JQ:=`bR O.1 h1
    rw[Array.getElem?_eq_getElem `a'] at q;rw[Array.getElem_reverse];exact(A3 q).symm
  subst ea;have a2:(`hF (revObj l (`Sn))).objs.size=`uB:=Aa0 ..;done;refine h h' a1 c' _ ?_ e λb o eb=>?_
  ·show `Y<=`akE
   rw[`So];exact l6 _
  ·have lb:=A8 eb
   refine m.heap b o ?_ (A9 _ (A9 _ eb));simp only[`rZ,`KD,`KE,not_or];refine#[?_,B6 lb];show b≠`akE;rw[`So];exact B6 (Cy0 lb)
universe zz
universe RevL
namespace DL
open Spec PyProof.Rows L2
theorem Rps.reverse:`k2 (`bC->Rps K H B ds.reverse `Qs)
 | [],_,h=>`aiz
 | `aC,_,h=>by
  rw[j7] at h;apply `Fo;rw[`gt,`gt];exact `sp (Rps.reverse h2) h1
section
variable{p:Pos}
def Y20:`sq `ov `ov:=`bb
def Nx0:`aSt:=`bb
def Kd0(hc:`d4)(hl:`aSu)(hs:`aSv)(he:`gr)(hgl:`aSw)(hgs:`aSx)
  (e1:`aSy) (e2:`gx)
  (h1:`nc) (h2:`aSz) :
  PE X `aSA (`bm te λv H'=>∃q xs,v=`X q/\SqL X.K H' q xs/\`_z H' H' (`t `Qs)):=by
 apply `bh;refine K2 (td0 I hgl hl Nx0 ?_ `v `v);refine `aSB;rw[e1];show `c! (`Ed (`ayI::`Io)) s;refine P7 ?_;refine K2 (td0 I hgs hs Y20 ?_ `v `v);refine P6 ?_ e2 h2;rw[e2];show `c! (`Ed (`ui::`ayJ)) s;refine P7 (thn `kU λu s1 hq118=>?_);skip;let#[v,H1,I1,r1,q,xs,ev,hq,k]:=hq118;done;refine Y2 ?_;subst ev;obtain rfl:u=`gJ q:=r1;let#[its,rv,pl,hz]:=`agk hq;have J:=`Ek;refine thn (RevL.ds0 (I1.ok.hd hc) `m9 (`ahr J hz) (Q:=`atM) (E:=`hG) λh' tk c a ha ga hk=>?_) `aSC
 have hf:H1 a=`f:=`Ya ha;refine#[`bZ,_,`LM (a:=a) (o:=`t `Qs) (t':=tk) hk ha ?_,rfl,k a hf];exact#[`k `mE hz,`akC,c,rv.reverse,`g1 ga]
theorem kz0(hl:`aSu)(hs:`aSv)(he:`db)(hc:`k!)(hgl:`aSw)(hgs:`aSx)
  (e1:`aSy) (e2:`gx)
  (h1:`nc) (h2:`aSz) :
  PDF X `aSA (oA `C6 pp0):=.mk λB δ =>
 (Kd0 hc hl hs (he B δ) hgl hgs e1 e2 h1 h2).imp fun σ H Q hq119=>by
  apply `bG hq119
  unfold oA z7 v8 at h;cases e3:`ax with
  | none=>rw[e3] at h;cases h
  | some x =>
   rw[e3] at h;apply `oE `q `ky;cases x<;>simp only[pp0] at h<;>try cases h
   refine#[_,en,e3,λv H1 s1 r=>?_];rw[S7] at r;let#[q,xs,rfl,hq,rr]:=r;exact#[q,xs,rfl,`pY,`ayC rr.reverse.mono]
universe zz
theorem w60[`nd]:∀{ks:`ne} {ds:`l} {xs:`V} {q:κ},`bC->(∀d,`ajK=`bk->∃x,`aSD=`du/\`Cu)/\(`vA->(`aSD).isSome=`tF)
 | [],ds,xs,q,h=>by
  refine#[λd e=>?_,`akF]
  ·unfold vz0 at e;cases e
  ·rfl
 | `la,[],xs,q,h=>by
  rw[d7] at h;subst h;refine#[λd e=>?_,`he]
  ·unfold vz0 at e;cases e
  ·simp at z
 | `la,`aC,xs,q,h=>by
  skip;rw[j7] at h;apply `Fo;let#[i1,i2]:=w60 (ks:=ks) (q:=q) h2
  by_cases e:k=q
  ·subst e
   done;refine#[`aSE,`akF]
   ·unfold vz0 at e'
    rw[`bp] at e';cases e';exact#[x,qk0 rfl,h1]
   ·rw[`eI,qk0 rfl]
    unfold y70;simp
  ·done;refine#[`aSE,`he]
   ·unfold vz0 at e'
    rw[`e?] at e';rw[`eI,qe0 e];exact i1 d' e'
   ·rw[`eI,qe0 e,i2 `aOp]
    unfold y70;simp[e]
theorem W40[`nd]:∀{ks:`ne} {xs:`V} {q:κ},`vA->((`XS).any λkv=>`ap (kv.1=q))=`tF
 | [],_,_,_=>rfl
 | `la,[],_,h=>`ic
 | `la,`m5,q,h=>by
  rw[`eI,`pP,W40 `i4];rfl
def gx0[`nd]{ks:`ne}{q:κ}(h:`vA):∃ys,putK `AV q v=`aSF/\(`s `aa7)=`fs/\(`tF=`d->ys=`akG)/\(`tF=`m->ys=`XW):=by
 unfold putK xi0;rw[W40 h];cases hk:`tF with
 | true =>
  rw[`bp,`bp];refine#[`akG,?_,by simp[h],`hh,λz=>by cases z];clear hk
  induction ks generalizing xs with
  | nil=>rfl
  | cons k ks ih =>
   cases xs with
   | nil=>simp at h
   | cons x xs =>
    rw[`eI,`ag,`ag,`eI,ih `i4]
    by_cases e:k=q<;>simp[e]
 | false =>
  rw[`jE,`jE];refine#[`XW,?_,by simp[h],`aMu,`hh];rw[List.zip_append h];rfl
theorem nh0[`nd]{q:κ}{d:D}(hv:`c'):∀{ks:`ne} {ds:`l} {xs:`V},`bC->`k3 (`aPq λp=>`o (p.1=q) d p.2) (`akG)
 | [],_,_,_=>`aiy
 | `la,[],xs,h=>`aiz
 | `la,d'::ds,xs,h=>by
  rw[j7] at h;apply `Fo;rw[`eI,`eI,`ag,`ag,j7];refine`k0 ?_ (nh0 hv h2)
  by_cases e:k=q
  ·simp only[e,`hZ];exact hv
  ·apply `mR e;exact h1
section
variable{a:`J}{p:Pos}{ga:`cY}
def p40{d:D}{k:J6}(h:yy0 d=`fG)(r:`c'):v=kV k:=by
 apply `BA d yy0
 ·subst h;rw[Z6] at r;subst r;rfl
 ·subst h;rw[T5] at r;subst r;rfl
theorem ik0:∀{ds:`l} {ks:`gk} {xs:`V},`RK=`c ks->`bC->xs=`Ma
 | [],ks,xs,h,r=>by cases h;rw[d7] at r;exact r
 | `aC,ks,xs,h,r=>by
  skip;unfold qu0 at h;rw[j7] at r;apply `akH;cases e1:yy0 d with
  | none=>rw[e1] at h;cases h
  | some k =>
   cases e2:`RK with
   | none=>apply `dq;cases h
   | some l =>
    apply `dq;cases h;done;rw[p40 e1 h1,ik0 e2 h2];rfl
def b80{d:D}{k:`gk}(h:qp0 d=`fG)(r:`c'):∃b,v=`u9/\`Fv:=by
 cases d<;>simp only[qp0] at h<;>try cases h
 rw[Q5] at r;let#[a,xs,rfl,q,rr]:=r;exact#[a,rfl,`bR (ik0 h rr) q.2]
open T in
theorem X70(hu:`lb)(ha:`cA)(hb:`dr)(hs:`aSG):`k' `EH p20:=.mk λB δ=>(Yn0 hu `bt `e' hs).imp fun σ H Q hq120=>by
 apply `bG hq120
 unfold o2 at h;cases e1:`ex with
 | none=>rw[e1] at h;cases h
 | some x =>
  cases e2:`fy with
  | none=>apply `dq;cases h
  | some y =>
   apply `dq;apply `fS;apply `xZ;cases x<;>simp only[p20] at h<;>try cases h
   rename_i ks ds;have r1:=`rj;cases ks with
   | inl ks =>
    apply `yh;cases e3:yy0 y with
    | none=>rw[e3] at h;cases h
    | some q =>
     rw[e3] at h;apply `fS;rw[g70] at r1;apply `aSH;apply `aSI;have:=p40 e3 r2;subst this;exact#[p,v,rfl,`bR hv `akI,`aSJ]
   | inr ks =>
    apply `yh;cases e3:qp0 y with
    | none=>rw[e3] at h;cases h
    | some q =>
     rw[e3] at h;apply `fS;rw[fj0] at r1;apply `aSH;apply `aSI;let#[b,rfl,hb]:=b80 e3 r2;exact#[p,v,rfl,`bR hv `akJ,`aSJ]
open T in
theorem Lf0(hu:`lb)(ha:`cA)(hb:`dr)(hm:`H (`IQ .In b=`m) Ak):`Fd (`Xw .In) (o2 ga gb `aCc):=.mk λB δ=>(H00 (Jy0 hu `bt `e') hm).imp fun σ H Q hq121=>by
 apply `na hq121
 unfold ob o2 at h;cases e1:`ex with
 | none=>rw[e1] at h;cases h
 | some x =>
  cases e2:`fy with
  | none=>apply `dq;cases h
  | some y =>
   apply `dq;apply `fS;apply `xZ;apply `aSK
   rename_i ks ds;cases ks with
   | inl ks =>
    apply `yh;cases e3:yy0 x with
    | none=>rw[e3] at h;cases h
    | some q =>
     rw[e3] at h;apply `aSL;cases h;rw[g70] at r2;apply `Sp;have:=p40 e3 r1;subst this;refine#[p,_,rfl,`akI,_,rfl,?_];rw[`Sq];exact `aSM
   | inr ks =>
    apply `yh;cases e3:qp0 x with
    | none=>rw[e3] at h;cases h
    | some q =>
     rw[e3] at h;apply `aSL;cases h;rw[fj0] at r2;apply `Sp;let#[b,rfl,hb]:=b80 e3 `Fc;refine#[p,_,rfl,`akJ,_,rfl,?_];rw[`Sq];exact `aSM
theorem lj0(i:Nat)(hu:`lb)(h:`db)(hN:`dG)(hv:`eG)(hd:`aQ)(hcd:`dX)
  (ha:`H (∀v,`aSN=(do
   let ov ← `aSO
   let iv ← `aSP
   `afW
   `afX
   `afY)) Ad):PTG X `aa8 (`DF i g):=.mk λH₀ B₀ d δ pins s σ H v u Q I r hq122=>by
 skip;let#[δ',en,e1,k]:=hq122
 unfold putAt at e1;apply `akg;cases e2:`L9 with
 | none=>apply `aj;cases e1
 | some pr =>
  cases e3:`ax with
  | none=>apply `yc;cases e1
  | some dk =>
   apply `yc;apply `e!;cases e4:`Ms with
   | none=>rw[e4] at e1;cases e1
   | some q =>
    rw[e4] at e1;apply `e!;split at e1
    ·rename_i hz
     cases e1;have hi:=Xj0 e2;let#[a,J,hb,xs,hx,hl,rx]:=`oH;have hl:`akK=`ar:=hl;done;apply `aSQ;have:=p40 e4 r1;subst this;apply `aSR;apply `aSS;have rr:Rps X.K H1 B `ZQ ys:=by
      unfold xj0;cases hk:`Sr with
      | true=>rw[`bp,U hk];exact `aST
      | false=>rw[`jE,Y hk];exact `aSU
     rw[hy];have O:`kf (upd H1 a `aSV) (`akL):=`akM hi J `aSW;apply `aSX
    ·cases e1
universe zz
universe DL
namespace DL
open Spec PyProof.Rows L2
section
variable{a:`J}{p:Pos}{ga:`cY}
theorem ct0{sc scope:`cT}{elt iter tg:`J}{ifs:`bQ}{N N':`i}{n:Nat}{caps:`h}{gi:`fO}{idx:`h}{f:`a?}{gt:`ho}{ge:`cY}
  (ok:`tE) (hidx:∀j∈idx,j<n) (hi:`ii)
  (hg:`jA) (ht:`x4) (he:`tB)
  (hc:`k!) (hsc:`x9) (hN:`x') (hs:`e7) :
  `aOG:=`ajp Z70 `x!
def T60{d:D}(h:`p0)(r:`c'):t90 v=`d/\∀e u,`dN e=`d->Rp K H B e u->eqV v u=eqF d e:=by
 apply `aka
 ·rw[R3] at r;subst r
  apply `Ss;apply `St
 ·rw[U3] at r;subst r
  apply `Ss;apply `St
 ·rw[Z6] at r;subst r
  apply `Ss;apply `St
 ·rw[T5] at r;subst r
  apply `Ss;apply `St
theorem R50{d:D}(h:`p0)(r:`c'):`k2 (`akN=`d->`bC->`Ql/\inV v xs=ds.any λy=>eqF y d)
 | [],_,_,rs=>by rw[d7] at rs;subst rs;exact`ks
 | e::ds,_,ha,rs=>by
  skip;rw[j7] at rs;let#[x,t,rfl,r1,r2]:=rs;rw[`pO,`bd] at ha;let#[i1,i2]:=R50 h r ha.2 r2;let#[f1,f2]:=T60 ha.1 r1;done;refine#[by rw[`pO,f1,i1];rfl,?_];unfold inV at i2 ⊢;rw[`pP,`pP,f2 d v h r,i2]
def ec0(neg:`I):Op2 K (rIn K neg) (u50 neg):=by
 apply `jB;have J:∀(ds:`l) (xs:`V),`bC->`dN dx=`d/\`akN=`d->d=`L' (ds.any λy=>eqF y dx)->∀p,y=`fW->(`Qi∨`ahk)->rIn K neg x y H Q:=by
  intro ds xs rs hf hd p hp hq;let#[f1,f2]:=R50 hf.1 rx hf.2 rs;refine#[p,xs,hp,hq,(T60 hf.1 rx).1,f1,`RE];rw[hd,U3,f2];cases neg<;>simp
 cases dy<;>simp only[u50] at h<;>try cases h
 ·split at h
  ·rename_i hf
   have hd:=`aSY;rw[Q5] at ry;let#[p,xs,e,q,rs]:=ry;exact J _ xs rs hf hd p e (`ajF)
  ·cases h
 ·split at h
  ·rename_i hf
   have hd:=`aSY;rw[S7] at ry;let#[p,xs,e,q,rs]:=ry;exact J _ xs rs hf hd p e (`ajE)
  ·cases h
universe zz
universe DL
namespace ZipL
open Spec PyProof.Rows
abbrev IsZ(h:`D)(z TI TO a:`e)(f:`I):Prop :=
 `fZ z=`c { cls:=`bM `j3,dict:=`f,data:=`lN ⟨`pE a,`gW f,`_Y,`X TI,`X TO⟩,slots:=⟨⟩ }
section
variable{w:`Q}{s:`w}
def alive{o:Obj}{Q:`aev->`eL}(ho:`YS)(h:Q (`aq) s):`bJ (`aSZ a) s:=by
 have h':Q (`I8) s:=`k ho h
 exact λ_ _ _=>h'
def b30{TI TO:`e}{f:`I}{Q:`aef}(hz:`FK)(ha:`FL)
  (hQ:∀h',`akO->`Ce z->Q `m `jZ):`bJ (`ayM) s:=by
 unfold Builtin.SmallTypes.ownedTupleIsFree;refine A0 (`N9 (`pE a));show `c! (`aSZ ((`uX a))>>=_) _;rw[`b!];apply `m_ alive ha;simp only[Option.isNone_some,`tn,`g?];refine A0 (`N9 (`gW f));cases f with
 | true =>
  rw[`Su ((`Qz != `Qz)=`d) B7];exact A1 (hQ _ hz (Heap.SameBut.refl _ _))
 | false =>
  rw[`L (`bX ((`AU `m != `Qz)=`d))];exact A0 (wpAny_setField_rec hz `aM λh3 O J=>A1 (hQ h3 O J))
def P60{TI TO a:`e}{f:`I}{oa:Obj}{k1 k2:Nat}{xs ys:`a5}{x y:`B}{Q:`an}(D:`ng)
  (hz:`FK) (ha:`FL) (hTI:`Sv)
  (h1:`Sw) (h2:`Sx) (hl1:`FM) (hl2:`FN) (hx:`Mf=`du) (hy:ys[k2]?=`eP)
  (hQ:∀h',`akO->`aS_->`aS0->`akP->`aS1 ->
   `Sy->Q `i? `jZ) :
  `Ey `aS2 λfin s'=>∃v,fin=`wU (.ret v)/\Q v s':=by
 apply `aS3;apply `aS4;apply `aS5;apply `aS6;refine `aS7;show `aS8;refine A0 (b30 hz ha λh₁ a3 J=>?_);apply `mR `tn;refine `rz;apply `aS9;apply `Sz;show `aS';refine A0 (As0 `akQ `akR hx λh₂ a4 O=>`j5);refine `j5;apply `Sz;show `aS!;refine A0 (As0 `aS? `aTa hy λh₄ a1 Y=>`j5);refine A1 `JD;refine A0 (wpAny_newTuple (hsz:=`YR) ?_);have U:`aTb=`Y:=by rw[Y.1,O.1,J.1]
 have a2:`I7 h₄ `d:=`QI _ _ D.i2z.symm (`Dw _ _ D.i1z.symm a3);have Z:∀c o,c≠z->`_G->`_H->`dO c=`aq->h₄.get? c=`aq:=λc o c1 c3 c4 e=>`QI _ _ c4 (`akS `Dw e)
 refine A1 `aTc;show Q (`X `aTb) _;have hq:=hQ (h₄.push (`hI `ft ⟨x,y⟩)) (A9 _ a2) ((a4.extBut `QI D.i12).at `aTd) (a1.at `aTd)
  (`bR U `gY) (by rw[`So,U]) λc o c1 c3 c4 e=>A9 _ (Z c o c1 c3 c4 e)
 rw[U];exact hq
def Mj0{TI TO a:`e}{f:`I}{oa:Obj}{k1 k2:Nat}{xs ys:`a5}{Q:`OI}(hh:`jl)(D:`ng)
  (hz:`FK) (ha:`FL) (hTI:`Sv)
  (h1:`Sw) (h2:`Sx) (hl1:`FM) (hl2:`FN) (hend:`aTe)
  (hE:∀h' e,`Sy->(∃o,`hD e=`aq/\`l2=`bM `aTf)->E `g! `jZ) :
  `bJ `aS2 s:=by
 apply `aS3;apply `aS4;apply `aS5;apply `aS6;refine `aS7;show `aS8;refine A0 (b30 hz ha λh₁ Y J=>?_);apply `mR `tn;refine `rz;apply `aS9;apply `Sz;show `aS';cases hx:`Mf with
 | none =>
  refine A0 (`aTg hh `akQ `akR hx λh₂ e O he=>?_);exact hE h₂ e (λc o c1 c3 _ x=>`akS O x) he
 | some x =>
  have hy:ys[k2]?=`f:=by rcases hend with h|h;rw[hx] at h;cases h;exact h
  refine A0 (As0 `akQ `akR hx λh₂ Z O=>`j5);refine `j5;apply `Sz;show `aS!;refine A0 (`aTg hh `aS? `aTa hy λh₄ e U he=>?_);exact hE h₄ e (λc o c1 c3 c4 x=>U _ _ c4 (`akS `Dw x)) he
def U20{TI TO a:`e}{f:`I}{oa:Obj}{k1 k2:Nat}{xs ys:`a5}{x y:`B}{Q:`sZ}(D:`ng)
  (hz:`FK) (ha:`FL) (hTI:`Sv)
  (h1:`Sw) (h2:`Sx) (hl1:`FM) (hl2:`FN) (hx:`Mf=`du) (hy:ys[k2]?=`eP)
  (hQ:∀h',`akO->`aS_->`aS0->`akP->`aS1 ->
   `Sy->`aTh) :
  `SA:=by
 have hT:`SB := `akT;unfold pyNext;exact A0 (`aTi (i3 (name:=`aTj) hT v0
  (P3 v0 hT `aTk
   (P60 D hz ha hTI h1 h2 hl1 hl2 hx hy λh' a1 a3 a4 a5 a6 a7=>A1 (hQ h' a1 a3 a4 a5 a6 a7)) `aTl)))
def f00{TI TO a:`e}{f:`I}{oa:Obj}{k1 k2:Nat}{xs ys:`a5}{Q:`sZ}(hh:`jl)(D:`ng)
  (hz:`FK) (ha:`FL) (hTI:`Sv)
  (h1:`Sw) (h2:`Sx) (hl1:`FM) (hl2:`FN) (hend:`aTe)
  (hQ:∀h',`Sy->`aTm):`SA:=by
 have hT:`SB := `akT;unfold pyNext;refine A0 (`aTi (i3 (name:=`aTj) hT v0
  (P3 v0 hT `aTk (Mj0 hh D hz ha hTI h1 h2 hl1 hl2 hend λh' e hk he=>?_) `aTl)))
 let#[o,ho,hc]:=he;refine A0 (A50 (T := `aTf) (b:=`d) #[o,ho,hc] isSubtype_stop ?_);exact A1 (hQ _ hk)
universe zz
structure ZSt(h:`D)(z TI TO i1 i2 l1 l2 S:`e)(xs ys:`a5)(i:Nat):Prop where
 own:(i=0/\IsZip h z TI TO `al/\∃p q,`AZ h TO p q)∨∃a f oa,`I7 h f/\`iI=`c oa/\a≠z/\a≠i1/\a≠i2/\a≠S
 hTI:`AZ h TI `YP `YQ
 h1:`_6 i1 l1 i
 h2:`_6 i2 l2 i
 hl1:h.IsList l1 xs
 hl2:h.IsList l2 ys
structure ZLow(z TI TO i1 i2 l1 l2 S:`e):Prop where
 z:z<S
 TI:TI<S
 TO:TO<S
 i1:i1<S
 i2:i2<S
 l1:l1<S
 l2:l2<S
structure ZG(xs ys:`a5)(S:`e)(h:`D)(as:`aX):Prop where
 rise:as.Pairwise (·<·)
 above:∀a∈as,S<a
 pairs:`aTn h
section
variable{w:`Q}{s:`w}{TI TO S:`e}{xs:`a5}{h:`D}
def ZG.there(g:`aTo)(ha:a∈as):a<`dy:=by
 let#[j,hj]:=`Bj ha;let#[_,_,_,_,e]:=`aTp;exact `fi
def ZSt.keep(x:`aTq)(L:`aTr)(hk:`CP S `ON):`CG h' i:=by
 refine#[?_,hk _ _ (B6 L.TI) x.hTI,`SC x.h1.at L.i1,`SC x.h2.at L.i2,`SC x.hl1.at L.l1,`SC x.hl2.at L.l2];skip;rcases x.own with⟨e,hz,p,q,hp⟩|⟨a,f,oa,hz,ha,n1,n2,n3,n4⟩
 ·done;exact `n #[e,`aTs,p,q,hk _ _ (B6 L.TO) hp]
 ·done;exact `p #[a,f,oa,`aTs,hk _ _ n4 ha,n1,n2,n3,n4]
def Gw0{x y:`B}{Q:`sZ}(D:`ng)(st:`aTt)(hS:S<`Y)(hx:`se)(hy:ys[i]?=`eP)
  (hQ:∀h',`CG h' `fp->`akP->`aTu->`aTh) :
  `SA:=by
 skip;let#[o1,e1,_]:=id st.h1;let#[o2,e2,_]:=id st.h2;apply `aTv
 ·done;refine wpAny_pyNext_zip_item D hz `yi hp st.h1 st.h2 `SD `SE hx hy λh' a1 a2 a3 a4 a5 a6 hk=>hQ h' #[`p #[_,`m,_,a1,a5,D3 (A8 hz),D3 (A8 e1),D3 (A8 e2),D3 hS],hk _ _ D.TIz D.TITO D.TIi1 D.TIi2 `yi,a3,a4,
   st.hl1.at λo e=>hk _ o D.l1z D.l1TO D.l1i1 D.l1i2 e,st.hl2.at λo e=>hk _ o D.l2z D.l2TO `ac4 D.l2i2 e] a5 hk
 ·done;refine U20 D hz ha `yi st.h1 st.h2 `SD `SE hx hy λh' a1 a3 a4 a5 a6 hk=>hQ h' #[`p #[a,`d,oa,a1,hk _ _ n1 n2 n3 ha,n1,n2,n3,n4],hk _ _ D.TIz D.TIi1 D.TIi2 `yi,a3,a4,
   st.hl1.at λo e=>hk _ o D.l1z D.l1i1 D.l1i2 e,st.hl2.at λo e=>hk _ o D.l2z `ac4 D.l2i2 e] a5 `aTw
def Gd0{Q:`sZ}(hh:`jl)(D:`ng)(st:`aTt)(hend:`aTx)
  (hQ:∀h',`aTu->`aTm):`SA:=by
 skip;apply `aTv
 ·done;exact wpAny_pyNext_zip_end hh D hz `yi hp st.h1 st.h2 `SD `SE hend hQ
 ·done;exact f00 hh D hz ha `yi st.h1 st.h2 `SD `SE hend λh' hk=>hQ h' `aTw
universe zz
section
variable{w:`Q}{s:`w}{R:`pr}{TI TO S lo:`e}{xs:`a5}{h₁:`D}
def Hk0(hh:`jl)(D:`ng)(L:`aTr)(hlo:`akU)(hn:`SF)(res:`B)
  (hR:∀h' tk acc c as,(∀b o,b<lo->`aib->`q!)->`hD S=`aTy->`akV->ZG xs ys S h' as ->
   `aTz->R (`pe res) `xt) :
  ∀(k i:Nat) (h:`D) (tk c:Nat) (acc:`a5) (as:`aX),`A0 - i=k->i<=`A0->`aTq->(∀b o,b<lo->`aib->`ob) ->
   `fZ S=`aTy->`aTz->`hL=i->`aTo ->
   `wT (`cn `aTA #[[`X S,`uu,res],[]]) `akW:=by
 have b3:=hlo.1;have b2:lo<S:=P8 hlo.1 L.z;have lk:`aTB (b<lo):=λh h' hk b o hb e =>
  hk b o (`SG hlo.1) (`SG hlo.2.1) (`SG hlo.2.2.1) (`SG hlo.2.2.2) e
 have Y:`aTB (S<=b):=λh h' hk b o hb e =>
  hk b o (`En L.z) (`En L.TO) (`En L.i1) (`En L.i2) e
 intro k
 induction k with
 | zero =>
  apply `aTC;have b0:`aTx:=by
   rcases `aTD `u4 `Ao with q|q
   ·exact `n (D40 `j)
   ·exact `p (D40 `j)
  refine `aTE;rw[`FO v3 _];apply `aTF;refine A0 (Gd0 (s:=`akW) (A:=`h1) hh D a3 b0 λh' he=>?_);refine A1 (hR h' tk acc c as (λb o h1 e=>lk h h' he b o h1 `aTG) (Y h h' he S _ `bF hS) `j #[hG.rise,`SH,`aTH] O);let#[x,y,e1,e2,e3]:=hG.pairs j a hj;exact#[x,y,e1,e2,Y h h' he a _ (P4 (`SH a (C8 hj))) e3]
 | succ k ih =>
  apply `aTC;have a2:i<`A0:=`F
  have a5:i<`u4:=B8 a2 (Nat.min_le_left ..);have a6:i<`Ao:=B8 a2 (By0 ..);have a7:acc.size=i:=by rw[← `Pr,O,`S,U]
  have a1:S<`dy:=A8 hS;refine `aTE;rw[`FO v3 _];apply `aTF;refine A0 (Gw0 (s:=`akW) D a3 a1 (c5 a5) (c5 a6) λh' b1 ht Z=>?_);dsimp only at ht Z ⊢;have a8:=Y h h' Z S _ `bF hS;have up:`CP S (`q!->`xM (h'.update S (`oZ `aTI))):=`aSn
  show `kK (`Sm S `aTI>>=_) _;refine `rz;refine i6 a8 rfl (A1 #[i8 v3 _,ih `fp _ tk _ (`aTJ) `aTK `j a2 (b1.keep L up)
   (λb o h1 e=>up b o (B6 (N4 h1 b2)) (lk h h' Z b o h1 `aTG)) (E2 _ a8 rfl) (by rw[Array.toList_push,O,`aU];rfl) (`dl `Z U) `aTL]) (`cH a7) (by show (`aTJ).size<=`W+1;rw[Array.size_push,a7];lia)
  ·refine List.pairwise_append.mpr #[hG.rise,List.pairwise_singleton _ _,λa ha b hb=>?_]
   rw[`dK hb];exact hG.there ha
  ·intro a ha
   rcases `d! ha with ha|ha
   ·exact `SH a ha
   ·rw[`dK ha];exact a1
  ·intro j b hj
   rcases Nat.lt_trichotomy j `hL with h1|h1|h1
   ·rw[`fw h1] at hj
    let#[x',y',e1,e2,e3]:=hG.pairs j b hj;have hb:=`SH b (C8 hj);exact#[x',y',e1,e2,up b _ (D3 hb) (Y h h' Z b _ (P4 hb) e3)]
   ·subst h1
    have hb:`dy=b:=`E_
    subst hb;exact#[_,_,`k U (c5 a5),`k U (c5 a6),up _ _ (D3 a1) ht]
   ·have a4:`aTK[j]?=`f:=`auy `M0
    rw[a4] at hj;cases hj
universe zz
def Ve0:`ms `FP "__len__"=`Sj:=by apply `xi;kernel_rfl
def Ym0:`ms `FP `aa4=`Sj:=by apply `xi;kernel_rfl
section
variable{w:`Q}{s:`w}{TI TO lo:`e}{xs:`a5}
def Kw0(xs ys:`a5)(lo:`e)(s:`w)(h':`D)(as:`aX):Prop :=
 (∀b o,b<lo->`wx)/\`akV/\ZG xs ys `Y h' as
def Yj0{Q:`K->`eL}(hh:`jl)(D:`ng)(hlo:`akU)
  (st:`aTM) (hn:`SF) (L:`aTN)
  (hT:`SB) (hI:`aTO)
  (hQ:∀h' tk as,`aTP->`aTQ->Q (`v2) `xt):`bJ (collect `j') s:=by
 have U:`Y≠z:=D3 L.z;let#[f0,hI]:=hI;unfold collect;refine A0 (wpAny_runValue (W1 F.entry_proto_collect ?_));rw[`FO F.plain_proto_collect _];show `kK (`aia>>=λl=>again (`cn "list.__iadd__" #[[l,`uu],[]])) s;refine A0 (N3 ?_);refine A1 #[i8 `aTR _,W1 F.entry_list_iadd ?_];rw[`FO `aTR _];have O:(`abb).get? `Y=`c `Ke:=`gY;have Z:=A9 `Ke hI;have J:Shared.TypeIs `aTS `j' `j3 := #[_,Z,rfl];show `kK (`aa5 `i? `j' `i?) _;apply `aSg;apply `m_ P1 J;have h1:`Sl `i? `j'=`m:=by simp[`Sl,U]
 have h2:(`kx `j3==`kx `fX)=`m:=`aw
 have h3:(`kx `j3==`kx `er)=`m:=`aw
 simp only[h1,h2,h3,`OH,`tn,`g?];refine A0 (wpAny_pyIter_zip (s:=`aTS) Z ?_);refine `aBs;apply `aSi;apply `h8 E6 J Ve0;show `kK (`aSj z) _;apply `h8 E6 J Ym0;refine `j5;show `aD _ `h1 (rule "list.extend.makes-room">>=λ_=>Builtin.List.listTouch `i?>>=λ_ =>
  again (`cn `aTA #[[`lv,`uu,`lv],[]])) _ _ _
 refine A0 (d5 ?_);refine `rz;show `kK (`Sm `Y (`aa? `al)>>=λ_=>`Sm `Y (·.pop)) _;apply `h8 i6 O rfl;have a1:=E2 `aTT O rfl;refine i6 a1 rfl ?_;have a3:=E2 (`oZ (·.pop)) a1 rfl;have oth:∀b o,b≠`Y->`gM ->
   `xM (((`abb).update `Y `aTT).update `Y (`oZ (·.pop))) :=
  `ri (`aa6 (`aa6 (`rd)))
 refine A1 #[i8 v3 _,Hk0 (s:=s) (lo:=lo) (h₁:=`aA) hh D L hlo hn _ (λh' tk a4 c as hk Y hl hG a2=>?_) _ 0 _ `cv _ ⟨⟩ [] rfl `kp
  ((st _ U (D3 L.i1) (D3 L.i2)).keep L oth) (`ri (oth b o `afS e)) a3 rfl rfl #[`aKU,(λ_ ha=>nomatch ha),(λj a hj=>by simp at hj)]]
 show `aD _ A (load `Y>>=_) _ _ _;apply `m_ wpAny_load Y;refine `j5;have:=hQ h' tk as #[hk,hl,hG] (A8 Y);rw[← a2] at this;exact `x
universe zz
section
variable{w:`Q}{s:`w}{TI TO lo:`e}{xs:`a5}
def mp0{Q₁:`an}(hh:`jl)(D:`ng)(hlo:`akU)
  (st:`aTM) (hn:`SF) (L:`aTN)
  (hT:`SB) (hI:`aTO)
  (h:∀h' tk as,`aTP->`aTQ->Q₁ (`aKr) (`hA (`ahE `aTU) tk)) :
  `pu `dE A (`pt (`cn `akX) `akY) (wants Q₁ E) s:=by
 refine `aD_;show `kK (do `DW `akX `akY;again (`cn `akX `akY)) s;refine A0 (wpAny_of_eq (F.newCall_tuple_1 _) (A1 #[i8 `aTV _,W1 F.entry_tuple_new ?_]));rw[`FO `aTV _];have Y:=sub_tuple_self;have U:=init_tuple_lookup;have Z:=madeHere_tuple;have O:A.in1.handled=`f:=`akD
 wp_walk using P1 hT,Yj0 (lo:=lo) O D hlo st hn L hT hI
 intro h' tk as hz J;show `c! (`aTW `ayP>>=λv=>ret v) _;unfold Builtin.Tuple.tupleExact;refine A0 (N3 ?_ (by show (`v2).toArray.size<=`W;rw[`cm,`S,hz.2.1];exact hn));exact A1 (h h' tk as hz J)
def Tn0{Q:`an}(hh:`jl)(hl1:`FM)(hl2:`FN)(hn:`SF)
  (h:∀(h':`D) (tk:Nat) (as:`aX) (t:`e),(∀b o,`wx)->`akV->(∀a∈as,`O?/\a<t)->`tv->`Y<=t ->
   (`aTn h')->`hD t=`c `aTU->Q `oU `xt) :
  `Ey (`eb `FP [`X l1,`X l2]) λv s1=>`bJ (`eb `MB [v]) s1:=by
 have a1:l1<`Y:=`aTX hl1
 have a2:l2<`Y:=`aTX hl2
 refine call_zip_2 hl1 hl2 λh1 hz hTI a4 U Z a3 hk=>?_
 have O:h1.IsList l1 xs:=hl1.at `aTY
 have J:h1.IsList l2 ys:=hl2.at `aTY
 have H:∀k,k<5->`Y+k<h1.objs.size:=λk hk=>`k a3 (Nat.add_lt_add_left hk _)
 refine `aSr (Q₁:=λobj s₁=>s₁.TypeIs obj `er/\Q obj `eD) F.called_tuple (F.typeCall_tuple_1 _) F.entry_object_init
  (mp0 (lo:=`Y) (xs:=xs) (ys:=ys) (`akD) (zipApart_new a1 a2) #[i9 _ 4,i9 _ 3,`fg,i9 _ 1] (λS n1 n2 n3=>#[`n #[rfl,hz,_,_,a4],hTI,U,Z,O,J]) hn
   #[H 4 `v,H 2 `v,H 3 `v,H 0 `v,H 1 `v,N4 a1 `SI,N4 a2 `SI]
   `akT #[_,hz] λh' tk as ze Y=>#[#[_,`gY,rfl],?_]) λobj s₁ h₁=>?_
 ·let#[k1,k2,g]:=ze
  refine h (`ahE _) tk as `Cp (`j_ (A9 _ (k1 b o `Bp (hk b o e)))) k2 (λa ha=>#[?_,g.there ha]) (g.rise.imp λh=>B6 h) ?_ (`aTH) (`gY)
  ·exact P4 (N4 `SI (g.above a ha))
  ·exact P4 (N4 `SI Y)
  ·let#[x,y,e1,e2,e3]:=`aTp
   exact#[x,y,e1,e2,A9 _ e3]
 ·exact#[h₁.1,F.args_object_init_2 obj _,object_init_meets F.called_tuple.init.lookup F.called_tuple.made `v prog w `h1 _ `eD #[h₁.1,rfl,h₁.2]]
universe zz
universe ZipL
namespace L2
open Spec PyProof.Rows
def s00(H:Hp):`yj->Hp
 | []=>H
 | p::l=>upd `CH p.1 p.2
theorem j20{b:`e}:∀{l:`yj},(∀p∈l,p.1≠b)->`akZ=H b
 | [],_=>rfl
 | p::l,h=>by
  show `aTZ=_;rw[m7 (B4 (h p A4)),j20 `aT_]
theorem mv0{b:`e}{u:HO}:∀{l:`yj},`akZ=`bc->(∃p∈l,p.1=b/\p.2=u)∨`O_
 | [],e=>`p e
 | p::l,e=>by
  by_cases h:b=p.1
  ·subst h
   have e':upd `CH p.1 p.2 p.1=`bc:=e;rw[j8] at e';exact `n #[p,A4,rfl,A3 e']
  ·have e':`aTZ=`bc:=e
   rw[m7 h] at e';rcases mv0 e' with⟨q,hq,x⟩|x
   ·exact `n #[q,A5 _ hq,x]
   ·exact `pv
theorem jl0:∀{l:`yj},(`c6 `abe).Nodup->∀p∈l,s00 H l p.1=`wb
 | [],_,p,h=>nomatch h
 | q::l,n,p,h=>by
  rw[`ag,`ak_] at n;show upd `CH q.1 q.2 p.1=_;apply `ak0
  ·rw[j8]
  ·rw[m7 (λz=>n.1 (`bR z (j0 h))),jl0 n.2 p h]
section
variable{s:`w}
def Inv.laidL{l:`yj}{t':Nat}(I:`A)(k:`afp)
  (hl:∀p∈l,`Y<=p.1/\∃xs,p.2=`fo/\`Ea H p.1 `uo):`a0 `CH `oA:=by
 have low:∀b,b<`Y->`akZ=H b:=λb hb=>j20 λp hp z=>by
  have:=(hl p hp).1;apply `aV z;exact D9 _ (B8 hb `x)
 refine I.un #[`aE_,`aE0,λb u q n _=>`k (low b (A8 q)) n,`aE1,`D7 `aT0,
  λb u xs q=>`aT0,`ae' `ayQ] `afo
 skip;rcases mv0 e with⟨p,hp,rfl,rfl⟩|e'
 ·let#[_,xs,ex,ok]:=hl p hp
  done;rw[ex];exact ok
 ·done;exact(`b2 b u e').stay `aEV (λc q=>`ak1) (λc xs q=>`ak1) λc ob u' q=>`ak1
universe zz
def bo0(X:Cx)(f1 f2:`B)(r:`qR):Prop :=
 ∀(pins:`au) (s:`w) (σ:St) (H:Hp) (xs:`V) (us:`K) (Q:VK),`A->`ei->`Pz ->
  `cp (`eb f2 us) (λv s1=>`pB (`eb f1 [v]) `fE s1)
section
variable{p:Pos}{x1:Str}{T1 T2:`cq}{t:TA}
def Uw0(hc:`aT1)(hg1:Gl X x1)(hg2:Gl X x2)(hm1:`aT2)(hm2:`aT3)(hv1:`aT4)(hv2:`aT5)(ha:`pK)
  (hn1:`aT6) (hd1:`aT7) (hn2:`aT8) (hd2:`aT9)
  (e1:`aT') (h1:`nc)
  (he:`dn) (hpl:`aT!) :
  PE X `aT? (tCB r t):=by
 apply `bh;refine K2 (td0 I hg1 hm1 hv1 ?_ hn1 hd1);refine `aSB;rw[e1];show `c! (`Ed (`ayR::`Io)) s;refine P7 ?_;refine K2 (td0 I hg2 hm2 hv2 ?_ hn2 hd2);refine P6 (thn (ha pos2 `r s σ H _ I h) λus s1 hq123=>?_) he hpl;apply `Px hq123;exact thn (`aAY) `aSC
universe zz
universe L2
namespace DL
open Spec PyProof.Rows L2
section
variable{p:Pos}{x1:Str}{T1 T2:`cq}{f:`U}
theorem Ui0(hc:`aT1)(hf:`Rb)(hm1:`aT2)(hm2:`aT3)(hv1:`aT4)(hv2:`aT5)(ha:`k7)(hg1:`ku x1)(hg2:`ku x2)
  (hn1:`aT6) (hd1:`aT7) (hn2:`aT8) (hd2:`aT9)
  (e1:`aT') (h1:`nc)
  (he:`dn) (hpl:`aT!) :
  PD X `aT? `I5 :=
 `eH (Uw0 hc hg1 hg2 hm1 hm2 hv1 hv2 `bt hn1 hd1 hn2 hd2 e1 h1 he hpl).imp `ai0
universe zz
def ye0:`aX->`my->`yj
 | `o0,`nh=>(a,`aa2)::`abd
 | _,_=>[]
theorem ee0:∀{as:`aX} {ps:`my},`hL=`aI->`aUa=as
 | [],[],_=>rfl
 | [],`cr,h=>`ic
 | `cr,[],h=>`ic
 | `o0,`nh,h=>by
  show a::`aUa=_;rw[ee0 `i4]
theorem d60:∀{as:`aX} {ps:`my} {q:`XM},q∈`abd->∃(j:Nat) (p:V×V),as[j]?=`c q.1/\`aUb/\q.2=`aa2
 | [],_,q,h=>`SJ
 | `cr,[],q,h=>`SJ
 | `o0,`nh,q,h=>by
  apply `ak0
  ·exact#[0,p,rfl,rfl,rfl]
  ·let#[j,p',h1,h2,h3]:=d60 h
   exact#[j+1,p',`Bm,`ak2,h3]
def Oy0(K:`z):`qR:=λvs H Q=>∃q1 q2 xs ys,vs=[`X q1,`X q2]/\`Ix q1/\SqL K H q2 ys /\
 ∀(t:`e) (as:`aX),`ak3->`tv->t∉as->`ak4->(∀a∈as,`xo)->Q `oU (s00 H ((t,`C `Jp)::`aUc))
theorem ej0:∀as:`aX,`bU `Jp (`v2)
 | []=>`R
 | `o0=>`aa rfl (ej0 as)
def gs0(hc:`k!):bo0 X `MB `FP (Oy0 X.K):=by
 apply `afQ;skip;let#[q1,q2,xs,ys,rfl,h1,h2,k]:=h;cases r with
 | cons r1 r =>
  cases r with
  | cons r2 r =>
   cases r;obtain rfl:=r1;obtain rfl:=r2;let#[us1,v1,p1,z1]:=`iJ h1;let#[us2,v2,p2,z2]:=`iJ h2;have l1:=v1.length;have l2:=v2.length;done;refine ZipL.Tn0 `m4 `Cx `ajy (`aRg) λh' tk as t hk hl ha U ht hp gt=>?_
   rw[`cm,`cm] at hl;have O:`ak3:=`i! `u3 hl
   refine#[`Iq,_,I.laidL (t':=tk) hk λp J=>?_,rfl,k t as O U (λz=>D9 _ (ha t z).2) (`rM ht) λa h=>`rM (ha a h).1];rcases `cF J with rfl|J
   ·refine#[ht,_,rfl,?_,`v2,ej0 as,(`Zq gt)]
    rw[`S,hl];lia
   ·skip;let#[j,#[x,y],e1,e2,e3]:=d60 J
    let#[u,w,f1,f2,f3]:=hp j p.1 e1;done;have hz:=List.getElem?_zip_eq_some.mp e2;skip;let#[u',g1,g2]:=v1.get hz.1;let#[w',g3,g4]:=v2.get hz.2;have eu:u'=u:=by
     have:us1.toArray[j]?=`c u':=`bl g1
     apply `aV f1;exact`aUd
    have ew:w'=w:=by
     have:us2.toArray[j]?=`c w':=`bl g3
     apply `aV f2;exact`aUd
    subst eu;subst ew;done;exact#[(ha p.1 (C8 e1)).1,_,e3,`SK,[u',w'],`aa g2 (`aa g4 `R),(`Zq f3)]
theorem ek0:∀{ds es:`l} {xs ys:`V} {as:`aX},`bC->`aMJ->`ak3->(∀p∈`aUc,`wc=`wb/\¬B p.1) ->
  `k3 (`aSa λp=>`dU `avt) `Jp
 | [],es,xs,ys,as,r1,r2,hl,h=>by
  rw[d7] at r1;subst r1;simp at hl;subst hl;simp[d7]
 | `aC,[],xs,ys,as,r1,r2,hl,h=>by
  rw[d7] at r2;subst r2;simp at hl;subst hl;simp[d7]
 | `aC,e::es,xs,ys,as,r1,r2,hl,h=>by
  skip;rw[j7] at r1 r2;let#[x,xs',rfl,a1,a2]:=r1;let#[y,J,rfl,b1,b2]:=r2;cases as with
  | nil=>simp at hl
  | cons a as =>
   have h0:=h (a,`Mh) A4;done;rw[`eI,`ag,`ag,j7];refine`k0 ?_ (ek0 a2 b2 `X3 λp hp=>h p (A5 _ hp));rw[Q5];apply `lc a [x,y] #[h0.2,h0.1];rw[j7];refine`k0 a1 ?_;rw[j7];exact`k0 b1 `k6
theorem Yp0:∀{as:`aX} {zs:`my} {p:`XM},p∈ye0 as zs->∃xs,p.2=`fo
 | [],_,_,h=>`SJ
 | `cr,[],_,h=>`SJ
 | `o0,z::zs,p,h=>by
  unfold ye0 at h;apply `ak0
  ·exact`ah
  ·exact Yp0 h
def Nl0{t b:`e}{o:HO}{zs:`my}{ob:Obj}(ho:`aM?)(h:s00 H ((t,o)::ye0 as zs) b=`aUe):H b=`aUe:=by
 skip;rcases mv0 h with⟨p,hp,_,e⟩|h
 ·rcases `cF hp with rfl|hp
  ·done;exact `G e (ho _ _)
  ·let#[ys,e']:=Yp0 hp
   rw[e] at e';cases e'
 ·done;exact h
open T in
def Tb0:FnR K (Oy0 K) Wb0:=by
 intro H B xs ds d Q bad r h k;unfold Wb0 at h;apply `ak5
 rename_i ds es;rw[j7] at r;let#[x,r',rfl,r1,r]:=r;rw[j7] at r;let#[y,r',rfl,r2,r]:=r;rw[d7] at r;subst r;rw[S7] at r1 r2;apply `aUf;let#[q2,ws,rfl,s2,t2]:=r2;refine#[q1,q2,us,ws,rfl,s1.to,s2.to,λt as hl O ht ft fa=>?_];have J:(`aUg)=t::as:=by rw[`ag,ee0 hl]
 have hN:(`aUg).Nodup:=`k J (`Zb #[ht,O])
 have fr:∀p∈(`Mg),`wc=`f:=λp hp=>by
  have:p.1∈t::as:=`bR J (j0 hp)
  rcases `cF `x with e|e
  ·rw[e];exact ft
  ·exact fa _ e
 have sm:`dc H (s00 H (`Mg)):=#[λb u e=>by
  rw[j20 λp hp z=>by rw[← z,fr p hp] at e;cases e];exact e,λb ob xs e=>Nl0 (by intro _ _ z;cases z) e]
 have nb:∀p∈(`Mg),¬B p.1:=λp hp z=>bad _ z (fr p hp)
 refine k _ _ sm ?_;rw[Q5];refine#[t,`auN,rfl,#[nb _ A4,jl0 hN _ A4],ek0 (t1.same sm) (t2.same sm) hl λp hp=>#[jl0 hN p (A5 _ hp),nb p (A5 _ hp)]]
universe DL
namespace L2
open Spec PyProof.Rows
section
variable{s:`w}
def Inv.turnedL(I:`A)(hf:∀b∈fp,`LE)(k:`aUh):`afl:=by
 have J:`s5 (b∉fp):=λb u e z=>by rw[(hf b z).1] at e;cases e
 refine `Pf (g':=`xp) (d':=`Pg) (ch:=fp) (λb hb=>#[(`rB).2.2.2.1,(`rB).2.1,(`rB).2.2.2.2.1,(`rB).2.2.2.2.2]) (`Pi `ak6) (`Pi #[`D0,`ak6]) (λ_ _ _ _ n=>n)
  (λb o hc e=>#[o,`ak6]) (`afn) (λ_ _ _ e=>e) `aFx `aFy (`afo) `h7
 ·let#[o,es,ep,ho,r]:=hm
  exact#[o,es,ep,k _ o (λz=>(hf _ z).2.1 rfl) ho,r]
 ·apply `aFz
  rcases hc with z|z
  ·rw[z];exact J b u e
  ·exact J c _ z
def Inv.turnedNew{t':Nat}{x y:V}{w:`B}(I:`A)(hf:∀b∈fp,`LE)(rx:`i9)(ry:`akm)(hlt:∀b∈fp,b<`Y)
  (hob:`ahD=`c `ayS) (k:`aUh) :
  `a0 `aUi `oA/\∀b∈fp,`aUj:=by
 have ne:∀b∈fp,b≠`Y:=λb hb=>B6 (hlt b hb)
 have fr:∀b∈fp,`aUj:=λb hb=>`Dl (m7 (ne b hb)) (`rB).1
 have I1:`a0 `aUi `aUk :=
  `tf (`AR) `bF #[`SK,[u,w],`aa rx (`aa ry `R),`aeO]
 refine#[Inv.turnedL (s:=`aUk) (t':=t') (fp:=fp) I1 (λb hb=>#[fr b hb,(`rB).2]) λb o hb e=>?_,fr];rcases Heap.get?_push_cases e with⟨rfl,rfl⟩|e
 ·exact hob
 ·exact k b o hb e
universe zz
def Ite(K:`z)(a:`e):It :=
 #[`aGP,
   λi H v H'=>∃t x,v=`Iq/\`ak4/\H'=upd H t (`C [`FQ,x])/\`aGQ,
   `aGR]
theorem Sk0{P:`ai}{w:`Q}{x1}{e:`e}(hei:e≠it):Turn P w K (`PT elts) (Ite K a) [e,it] e
  (λi h=>(∃old,IsEnum h e it i old)/\`aGS) where
 mem:=`a7
 obj:=λi h st c hc=>by
  skip;let#[#[old,he],#[o1,e1,c1,d1]]:=st;apply `ak7;rcases hc with rfl|rfl
  ·done;exact#[_,he,λv z=>nomatch z]
  ·done;exact#[_,e1,λv z=>by rw[d1] at z;cases z]
 keep:=λi h h' st k=>by
  apply `ak8;exact#[#[old,k e `aM _ he],h1.at λo x=>k it `aM o x]
 item:=by
  apply `kV;skip;apply `kW;apply `ak8;apply `agd;apply `aUl;apply `age;done;refine wpAny_pyNext_enum_item he h1 `Cx (x:=u) `agf hei λh' a1 a2 a3 a4 hk=>?_
  refine`pH (wpAny_letOwnedTupleGo_enum (s:=`QE) a1 λJ b1 hs=>?_);have le:=A8 he;let#[o1,e1,_]:=id h1;have l1:=A8 e1;let#[I1,fr]:=I.turnedNew (h':=J) (t':=`us) (fp:=[e,it]) (x:=`FQ) (u:=`g i `cv) hf `ah ru (λc hc=>by
   apply `ak7;rcases hc with rfl|rfl<;>assumption) (`xh _ (D3 le) a3) (λc o hc x=>by
   apply `aUm;exact`xh _ hc.1 (hk c o hc.1 hc.2 x))
  exact#[`lv,_,I1,rfl,#[_,x,rfl,`Yc,rfl,`aGY],#[#[_,`bl b1],a2.at λo y=>`xh it hei.symm y],fr]
 done:=by
  apply `kV;skip;apply `kW;apply `ak8;let#[xs,hq,O]:=hg;apply `aUl;have l1:=`Ek;done;refine wpAny_pyNext_enum_end `m4 he h1 `Cx `pG λh' hk=>#[rfl,I.turnedL (t':=`cv) (fp:=[e,it]) hf λc o hc x=>?_]
  apply `aUm;exact hk c o hc.2 x
 self:=λ_ _ _ _ _ st h=>by
  let#[#[old,he],_]:=st;exact `aUn he h
def Uq0:`sq `o_ `o_:=`bb
def G30(K:`z)(ta:TA):TI:=`Ep ta λvs H1=>∃a,vs=`eW/\`aG3/\R (Ite K a) H1
def Mh0{a:`J}{ta:TA}{p pos:Pos}(hg:`aUo)(hm:`aUp)(ha:`aG!)(hs:`Pw) :
  PI X `aUq `aUr (G30 X.K ta):=by
 apply `Eq;refine `aHa Uq0 λus s1 hq124=>?_;skip;apply `Px hq124;let#[qa,e,#[xs,h1],q]:=q1;subst e;cases r1 with
 | cons r rr =>
  cases rr;obtain rfl:=r;let#[us1,v1,p1,z1]:=`agk h1;done;refine call_enumerate_list `Cx λh' hz J O hk=>?_
  refine `aUn (s:=(`f_ s1 h')) hz ?_;refine#[_,_,_,_,H1,rfl,`JF (t':=`YC) hk,Sk0 (D3 (Y1 _)),#[#[_,hz],J],`hK,q];apply `aSs;rcases hb with rfl|rfl
  ·exact `aAT (i9 _ 1) (`Ya (i9 _ 1))
  ·apply `Er
universe L2
namespace DL
open Spec PyProof.Rows L2
section
variable{a:`J}{p:Pos}
def L10{t:`e}{x y:V}{d e:D}(hn:¬B t)(ht:H t=`c (`Mh))(r1:`Cu)(r2:Rp K H B e y):Rp K H B (`C [d,e]) `oU:=by
 rw[Q5];apply `lc t [x,y] #[hn,ht];rw[j7];refine`k0 r1 ?_;rw[j7];exact`k0 r2 `k6
open T in
theorem Qk0(hm:`aUp)(ha:`aNI)(hg:`H (`aUo) Aa)(hs:`Pw) :
  PID X `aUq `aUr (jz0 gA):=.mk λB δ=>`Fj (Mh0 hg hm `bt hs) fun σ H R hq125=>by
 apply `Fk hq125
 unfold jz0 at e1;cases e2:`eN with
 | none=>apply `aj;cases e1
 | some ds =>
  apply `aj;apply `e!;unfold Zl0 at e1;split at e1<;>try cases e1
  rename_i ds;apply `aNJ;rw[j7] at r;let#[x,t,rfl,r1,r]:=r;rw[d7] at r;subst r;rw[S7] at r1;apply `aUf;have J:(`s (qz0 ds))=`OW:=by unfold qz0;simp[t1.length]
  refine#[q1,rfl,#[us,s1.to],k _ H' s' #[`J?,λi H2 v H3 g2 y hi=>?_,`J?]]
  ·rw[J] at hi
   exact#[us,us[i],`ak9,by simp[hi]]
  ·let#[t,x,rfl,ht,rfl,hx]:=y
   rw[J,t1.length] at hi;let#[x',e4,rx]:=t1.get (i:=i) (C1 hi);have ex:=hx us `ak9;rw[e4] at ex;cases ex;refine#[Y9 ht,`C [`FQ,ds[i]],by unfold qz0;simp[hi],λB' gB hb=>?_];exact L10 (λz=>hb t z ht) j8 `An (rx.mono gB)
  ·rw[J] at hi
   exact#[us,`ak9,hi]
universe zz
section
mutual
theorem Xq0(hB:`aUs):∀(d:D) (v:V),`akz->Rp K H B' d v->`c'
 | `y,v,_,r=>`CI R3
 | `cb,v,_,r=>`CI U3
 | `cW,v,_,r=>`CI Z6
 | `ce,v,_,r=>`CI T5
 | `eB,v,h,_=>by unfold tree at h;cases h
 | `pW,v,h,_=>by unfold tree at h;cases h
 | `pX,v,h,_=>by unfold tree at h;cases h
 | `dg,v,h,r=>by
  unfold tree at h;rw[Q5] at r ⊢;apply `ai?;refine#[a,xs,rfl,?_,br0 hB ds xs h rs];let#[n,q]:=q;refine#[`he,q];exact(hB a z).elim n λz=>z _ q
theorem br0(hB:`aUs):∀(ds:`l) (vs:`V),`aky=`d->Rps K H B' ds vs->`Rw
 | [],vs,_,r=>`aUt
 | `aC,vs,h,r=>by
  unfold trees at h;apply `p6;rw[j7] at r ⊢;apply `Ro;exact#[x,t,rfl,Xq0 hB d x h.1 r1,br0 hB ds t h.2 r2]
end
universe zz
theorem M50{g:GE}(h:`db):PD X e (m50 g):=.mk λB δ pins s σ H Q I hq126=>by
 skip;let#[d,en,hq,k]:=hq126
 apply `akb;unfold m50 at hq;cases e1:`vS with
 | none=>rw[e1] at hq;cases hq
 | some x =>
  rw[e1] at hq
  by_cases hf:tree x=`d
  ·apply `R5 `yb
   cases hq;done;refine `aRd (Xq0 (`jd) _ _ hf r);skip;rcases c2 a z with q|⟨i,d',h1,h2⟩
   ·done;exact `m2
   ·let#[o,h3,a',e4,_,ro]:=`oJ `ZX h1
    rw[h2] at h3;cases h3;cases e4;done;exact `p λys z=>(ro.live.same s').nt ys z
  ·apply `R5 `R6
   cases hq
universe DL
namespace L2
open Spec PyProof.Rows
def Uf0:MtR X "str.startswith" `aUu:=by
 apply `aOU;skip;let#[a,b,rfl,rfl,q]:=h;apply `cy;cases rs with
 | cons r rr =>
  cases rr;let#[u,rfl]:=r;done;exact SC.startswith (`iV `cb q)
universe L2
namespace DL
open Spec PyProof.Rows L2
section
variable{name:`N'}{id:`cq}{r:`jn}{f:`Sg}
def MfR(K:`z)(r:`jn)(f:`Sg):Prop:=∀(H:Hp) (B:BS) (dx:D) (xs:`V) (ds:`l) (d:D) (Q:VK),`pU->`bC->f dx ds=`bk->(`xX)->∃a,dx=`ja/\r (`ja) xs H Q
theorem P50(slot:Slot `jp `cK id)(hty:`ahF)(hm:`ahG)(hf:MfR X.K r f)(hstr:∀d ds e,f d ds=`c e->`aUv)(ho:PD X o g)(ha:`RG)(hbase:`ahH)
  (hfew:`H ((`tC
  &&`ajG)=`d) Aa)
  (hline:`hm) (hs:`gx) (hplain:`pZ) :
  PD X (`sS `ahI [e]) (iz0 g gA f):=.mk λB δ =>
 (`aPg slot hty hm).imp fun σ H Q hq127=>by
  skip;apply `bG hq127
  unfold iz0 at h;cases e1:`ax with
  | none=>rw[e1] at h;cases h
  | some x =>
   cases e2:`eN with
   | none=>apply `dq;cases h
   | some ds =>
    apply `dq;apply `fS;let#[a,rfl]:=hstr x ds d h;done;refine`aPh;rw[T5] at r1;subst r1;refine`aPi;let#[a',e',q]:=hf H2 B (`ja) vs ds d Q `aiR r2 h λv H' s' r'=>k v H' (`IB s') r'
    cases e';exact q
def Lw0{y:`N'}(r:`qz [`ok]):xs=[`ok]:=by
 rw[j7] at r;apply `Ro;rw[d7] at r2;rw[T5] at r1;rw[r1,r2]
def Ul0:MfR K `aUu tn0:=by
 intro H B dx xs ds d Q bad r h k;unfold tn0 at h;apply `ak5
 exact#[_,rfl,_,_,rfl,Lw0 r,`aaP]
def U00(d:D)(ds:`l)(e:D)(h:tn0 d ds=`c e):`aUv:=by
 unfold tn0 at h;apply `ak5
 exact`ah
universe zz
@[simp] def vm0(ga gb gc:GE)(f f':`br):GE:=`EV λx=>`aii λy=>(f x y).bind λt=>(asB t).bind λk=>if k=`d then (gc δ).bind λz=>f' y z else `tq
section
variable{a c:`J}{ga gc:`cY}
def eo0{r:R2}{f:`br}(hf:Op2 K r f)(hf':Op2 K r' f'){δ:Ds}{σ:St}{Q:VK}(h:`gd tD K `ak'):bk0 r r' (`Fb ga) (`Fb gb) (`Fb gc) σ H Q:=by
 skip;apply `xY;unfold vm0 at h;cases e1:`ex with
 | none=>rw[e1] at h;cases h
 | some x =>
  cases e2:`fy with
  | none=>apply `dq;cases h
  | some y =>
   apply `dq;apply `fS;cases e3:f x y with
   | none=>rw[e3] at h;cases h
   | some t =>
    rw[e3] at h;apply `fS;cases e4:asB t with
    | none=>rw[e4] at h;cases h
    | some kb =>
     rw[e4] at h;apply `fS;cases i20 e4;done;apply `xZ;refine hf H2 B v1 v2 x y _ _ `aiR `Fc r2 e3 `ak!
     rw[U3] at r3;refine#[kb,r3,?_];cases kb with
     | false =>
      rw[`pD] at h ⊢;cases h;exact k _ H3 (`tJ) `Kb
     | true =>
      rw[`bp] at h ⊢;cases e5:gc δ with
      | none=>rw[e5] at h;cases h
      | some z =>
       rw[e5] at h;apply `fS;refine#[z,`akx,e5,λv4 H4 s4 r4=>?_];exact hf' H4 B v2 v4 y z d _ ((`akx).same s4).bad ((r2.same s3).same s4) r4 h λv' H5 s5 r5=>k v' H5 (((`tJ).trans s4).trans s5) r5
theorem Pe0{op op':`hl}{r:R2}{f:`br}(ho:`pI)(hf:`x_)(ho':`PH)(hf':`aUw)(ha:`cA)(hb:`dr)(hc:PD X c gc)
  (hm:`PI):PD X `PJ `ak' :=
 `eH (Ph0 ho ho' `bt `e' `Rm hm).imp fun σ H Q h=>eo0 hf hf' h
theorem Rp0{op op':`hl}{r:R2}{f:`br}(ho:`pI)(hf:`x_)(ho':`PH)(hf':`aUw)(ha:`cA)(hb:`dr)(hc:PD X c gc)
  (hm:`PI):`Fd `PJ `ak' :=
 .mk λB δ=>(Po0 ho ho' `bt `e' `Rm hm).imp fun σ H Q hq128=>by
  apply `na hq128
  unfold ob at h;cases e:vm0 ga gb gc f f' δ with
  | none=>rw[e] at h;cases h
  | some d =>
   rw[e] at h;cases i20 h;exact eo0 hf hf' `aiU
open Builtin Builtin.Str Builtin.Int in
theorem Hl0{prog:`ai}{w:`Q}{A:`cf}{E:`an}{s:`w}{x:Str}{n:Int}{t u:Tok}{Q:`an}(hr:(`ap (n < `aJ8)||`ap (n ≥ 2 ^ 63))=`m)
  (hb:¬n<1->`aUx->¬(`SL > `aUy/n)) (hl:¬n<1->`aUx->tooLong (`rF*`iW)=`m)
  (h:(`o (n<1) (Made.str `LH) (`o (`ayT=`d) (Made.val `OV) (Made.str #[`aUz `iW x.cps]))).post Q s) :
  `bJ (`Au .Mult (`g n u) `OV) s :=
 PySem.lm_binaryOp_repeat_right (T := `jp) (U := `jk) `v (λs'=>i4 s' n u) (b4 s x t) PySem.F.fills_int_mul PySem.noFill_str_mul D90 PySem.lm_noRepeat_int PySem.repeat_str PySem.F.slot_int_index.lookup
  (call_gives D90 (i4 s n u) PySem.F.entry_int_mul (PySem.F.args_int_mul_2 _ _) (PySem.AutoIntG3.int___mul___int_str_0 n u x t)
   #[rfl,b4 _ x t,call_gives PySem.F.slot_str_mul (b4 s x t) PySem.F.entry_str_mul (PySem.F.args_str_mul_2 _ _) (gives_str_mul x n t u hr hb hl) h])
universe zz
universe DL
namespace DL
open Spec PyProof.Rows L2
section
variable{σ:St}{δ:Ds}
def Env.fresh{p:`e}{o:HO}(e:`bs)(hp:`ez)(no:∀ob u,o≠`Zr:=by exact λ_ _ z=>nomatch z)(nt:∀xs,o≠`fo:=by exact λ_ z=>nomatch z):Env K `aiP `v0 σ δ:=by
 refine#[`Ds (λv s h=>?_) `mw,`jd,`CB]
 ·cases s with
  | un=>trivial
  | ex c n=>let#[u,q,r]:=h;exact`aUA
  | sh d=>let#[u,q,r]:=h;exact`aUA
  | ow d =>
   let#[a,q,hb,r]:=h;exact#[a,q,`n hb,`dw (λo ho=>`k (m7 (V5 ho hp)) ho) `Mi]
 ·rcases z with z|z
  ·have:=`oG a z
   by_cases q:a=p
   ·rw[q,j8];exact `aUB
   ·rw[m7 q];exact `x
  ·rw[z,j8];exact `aUB
universe zz
def flats(ds:`l):`I:=`akN
def m70(g:GE):GE:=fun δ=>`ajI λd=>match d with
 | `ev=>`o `yk `xQ `f
 | _=>`f
def Ny0{g:GE}{δ:Ds}(h:`vS=`xQ)(hf:`yk):m70 g δ=`xQ:=by
 unfold m70;rw[h,`q];simp only[];rw[`yb]
section
variable{g:GE}
theorem v50:`k2 (`yk->`aiw)
 | [],xs,_,r=>`aUt
 | `aC,xs,h,r=>by
  rw[j7] at r ⊢;let#[x,r',e1,r1,r2]:=r;unfold flats at h;rw[`pO,`bd] at h;exact#[x,r',e1,q20 h.1 r1,v50 (ds:=ds) h.2 r2]
theorem Uy0(h:`x3):`Rk M6 (U40 g):=.mk λH₀ B₀ δ pins s σ H D I #[r,en,hq,k] =>
 ze0 h `ae `ab `IH `r s σ H D I #[r,en.frz,hq,k]
theorem Qn0(h:`x3):PDF X e (m70 g):=.mk λB δ pins s σ H Q I hq129=>by
 skip;let#[d,en,hq,k]:=hq129
 apply `akb;unfold m70 at hq;let#[x,e1,hq]:=bdS hq;cases x with
  | lst ds =>
   simp only[] at hq
   by_cases hf:`yk
   ·rw[`yb] at hq
    cases hq;done;exact h B' `IH `r s σ H Q I #[_,J,e1,λp H' hp s' r=>k p H' hp s' (by
     let#[xs,e5,r5]:=r;exact#[xs,e5,v50 hf r5])]
   ·rw[`R6] at hq;cases hq
  | non=>cases hq
  | bl _=>cases hq
  | int _=>cases hq
  | str _=>cases hq
  | tup _=>cases hq
  | dct _ _=>cases hq
  | fn _ _=>cases hq
universe zz
universe DL
namespace L2
def Tbk(ok:`fP)(h:`D)(e:`e)(v:`B):Prop:=∃T oT ts,v=`X T/\T≠e/\ok T/\`fZ T=`c oT/\oT.data=`lN ts/\3<ts.size
def Lie(ok:`fP)(h:`D)(C:`B)(od:`bq)(e:`e):Prop:=∃oe vs,`aer/\`DZ=C/\`aes/\`xd/\`OM/\ok e /\
 ∃v,`Ca=`bO/\(v=`al∨`ak?)
def LieT(ok:`fP)(h:`D)(C:`B)(od:`bq)(e:`e):Prop:=∃oe vs,`aer/\`DZ=C/\`aes/\`xd/\`OM/\ok e /\
 ∃v,`Ca=`bO/\`ak?
def LieT.lie{ok:`fP}{h:`D}{C:`B}{e:`e}(l:`abh h):`aUC:=by
 skip;apply `aUD;done;exact#[oe,vs,h1,h2,h3,h4,h5,h6,v,h7,`p h8]
structure Noted(ok:`fP)(F:`aX)(h h':`D):Prop where
 keep:`pq (¬ok b->b∉F->`q!)
 slot:`pq (¬ok b->`ae6)
 there:`pq `ae7
section
variable{M:`e6}{s:`w}
def Xv0{base:`D}{ok:`fP}{env:Env}{outer:`eC}{L e:`e}{oe:Obj}{vs:`a5}{head:`B}{hadNext:`I}{Q:`dW}
  (hfr:`ala) (hl:`alb) (hf:`alc) (he:`dO e=`Bl) (hd:`xd) (hsz:`OM) (oke:ok e)
  (new:`ald)
  (h:∀h',`ale->LieT ok h' `DZ `Zp e->`Mj) :
  `dB M (do let a ← frameOf env;let pl ← entryPlaceOf L hadNext;let b ← EntryCells.newEntry head a `al (`pE L) `al pl;setField `g! 1 b):=by
 have U:e∉`awa:=λz=>by
  let#[_,o,q,n]:=hl.mem z;rw[he] at q;cases q;exact n vs hd
 refine A0 (wpAny_frameOf_fun hfr hl hf λg sl=>A0 (wpAny_entryPlaceOf λpl hp=>?_));unfold EntryCells.newEntry newFields;refine A0 (N3 ?_ (hp.sizeOk5 _ _ _ _ _));skip;obtain⟨ar,J⟩:∃ar,ar=(`hW ([head,`vC,`al,`pE L,`al]++(`o pl.isEmpty (`bB 6 `mA) pl))):=`ah;have O:3<ar.size:=by rw[J];simp only[`cm,`Z,`T,`n1];lia
 done;rw[← J];have ge:g.get? e=`Bl:=(sl.2.1 e U).trans he;have nT:`N!≠e:=D3 (A8 ge);have pe:=A9 (h:=g) `ayU ge;have d3:=U2 hd `aBu;have e3:=E2 `alf pe (d4 d3);have t3:=(L4 (`aUE) `alf (B4 nT)).trans (C6 g rfl);refine U1 pe hd hsz `aUF
 ·have oth:∀b o,g.get? b=`aq->`Cb->`xM ((`aUE).update e `alf):=λb o q n=>by
   apply `aD4;exact `vx
  refine#[λb o q n1 n2=>oth b o ((sl.2.1 b n2).trans q) `aUG,λb o q n1=>?_,λb o q=>?_]
  ·let#[x,hx]:=sl.2.2 b o q
   exact#[x,oth b _ hx `aUG]
  ·by_cases z:b=e
   ·subst z
    exact#[_,e3]
   ·let#[x,hx]:=sl.2.2 b o q
    exact#[_,oth b _ hx z]
 ·refine#[_,_,e3,`aD3,?_,d3,`aUH,oke,`X `N!,`aUH,`N!,_,_,rfl,nT,new _ (`k sl.1 `fg),t3,rfl,O]
  let#[c,d,dt,x]:=oe;cases dt<;>rfl
theorem Noted.refl{ok:`fP}{F:`aX}{h:`D}:`r_ ok F h h:=#[λb o z _ _=>z,λb o z _=>#[`D0,z],λb o z=>#[o,z]]
def Xk0{ok:`fP}{C:`B}{e:`e}{f:`bq}{Q:`dW}(lie:`abh `aA)
  (h:∀h',`aUI->`aUJ):`dB M (`ac5 `g! f):=by
 skip;let#[oe,vs,he,rfl,rfl,hd,U,O,v,q,T,oT,ts,rfl,nT,okT,hT,J,q3]:=id lie;done;unfold setFlight;apply `FR;rw[`L `aM];refine U1 hT J q3 `aUF
 ·have oth:∀b o,`gM->b≠T->`xM (`CJ T (`abi (`Mk 3 (f.elim `mA λf=>`pE f)))):=λb o z n=>(`aUK).trans z
  refine#[λb o z n _=>`aUL,λb o z n=>#[`D0,`aUL],λb o z=>?_]
  by_cases w:b=T
  ·subst w
   exact`aUM
  ·exact#[o,oth b o z w]
 ·exact#[oe,vs,(L4 _ _ nT).trans he,rfl,rfl,hd,U,O,_,q,T,_,_,rfl,nT,okT,`ayV,U2 J _,by simp[q3]]
def flight{ok:`fP}{C:`B}{e:`e}{Q:`dW}(lie:`alg)
  (h:∀h',`aUI->`aUN):`alh:=by
 skip;let#[oe,vs,he,hc,U,hd,J,O,v,q,q2]:=id lie;rcases q2 with rfl|t
 ·done;unfold setFlight
  apply `FR;rw[`dS];exact A1 (h _ .refl lie)
 ·done;exact Xk0 #[oe,vs,he,hc,U,hd,J,O,v,q,t] λh' n l=>h h' n l.lie
def Gm0{base:`D}{ok:`fP}{env:Env}{outer:`eC}{L e:`e}{C:`B}{od:`bq}{Q:`dW}
  (hfr:`ala) (hl:`alb) (hf:`alc) (lie:`alg)
  (new:`ald)
  (h:∀h',`ale->`aUJ) :
  `dB M (`EQ `g! env):=by
 skip;let#[oe,vs,he,rfl,rfl,hd,U,O,v,q,q2]:=id lie;done;unfold noteFrame;simp only[hf];skip;rcases q2 with rfl|⟨T,oT,ts,rfl,nT,okT,hT,J,q3⟩
 ·done;apply `FR
  rw[`dS];exact Xv0 hfr hl hf he hd U O new h
 ·done;apply `FR
  rw[`L `aM];refine A0 (D7 hT J (c5 q3) ?_)
  by_cases hin:(ts[3]==`pE L)=`d
  ·rw[`L hin]
   exact A1 (h _ .refl #[oe,vs,he,rfl,rfl,hd,U,O,_,q,T,oT,ts,rfl,nT,okT,hT,J,q3])
  rw[`_ hin];refine A0 (U1 hT J q3 ?_);have oth:∀b,b≠T->`aUO b=`qK:=λb n=>`aUK
  have self:∃o',`aUO T=`Kk:=`aUM;have nr:∀b o,`gM->(∀vs,`oy≠`Aj)->b≠T:=λb o h1 h2 z=>by
   rw[z,hT] at h1;cases h1;exact h2 ts J
  refine Xv0 hfr (hl.of_keeps λb o h1 h2=>#[o,(oth b (nr b o h1 h2)).trans h1,rfl]) hf ((oth e (B4 nT)).trans he) hd U O (λb hb=>new b (by rw[Heap.size_after_update] at hb;exact hb)) (`ali #[λb o h1 n1 n2=>`SM b o `aUP n1 n2,λb o h1 n1=>`SN b o `aUP n1,λb o h1=>?_])
  by_cases z:b=T
  ·let#[o',Y]:=self
   exact `alj b o' (`k z Y)
  ·exact `alj b o ((oth b z).trans h1)
theorem Noted.trans0{ok:`fP}{F:`aX}{h h'':`D}(a:`r_ ok F h h')(b:`r_ ok [] h' h''):`r_ ok F h h'' :=
 #[λc o e n1 n2=>b.keep c o (a.keep c o e n1 n2) n1 `aM,λc o e n=>by
  let#[x,hx]:=a.slot c o e n;let#[y,hy]:=b.slot c _ hx n;exact#[y,hy],λc o e=>by
  let#[x,hx]:=a.there c o e;exact b.there c x hx]
theorem note{base:`D}{ok:`fP}{env:Env}{outer:`eC}{L e:`e}{C:`B}{od:`bq}{Q:`dW}
  (hfr:`ala) (hl:`alb) (hf:`alc) (lie:`alg)
  (new:`ald)
  (h:∀h',`ale->`aUN) :
  `aD M A (`EQ `g! env) (λ_ s'=>`aD M A `ZT Q E s') E s :=
 Gm0 hfr hl hf lie new λh1 n1 l1=>Xk0 l1 λh2 n2 l2=>h h2 (n1.trans0 n2) l2.lie
universe zz
universe L2
namespace L2
open Spec PyProof.Rows
def Tbk.mono{ok ok':`fP}{h:`D}{e:`e}{v:`B}(q:`aUQ)(l:`ak?):Tbk ok' h e v:=by
 skip;let#[T,oT,ts,t1,t2,t3,t4]:=l;done;exact#[T,oT,ts,t1,t2,q _ t3,t4]
def Lie.mono{ok ok':`fP}{h:`D}{C:`B}{e:`e}(q:`aUQ)(l:`aUC):Lie ok' h C od e:=by
 skip;apply `aUD;done;exact#[oe,vs,h1,h2,h3,h4,h5,q _ h6,v,h7,h8.imp id (Tbk.mono q)]
def FpW(X:Cx)(pins:`au)(H:Hp)(b:`e):Prop :=
 `aGH (`X?=`f)
abbrev gv0(X:Cx)(pins:`au)(H:Hp)(h:`D)(C:`e)(od:`bq)(e:`e):Prop:=Lie (FpW X `r H) h `bo od e
section
variable{σ:St}{s:`w}
def Inv.fpW{b:`e}(I:`A)(hb:`alk)(hn:`n4):FpW X `r H' b:=by
 refine#[hn,`he,`he,?_,`af3,`af4]
 ·skip;apply `aFr
  rw[← z,hb] at ho;cases ho
 ·let#[_,o,ho,_]:=I.funs.mem z
  rw[hb] at ho;cases ho
 ·by_cases q:`Zw
  ·exact `m2
  ·refine `all
   cases e:`X? with
   | none=>rfl
   | some o =>
    let#[o',h']:=`As b o e q;rw[hb] at h';cases h'
 ·let#[v,o,q,_]:=`Cc
  rw[z,hb] at q;cases q
 ·have q:=(`AQ).1
  rw[z,hb] at q;cases q
def Inv.dead{b:`e}(I:`A)(hb:`alk):`dj:=by
 cases e:H b with
 | none=>rfl
 | some o =>
  have:∃u,`qK=`bc:=by
   have z:=`b2 b o e;clear e
   induction o with
   | lst xs=>let#[_,_,_,_,q]:=z;exact`js
   | tup xs=>let#[_,_,_,_,q,_]:=z;exact`js
   | dK kvs=>skip;apply `aUR;done;exact`js
   | dT kvs=>skip;apply `aUR;done;exact`js
   | dX kvs=>exact `fH z
   | set S n=>let#[_,_,_,_,q,_]:=z;exact`js
   | ins C dx fs=>let#[_,_,_,q,_]:=z;exact`js
   | own y=>exact z
   | xd fs=>skip;let#[_,#[_,_,_,q,_],_]:=z;done;exact`js
   | rng lo hi=>let#[_,_,_,q]:=z;exact`js
   | frz ob u ih=>exact#[_,z.1]
   | tbl ps=>let#[_,q,_]:=(show TabOk H `aA _ _ from z);exact`js
   | met f y=>exact#[_,z]
   | ext φ=>exact z.2.1
   | deep sub=>exact z.1
  let#[u,q]:=`x;rw[hb] at q;cases q
def Inv.afterNote{F:`aX}(I:`A)(hF:∀b∈F,b∈`xq)(nd:`r_ (FpW X `r H) F `aA h'):`Cg:=by
 have nt:`s5 (¬`alm):=λb u q z=>by
  rw[z.1] at q;cases q
 have hok:`aFJ:=λa o q=>(`b2 a o q).stay (λb u hb e=>by
  have tr:∃v,H b=`bO:=by
   rcases hb with rfl|hb
   ·exact`js
   ·exact#[_,hb]
  let#[v,tr]:=tr;exact `SM b u e (nt b v tr) λz=>by
   rw[I.stkFree b (hF b z)] at tr;cases tr) `acI `acJ `wV
 have nF:∀b,`rV->`D8->b∉F:=λb n1 n2 z=>(`cF (`aff b (hF b z))).elim n1 n2
 have up:`afi:=`aFj
 have old:∀b o,`Kl->`afd->¬`alm:=λb o e hx z=>by
  rcases `aln with q|q
  ·exact hx q
  ·rw[e] at q
   cases q
 have J:`aFk:=λx c e v hq130=>by
  let#[o,ho,hd]:=hq130
  let#[sl,q]:=`SN c o ho λz=>z.2.2.2.2.1 x c e rfl
  exact`aFn
 refine#[I.ok,I.os,`h7,(`axp λb o e n hb hx=>`SM b o `Pc (old b o e hx) (nF b (up b o e) hb)),?_,`w1,`g',`rL,`gm,hok,`eX]
 ·apply `Pd
  let#[O,e2]:=`SN b _ e1 (old b o e hx);exact#[O,e2]
 ·apply `D!
  exact `alj b o' e1
 ·skip;let#[m,#[o,es,ep,ho,r],hl]:=`fD
  let#[sl,hL]:=`SN _ o ho λz=>z.2.1 rfl
  done;refine#[m,#[_,es,ep,hL,r],`afk];apply `aFo;refine`aFp;skip;apply `aFq
  ·done;exact `n l
  ·done;exact `p #[k,c,e,J x c e _ z]
 ·let#[v,z]:=`Cc
  exact#[v,J x c e v z]
 ·apply `Pe
  exact#[`SM p.1 p.2 e (λz=>z.2.2.2.2.2 p hp rfl) (nF p.1 ne nf),n,ne,nf,d]
def Inv.frame(I:`A)(st:`O9):`aE8:=by
 rcases I.ok.stk with q|q
 ·rw[st] at q
  exact `G (`aUS) `aM
 ·exact q.2
def Inv.noted{M:`e6}{E:`an}{C e:`e}{Q:`dW}(I:`A)(st:`O9)(lie:`alo)
  (h:`aUT) :
  `aD M X.A (`EQ `g! `O) (λ_ s1=>`aD M X.A `ZT Q E s1) E s:=by
 refine note (base:=`e1) (outer:=`rA) (by rw[`aIr,st]) (st▸I.stack) (I.frame st) lie (λb hb=>I.fpW (c6 hb) (`rM hb)) (`ali (`aUU `Ph nd))
 rw[st];exact hb
theorem Inv.flown{M:`e6}{A:`cf}{E:`an}{C e:`e}{Q:`dW}(I:`A)(lie:`alo)
  (h:`aUT):`alh :=
 flight lie (`ali (`aUU (λb hb=>by cases hb) nd))
def Inv.track{φ:`oa}(I:`A)(fp:`aUV)(hφ:φ `aA)(ho:`aUW)(st:`aEJ) :
  `a0 (upd H a (`D3)) s:=by
 apply `aUX;have oth:`s5 (upd H a (`D3) b=`bc):=`aUY
 apply `aUZ
 ·have:`i':=λw=>by
   subst w;rcases z4 with z4|z4
   ·exact hx z4
   ·rw[e] at z4
    cases z4
  rw[`FC];exact `Yj
 ·apply `alp
  exact`aU_
 ·rw[m7 (B4 z2)];exact `g'
 ·rw[`aU0];exact `Yk
 ·apply `alq
  apply `aU1
 ·by_cases w:b=a
  ·subst w
   rw[j8] at q;cases q;exact#[hφ,ho,st]
  ·rw[m7 w] at q
   apply `aU2
def Inv.goes{M:`e6}{A:`cf}{E:`an}{pos:Pos}{Q:`dW}(I:`A)(hN:`ej)(hi:`lq)(hx:`IA)
  (h:∀s',Inv X `r (`Al i `f) H s'->`Eb):`dB M (do bindName `O x `al;unbindBehindTheSuite `O x pos):=by
 have J:`aFF:=`aFG
 have hk:`BW=`lx:=hx;refine A0 (wpAny_bindName (ng0 I hN hi `KB (v:=`y) (u:=`al) rfl (λs1 I1=>?_) (`p hx)));unfold unbindBehindTheSuite;refine wpAny_onRaise ?_;unfold unbindName;refine A0 (u7 `OK);unfold deleteName;simp only[hk,J];rw[`dS];have cne:=I1.cne;let#[m,hn,hl]:=id I1.loc;apply `aFH
 have hm:`rG (m x):=by
  let#[u,_,l]:=hl i x `y hi (by rw[`Pk]) `KB;rcases l with⟨_,l⟩|⟨l,_⟩
  ·rw[l];rfl
  ·rw[hk] at l
   rcases l with l|l<;>cases l
 refine A0 (wpAny_nsDel_keeps hn λh' w O hs=>?_);rw[hm];simp only[`aDR,`tn,`g?];refine A1 (u7 (`aaX));let#[oL,_,_,U,_]:=id hn;have up:`afi:=`j_ (`Km I1.ok.above)
 refine#[I1.ok,I1.os,I1.bare,#[`wd,`wd,I1.base.free,`afj,I1.base.tups,I1.base.frzs,I1.base.tbls],#[_,O,`afr],`aFM,`alr,I1.freeC,`gm,`ac',`afs]
 ·exact`als (`JE I1.base.keep)
 ·let#[sl,e1]:=`JE I1.base.slot
  exact#[sl,`als e1]
 ·let#[o',e1]:=I1.base.there b o e hx
  exact#[o',`als e1]
 ·by_cases hj:j=i
  ·subst hj
   rw[`Pk] at e2;cases e2
  ·rw[`py] at e2
   let#[u',r',q]:=hl j y v' e1 (`k `py e2) e3;refine`afu;skip;apply `aFO
   ·done;refine `aFP
    apply `aFQ
    simp[`x,e]
   ·done;exact `aFR
 ·let#[w',z]:=I1.cell y c e
  exact`aFS
 ·let#[e,n,ne,nf,d]:=I1.pin p hp
  apply `aFT
 ·refine`aeY (I1.hok b u q) λc w' hc z=>`aFK z
  rintro rfl;apply `ae5
  ·rw[`alr] at q;cases q
  ·rw[`alr] at hc;cases hc
universe zz
def CXE(P:`ai)(w:`Q):CXT:=λouter H s E e s'=>∃ea C od H',e=`K3/\`afx/\`NZ/\`aIo/\`aIp /\
 Lie (λb=>`n4/\`alk) `oT `bo od ea/\`ay3
def pj0(X:Cx)(σ:St)(H:Hp)(C:`e)(od:`bq):Prop:=∀pins s e,`A->`alo->`hG `g! s
section
variable{k:Nat}{f C:`e}{ds:`K}{p:Pos}{t:TA}
def Je0(X:Cx)(sp:Sp)(dvs:`V)(t:TA):TE:=`bm t λvs H1=>sp `ki H1 Q `SO
def Qj0(F:`SP)(hr:`m7)(hg:`jM)(hm:`aIz)(hk:`aIA)(hb:`kY)(hd:`kZ)
  (ha:`pK) (hdb:`aQ) (he:`dn) (hpl:`eE) :
  PE X `oe (Je0 X sp dvs t):=by
 apply `bh;apply `ag0;refine `aIB λus s1 hq131=>?_;let#[vs,H1,I1,r,q]:=hq131;refine `aIC;apply `ag_;have hl:`_!:=`bR `mb (`mQ _ _ _ _ q)
 refine P2 (K0 (`xF X.A `gP s1 H1 `PV `Br `ki Q _ hr I1.env0 (hb s1 us `Ck hl) r2 q) `xK);skip;cases r with
 | error ex =>
  apply `aU3;done;exact `aU4 I1.call' I1.fpW
 | ok fl =>
  cases fl with
  | ret u=>done;exact I1.after hq
  | next=>done;apply `id
  | brk=>done;apply `id
  | cont=>done;apply `id
universe zz
def RawAt(e C:`e)(od:`bq):`oa:=λh=>XC.Raw h e C od
def RawAt.stay{e C:`e}(h1 h2:`D)(r:`Bd e C od h1)(k:∀o,`mm e=`aq->h2.get? e=`aq):`Bd e C od h2:=by
 let#[oe,vs,he,r]:=r;exact#[oe,vs,k _ he,r]
def Ik0{o:HO}(h:`u'):`atO=H:=by
 funext b
 unfold upd;split
 ·rename_i e;rw[e,h]
 ·rfl
section
variable{σ:St}{s:`w}
def L00{j:Nat}{cp np fp pos:Pos}(hN:`lq)(hv:`H!)(hy:`aU5)(hd:`aQ)(hcd:`dX) :
  PE X (`awT [`Lg `Lh j cp,`awU (`bx x np) (-1) `f fp] pos) (`cw (∃n:Int,`If=`ayZ/\`yl/\∀z,Q `ss H)):=by
 intro pins s σ H Q I #[n,e,hn,q];have e1:=int_text_length_le (k:=1920) `v hn;have z1:(`s (`LH++y))<=`W:=by rw[`alt,`xg];show 0+`Ml<=_;lia
 refine JoinedStr_many (`aU6 (`aF_ #[z1,`aU6 (FormattedValue_plain (thn (R9 hN hv hd hcd `r _ σ H (λv H'=>v=`d7/\H'=H) `rD #[`d7,e,rfl,rfl]) λu s1 hq132=>?_))]));skip;let#[v,H1,I1,r1,J,hH]:=hq132;subst J hH;apply `aha;have z2:(`s (`LH++y++`Cn (toString n)))<=`W:=by rw[`alt,`alt,PySem.ofString_length,`xg];show 0+`Ml+_<=_;lia
 done;exact formatField_int_small hn #[z2,joinParts_nil (#[`ce,H1,(I1.tok _),`ah,q _]) z2]
def Yd0{Wc:`e}{np apos pos:Pos}{a:`J}{as:`bQ}{t:TA}{pl:`ia}(hm:`alu=`c `SQ)(hg:`abk)
  (hsp:`aU7 X.K `SQ `po=`alv) (hr:W.readsIn X.K Wc `FS=`d) (hf:`aU8 X.K)
  (ha:PA X (`o0) t) (hdb:`SR) (hst:`H (`aU9=`YD::`aU') Aa) (hpl:`qF (`vg `aU'))
  (ht:`H (`bV `aU! `O=(do
   let ov ← `bV `ac? `O
   `m8
   let (f,`ie) ← `aU?
   `YF (`vg `aU9))) Aa) :
  PE X `aU! (`bm t λvs H1=>∃e C v,vs=`aet/\H1 e=`ZV/\(`aVa)/\Q `y H1):=by
 apply `bh;refine d6 (pl:=pl) `aAW ht;refine W.method_cls `gj hsp (W.cls_value `gj hr hf `cZ ?_);refine Bx0 (thn (ha pos `r _ σ H _ `rD h) λus s1 hq133=>?_) hst hpl;skip;apply `Px hq133;let#[e,C,v,rfl,hH,#[tl,cl],q]:=q1;cases r1 with
 | cons ra r1 =>
  cases r1 with
  | cons rb r1 =>
   cases r1;cases ra;let#[hh,g,d,t',os]:=s1;let#[O,_,_]:=I1.hok e _ hH;done;refine XC.Ts0 (`aVb) O λh' J oth=>?_
   let#[oe,vs,he,r]:=id J;have I2:=I1.write (x:=e) (e:=e) (o:=`Y!) (t':=t') (by rw[hH];trivial) `c0 `aVc #[_,he] #[J,#[_,he],`alw];rw[Ik0 hH] at I2;exact#[`y,H1,I2,rfl,q]
def Inv.trackO{o:HO}(I:`A)(fp:`aUV)(new:`h' `cB X.w `g8 `aA a o):`a0 `g8 s:=by
 apply `aUX;have oth:`s5 (`aEA=`bc):=`aUY
 apply `aUZ
 ·have:`i':=λw=>by
   subst w;rcases z4 with z4|z4
   ·exact hx z4
   ·rw[e] at z4
    cases z4
  rw[`FC];exact `Yj
 ·apply `alp
  exact`aU_
 ·rw[m7 (B4 z2)];exact `g'
 ·rw[`aU0];exact `Yk
 ·apply `alq
  apply `aU1
 ·by_cases w:b=a
  ·subst w
   rw[j8] at q;cases q;exact new
  ·rw[m7 w] at q
   apply `aU2
def Inv.forget{φ:`oa}(I:`A)(ha:`vZ `D3)(hn:H' a=`f)(hs:∀b,`i'->H' b=H b):`aVd:=by
 have up:`s5 (u≠`D3->H' b=`bc):=λb u q n=>by
  rw[hs b λz=>by
   subst z;rw[ha] at q;cases q;exact n rfl]
  exact q
 have dn:∀b u,H' b=`bc->`O_:=λb u q=>by
  rw[← hs b (V5 q hn)];exact q
 have no:`aVe:=λb q=>by
  rw[hs b λz=>by
   subst z;rw[ha] at q;cases q]
  exact q
 refine#[I.ok,I.os,`h7,#[`AO,`AP,`aVf,`As,λb xs e=>up b _ `aVg `hM,λb o u e=>up b _ `ac7 `hM,`ac9],`fD,`lO,`aVh,`aVi,`gm,`ac',`eX]
 ·apply `alp
  exact#[more,up b _ q λz=>nomatch z]
 ·apply `alq
  exact`aVj
 ·exact(`b2 b u (dn b u q)).stay `aBw (λc z=>up c _ z λz=>nomatch z) (λc xs z=>up c _ z λz=>nomatch z) λc _ _ z=>up c _ z λz=>nomatch z
structure ErrC(K:`z)(C r:`e)(f:Str):Prop where
 ex:∃cd,W.clsIn K C=`OO/\`BR=`eM::`alx/\`aez=`d
 na:`PO
 sa:`agK
def Hd0{f:Str}(ha:`tg)(hv:`agR)(hs:`H (`aIa) Aa) :
  PS X `aIb (λD σ H=>tv σ H λy H1=>ta σ H1 λx H2=>∃e C r,x=`lt/\H2 e=`ZV/\ErrC X.K C r f /\
   ∀dx,`Mn->H2 dx=`f->`gc σ (`ada H2 (.xd [(f,y)]))):=by
 apply `h!;refine Bv0 (thn `aIc λu s1 hq134=>?_) hs;let#[y,H1,I1,ry,q]:=hq134;refine thn `aId λov s2 hq135=>?_;skip;let#[x,H2,I2,rx,e,C,r,ex,ea,c,q2]:=hq135;subst ex;obtain rfl:ov=`gJ e:=rx;let#[cd,h1,h2,h3]:=c.ex;let#[#[oe,vs,he,hc,J,hd,U,O,Y],_,_]:=I2.hok e _ ea;let#[oc,Z,a2,a1]:=oe;dsimp only at hc J hd;subst hc J hd;done;refine XC.Rq0 `aaa #[he,rfl,rfl,`jr] h1 h2 h3 c.na c.sa λh' dx t' n1 n2 ns hx oth=>#[σ,_,?_,q2 dx n2 (I2.dead n1)]
 have I3:=I2.write (x:=e) (e:=e) (o:=`auq) (t':=t') (h':=h') (by rw[ea];trivial) `c0 `aVc #[_,hx] #[#[_,vs,hx,rfl,rfl,rfl,U,O,Y],#[_,hx],`alw];refine I3.trackO (I2.fpW n1 (`k (m7 n2) (I2.dead n1))) #[_,ns,λg=>?_]
 by_cases z:g=f
 ·subst z
  rw[`bp];simp only[`ib,`OG];exact ry
 ·rw[`k8]
  have:`aHW:=`avO
  simp only[`ib,`x];trivial
universe zz
def b50(C:`e):Sp:=λvs H Q _=>∃e n,vs=`aly/\`alz/\`yl/\∀dx,`Mn->`Mo->Q `y `ay_
structure RootC(K:`z)(Wc:`e):Prop where
 sp:`aU7 K `SQ `po=`alv
 rd:W.readsIn K Wc `FS=`d
 fc:`aU8 K
theorem Sh0{W C r:`e}{j:Nat}{p1 p2 p3 p4 p5 p6 p7 p8 p9 pa pa' pb pc:Pos}{pl:`ia}(hm:`alu=`c `B?)(rc:RootC X.K W)(cl:`aVa)(ec:ErrC X.K C r `c2)(hy:`aU5)
  (hN0:`H (X.N[0]?=`c (`c_ : Str)) Aa) (hN1:`H (X.N[1]?=`c `aVk) Aa) (hg:`aVl) (hv0:`H (Vis `qW `c_) Al) (hv1:`H (Vis `qW `c2) Al) (hdb:`SR)
  (hs:`i1 `alA `f p9.line)
  (hs2:`i1 (`bx `c2 pb) (`c (`aVm)) pc.line)
  (ht:`H (`bV `alA `O=(do
   let ov ← `bV `aBx `O
   `Im p2.atName
   let (f,`ie) ← `aU?
   `aVn p8 f `ie (`lG p8 (`hx `aBy `O)) (`Yg p8 `Yh))) Aa) :
  ∃t,PSs X [`Bo `alA p9,`h2 [`aVm] (`bx `c2 pb) pc] t /\
   ∀(D:Ends) σ H e n,`aVo->`aVp->`alz->`yl ->
    `aVq :=
 #[_,T8 (tz0 (Yd0 hm hg rc.sp rc.rd rc.fc (N7 `aVr (N7 (L00 hN1 hv1 hy) y90)) hdb (ht:=ht)) hs) (T8 (Hd0 `aVr (R9 hN1 hv1) hs2) tt0),
  λD σ H e n h0 h1 hH hn q=>#[`lt,h0,n,h1,hn,λz=>#[e,C,`nV,rfl,hH,cl,`d7,h1,`lt,h0,e,C,r,rfl,hH,ec,q]]]
def Q70{h:`D}{e C:`e}{rest:`K}(m:`aVs):`Bd e C `f h':=by
 let#[t,h1,_,_]:=m.there;exact#[_,_,h1,rfl,rfl,rfl,(`Bc (1<6)),rfl,t,rfl]
def Wc0{M:`e6}{s:`w}{e:`e}{oe:Obj}{vs:`a5}{Q:`dW}(he:`dO e=`Bl)(hd:`xd)(q:`aD1)(h:Q () s):`alh:=by
 unfold setFlight;apply `FR;rw[`dS];exact A1 h
def To0{M:`e6}{E:`an}{s:`w}{env:`auM}{x:`J8}{C:`e}{tl:`K}{Q:Flow->`eL}(hbase:`aVt)(hh:`jl)
  (h:`aD M A x (λv s₁=>∃e od,v=`lt/\XC.Cl `od C tl/\XC.Raw `od e C od/\E `g! `eD) E s) :
  `dB M (raiseStmt env (`du) `f):=by
 have U:`aDy:=by rw[`aed,`hn,Bool.or_true]
 unfold raiseStmt;refine A0 (D0 h (λv s₁ h₁=>?_) `s0);skip;let#[e,od,rfl,c,#[oe,vs,he,hc,J,hd,a1,O,a3],hE]:=h₁;let#[nm,q,N,bs,Z,sn,sub,ab,a4,dd,k0,k1,k2,k3,k5,Y,hC]:=c.obj;let#[hp,g,d,tk,os]:=`eD;let#[oc,a2,a6,a5]:=oe;dsimp only at hc J hd;subst hc J hd
 done;repeat (first|apply `iU (E5 he ?_)|apply `OJ|(apply `sM (x6 hC ?_) U)|apply `iU (Wc0 he rfl O ?_)|wp_step)
 exact wpAny_raiseNew_none hh hE
universe L2
namespace DL
open Spec PyProof.Rows L2
inductive DX where
 | ok (d:D)|ex (c:Str) (n:`aP)
inductive RX where
 | ok (r:Res)|ex (c:Str) (n:`aP) (δ:Ds)
abbrev GZ:=Ds->`SS
def okZ(G:GS):GZ:=`aVu
def r00:GZ:=`aVv
def zd0(G1 G2:GZ):GZ:=fun δ=>match `eY with
 | `mM=>`vn
 | r=>r
def XdX(K:`z)(H₀:Hp)(B₀:BS)(H:Hp)(σ:St)(δ:Ds)(od:`bq):`aiL
 | `f=>True
 | `fG=>∃(dx:`e) (B:BS),`Q5/\`ae dx=`f/\H dx=`aVw/\`R8 (¬B dx)
def XdS(H H':Hp)(od:`bq):`aiL
 | `f=>True
 | `fG=>∃dx,`Q5/\`Mo/\H' dx=`aVw
def XdX.out{σ:St}{δ:Ds}{n:`aP}(x:`alB):XdS `ae H od n:=by
 skip;cases n with
 | none=>done;trivial
 | some k=>let#[dx,B,e,h1,h2,_]:=x;done;exact#[dx,e,h1,h2]
def pb0(s:`be)(h:H' a=`f):`xo:=by
 cases e:H a with
 | none=>rfl
 | some o=>rw[s a o e] at h;cases h
def I50(X:Cx)(H₀:Hp)(B₀:BS)(D:Ends):RX->Prop
 | .ok r=>Il0 X.K `ae `ab D r
 | `ST=>`aVx
def tXS(X:Cx)(H₀:Hp)(B₀:BS)(δ:Ds)(G:GZ):TS:=`Rf `CL I50 X
structure PSX(X:Cx)(st:`a1)(G:GZ):Prop where
 mk::go:`h0 PS st `aVy
structure PSsX(X:Cx)(st:`cg)(G:GZ):Prop where
 mk::go:`h0 PSs st `aVy
section
variable{st:`a1}{as bs:`cg}{G1 G2 Ga Gb:GZ}{gt:GB}{gA:GA}{c:`J}
theorem ar0(h:`ai3):PSX X st (okZ G):=.mk λH₀ B₀ δ pins s σ H D I hq136=>by
 apply `hp hq136
 unfold okZ at e;cases e1:G δ with
 | none=>rw[e1] at e;cases e
 | some r1 =>
  rw[e1] at e;cases e;exact `L1 h #[r1,en,e1,k]
theorem uf0:PSsX X [] r00:=.mk λH₀ B₀ δ pins s σ H D I hq137=>by
 apply `hp hq137
 cases e;apply `Rh
theorem yr0(h1:PSX X st G1)(h2:PSsX X `aR G2):`Ri PSsX zd0:=.mk λH₀ B₀ δ pins s σ H D I hq138=>by
 skip;apply `hp hq138
 unfold zd0 at e;cases e1:`eY with
 | none=>rw[e1] at e;cases e
 | some r1 =>
  rw[e1] at e;cases r1 with
  | ex c n δ'=>cases e;done;apply `p7
  | ok r1 =>
   cases r1 with
   | nx δ'=>done;apply `alC
   | rt d=>cases e;done;apply `p7
   | bk δ'=>cases e;done;apply `p7
   | ct δ'=>cases e;done;apply `p7
   | rf d=>cases e;done;apply `p7
def Pt0{r:`e}:`OE `aVz `Lz:=by
 rw[`aed];rfl
structure IniC(P:`ai)(w:`Q)(K:`z)(mg:`a3)(base:`D)(cn:Str)(r:`e)(k:Nat):Prop where
 ex:∃(C f:`e) (fd:`e5),XC.At K mg cn C (`alx)/\(`CN (XC.Ri h C (`alx) f))/\`QC k `kz (b50 C)/\`aVA
universe zz
def spX(K:`z)(f:`ni):Sp:=λvs H Q E=>∃(B:BS) (ds:`l) (r:DX),`pU/\`Rw/\f ds=`dR/\match r with
 | .ok d=>`xX
 | `rS=>∀C od H',`be->`aVB
structure FnX(P:`ai)(w:`Q)(K:`z)(mg:`a3)(base:`D)(x:Str)(k:Nat)(ps:`i)(f:`ni):Prop where
 ex:∃fa fd,`aVC/\`RH
section
variable{P:`ai}{w:`Q}
def mkX(n:Nat)(N:`i)(G:GZ)(ds:`l):`aB DX:=if `p1 then (match `oN with
 | `DP=>`SU
 | `aDe=>`ad_
 | _=>`f) else `f
def T00{G:GZ}{r:DX}(h:mkX n N G ds=`dR):`p1/\((∃d,r=.ok d/\`oN=`DP)∨∃c n δ,r=`rS/\`oN=`c (`ST)):=by
 unfold mkX at h;split at h
 ·rename_i hl
  refine`ajM;split at h
  ·rename_i e;cases h;exact `n #[_,rfl,e]
  ·rename_i e;cases h;exact `p #[_,_,_,rfl,e]
  ·cases h
 ·cases h
def okX{st:`a1}{k:Nat}{G:GZ}(F:`Fp)(S:`xN)
  (body:`L5 PSsX `aVD) :
  `sr `d6 ps (spX K (mkX `aI N G)):=by
 skip;let#[oc,od,kV,doc,pm,an,cdv,ct,Z,rfl,lk,Y]:=F.ex;done;refine We0 lk Y S (λvs H Q E hq139=>by skip;let#[B,ds,r,_,rr,h,_]:=hq139;done;rw[`L7];exact(T00 h).1) λA outer s H vs Q E hr U=>?_
 skip;let#[B,ds,r,hb,rr,h,q]:=U;done;refine#[_,`aBF H B `z5,?_];skip;have en:`ajs:=by
  refine#[`zQ H,#[B,λ_ z=>z,`aBg,#[?_,hb,λi j a O es h1 _ _ _=>`N4]],λi O a h1 _=>`N4,hb];unfold L2.start U6;rw[`L7];exact `L6 rr (o00 _)
 rcases (T00 h).2 with⟨d,rfl,e⟩|⟨c,m,δ,rfl,e⟩
 ·done;apply `aOR
 ·done;refine#[_,en,e,fun σ H' C od' en' n x pins s1 ea I lie=>?_]
  refine A0 (I.noted rfl lie λh' I' J=>?_);refine`aVE J.mono (q C od' H' `Oc n x.out);rcases `aln with y|y
  ·exact `aVF
  ·exact y
universe zz
universe DL
namespace DL
open Spec PyProof.Rows L2
section
variable{r:`e}{p:Pos}
def M70{C C':`e}{tl:`K}(a:XC.At K mg c C tl)(n:`atT=`c (`c (`X C'))):C'=C:=by
 have:=n.symm.trans a.ns;cases `x;rfl
universe zz
universe DL
namespace L2
open Spec PyProof.Rows
abbrev Cx.body(X:Cx)(pn:`au)(xe:`an):Cx:={ X with pn:=pn,xe:=xe }
abbrev Cx.hand(X:Cx)(A:`cf):Cx:={ X with A:=A,calm:=`m,xe:=`nT }
section
variable{pins':`au}{σ:St}{s:`w}{W:`an}
theorem Cx.Ok.body(o:X.Ok){pn:`au}:`aVG:=`aVH
theorem Cx.Ok.unbody{pn:`au}(o:`aVG):X.Ok:=`aVH
theorem Inv.toBody(I:`A):`aVI:=(`s6 I.ok.body λp hp=>`iN p (`bl hp))
theorem Inv.ofBody(I:`sc `CM pins'):`A:=(`s6 I.ok.unbody λp hp=>`iN p (D6 _ hp))
theorem FpW.ofBody{b:`e}(f:FpW `CM pins' H b):`alm:=#[f.1,f.2.1,f.2.2.1,f.2.2.2.1,f.2.2.2.2.1,λp hp=>f.2.2.2.2.2 p (D6 _ hp)]
theorem Cx.Ok.hand(o:X.Ok)(hf:`KF=`afc):(`K2 A).Ok:=(`ay4 `alD (hf.trans o.frames))
theorem Inv.toHand(I:`A)(hf:`KF=`afc):`aVJ:=(`s6 (I.ok.hand hf) `iN)
theorem Inv.ofHand{σ':St}(I:`aVJ)(J:`xr):`A:=(`s6 J.ok `iN)
universe zz
universe L2
namespace DL
open Spec PyProof.Rows L2
section
variable{σ:St}{δ:Ds}{C:`e}
def it0{s:Sl}{d:D}(hs:`alE)(h:(`g_ i s)[j]?=`r'):j≠i:=by
 rintro rfl
 by_cases hl:j<`l9
 ·rw[`xW] at h
  cases h;exact hs _ rfl
 ·rw[`E?] at h
  cases h
def Env.setSl{o:`ea}{s:Sl}(e:`bs)(hs:`alE)(r:`Q6):Env K H B `SV (`g_ i s):=by
 refine`aiO r `ayx;have hj:=it0 hs h1;have hk:=it0 hs h2;rw[`py] at h1 h3;rw[`aM!] at h2 h4;exact `aA4 b
def EnvS.setSl{o:`ea}{s:Sl}(e:`cx)(hs:`alE)(r:∀B,`bs->`Q6):`hV K `ae `ab H `SV (`g_ i s):=by
 apply `ajf;refine#[`Rp,(`sQ (en.setSl hs (r B en))),`ac_,e.b0];have hj:=it0 hs h1;rw[`py] at h1 h2;exact `aVK
def xdB{n:`aP}(e:`cx)(x:`alB):∃B,`R8 `aM0:=by
 skip;cases n with
 | none =>
  apply `ajf;done;exact#[B,b1,b2,en,`jr]
 | some k =>
  apply `aVL;done;exact#[B,b1,b2,en,dx,h1,nb,h3]
def EnvS.setEx{m:`aP}(e:`cx)(x:`ZW K m)(hH:`xo)(n:`kj):`hV K `ae `ab `alF (`Al i (`n8)) (`g_ i (`alG)):=by
 let#[B,b1,b2,en,xd]:=xdB e x;have nb:`sm:=λz=>en.bad a z hH
 have O:`jK `alF δ:=`fY (Y9 hH);have J:Oo0 `alF B od m:=by
  cases m with
  | none=>trivial
  | some k =>
   let#[dx,h1,h2,h3]:=xd;exact#[dx,h1,h2,`k (m7 (V5 h3 hH)) h3]
 refine#[`ai4 (Y9 hH),(`sQ (O.setSl `SW #[a,rfl,C,od,nb,j8,n,J])),`ac_,e.b0];have hj:=it0 (s:=`alG) `SW h1;rw[`py] at h1 h2;exact `aVK
universe zz
universe DL
namespace XC
open PySem.W
section
variable{w:`Q}{h:`D}{g:`kw}{d:`pp}{t:Nat}{os:`xc}{C:`e}{o:Obj}{tl:`K}{K:`cU}{od:`aev}{f:Str}{v:`B}
def Id0{tk:Tok}{Q:`OI}(X:`hi)(J:`SX)(hf:`SY)(hq:Q (`wU (.ret v)) `ed) :
  `bJ (`aEh `aVM) `ed:=by
 have L0:=J.type (M:=`W8);have L1:=looks_find (M:=`W8) X J hf;refine `kR A1 (A1 (`kR L0.at (L1.at ?_)));exact A1 hq
theorem Mx0{tk:Tok}{R:`pr}(c:`jh)(X:`hi)(J:`SX)(hf:`SY)(hq:R (`pe v) `ed) :
  `wT (`pt (`cn `BZ) `aVM) `ed :=
 c9 F.attr_ValueError.ga.plain F.entry_bexc_ga (S50 c J.at_ J.cls (Id0 X J hf hq))
def Hq0{tk:Tok}{fill expr:`I}(c:`jh)(X:`hi)(J:`SX)(hf:`SY)(hh:`aVN)(hq:Q v `ed) :
  `bJ (getAttrBy `cu (`ay5) fill expr) `ed:=by
 have hx:=J.at_;have hc:=J.cls;have f3:=F.attr_ValueError.ga.bind `cu;have z0:(expr&&onTheHeap (`ay6))=`m:=`Ni expr
 have z2:(`aVO)=`m:=`bb
 have z1:(onTheHeap (`IE)&&`aVO)=`m:=`aF z2
 have ho:=handedOut_of hh
 repeat (any_goals (first|apply `NR|apply `aeh|apply `iU (c.look n2 F.attr_ValueError.ga.lookup ?_)|apply `iU (c.look n3 F.attrBase_ValueError.noGetattr ?_)|wp_step))
 refine Mx0 c X J hf ?_
 repeat (any_goals (first|apply `NR|(rw[ho])|wp_step))
theorem M30{expr:`I}(c:`jh)(X:`hi)(J:`SX)(hf:`SY)(hh:`aVN)(hq:Q v #[h,g,d,t+1,os]) :
  `bJ (`LJ `cu f expr) `ed:=A0 (wpAny_mkText (Hq0 c X J hf hh hq))
universe zz
universe XC
namespace L2
open Spec PyProof.Rows
structure ErrG(K:`z)(C:`e)(f:Str):Prop where
 cl:`aVP
 hd:`PK
 na:`PO
section
variable{σ:St}{s:`w}
def Yc0{C:`e}{f:Str}{b:`I}{Q:`an}(I:`A)(ha:`vZ (.ext (DL.gl0 a C `Lf)))(hx:H dx=`c (.xd `PL))(c:ErrG X.K C f)
  (h:`aH2):`aH3:=by
 skip;let#[#[oe,h1,h2,h3,vs,h4],_,_]:=`b2 a _ ha;let#[mA,ns,r]:=`b2 dx _ hx;let#[od,ho,hl]:=ev0 ns;have l:(`PL:`h9).lookup f=`bO:=`g6 `ib
 apply `aH5;have J:W.InstAt `aA a oe C (`agG):=#[h1,h2,by unfold W.notCls;rw[h4],`k (h3 dx rfl) ho];let#[tl,cl]:=c.cl;let#[hh,g,d,t,os]:=s;done;exact XC.M30 (cl _ `gj) `gj J (`aHQ c.hd c.na rfl (by rw[hl,hu])) (da0 ru) (h u _ `rD ru)
universe zz
universe L2
namespace DL
open Spec PyProof.Rows L2
def atG(i:Nat)(as:`i):GE:=fun δ=>match `c4 with
 | `c (.ex c (`oq))=>`o (as.contains c=`d) `Li `f
 | _=>`f
open T in
theorem Gn0(i:Nat){as:`i}(T:∀c∈as,∃C,`Mp/\ErrG X.K C `c2)(hi:`dG)
  (hv:`eG) (hd:`aQ) (hcd:`dX)
  (hb:`FG `c2) :
  PD X (`gg `gL `c2 pos) (atG i as):=.mk λB δ pins s σ H Q I hq140=>by
 apply `bG hq140
 unfold atG at h;split at h
 ·rename_i c n hδ
  split at h
  ·rename_i hc
   cases h;let#[o,h1,a,rfl,C,od,nb,hH,ns,dx,rfl,J,hx]:=`alH;let#[C',n',g]:=T c (Dc0.mp hc);obtain rfl:C=C':=by
    have:=ns.symm.trans n';cases `x;rfl
   refine Xz0 hb (thn (R9 hi hv hd hcd `r s σ H (λv H'=>`LZ/\H'=H) I #[_,h1,rfl,rfl]) λu s1 hq141=>?_);let#[v,H1,I1,r1,e1,e2]:=hq141;subst e1 e2;obtain rfl:u=`q3:=r1;exact Yc0 I1 hH hx g λu s' I' ru=>#[`d7,H1,I',ru,k _ _ `w_ `An]
  ·cases h
 ·cases h
def u90(f:`a?)(G:GZ):`l->GZ
 | [],δ=>`ay2
 | `aC,δ=>`aL! fun δ2=>match G δ2 with
  | `aVQ=>`aVR
  | `iE (.ct δn)=>`aVR
  | `iE (.bk δn)=>`aVQ
  | r=>r
def bg0(gi:`fO)(f:`a?)(G:GZ):GZ:=fun δ=>`xR λds=>u90 f G ds δ
def XdX.lower{H₁:Hp}{σ:St}{δ:Ds}{n:`aP}(x:XdX K H₁ `ab H σ δ od n)(s:`aNK):`alB:=by
 skip;cases n with
 | none=>done;trivial
 | some k =>
  apply `aVL;done;exact#[dx,B,h1,`aaJ h2,h3,b1,`aNL,en,nb]
section
variable{body:`cg}{G:GZ}
open Classical in
theorem Mp0(hp:`Em)(hc:`d4)(hi:`ii)(hg:`Fg)(hb:PSsX X `ey G)
  (hs:`e7):PSX X `ago (bg0 gi f G):=.mk λH₀ B₀ δ pins s σ H D I hq142=>by
 apply `ba hq142
 unfold bg0 at e1;apply `aY;cases e2:`Ak with
 | none=>apply `aj;cases e1
 | some items =>
  apply `aj;apply `e!;apply `aNN
  apply `aNO (tXS X `ae `ab δ G D σ H) (`L1 hb.go h)
  apply `aNR;apply `aNS
  apply `aNT
  apply `aNU
  apply `aNV
  have a3:`dc Hh H1:=#[λb o h=>by
   by_cases z:`AD
   ·rw[`aNW] at h;cases h
   ·rw[U] at h
    have h':`aNX:=h;rw[`k8] at h';exact h',λb o xs h=>by
   by_cases z:`AD
   ·apply `aNY
    apply `aNZ;cases h0
   ·rw[U]
    show (`L2)=_;rw[`k8];exact h]
  have hS:`aN_:=#[λb o h=>by
   have h1:=`aN0
   by_cases z:B b
   ·rcases b2 b z with q|q
    ·rw[a4 b q];exact h1
    ·rw[h] at q;cases q
   ·rw[Y b z];exact h1,`aN1]
  have Z:=`jV;have start:`aN2:=by
   apply `aN3
   ·by_cases q:`nK
    ·exact `m2
    ·exact `aN4
   ·have hn:=`aN5
    have nb:¬`nK:=λz=>`oW a z hn
    apply `aN6;rw[h2] at e3;cases e3;cases e4;exact a1 a hB nb
   ·rw[a4 a z]
    exact `aN7
  refine#[λi m σ H=>`aN8 u90,#[_,rfl,`bw,δ,`eU,e1],?_];rintro i m σi Hi ⟨rfl,c3,δi,O,ei⟩;apply `aN9
  by_cases hlt:`Fi
  ·refine `aN' u90 #[`Rq,`b7,rfl,hlt,δn,en',e']
   apply `aN!;apply `aN?;have a6:`aOa:=rd B' (λb o n h=>by
    have h':Hh b=`aq:=`acV
    apply `aOb;rcases c2 b z with q|q
    ·exact n (b1 b q)
    ·rw[h'] at q;cases q) env0.bad
   have a5:=`aOc
   replace O:=O.grow sm
   have a2:`aOd:=by
    apply `Rr;congr 1;rw[`Rs] at hd;exact A3 hd
   rw[a2] at ei;unfold u90 at ei;cases e3:f d δi with
   | none=>rw[e3] at ei;cases ei
   | some δ2 =>
    rw[e3] at ei;simp only[`q] at ei;apply `aOe;apply `aOf;cases e4:G δ2 with
    | none=>rw[e4] at ei;cases ei
    | some rb =>
     rw[e4] at ei;apply `aOg;cases rb with
     | ex c n δn =>
      cases ei;exact fun σ' H' C od en' nn xx=>k σ' H' C od `aBb nn (xx.lower hS)
     | ok rb =>
      cases rb with
      | nx δn=>apply `Rt
      | ct δn=>apply `Rt
      | bk δn =>
       cases ei;apply `aOh
      | rt d' =>
       cases ei;apply `aOi
      | rf d' =>
       cases ei;apply `aOj
  ·have e:i=`dh:=`b7
   subst e;apply `aOk;rw[`x1] at ei;cases ei;exact `aOl
universe zz
universe DL
namespace XC
open PySem.W
def riB(K:`cU)(C:`e)(tl:`K)(f:`e):`I:=match `bW C with
 | `aek=>(match `ael with
  | `aDD=>`aDE&&`aDF==`BQ&&(match `aVS with
   | `c #[`uU,_,_,_]=>`d
   | _=>`m)
  | _=>`m)
 | _=>`m
def V80{K:`cU}{h:`D}{N:`e}{m:`a3}{n:Str}{v:`B}(X:`hi)(G:h.Ns N m)(e:nsIn K N n=`oc):m n=`bO:=by
 skip;let#[o,es,ep,ho,hd,_,hf]:=G;unfold nsIn at e;split at e
 ·rename_i q
  have z:=(X _ _ q).symm.trans ho;cases z;cases hd;split at e
  ·rename_i he
   cases e;done;rw[← hf];unfold nsFind findBy;rw[← `aHM,he];rfl
  ·done;split at e<;>cases e
 ·cases e
open T in
def Hz0{K:`cU}{h:`D}{C f:`e}{tl:`K}(X:`hi)(e:riB K C tl f=`d):`aep:=by
 unfold riB at e;split at e
 ·apply `aem
  split at e
  ·apply `aen
   apply `aeo;let#[#[#[#[#[#[hm,rfl],J],ht],hok],O],hf]:=e;apply `aDG;dsimp only at hm J hok O;subst hm J;have U:`aDH:=by
    let#[l]:=sl;simp only at hs;rw[hs]
   subst U;refine#[(`aDI V80 (`aVT)),?_];split at hf
   ·rename_i o _ _ hfo
    exact#[_,X _ _ hfo,rfl]
   ·cases hf
  ·cases e
 ·cases e
def Pi0(K:`cU)(C r:`e):`I:=(match `aew with
 | `OO=>`BR==`axh&&`aez
 | `f=>`m)&&`aVU==`gZ&&`aD'==`ZA
open T in
def I70{K:`cU}{C r:`e}(e:Pi0 K C r=`d):`aVV/\hasDictIn K C=`d/\`aVU=`gZ:=by
 unfold Pi0 at e;apply `s_ `bd `vI;apply `alI;split at h1
 ·rename_i cd hc
  simp only[`bd,`vI] at h1;exact#[#[#[cd,hc,h1.1,h1.2],h2,h3],by unfold hasDictIn;rw[hc];exact h1.2,h2]
 ·cases h1
def W90(K:`cU)(W:`e):`I:=specialIn K `B? `po==`alv&&readsIn K W `FS&&(match findCls K `B? `FS `e0 with
 | `c (.val (`cn n))=>n == `_J
 | _=>`m)
open T in
def Np0{K:`cU}{W:`e}(e:W90 K W=`d):L2.RootC K W:=by
 unfold W90 at e;apply `s_ `bd `vI;apply `alI;split at h3
 ·rename_i n hn
  rw[`OF h3] at hn;exact#[h1,h2,hn]
 ·cases h3
def Zc0(K:`cU)(root c:Str)(f:`e):`I:=match `aDJ,`v' with
 | `aDK,`ut=>riB K C `v! f&&Pi0 K C r&&W90 K r
 | _,_=>`m
def Si0{K:`cU}{r f:`e}(T:`aDQ)(hc:c∈cs)(e:Zc0 K root c f=`d) :
  ∃C,`aDP/\(`CN (Ri h C `v! f))/\`aVV/\L2.ErrG K C `c2/\L2.RootC K r:=by
 let#[C,a]:=T.all c hc;unfold Zc0 at e;rw[T.top.ns,a.ns] at e;simp only[`bd] at e;apply `alI;let#[e1,e2,e3]:=I70 h2;exact#[C,a,λh X=>Hz0 X h1,e1,#[`aVW,e2,e3],Np0 h3]
universe XC
namespace DL
open Spec PyProof.Rows L2
def Ml0(X:Cx)(C:`e)(body:`cg):Prop:=∃t,PSs X `ey t/\∀(D:Ends) σ H e n,`aVo->`aVp->`alz->`yl ->
 `aVq
def Qu0{P:`ai}{w:`Q}{base:`D}{r f:`e}{qual:Str}{st:`a1}{fd:`e5}(T:`aVX)(hc:c∈cs)(ib:`aVY)
  (F:Fun K `e0 `iO st f fd) (S:`aN `kz `kz `uZ) (hb:`aVA)
  (body:∀C,(`aVP)->ErrC K C r `c2->RootC K r->mg root=`axg->∀cdv A outer s H E,Ml0 (`Lc CX0 `kz f).nox C `QB):IniC P w K mg `ao c r 1:=by
 apply `aVZ;refine #[C,f,fd,a,ri,F.ok (k:=0) S (λvs H Q E #[e,n,h,_]=>`aV_) λcdv A outer s H vs Q E hr hq143=>?_,hb];skip;let#[e,n,hv,hH,hn,q]:=hq143;let#[t,ht,go]:=`ey C `aVW ec rc T.top.mg cdv A `c8 s H E;subst hv;done;exact#[t,ht,go _ _ _ e n rfl rfl hH hn q]
def at_of{r f:`e}(T:`aVX)(hc:c∈cs)(ib:`aVY):`alJ := by
 apply `aVZ;exact#[C,a.ns,eg]
def sj0(f:`ni)(ds:`l):`d_:=match f ds with
 | `SU=>`bk
 | _=>`f
def Y10{f:`ni}{d:D}(h:sj0 f ds=`bk):f ds=`SU:=by
 unfold sj0 at h;split at h
 ·rename_i e;cases h;exact e
 ·cases h
section
variable{P:`ai}{w:`Q}
def Jz0{k:Nat}{f:`ni}(F:`aVC):`am k ps (spD K `alK):=by
 have cv:∀{vs H Q E},spD K `alK vs H Q E->spX K f vs H Q `xL:=λ{vs H Q E} #[B,ds,d,hb,r,h,q]=>#[B,ds,.ok d,hb,r,Y10 h,q]
 refine#[λvs H Q E h=>`mQ vs H Q _ (cv h),λA outer s H args us vs Q E hr e0 hb r sp=>K0 (`xF A `c8 s H args us vs Q _ hr e0 hb r (cv sp)) `xK];skip;cases r with
 | error ex =>
  let#[_,_,_,_,_,_,_,_,_,_,z]:=hq;done;exact `eA
 | ok fl =>
  cases fl with
  | ret u=>done;exact hq
  | next=>done;exact hq
  | brk=>done;exact hq
  | cont=>done;exact hq
def FnX.plain{k:Nat}{f:`ni}(C:FnX P w K mg `ao x k ps f):FnD P w K mg `ao x k ps `alK:=by
 let#[fa,fd,F,h]:=C.ex;exact#[fa,fd,Jz0 F,h]
universe zz
universe DL
namespace DL
open Spec PyProof.Rows L2
@[simp] def n90:`U
 | [`c3]=>match `aV0 with
  | [c]=>`c (`g (c:Nat))
  | _=>`f
 | _=>`f
open T in
def T10:FnR K `aHK n90:=by
 apply `x7;unfold n90 at h;split at h
 ·rename_i x
  split at h
  ·rename_i c hc
   cases h;apply `jC;rw[T5] at r1;subst r1;let#[#[l]]:=x;have:l=[c]:=hc;subst this;exact`FT _ (`gQ (`aF Z6))
  ·cases h
 ·cases h
universe DL
namespace L2
open Spec PyProof.Rows
theorem eg0:∀{ys:`i} {us:`K},`aOS->∀(m:Nat) (y:Str),`aV1->∃t,us[m]?=`aNh
 | [],_,`R,m,y,h=>by cases h
 | y'::ys,_,`s1,0,y,h=>by
  cases h;let#[tk,rfl]:=r;exact`aV2
 | y'::ys,_,`s1,m+1,y,h=>by
  let#[tk,e]:=eg0 t m y `i4;exact#[tk,`auv]
theorem e90:∀ys:`i,(`XT).all t90=`d
 | []=>rfl
 | y::ys=>by
  rw[`ag,`pO,e90 ys];rfl
universe L2
namespace PySem.SeqAt
open PySem.AutoSeq1 (wpAny_loadPart')
open MeetsSeq MeetsSeq2 MeetsSeq3 SeqRoads2
def kd0{M:`e6}{A:`cf}{E:`an}{s:`w}(f:Nat->β->Sem (ForInStep β))(I:`h->β->`eL)(Q:β->`eL)
  (turn:∀x rest b s,I (x::`aR) b s->`aD M A (f x b) (λr s'=>match r with|.yield b'=>I `aR b' s'|`wU b'=>Q b' s') E s)
  (fin:∀b s,I [] b s->Q b s) (lo hi:Nat) (b:β) (h:I `aV3 b s):`dB M (`aV4):=by
 have e:(`aV4:Sem β)=`CO `aV3 b f:=`a7
 rw[e];exact y6 f I Q turn fin _ b h
theorem tuple_indexAt(l:`e)(items:`a5)(n:Nat)(dd:`bq)(sl:`kP)(x:`B)(e:`aEl)(j:Nat)(hj:j<`f?)
  (hit:e items[j]=`d) (hno:∀m (hm:m<`f?),m<j->e items[m]=`m) :
  Meets (Builtin.«tuple.index» #[[`AT,x],[]])
   (λA R s=>`dO l=`aDq `ft `aEB/\(∀y,y∈`b?->EqAt `h1 s y x (e y))/\R (`pe (`g j `cv)) `mq) :=
 .of_wp λprog w A R s h=>by
  skip;let#[hp,g,d,tk,os]:=s;let#[hl,he,h]:=h
  done;wp_walk using Ap0 hl,kd0 _ (λrest b s'=>b.1=`f/\s'=#[hp,g,d,tk,os]/\∃i,i<=j/\`aR=`N? i (`f? - i)) _
  case turn =>
   rintro y rest b s' ⟨hb,rfl,i,hi,hr⟩;have J:i<`f?:=`F
   have e1:`f? - i=(`f? - `fp)+1:=`F
   rw[e1,`alL] at hr;let#[rfl,rfl]:=R1 hr;have hy:`b?[y]?=`c items[y]:=by simp[J]
   rw[hy];refine A0 (he items[y] (Array.getElem_mem J) prog w _ _ ?_)
   by_cases hyj:y=j
   ·subst hyj
    rw[hit]
    wp_walk
    exact`aRf
   ·rw[hno y J `j]
    wp_walk
    exact#[rfl,rfl,y+1,`F,rfl]
  case fin =>
   rintro b s' ⟨hb,rfl,i,hi,hr⟩;have:=C7 `CK hr;simp at this;lia
  case h =>
   exact#[rfl,rfl,0,`bw,`a7]
universe PySem.SeqAt
namespace L2
open Spec PyProof.Rows
def G50(K:`z):`jn:=λx vs H Q=>∃(p:`e) (ys:`i) (z:Str) (j:Nat),x=`fW/\vs=`LQ/\SqT K H p `Cw/\ys[j]?=`c z/\(∀m,m<j->ys[m]?≠`c z)/\Q `uV H
def Ms0:MtR X "tuple.index" (G50 X.K):=by
 apply `Qv;skip;let#[p,ys,z,j,rfl,rfl,hq,hj,U,q]:=h;cases rx;apply `ahM;apply `Qj;let#[o,h1,h2,n,h3]:=id pl;have Z:`sh=`fs:=`By `cd `S
 have a1:j<`fs:=(`c7 hj).1;have at_:∀m (hm:m<`ma),∃y t,`aV1/\its.toArray[m]=`u y t:=λm hm=>by
  have J:m<`fs:=by rw[`cm] at hm;lia
  let#[t,e]:=eg0 r m ys[m] (C1 J);refine#[ys[m],t,C1 J,?_];have:its[m]?=`c its[m]:=C1 `j;rw[`x] at e;have e':=A3 e
  simpa using e'
 let#[c0,dd,dt,sl]:=o;obtain rfl:c0=`ft := h2;obtain rfl:dt=`avo:=h3;let#[t,rfl]:=ru;have O:∀(y:Str) (tk:Tok),`aV5=`d↔y=z:=λy tk=>by
  show (eqV `Lh `ss)=`d↔_;simp[eqV]
 done;refine b5 (T := `er) `aV6 (show `rE `kg `er from #[_,h1,rfl]) F.entry_tuple_index (F.args_tuple_index_2 _ _) (SeqAt.tuple_indexAt p `b4 n dd sl (`u z t) (eqU `ss) j `EK ?_ ?_) #[h1,λy hy=>tr0 (x:=`nV) `Qy rfl r (e90 ys) y (`bl hy),(`mr `gN)]
 ·let#[y,tk,e1,e2]:=at_ j `EK
  rw[e2,O];rw[hj] at e1;cases e1;rfl
 ·intro m hm Y
  let#[y,tk,e1,e2]:=at_ m hm;rw[e2];cases hb:`aV5 with
  | false=>rfl
  | true=>exact `G ((O y tk).mp hb▸e1) (U m Y)
def a00(K:`z)(mg:`a3)(x:Str)(ys:`i):Prop :=
 ∃(a:`e) (o:Obj) (its:`a5) (n:Nat),mg x=`n8/\`alM/\`O0/\`O1/\`axr/\`_4/\`bU `Cw `LD
universe L2
namespace DL
open Spec PyProof.Rows L2
def fg0(ys:`i):`U
 | `LQ=>(`aV7 `aV8).map λj=>`gN
 | _=>`f
section
variable{a:`J}{ga gb:GE}{gA:GA}{ys:`i}
open T in
theorem Kg0(hK:`aV9)(ha:`RG)(hg:`fR)(hd:`aQ)
  (hbase:`H (`wh `Mq "index" `O (`aV')=`aV') Aa)
  (hfew:`H ((`tC
  &&`ajG)=`d) Aa)
  (hline:`hm) (hs:`gx) (hplain:`pZ) :
  PD X (`p_ `Mq "index" [e]) (oA gA (fg0 ys)):=.mk λB δ=>by
 let#[p,o,its,n,hm,hk,hc,O,J,U,hv]:=hK;refine (ph0 F.plainAttrs_tuple `aV6 F.type_tuple_index Ms0 `aV! `bt `hn hfew `jq hs `tl).imp fun σ H Q hq144=>?_;apply `bG hq144
 unfold oA at h;cases e2:`eN with
 | none=>rw[e2] at h;cases h
 | some es =>
  rw[e2,`q] at h;unfold fg0 at h;split at h
  ·rename_i z
   cases e4:`aV7 (`aV8) with
   | none=>rw[e4] at h;cases h
   | some j =>
    rw[e4] at h;cases h;refine#[`p (`n #[rfl,o,hk,hc,O]),_,en,e2,`aaR];rw[j7] at r2;let#[y,rr,rfl,r3,r4]:=r2;rw[d7] at r4;subst r4;rw[T5] at r3;subst r3;let#[hj,h1,h2]:=List.findIdx?_eq_some_iff_getElem.mp e4;refine#[p,ys,z,j,rfl,rfl,`aV? U,?_,λm hm he=>?_,k _ _ s2 `An]
    ·rw[`l4 hj,`aWa h1]
    ·have Y:m<`fs:=`F
     rw[`l4 Y] at he;exact h2 m hm (X0 (A3 he))
  ·cases h
universe zz
universe DL
namespace DL
open Spec PyProof.Rows L2
def cpX(i j:Nat):GS:=fun δ=>match `kt with
 | `ad_=>`ay (`g_ i (`rS))
 | _=>`f
def exN(i:Nat):GE:=fun δ=>match `c4 with
 | `c (.ex _ _)=>`tq
 | `c (`rx)=>`hb
 | _=>`f
section
variable{a0:`J}{gA:GA}{posg p pg:Pos}
open T in
theorem Ng0(i j:Nat)(hN:`ej)(hj:`H (X.N[j]?=`du) Aa)(hi:`pV)(hx:`k9)(hf:`ju)
  (hv:`eG) (hd:`aQ) (hcd:`dX)
  {ap:Pos} (hs:`H (`aWb `SZ `nN ap.line `O=`LL) Aa) (hw:`Zy `SZ `nN)
  (h1:`H (`rW `SZ=[`hT `X5 `O]) Aa) :
  PSD X (`h2 `SZ `nN ap) (cpX i j):=.mk λH₀ B₀ δ pins s σ H D I hq145=>by
 apply `ba hq145
 unfold cpX at e1;split at e1
 ·rename_i c n hδ
  cases e1;apply `aY;let#[o,ho,a,rfl,xc]:=`oJ env.all hδ;refine im0 (`K? j hj) (`Rg) hs hw h1 `r s σ H D I #[`bZ,ho,?_];exact k _ H (en.setSl `SW λB' O=>by
   let#[o',J,a',e',U]:=`oJ O.all hδ;rw[ho] at J;cases J;cases e';exact#[a,rfl,U])
 ·cases e1
open T in
theorem My0(i:Nat){j:Nat}{pc:Pos}(hi:`dG)
  (hv:`eG) (hd:`aQ) (hcd:`dX) :
  `Fd (`YE `nN [.Is] [`Lg `al j pc] pos) (exN i):=.mk λB δ=>(gz0 m40 (`K? i hi) Sl0 (g50 _)).imp fun σ H Q hq146=>by
 apply `na hq146
 unfold ob exN at h;split at h
 ·rename_i c n hδ
  cases h;let#[o,ho,a,rfl,xc]:=`alH;exact#[`bZ,ho,rfl,`m,rfl,`Ru]
 ·rename_i hδ
  cases h;let#[o,ho,v,rfl,rv]:=`alH;rw[R3] at rv;subst rv;exact#[`y,ho,rfl,`d,rfl,`Ru]
 ·cases h
universe zz
universe DL
namespace L2
open Spec PyProof.Rows
def Oz0(K:`z):R2:=`ef (∃a xs k,`ek/\y=`n0/\`sd/\`ahg/\0<=k/\k<`jY/\`aWc/\`m6 `ez H `aWd)
def K70:OpR X `aHs (Oz0 X.K):=by
 apply `fN;skip;let#[a,xs,k,rfl,rfl,ha,hx,h2,h3,hz,q]:=h;cases rx;apply `ahm;let#[its,r1,p1,_]:=`iJ ha;apply `aO7;simp only at hc hd;subst hc hd;have hl:=`oI;have he:`akc=`m:=by
  cases its with
  | nil=>exact `G (`aJS rfl) hx
  | cons a b=>rfl
 have J:`alN<=`abm:=`ahr hl hz
 have O:`aUz (`o (`akc=`d) 0 `mc) `b4=(`bB `mc its).flatten.toArray:=by
  rw[he];have:=foldl_rep its `mc [];apply `aV `hQ;exact `x
 have Y:¬(!`aWe)=`d:=by
  have:`aWe=`d:=by unfold Builtin.List.listFitsIndex;simp;lia
  rw[`x];decide
 have a1:¬`alN > `aUy/8:=`F
 have Z:¬`Qu (`alN)=`d:=by
  rw[`cm] at J ⊢;apply `aKK;simp;unfold sizeLine;lia
 done;refine wpAny_binaryOp_repeat_ref (T := `fX) (U := `jk) `v `ti (λs'=>i4 s' k t) noFill_list_mul F.fills_int_mul `aWf repeat_list F.slot_int_index.lookup
  (b5 `aWf (i4 s k t) F.entry_int_rmul (F.args_int_rmul_2 _ _) (lm_int_rmul_list_any k t a `b4 n dd sl)
   #[ho,rfl,`ti,b5 F.slot_list_mul `ti F.entry_list_mul (F.args_list_mul_2 _ _) (lm_list_mul_any a `b4 n dd sl k t Y a1 Z) #[ho,?_]])
 rw[O];exact`aO9 (r1.rep `mc) (by rw[len_rep,`aWg];unfold sizeLine;lia)
universe L2
namespace DL
open Spec PyProof.Rows L2
def mulL:`br
 | `dv,`n0=>`o (`ahg/\0<=k/\k<`jY/\`aWc) (`c `aWd) `f
 | _,_=>`f
section
variable{a:`J}{ga gb:GE}
def Ru0:Op2 K (Oz0 K) mulL:=by
 apply `jB;unfold mulL at h;split at h
 ·split at h
  ·skip;rename_i hz
   cases h;rw[S7] at rx;rw[Z6] at ry;subst ry;apply `aku;done;refine#[a,xs,_,rfl,rfl,q1.to,λz=>hz.1 ?_,hz.2.1,hz.2.2.1,`k `oI hz.2.2.2,`wZ `gh (oa0 hb hp (Yu0 r1 _))];subst z;have hn:=`oI;simp at hn;exact `akv
  ·cases h
 ·cases h
theorem li0(ha:`cA)(hb:`dr):`k' `aRZ mulL:=nj0 K70 Ru0 ha hb
universe zz
def mq0(gA:GA)(f:`ni):GZ:=fun δ=>`ts λds=>(f ds).map λr=>match r with
 | .ok _=>.ok (`Ae)
 | `rS=>`ST
section
variable{gA:GA}{p:Pos}
theorem Uv0{k:Nat}{f:`ni}(C:`L8 FnX x)(hr:`tD)(hk:k<=m)(ha:`k7)
  (hg:`fR) (hdb:`aQ) (he:`dn) (hpl:`eE)
  {ap:Pos} (hs:`i1 `oe `f ap.line) :
  PSX X (`Bo `oe ap) (mq0 gA f):=.mk λH₀ B₀ δ pins s σ H D I hq147=>by
 skip;apply `ba hq147
 unfold mq0 at e1;apply `aY;let#[fa,fd,F,hm,J,hb]:=C.ex;apply `S_;cases e3:f ds with
  | none=>apply `cs;cases e1
  | some dx =>
   apply `cs;cases e1;done;refine `R! (Qj0 (dvs:=[]) (ds:=[]) F `jD hg hm J hb `R `bt hdb he hpl) `alO;show spX X.K f `Mz H1 _ _;rw[`bS];refine#[B,ds,dx,`ym,r1,e3,?_];cases dx with
   | ok d=>exact λv H' s2 r2=>k _ H' `aWh
   | ex c m =>
    intro C od H' s2 n x C' q;cases q;refine k σ H' C od `aWh n ?_;cases m with
    | none=>trivial
    | some m =>
     let#[dx,e,x1,x2]:=x;exact#[dx,B,e,`aWi,x2,b1,b2,`jO `mz,λz=>`ym dx z x1]
universe zz
structure But(p:`e)(H H':Hp):Prop where
 old:`aWj
 nf:∀b o xs,b≠p->`aK8
instance{p:`e}{H H':Hp}:`e8 `yn `aWj:=#[But.old]
section
variable{σ:St}{δ:Ds}
theorem Gr.but{p:`e}(hb:B p)(h:`yn):`aMx:=λb u n e=>#[n,h b u (`pi n hb) e]
def Env.mutB(e:`bs){d0 d:D}(hi:`FB)(hs:`kh)(hh:`yo)(r:`aMZ):`aWk:=by
 apply `aQA;rw[hs] at h1;cases h1;refine`aQB
 ·have h0:`aQC H':=`Ds (λo' s h=>by
   cases s with
   | un=>exact `n `jr
   | ex c n=>apply `ih;exact `aWl
   | sh d=>apply `ih;exact `aWl
   | ow d =>
    apply `RY
    by_cases z:b=a
    ·subst z;exact `aQE
    ·exact `n #[b,e,O,`dw (λo h=>hh b o z h) `ay8]) `mw
  apply `aQF;apply `aQG;apply `aQH
  ·exact h
  ·skip;apply `aQI
   ·cases e3;done;exact`N7
   ·done;apply `aQJ
 ·by_cases z':b=a
  ·subst z';exact `tw
  ·cases q:H b with
   | none=>exact `G q (`aj')
   | some o=>exact(`aj').keep λo h=>hh b o z' h
 ·have q1:`aQK:=by
   skip;apply `RZ
   ·done;exact`R_
   ·done;exact`R0
  have q2:`aQL:=by
   skip;apply `aQM
   ·done;exact`R_
   ·done;exact`R0
  let#[d1,q1]:=q1;let#[d2,q2]:=q2;exact `aQN
def EnvS.mutB(en:`cx)(b1:`lU)(b2:`lV){d0 d:D}(hi:`FB)(hs:`kh)(hh:`yo)
  (env:`aWk):`iy K H' `so:=by
 have h0:=`aQP;have J:i<`l9:=`NS;apply `aQQ
 ·apply `aQR
  exact hh _ _ `x `aQS
 ·by_cases z:b=a
  ·apply `aQT
   rw[hs] at e1;cases e1;rw[z] at h;exact `aQU
  ·exact `aj! b ob xs (hh.nf b ob xs z h)
 ·skip;apply `RZ
  ·rw[hs] at h2;cases h2;done;exact h0
  ·done;exact `aQV
universe zz
universe DL
namespace L2
open Spec PyProof.Rows PySem.W
def Fa0(td ty tx:TE):TE:=fun σ H Q=>td σ H λx H1=>∃a,`ek/\IsD H1 a/\ty σ H1 λy H2=>tx σ H2 λz H3=>∃kvs k,H3 a=`X4/\y=kV k/\`Fx /\
 (∀v,`l5=`bO->Q v H3)/\(`alP->Q z (upd H3 a (.dK (`Kd z))))
section
variable{f:`J}{tx:TE}
def Gk0{σ:St}{s:`w}{k:Key}{r:`B}{A:`cf}{E:`an}{Q:`an}(I:`A)(e:`Fw)(ry:`aP3)(rv:`d1 v r)(l:`Fx)
  (h1:∀x,`l5=`du->`aP! x) (h2:`alP->∀s',`a0 (`ajW) s'->Q r s') :
  `dB `cI (`eb (`cn "dict.setdefault") [`bZ,u,r]):=by
 apply `aQc;apply `aQd
 have hv:=`YN;refine call_meetsIn Df0 `Mc PySem.F.entry_dict_setdefault (PySem.F.args_dict_setdefault_3 _ _ _) (kt_meets_setdefault (`aQr) a `Fy hd r) #[vs,dd,hz,λw hw=>?_,λhn h' J hs=>?_]
 ·rw[hw] at hv
  cases e1:`l5 with
  | none=>rw[e1] at hv;exact hv.elim
  | some x=>rw[e1] at hv;exact h1 x e1 _ _ `rD hv
 ·rw[hn] at hv
  have e1:`alP:=by
   cases e1:`l5 with
   | none=>rfl
   | some x=>rw[e1] at hv;exact hv.elim
  apply `aj3
  have he:`aj1:=`aj4
  exact h2 e1 _ (`aQf)
def Kk0(ho:`RW)(he:PE X e ty)(hf:PE X f tx)(m:M2 X o `S0 `pd e f `jS):PE X (`p_ o `S0 [e,f]) (Fa0 td ty tx):=by
 apply `bh;refine wpAny_Call_method m.base m.few m.line PySem.F.plainAttrs_dict Df0 PySem.F.type_dict_setdefault (thn `El λu s1 hq148=>?_);skip;let#[x,H1,I1,rx,a,ex,d,q1]:=hq148;subst ex;cases (show `N5 from rx);let#[t1,t2,_]:=I90 I1 d;done;refine#[t1,t2,?_];rw[m.trees];refine Al0 rfl (Am0 (P7 (thn (`l3 he _) λiv s2 hq149=>?_)));let#[y,H2,I2,ry,q2]:=hq149;refine P7 (thn (`NX hf σ) λfv s3 hq150=>?_);skip;let#[z,H3,I3,rz,kvs,k,ea,ey,l,q3,q4]:=hq150;done;refine Y2 ?_;subst ey;exact Gk0 I3 ea ry rz l (λx ex w' s4 I4 r4=>#[x,H3,I4,r4,q3 x ex]) λen s4 I4=>#[z,_,I4,rz,q4 en]
universe zz
universe L2
namespace DL
open Spec PyProof.Rows L2
def jb0(i:Nat)(gk g:GE):GX:=fun δ=>`aPs λpr=>`S1 λdk=>`k? λd=>`aWm λq=>`tK (`akK<`W) (if `Sr=`d then (vz0 pr.1 pr.2 q).map λr=>(r,δ) else `c (d,`akL))
section
variable{a f:`J}{ga gb g:GE}
open T in
theorem Mb0(hu:`lb)(ha:`cA)(hb:`dr)(hm:`H (`IQ `xy b=`m) Ak):`k' (`Xw `xy) (ve0 `d):=.mk λB δ=>(J70 (Sq0 hu `bt `e') hm).imp fun σ H Q hq151=>by
 apply `na hq151
 unfold o2 at h;cases e1:`ex with
 | none=>rw[e1] at h;cases h
 | some x =>
  cases e2:`fy with
  | none=>apply `dq;cases h
  | some y =>
   apply `dq;apply `fS;apply `xZ;apply `aSK
   rename_i ks ds;cases ks with
   | inl ks =>
    apply `yh;cases e3:yy0 x with
    | none=>rw[e3] at h;cases h
    | some q =>
     rw[e3] at h;apply `oE `ky `Sb;cases h;rw[g70] at r2;apply `Sp;have:=p40 e3 r1;subst this;apply `lc p _ `akI;rw[`Sq];exact `aWn
   | inr ks =>
    apply `yh;cases e3:qp0 x with
    | none=>rw[e3] at h;cases h
    | some q =>
     rw[e3] at h;apply `oE `ky `Sb;cases h;rw[fj0] at r2;apply `Sp;let#[b,rfl,hb]:=b80 e3 `Fc;apply `lc p _ `akJ;rw[`Sq];exact `aWn
theorem H70(i:Nat)(h0:PD X e g0)(h:PD X f g)(hN:`dG)(hv:`eG)(hd:`aQ)(hcd:`dX)
  (hbase:`FG `S0)
  (hfew:`H ((`aQs
  &&`aQt)=`d) Aa)
  (hline:`hm) (htrees:`H (`aQu) Aa) :
  PX X (`p_ `gL `S0 [e,f]) (jb0 i g0 g):=.mk λH₀ B₀ δ pins s σ H Q I hq152=>by
 skip;apply `ba hq152
 unfold jb0 at e1;apply `aY;cases e2:`L9 with
 | none=>apply `aj;cases e1
 | some pr =>
  cases e4:g0 δ with
  | none=>rw[e2,e4] at e1;cases e1
  | some dk =>
   cases e3:`ax with
   | none=>rw[e2,e4,e3] at e1;cases e1
   | some d =>
    cases e5:`Ms with
    | none=>rw[e2,e4,e3] at e1;apply `e!;rw[e5] at e1;cases e1
    | some q =>
     rw[e2,e4,e3] at e1;apply `e!;rw[e5] at e1;apply `e!;split at e1
     ·rename_i hz
      have hi:=Xj0 e2;let#[p,O,hb,xs,hx,hl,rx]:=`oH;have hl:`akK=`ar:=hl;done;refine Kk0 `l6 (h0 B δ) `dk #[`hn,hfew,`jq,htrees] `r s σ H Q I #[_,O,p,rfl,`n #[_,`n hx],dk,env,e4,λiv H1 s1 r1=>#[d,`jV,e3,λfv H2 s2 r2=>?_]];have:=p40 e5 r1;subst this;have J:=`nL;refine#[_,q,J _ _ hx,rfl,`aBr,λv Y=>?_,λhn=>?_]
      ·skip;have hk:`Sr=`d:=by
        rw[← `aWo,Y];rfl
       rw[`xA] at e1;let#[w,hw,e1]:=u4.mp e1;cases e1;let#[v',Z,rv]:=(w60 rx).1 w hw;rw[Y] at Z;cases Z;done;exact k v H2 (`su (`Ba J) (`jO J) (`ww J))
      ·have hk:`Sr=`m:=by
        rw[← `aWo,hn];rfl
       rw[hk,`jE] at e1;cases e1;let#[ys,hy,a2,a3,a1]:=gx0 (q:=q) (v:=fv) hl;have rr:Rps X.K H2 B `ZQ ys:=by
        unfold xj0;rw[hk,`jE,a1 hk];exact `sp (`Yi J) r2
       rw[hy];have U:`kf (upd H2 p `aSV) (`akL):=(`jO J).mut hi O #[ys,j8,a2,rr.mono `oY];exact k _ _ (`su (`Dt J b1 b2 hi O U) U (r2.mono `oY))
     ·cases e1
universe zz
universe DL
namespace L2
open Spec PyProof.Rows PySem.W
def p30:`g3 X `ahz `aWp:=by
 apply `tc;skip;let#[p,kvs,rfl,hq,q]:=h;apply `Qq;cases rx;have hn:=o50;let#[z,hd,vs,rel,dd]:=ca0 `b2 hq;have hl:=`aBi;done;exact call_len_dict hd dd `j #[`g `jW,H,`uL,#[`us,by rw[hl]],q]
universe L2
namespace DL
open Spec PyProof.Rows L2
def xh0:`U
 | [`df `I4 _]=>`c (`g `iK)
 | _=>`f
def le0:FnR K `aWp xh0:=by
 apply `x7;unfold xh0 at h;split at h
 ·skip;cases h
  apply `jC;rw[g70] at r1;let#[p,ys,rfl,_,hp,hl,rr]:=r1;done;refine#[p,_,rfl,hp,`RE];rw[Z6,`u3,← hl,`XU]
 ·cases h
universe DL
namespace DL
open Spec PyProof.Rows L2
def bt0:`au->`I
 | []=>`d
 | p::K=>(match p.2.cls with
  | `bM n=>!(n == `fX)
  | _=>`d)&&bt0 K
theorem Xe0:∀{K:`au} {a:`e} {o:Obj},`alQ->`alM->`l2≠`iS
 | [],_,_,_,h=>nomatch h
 | (b,u)::K,a,o,h,e=>by
  unfold bt0 at h;apply `p6;rw[`gv] at e;split at e
  ·cases e
   intro z;rw[z] at h;exact `G h.1 `v
  ·exact Xe0 h.2 e
def script_at(hK:`alQ)(h:`sd):SqL' K H `yp a xs:=by
 skip;rcases h with h|⟨o,its,n,e,c,_⟩
 ·done;exact `n #[`BU,h]
 ·done;exact `G c (Xe0 hK e)
theorem P00{l:`ah_}{n k:Nat}{q:`ai}{loose:`i}{XP:`DT}{YP:`DU}{d:DefRec}{K:`aK0}{CX:CXT}{sp:`z->Sp}{x:Str}
  (hn:`Qw) (hn2:`xJ) (hdf:`ahR) (hr:`ahU) (hY:`aK1)
  (F:∀(w:`Q) (mg:`a3) (fa:`e) (h:`D),`LT h->`DX->`ahS ->
   ∃fd:`e5,(`ahV)/\`aK2 CX `Cq)
  (hsp:`aK3 (`aK4 `Cq))
  (hCX:∀(H:Hp) (s:`w) (e:`B) (s':`w),CX [] H s `xL e s'->`b1):`aK5 :=
 K40 (K:=K) (CX:=λ_=>CX) (sp:=λw=>sp `Cq) hn hn2 hdf hr hY F (λw H a ns h1 _ h3=>hsp w H a ns h1 h3) λ_ H s e s'=>hCX H s e s'
universe DL
namespace L2
open Spec PyProof.Rows
def SubO.ho:`dM->HO
 | `dv=>`dv
 | `AA=>`AA
 | `lC=>`lC
def SubO.no_own(o:`dM)(x:`e):o.ho≠.own x:=by apply `S2
def SubO.no_tup(o:`dM)(xs:`V):o.ho≠`fo:=by apply `S2
def SubO.no_frz(o:`dM)(ob:Obj)(u:HO):o.ho≠`Zr:=by apply `S2
def SubO.no_tbl(o:`dM)(ps:`a5):o.ho≠`Y5:=by apply `S2
theorem wk0:∀{l:`m0} {k:`e} {v:`dM},l.lookup k=`bO->(k,v)∈l
 | [],_,_,h=>by cases h
 | (k',v')::l,k,v,h=>by
  rw[`gv] at h;cases q:k==k' with
  | true =>
   rw[q] at h;cases h;rw[`P! q];exact A4
  | false =>
   rw[q] at h;exact A5 _ (wk0 h)
def opened(H:Hp)(sub:`m0):Hp:=λb=>match `kA with
 | `aq=>`c o.ho
 | `f=>H b
def closed(H:Hp)(a:`e)(sub:`m0):Hp:=λb=>if b=a then `FU else match `kA with
 | `c _=>`oi
 | `f=>H b
section
variable{P:`ai}{w:`Q}{h:`D}{sub:`m0}
theorem HOk.opened(x:`fL)(ha:H a=`FU)(hin:`S3)(hdx:`aWq):HOk P w (L2.opened H sub) h:=λb u e=>by
 skip;obtain⟨_,all⟩:(`O3)/\∀p∈sub,`aEI:=x a _ ha;unfold L2.opened at e;cases l:`kA with
 | some o =>
  rw[l] at e;have e:=A3 e;subst e;have m:=wk0 l;let#[_,q]:=all _ m;cases o with
  | lst xs=>done;exact q
  | dK kvs=>done;exact q
  | ins C dx fs =>
   let#[rfl,d,z,ne,e,r]:=q;done;refine#[?_,z,ne,e,r];apply `FV;rw[hdx _ C dx fs m];exact d
 | none =>
  rw[l] at e;have J:`i':=λz=>by rw[z] at l;rw[l] at hin;cases hin
  done;refine`aeZ (`wV) (λc q=>?_) (λc xs q=>?_) λc ob u' q=>?_
  ·apply `FV
   cases lc:`tL with
   | none=>exact q
   | some o =>
    apply `alR
    ·have z:c=a:=z
     rw[z,ha] at q;cases q
    ·have z:`alS:=z
     rw[z] at q;cases q;exact `G rfl J
  ·apply `FV
   cases lc:`tL with
   | none=>exact q
   | some o =>
    apply `alR
    ·have z:c=a:=z
     rw[z,ha] at q;cases q
    ·have z:`alS:=z
     rw[z] at q;cases q
  ·apply `FV
   cases lc:`tL with
   | none=>exact q
   | some o =>
    apply `alR
    ·have z:c=a:=z
     rw[z,ha] at q;cases q
    ·have z:`alS:=z
     rw[z] at q;cases q
def SubO.there{b:`e}(o:`dM)(x:`h' P w H h b o.ho):∃ob,`qH=`O6:=by
 skip;cases o with
 | lst xs=>let#[_,_,_,_,e]:=x;done;exact`alT
 | dK kvs=>let#[_,_,_,_,_,_,_,e,_]:=x;done;exact`alT
 | ins C dx fs=>let#[_,_,_,e,_]:=x;done;exact`alT
theorem HOk.closed(x:`fL)(ha:`S3)(hs:∀p∈sub,`wc=`c p.2.ho)(hi:∀p∈sub,`aWr):HOk P w (`KG H a sub) h:=λb u e=>by
 have J:∀{c:`e} {o:`dM},`tL=`aq->H c=`c o.ho:=λl=>hs _ `abo
 have own:∀c y,H c=`ae2->`alU=`ae2:=λc y q=>by
  apply `FW;have hc:c≠a:=λz=>by
   cases l:`vp with
   | none=>rw[l] at ha;cases ha
   | some o=>rw[z,J l] at q;exact `aWs o y `yq
  rw[`to];cases l:`tL with
  | none=>exact q
  | some o=>rw[J l] at q;exact `G `yq (`aWs o y)
 have tup:∀c xs,H c=`iZ->`alU=`iZ:=λc xs q=>by
  apply `FW;have hc:c≠a:=λz=>by
   cases l:`vp with
   | none=>rw[l] at ha;cases ha
   | some o=>rw[z,J l] at q;exact `alV o xs `yq
  rw[`to];cases l:`tL with
  | none=>exact q
  | some o=>rw[J l] at q;exact `G `yq (`alV o xs)
 have frz:∀c ob u',H c=`ae4->`alU=`ae4:=λc ob u' q=>by
  apply `FW;have hc:c≠a:=λz=>by
   cases l:`vp with
   | none=>rw[l] at ha;cases ha
   | some o=>rw[z,J l] at q;exact `aWt o ob u' `yq
  rw[`to];cases l:`tL with
  | none=>exact q
  | some o=>rw[J l] at q;exact `G `yq (`aWt o ob u')
 apply `m1
 ·subst hb
  have e:`KG H b sub b=`bc:=e;unfold L2.closed at e;rw[`bp] at e;have e:=A3 e;subst e;refine#[?_,λp hp=>`tp]
  ·cases l:`kA with
   | none=>rw[l] at ha;cases ha
   | some o=>exact `aWu
  ·by_cases z:p.1=b
   ·exact `gR
   ·refine `all
    apply `FW;rw[`k8];cases l:`zY p.1 with
    | none =>
     exact `G l (by
      intro l;rw[List.lookup_eq_none_iff] at l;have:=l p hp;simp at this)
    | some o=>rfl
  ·skip;have q:=x p.1 _ (hs p hp)
   let#[pa,po]:=p;cases po with
   | lst xs=>done;exact q
   | dK kvs=>done;exact q
   | ins C dx fs =>
    have O:pa=b:=hi _ hp C dx fs rfl;subst O;let#[d,z,ne,e,r]:=q;done;exact#[rfl,own _ _ d,z,ne,e,r]
 ·have e:`aWv=`bc:=e
  unfold L2.closed at e;rw[`cz] at e;cases l:`kA with
  | some o =>
   rw[l] at e;have e:=A3 e;subst e;exact `aWu
  | none =>
   rw[l] at e;exact`aeZ (`wV) (λc q=>own c b q) (λc xs q=>tup c xs q) λc ob u' q=>frz c ob u' q
universe zz
section
variable{σ:St}{s:`w}
theorem Inv.view(I:`A)(no:`aVe)(tp:`O4)(fz:`ae8)(tb:∀b ps,H b=`_2->H' b=`_2)
  (hok:`vM H' `aA):`aVd :=
 #[I.ok,I.os,`h7,#[`AO,`AP,`aVf,`As,`ac8 tp xs,λb o u e=>fz b o u `ac7,λb ps e=>let #[m,q]:=`ZU;#[m,tb _ _ q]],
  `fD,`lO,`aVh,`aVi,λp hp=>let #[e,n,r]:=`AQ;`aVj,hok,`eX]
universe zz
structure OpenOk(H:Hp)(a:`e)(sub:`m0):Prop where
 at':H a=`FU
 root:`S3
 dx:`aWq
structure CloseOk(H:Hp)(a:`e)(sub:`m0):Prop where
 root:`S3
 at':∀p∈sub,`wc=`c p.2.ho
 ins:∀p∈sub,`aWr
section
variable{σ:St}{s:`w}{sub:`m0}
def Inv.opened(I:`A)(o:`aWw):`a0 `aWx s:=by
 apply `alW sub o.at';have no:∀{b:`e} {so:`dM},`kA=`z7->H b=`FU∨`J6:=λ{b so} l=>by
  rcases (all _ `abo).1 with z|z
  ·have z:b=a:=z
   rw[z];exact `n o.at'
  ·exact `p z
 have other:∀b u,H b=u->u≠`FU->u≠`oi->L2.opened H sub b=u:=λb u q n1 n2=>by
  apply `FV;cases l:`kA with
  | none=>exact q
  | some so =>
   rcases no l with z|z
   ·exact `G (`abn z) n1
   ·exact `G (`abn z) n2
 exact I.view (λb q=>`S4) (`D7 `S4) (λb o u q=>`S4) (λb ps q=>`S4) (I.hok.opened o.at' o.root o.dx)
def Inv.closed(I:`A)(c:`tM):`a0 `tN s:=by
 have other:∀b u,H b=u->(`aWy)->`aWv=u:=λb u q n=>by
  apply `aWz
  apply `FW;have hb:`i':=λz=>by
   cases l:`vp with
   | none=>have:=`S5;apply `aV l;cases `x
   | some so=>exact `aWA
  rw[`cz];cases l:`kA with
  | none=>exact q
  | some so=>exact `aWB
 exact I.view (λb q=>`A1 b _ q λso z=>nomatch z) (`D7 (`A1 b _ q `aWC)) (λb o u q=>`A1 b _ q `aWD) (λb ps q=>`A1 b _ q `aWE) (I.hok.closed `S5 c.at' c.ins)
universe zz
def Ends.closing(a:`e)(D:Ends):Ends where
 nx:=`alX `gc
 bk:=`alX D.bk
 ct:=`alX D.ct
 rt:=λv H=>∃sub,`tM/\D.rt v `tN
section
variable{st:`cg}{t:TS}
def SP.closing{D:Ends}{f:Flow}(h:SP X `r `aWF f s'):`aGn:=by
 skip;cases f with
 | next=>apply `alY;done;apply `alZ
 | brk=>apply `alY;done;apply `alZ
 | cont=>apply `alY;done;apply `alZ
 | ret u=>let#[v,σ',H',I,r,sub,c,k]:=h;done;exact#[v,σ',_,`Oa,r,k]
theorem je0(h:`gr):PE X e (`cw (∃a sub,`tM/\te σ `tN λv H'=>∃sub',`Mt H' a sub'/\Q v (`iL H' sub'))):=λpins s σ H Q I #[a,sub,c,q] =>
 thn (h `r s σ _ _ (`Oa) q) λu s' #[v,H',I',r,sub',o,k]=>`ay!
universe zz
universe L2
namespace DL
open Spec PyProof.Rows L2
def z9(p:`e)(b:D):D:=`C [`g `sx,b]
def uq0{p:`e}{b:D}:`Ik (z9 p b)↔a=p/\`In b:=by
 constructor
 ·rintro (⟨d',e,h⟩|⟨ks,vs,e,_⟩|⟨x,ns,e,_⟩)
  ·cases e
   exact`aWG
  ·cases e
  ·cases e
 ·rintro⟨rfl,h⟩
  exact `n #[b,rfl,h]
theorem RpG.less{d:D}(l:`E2)(h:`m?):RpG K H B' d a:=`aj9 (λ_ e=>e) (`kv l) h
inductive ResB where
 | nx (δ:Ds)|rt (d:D) (δ:Ds)
abbrev GSB:=Ds->`tO
def N20(K:`z)(H₀:Hp)(B₀:BS)(D:Ends):ResB->Prop
 | `Ae=>`aNv
 | .rt d δ=>∀v σ H,`FE->D.rt v H
variable{Ga Gb:DL.GSB}
def tDB(K:`z)(H₀:Hp)(B₀:BS)(δ:Ds)(G:GSB):TS:=`Rf `cx N20 K
structure PSB(X:Cx)(st:`a1)(G:GSB):Prop where
 mk::go:`h0 PS st `aWH
structure PSsB(X:Cx)(st:`cg)(G:GSB):Prop where
 mk::go:`h0 PSs st `aWH
def Z2(G:GS):GSB:=fun δ=>match G δ with
 | `eZ=>`eZ
 | _=>`f
def nilB:GSB:=`aL9
def o6(G1 G2:GSB):GSB:=fun δ=>match `eY with
 | `eZ=>`vn
 | r=>r
def S5(gx:GX):GSB:=`kC `Fs (.rt r.1 r.2)
def ifB(gt:GB)(Ga Gb:GSB):GSB:=`aL'
section
variable{c:`J}{st:`a1}{as bs:`cg}{G1 G2:GSB}{gt:GB}
open T in
theorem Z9(h:`ai3):PSB X st (Z2 G):=.mk λH₀ B₀ δ pins s σ H D I hq153=>by
 apply `hp hq153
 unfold Z2 at e;split at e
 ·rename_i δ' e1
  cases e;apply `S6
 ·cases e
theorem o7:PSsB X [] `P:=.mk λH₀ B₀ δ pins s σ H D I hq154=>by
 apply `hp hq154
 cases e;apply `Rh
theorem u6(h1:PSB X st G1)(h2:PSsB X `aR G2):`Ri PSsB o6:=.mk λH₀ B₀ δ pins s σ H D I hq155=>by
 skip;apply `hp hq155
 unfold o6 at e;cases e1:`eY with
 | none=>rw[e1] at e;cases e
 | some r1 =>
  rw[e1] at e;cases r1 with
  | nx δ'=>done;apply `alC
  | rt d δ'=>cases e;done;apply `p7
theorem Y8(h:`p4):PSB X `Ps (S5 gx):=.mk λH₀ B₀ δ pins s σ H D I hq156=>by
 apply `ba hq156
 unfold S5 at e1;cases e2:`gS with
 | none=>apply `aj;cases e1
 | some q =>
  apply `aj;cases e1;exact `ty `ld (`vD λv H' ev=>k v σ H' ev)
theorem O6(hc:`Rl)(ha:`aWI)(hb:`aWJ):`ai8 PSB ifB:=.mk λH₀ B₀ δ pins s σ H D I hq157=>by
 skip;apply `ba hq157
 unfold ifB at e1;apply `aY;cases e2:`jX with
 | none=>apply `aj;cases e1
 | some t =>
  apply `aj;done;refine cf0 `Rm `al_ `aWK `r s σ H D I `aNF;cases t with
  | true=>apply `Rn
  | false=>apply `Rn
universe zz
def spB(K:`z)(j:Nat)(f:`a_):Sp:=λvs H Q _=>∃(B:BS) (ds:`l) (us:`V) (p:`e) (b b' r:D),`pU/\B p/\vs=`al0/\`tP/\`al1/\`al2/\`al3 /\
 ∀v H',`yn->`al4->Rp K H' B r v->`v_
structure FnB(P:`ai)(w:`Q)(K:`z)(mg:`a3)(base:`D)(x:Str)(k:Nat)(ps:`i)(j:Nat)(f:`a_):Prop where
 ex:∃fa fd,`am k ps `aWL/\`RH
@[simp] def N5(N:`i)(j:Nat)(p:`e)(b:D)(ds:`l):Ds:=`aWM .sh++`hB b::(`aWN .sh++`bB (`EB - (`Ii)) .un)
def mb0{p:`e}{b:D}{d:D}(hj:`tP)(h:`md[i]?=`r'):i=j/\d=z9 p b:=by
 unfold N5 at h;have hl:(`s (`aWM `sX))=j:=`i! `S `dT
 have J:∀(l:`l) (i:Nat),(`c6 `sX)[i]?≠`r':=λl i z=>by
  rw[`cX] at z;cases q:l[i]? with
  | none=>rw[q] at z;cases z
  | some x=>rw[q] at z;cases z
 by_cases hi:i<j
 ·rw[`fw (`k hl hi)] at h
  exact `aWO
 ·rw[`uR (`cH hl),hl] at h
  cases q:i - j with
  | zero=>rw[q] at h;cases h;exact#[`F,rfl]
  | succ n =>
   rw[q,`aWP] at h
   by_cases hn:n<(`aWN `sX).length
   ·rw[`fw hn] at h
    exact `aWO
   ·rw[`Dc,`th] at h
    apply `ajq
def EndB(G:GSB)(δ:Ds)(j:Nat)(p:`e)(r b':D):Prop:=(`yr δ (`c `al5))∨(r=`y/\∃δ',`al6/\`aWQ)
def i00{us:`V}{p:`e}{b:D}(hb:`uE)(hp:B p)(hj:`tP)(rs:`al1)(ro:`al2):`hV K `Ob `aBG H (`ZI N (`al0)) `md:=by
 have sm:`dc `Ob H:=#[λb o e=>by
  by_cases z:b=p
  ·apply `s_ z `hZ;cases e
  ·apply `s_ z `g?;exact e,λb o xs e=>by
  by_cases z:b=p
  ·exfalso
   rw[z] at e;exact ro.plain o xs e
  ·apply `mR z;exact e]
 have J:(`s (`KH j))=j:=`i! `dT `Ye
 refine#[sm,#[B,λ_ z=>z.1,`jd,#[?_,hb,λi j a O es h1 h2 _ _=>?_]],λi O a h1 h2=>?_,`jd]
 ·by_cases q:a=p
  ·exact `aWR q
  ·exact `n `abr
 ·unfold L2.start N5
  rw[`aU,`ag,`bg,`kb,`Z,`T,`dT,`kB,`Ye];refine `L6 (rs.take j) (`aa #[p,rfl,hp,uq0.mpr #[rfl,ro]] (`L6 (rs.drop j) ?_));rw[`a4 (min j `bN+(`bN - j+1)=`Ii)];exact o00 _
 ·rw[(mb0 hj h1).1,(mb0 hj h2).1]
 ·let#[rfl,_]:=mb0 hj h1
  have:(`ZI N (`KH i++`fW::`ZY i))[i]?=`c `aa_:=by
   unfold L2.start;rw[`aU,`bg,`uR `oL,`S,J,`kG];rfl
  rw[`x] at h2;cases h2;simp only[`hZ]
 ·apply `mR z.2
  exact hb a z.1
theorem qi0{p:`e}(s':`dc `Ob H'):`yn:=#[λb o z e=>s' b o `aWS,λb o xs z e=>by have:=s'.nf b o xs e;apply `aWT]
def sb0{p:`e}(c1:∀a,`awX->B' a)(hB:B' p)(x:`e)(z:B x):B' x:=by
 by_cases q:x=p
 ·rw[q];exact hB
 ·exact `aWU
section
variable{P:`ai}{w:`Q}
def okB{st:`a1}{k j:Nat}{f:`a_}{G:GSB}(F:`Fp)(S:`xN)
  (body:`L5 PSsB `ayl)
  (hf:∀b ds r b',`al3->`Ii=`aI/\`al7) :
  `am `d6 ps `aWL:=by
 apply `ajr
 ·let#[B,ds,us,p,b,b',r,_,_,hv,_,hr,_,h,_]:=zQ;apply `aWV
  have:=(`aWW).1;lia
 ·let#[B,ds,us,p,b,b',r,hb,hp,hv,hj,rs,ro,h,q]:=zQ;subst hv
  apply `aWX;have en:=`aWY;rcases (`aWW).2 p with⟨δ',e,e'⟩|⟨rn,δ',e,e'⟩
  ·apply `aWZ
   apply `al8;apply `FX;apply `FY;apply `FZ;apply `aW_
  ·apply `aW0
   apply `aW1;apply `FX;apply `FY;apply `FZ;apply `aW2
universe zz
def mkB(n:Nat)(N:`i)(j:Nat)(G:GSB)(b:D)(ds:`l):`atI:=(`aW3 `aW4)
def z00{G:GSB}{b:D}{r:D}(h:`al9):`nj/\`al7:=by
 unfold mkB at h;split at h
 ·rename_i hh
  have e:=A3 h;have:=w8 hh.2;apply `aV e;exact`aW5
 ·cases h
def EndB.one{G:GSB}{δ:Ds}{p:`e}{r b r':D}(h:EndB G δ j p r b)(h':EndB G δ j p r' b'):r=r'/\b=b':=by
 have lb:∀{δ1:Ds},δ1[j]?=`al'->δ1[j]?=`XA->b=b':=λe1 e2=>by
  rw[e1] at e2;have e8:=A3 e2;injection e8 with e9
  unfold z9 at e9;injection e9 with e10
  exact`aW6
 apply `aW7
 ·have e5:=A3 e3
  injection e5 with e6 e7
  subst e7;exact#[e6,lb e2 e4]
 ·cases e3
 ·cases e3
 ·have e5:=A3 e3
  injection e5 with e7
  subst e7;exact#[rn.trans J.symm,lb e2 e4]
def cw0{G:GSB}{b:D}{r:D}(hl:`nj)(h:`al7):`al9:=by
 have hh:`nj/\`aW4:=#[hl,(r,b'),h];unfold mkB;rw[dif_pos hh];let#[e1,e2]:=`aW8;exact C7 `c (Prod.ext e1 e2)
def yb0:`QM->`aB (D×(D->D))
 | `aW9=>`c (`_M,`S7)
 | `oX (`Ah)=>`c (`Ah,`S7)
 | `c `aW'=>`c (`Be,`S7)
 | `oX (`C [`F_,b])=>`c (b,λd=>`C [`F_,d])
 | _=>`f
open T in
def xt0{s:`QM}{bm:D×(D->D)}(h:yb0 s=`c bm):∃d0,s=`auz/\∀(K:`z) (H:Hp) (B:BS) (a:`e),`Ik d0->`In bm.1/\∀(H':Hp) (B':BS) (b':D),RpG K H' B' b' a->RpL K H' B' (bm.2 b') a:=by
 unfold yb0 at h;split at h
 ·cases h
  apply `aW!
 ·cases h
  apply `aW!
 ·rename_i x ns
  cases h;refine`pH λK H B a r=>#[?_,`aBH];rcases r with⟨d',e,h⟩|⟨ks,vs,e,_⟩|h
  ·cases e
  ·cases e
  ·exact h
 ·rename_i p b
  cases h;refine`pH λK H B a r=>?_;rcases r with⟨d',e,h⟩|⟨ks,vs,e,_⟩|⟨x,ns,e,_⟩
  ·cases e
   exact#[h,λH' B' b' r'=>`n #[b',rfl,r']]
  ·cases e
  ·cases e
 ·cases h
def K4(i:Nat)(gA:GA)(f:`a_):GX:=fun δ=>`ys λb=>`aW?
structure PAB(X:Cx)(i j:Nat)(es:`bQ)(gA:GA):Prop where
 mk::go:∀B δ,PA X es (`cw (∃ds a,`aaQ/\`tt/\`kh/\∀vs H',`be->Rps X.K H' B ds vs->`tP->Q `aXa H'))
section
variable{g:GE}{gA:GA}{p:Pos}
theorem pab(i:Nat)(ha:`x0)(hN:`pV)(hv:`yt)(hd:`yu)(hcd:`yv)
  (hs:`j8 (`JR::es) ((`m,`F0)::`uj)):PAB X i 0 (`JR::es) gA:=.mk λB δ=>(N7 `l6 `bt hs).imp fun σ H Q hq158=>by
 let#[ds,a,en,h,hi,k]:=hq158
 exact#[_,hi,ds,en,h,λvs H' s r=>k vs H' s r `kp]
theorem tp0(i:Nat){k:Nat}{f:`a_}(C:FnB `cB X.w X.K `cE `e1 x k ps j f)(hj:∀b ds q,`KI=`dt->`tP)(hr:`tD)(hk:k<=m)(ha:PAB X i j `gG gA)
  (hg:`fR) (hdb:`aQ) (he:`dn) (hpl:`eE) :
  PX X `oe (K4 i gA f):=.mk λH₀ B₀ δ pins s σ H Q I hq159=>by
 skip;apply `gz hq159
 unfold K4 at e1;apply `aY;let#[fa,fd,F,hm,a1,hb]:=C.ex;apply `yw;let#[d0,hi,Y]:=`nk;apply `S_;cases e3:`al! with
 | none=>apply `cs;cases e1
 | some q =>
 apply `cs;cases e1;apply `al?;let#[h1,h2]:=`nl Y;done;refine`b8 (`Rd `jD a1 `yx) Q #[ds,a,env,e2,J,λvs H1 s1 r1 _=>?_];show spB X.K j f (`aXa++[]) H1 _ _;rw[`bS];refine`aXb (hj _ _ _ e3) λv H' hh Z rv=>?_;have U:`yo:=`S8;apply `ama U Z;apply `aXc
universe zz
def putL(i:Nat)(g:GE):`a?:=λv δ=>match `c4 with
 | `oX (`C [`F_,`E7])=>`k? λd=>`RJ λk=>`a! (`iK<`W) (`co (`C [`F_,`df `aXd (xj0 ks ds k v)]))
 | _=>`f
section
variable{g:GE}
open T in
theorem Q50(i:Nat)(hu:`lb)(h:`db)(hN:`dG)(hv:`eG)(hd:`aQ)(hcd:`dX)
  (ha:`H (∀v,`aSN=(do
   let ov ← `aSO
   let iv ← `aSP
   `afW
   `afX
   `afY)) Ad):PTG X `aa8 (putL i g):=.mk λH₀ B₀ d δ pins s σ H v u Q I r hq160=>by
 let#[δ',en,e1,k]:=hq160
 unfold putL at e1;apply `akg;split at e1
 ·rename_i p' ks ds hi
  cases e3:`ax with
  | none=>apply `cs;cases e1
  | some dk =>
   apply `cs;apply `e!;cases e4:`Ms with
   | none=>rw[e4] at e1;cases e1
   | some q =>
    rw[e4] at e1;apply `e!;split at e1
    ·rename_i hz
     cases e1;obtain⟨a,J,hb,⟨d',hq,hr⟩|⟨_,_,hq,_⟩|⟨_,_,hq,_⟩⟩:=`oH
     rotate_left
     ·cases hq
     ·cases hq
     cases hq;let#[xs,hx,hl,rx]:=hr;have hl:`vA:=hl;apply `aSQ;have:=p40 e4 r1;subst this;apply `aSR;apply `aSS;have rr:Rps X.K H1 B (xj0 ks ds q d) ys:=by
      unfold xj0;cases hk:`tF with
      | true=>rw[`bp,U hk];exact `aST
      | false=>rw[`jE,Y hk];exact `aSU
     rw[hy];have O:`kf (upd H1 a (.dK (`aSF))) (`co (`C [`qU,`df (`n (`aa7)) (xj0 ks ds q d)])):=`akM hi J (`n #[`df (`n _) _,rfl,`aSW]);apply `aSX
    ·cases e1
 ·cases e1
universe zz
def o40{G:GSB}{b:D}{q:D×D}(hn:j+1<=n)(h:`Z_=`dt):`tP:=by
 have:=(z00 (r:=q.1) (b':=q.2) h).1;lia
universe DL
variable{Ga Gb:DL.GSB}
namespace L2
open Spec PyProof.Rows
section
variable{st:`a1}{t:TS}
theorem U9(h:`gr):PE X e (`bm te λv H'=>`aXe v):=λpins s σ H Q I q =>
 thn `amb `aXf
theorem J5(h:`gr):PE X e (`bm te `aXg):=λpins s σ H Q I q =>
 thn `amb λu s' #[v,H',I',r,a,sub,o,k]=>#[v,_,I'.closed o,r,k]
theorem ru0(h:PS X st t):PS X st (`kL (∃a,t `aWF σ H)):=λpins s σ H D I #[a,q] =>
 thn `amb λf s' z=>SP.closing z
universe zz
universe L2
namespace DL
open Spec PyProof.Rows L2
def O5(k:Nat):D:=`C `aXh
def wg0(k:Nat):yh0 `aXh=`fG:=by
 show (`o (("@" : Str) = "@") (`c (`uX k)) `f)=_;rw[`bp];rfl
mutual
def nrf:`dZ
 | `dg=>(`kk).isNone&&`YU
 | _=>`d
def wa0:`vq
 | []=>`d
 | `aC=>nrf d&&`YU
end
section
def wf0:`qM [] xs=(`xH):=by unfold RpNs;rfl
def z70{d:D}:`qM `j? xs=`aMP:=by conv=>lhs;unfold RpNs
def xw0:`Xg `or=(`aMO):=by conv=>lhs;unfold RpN
theorem Q0:`k2 (`h_↔`b' (RpN K H B as) ds xs)
 | [],xs=>by
  rw[wf0];constructor
  ·rintro rfl;exact `R
  ·intro h;cases h;rfl
 | `aC,xs=>by
  rw[z70];constructor
  ·rintro⟨x,r,rfl,h1,h2⟩;exact `aa h1 (`rt h2)
  ·intro h;cases h with
   | cons h1 h2=>exact`k0 h1 (`S9 h2)
mutual
theorem bu0:`E5 (`jF->`k4->`c')
 | `y,_,_,h=>`S'
 | `cb,_,_,h=>`S'
 | `cW,_,_,h=>`S'
 | `ce,_,_,h=>`S'
 | `dg,_,n,h=>by
  unfold nrf at n;rw[`bd] at n;rw[xw0] at h;rw[Q5];skip;rcases h with⟨k,a,e,_⟩|⟨_,a,xs,e,q,r⟩
  ·rw[e] at n;cases n.1
  ·done;exact#[a,xs,e,q,ot0 n.2 r]
 | `ev,_,_,h=>`amc
 | `k1,_,_,h=>`amc
 | `tu,_,_,h=>`amc
theorem ot0:`k2 (`S!->`h_->`bC)
 | [],_,_,h=>by rw[wf0] at h;rw[d7];exact h
 | `aC,_,n,h=>by
  unfold wa0 at n;rw[`bd] at n;rw[z70] at h;apply `E6;rw[j7];exact#[x,r,e,bu0 n.1 h1,ot0 n.2 h2]
end
mutual
theorem lb0:`E5 (`jF->`c'->`k4)
 | `y,_,_,h=>`S?
 | `cb,_,_,h=>`S?
 | `cW,_,_,h=>`S?
 | `ce,_,_,h=>`S?
 | `dg,_,n,h=>by
  unfold nrf at n;rw[`bd] at n;rw[Q5] at h;rw[xw0];apply `QV;refine `p #[?_,a,xs,e,q,ni0 n.2 r];cases z:`kk with
  | none=>rfl
  | some k=>rw[z] at n;cases n.1
 | `ev,_,_,h=>`amd
 | `k1,_,_,h=>`amd
 | `tu,_,_,h=>`amd
theorem ni0:`k2 (`S!->`bC->`h_)
 | [],_,_,h=>by rw[d7] at h;rw[wf0];exact h
 | `aC,_,n,h=>by
  unfold wa0 at n;rw[`bd] at n;rw[j7] at h;apply `E6;rw[z70];exact#[x,r,e,lb0 n.1 h1,ni0 n.2 h2]
end
theorem RpN.same{d:D}(s:`be)(h:`k4):`aXi:=RpN.mono `wq `ame h
theorem RpNs.same(s:`be)(h:`h_):RpNs K H' B as ds xs:=`aiC `wq `ame h
open T in
def RpNs.atI{i:Int}{d:D}(r:`h_)(h:DL.atI ds i=`bk):∃v,`ajB=`bO/\`k4:=by
 have p:=`rt r;rw[Rk0];unfold DL.atI at h ⊢;rw[← `rH p];cases e:ixN `bN i with
 | none=>rw[e] at h;cases h
 | some j =>
  rw[e,`q] at h;rw[`q];exact `wy p h
universe zz
theorem gr0:∀{as:`aX} {sos:`E9} {k:Nat} {c:`e} {so:`dM},`tv->`mC->`o3->`aXj
 | [],_,_,_,_,_,h,_=>`ic
 | `cr,[],_,_,_,_,_,h=>`ic
 | x::as,y::sos,0,c,so,_,h1,h2=>by
  simp at h1 h2;subst h1 h2;rw[`eI,`gv,`OG]
 | x::as,y::sos,k+1,c,so,nd,h1,h2=>by
  rw[`ak_] at nd;have h1':`mC:=`Bm
  have J:`aXk:=`o1 λz=>nd.1 (z▸C8 h1')
  rw[`eI,`gv,J];exact gr0 nd.2 h1' (`ak2)
theorem y40:∀{as:`aX} {sos:`E9} {c:`e},c∉as->(`bL).lookup c=`f
 | [],_,_,_=>`a7
 | `cr,[],_,_=>`a7
 | x::as,y::sos,c,h=>by
  rw[`rZ] at h;have hne:`aXk:=`aXl
  rw[`eI,`gv,hne];exact y40 `amf
def vt0(hl:`Q3){c:`e}(h:c∈as)(nd:`tv):∃so,`aXj:=by
 let#[k,hk,e]:=Au0.mp h;exact#[sos[k],gr0 nd (by rw[`l4 hk,e]) (C1 `a')]
theorem RpW.in0(h:`fQ):a∈as:=C8 h.hd
def RpW.openOk(h:`fQ):`Mt H a `ew:=by
 refine#[`xV,?_,λb C dx fs hm=>y40 ?_]
 ·let#[so,e]:=vt0 `jz h.in0 h.nd
  rw[e];rfl
 ·let#[k,hk,e]:=Au0.mp hm
  rw[`aXm] at e;have J:`Ta:=by rw[`u3] at hk;lia
  have e2:`ayc:=`k (`l4 J) (C7 `c (j3 e).2)
  let#[n,_,hn]:=`oJ h.all e2;unfold NodeOk at hn;split at hn
  ·let#[xs,z,_]:=hn;cases z
  ·let#[xs,z,_]:=hn;cases z
  ·skip;let#[C',O,U,xs,z,_,_,_,q,_]:=hn
   done;injection z with z1 z2 z3
   rw[z2];exact q
  ·exact hn.elim
def RpW.opAt(h:`fQ){k:Nat}{c:`e}(h1:`mC)(h2:`o3):`iL H `ew c=`Mu:=by
 unfold opened;rw[gr0 h.nd h1 h2]
def xu0{b:`e}(h:`Tb):`aXn=H b:=by
 unfold opened;rw[y40 h]
def ez0{Ho:Hp}(off:∀b,`Tb->Ho b=H b)(own:∀b∈as,`_1)(hl:`Q3)(nd:`tv)(ha:a∈as):`gI Ho a `ew=upd H a `aA3:=by
 funext b
 unfold closed upd
 apply `m1
 ·rw[`dY,`dY]
 ·rw[`cz,`cz]
  by_cases hm:b∈as
  ·let#[so,e]:=vt0 hl hm nd
   rw[e];rcases own b hm with z|z
   ·exact `aXo
   ·exact `rJ
  ·rw[y40 hm]
   exact off b hm
def q70{Ho:Hp}(hd:`aMU)(nd:`tv)(hl:`Q3)(at':∀(k:Nat) c so,`mC->`o3->Ho c=`Mu)(ins:`aMV):`iG Ho a `ew:=by
 have ge:∀p∈`bL,∃k,`Xh=`c p.1/\`Xo=`wb:=λp hp=>by
  let#[k,hk,e]:=Au0.mp hp;have J:=hk;rw[`u3] at J;rw[`aXm] at e;exact#[k,`aXp,`aXp]
 refine#[?_,`gm,λp hp C dx fs e=>?_]
 ·let#[so,e]:=vt0 hl (C8 hd) nd
  rw[e];rfl
 ·let#[k,e1,e2]:=ge p hp
  exact at' k _ _ e1 e2
 ·let#[k,e1,e2]:=ge p hp
  rw[e] at e2;rw[ins k _ _ _ e2,hd] at e1;exact(A3 e1).symm
def RpW.back(h:`fQ):`iG `w3 a `ew/\`gI `w3 a `ew=H:=by
 refine#[`aXq `aXr,?_];rw[ez0 (H:=H) (λb hb=>xu0 hb) `aXs `jz h.nd h.in0]
 funext b
 unfold upd
 apply `m1
 ·rw[`dY,hb,`xV]
 ·rw[`cz]
theorem RpW.same(s:`be)(h:`fQ):`Xa K H':=#[h.hd,h.nd,s _ _ `xV,`ade λz=>#[z.1,s _ _ z.2],`jz,`aiG (`dw `wq),h.ins]
def RpW.put(h:`fQ)(hB:B a){k:Nat}{c:`e}{so':`dM}(h1:`mC)(h2:`o3)(r:`k5 K H B as n' so')(hi:`aXt) :
  `iG `aXu a `abt/\`gI `aXu a `abt=`aXv /\
   RpW K (`aXv) B `aXw a as (`Od):=by
 have hl:`hL=(`s `Od):=`k List.length_set `jz
 have hk:`Ta:=(`c7 h2).1;have ins:∀(j:Nat) C dx fs,(`Od)[j]?=`n5->j=0:=λj C dx fs e=>by
  skip;rcases `lQ e with⟨rfl,e,_⟩|⟨_,e⟩
  ·done;exact hi C dx fs e
  ·done;exact h.ins j C dx fs e
 refine#[q70 h.hd h.nd hl (λj d s e1 e2=>?_) ins,ez0 `Ph `aXs hl h.nd h.in0,h.hd,h.nd,j8,`hK,hl,?_,ins]
 ·skip;rcases `lQ e2 with⟨rfl,e,_⟩|⟨n,e⟩
  ·rw[h1] at e1
   cases e1;done;rw[j8,e]
  ·have:d≠c:=λz=>by
    let#[g1,g2]:=`c7 h1;let#[g3,g4]:=`c7 e1;exact n ((A60 h.nd).mp (g2.trans (z▸g4.symm)))
   done;rw[`FC];exact h.opAt e1 e
 ·have:b≠c:=`pi hb (C8 h1)
  rw[`FC];exact xu0 hb
 ·rcases `avv with z|z
  ·exact `gR
  ·by_cases q:b=a
   ·exact `m2
   ·exact `p #[z.1,`k (m7 q) z.2]
 ·exact `E! (`aXx) k (`aiG `aXx)
def dpN(i:Nat)(δ:Ds):`ul:=`ys λb=>match b.1 with
 | `C (`ce::ns)=>`c ns
 | _=>`f
def setN(i k:Nat)(n:D)(δ:Ds):Ds:=match `rb with
 | `abA=>`co (`wA (`abu k n))
 | _=>δ
structure AtN(K:`z)(H:Hp)(B:BS)(σ:St)(δ:Ds)(i:Nat)(a:`e)(ns:`l)(as:`aX)(sos:`E9):Prop where
 sl:`kh
 bad:B a
 dp:`Of
 w:`fQ
section
variable{σ:St}{δ:Ds}
open T in
def Env.atN(e:`bs)(h:`Of):∃a as sos,`tQ:=by
 have h0:=h;unfold dpN at h;cases eb:`rb with
 | none=>rw[eb] at h;cases h
 | some bm =>
  rw[eb,`q] at h;let#[d0,hi,J]:=`nk;let#[a,O,hB,ro]:=`aaY;let#[h1,_]:=`nl J;split at h
  ·rename_i x ns' hbm
   cases h;rw[hbm] at h1;let#[y,ms,e1,as,sos,w]:=h1;cases e1;exact#[a,as,sos,O,hB,h0,w]
  ·cases h
theorem AtN.same(s:`be)(h:`tQ):`at9 H':=#[h.sl,h.bad,h.dp,h.w.same s]
open T in
def Env.setN(e:`bs)(h:`tQ){k:Nat}{o:HO}{sos':`E9}(w:RpW K `g8 B `aXw a as' sos') :
  ∃d0 d,`FB/\`aXy=`at4/\`aQz:=by
 have dp:=h.dp;unfold dpN at dp;cases eb:`rb with
 | none=>rw[eb] at dp;cases dp
 | some bm =>
  rw[eb,`q] at dp;let#[d0,hi,U]:=`nk;let#[a',O,hB,ro]:=`aaY;let#[_,h2]:=`nl U;split at dp
  ·rename_i x ns' J
   have dp:=A3 dp;subst dp;rw[h.sl] at O;cases O;let#[bd,mk]:=bm;have J:bd=`C (`c3::ns'):=J;subst J;refine#[d0,`wA (ns'.set k n'),hi,?_,e.mut hi h.sl (h2 _ _ _ #[x,_,rfl,as',sos',w])];unfold DL.setN;rw[eb]
  ·cases dp
universe zz
universe DL
namespace DL
open Spec PyProof.Rows L2
def tN(K:`z)(B:BS)(δ:Ds)(i:Nat)(g:GE):TE:=`cw (∃d a ns as sos,`bs/\`jx/\`tQ/\∀v H',`be->`aXi->`v_)
structure PN(X:Cx)(i:Nat)(e:`J)(g:GE):Prop where
 mk::go:`wr PE (tN X.K B δ i g)
def ox0(ns:`l):`zO
 | `dg=>`amg `amh
 | _=>`f
def lf0(ns:`l)(d y:D):`d_:=match d,y with
 | `dg,`hC=>(match `kk with
  | `fG=>(match `i2 with
   | `le=>atI es z
   | _=>`f)
  | `f=>atI ds z)
 | _,_=>`f
def J1(i:Nat)(ga gb:GE):GE:=`EV λd=>`aii λy=>`gA λns=>lf0 ns d y
def j6(i:Nat):GE:=fun δ=>(`nF).map λ_=>O5 0
def plN(g:GE):GE:=`gw λd=>`o `jF `bk `f
def za0(i:Nat)(g:GE):GE:=fun δ=>`k? λd=>`gA λns=>match `F1 with
 | `le=>`c (`g `g9)
 | _=>`f
section
variable{σ:St}{δ:Ds}
open T in
def RpW.node(w:`fQ){d n:D}(r:`k4)(h:`F1=`oq):∃(k:Nat) (c:`e) (so:`dM),v=`xm/\`mC/\`o3/\`i2=`oq/\`Q2:=by
 unfold ox0 at h;split at h
 ·rename_i ds
  cases e:`kk with
  | none=>rw[e] at h;cases h
  | some k =>
   rw[e,`q] at h;rw[xw0] at r;apply `aXz
   ·rw[e] at e1
    cases e1;let#[so,hs,hn]:=`wy w.all h;exact#[k,c,so,e3,e2,hs,h,hn]
   ·rw[e] at e1;cases e1
 ·cases h
theorem wc0{es:`l}(h:`YK `Ij):∃xs,`aiE/\`qM es xs:=h
universe zz
section
variable{a:`J}{p:Pos}{g ga gb:GE}
theorem W8(i:Nat)(hN:`dG)(hv:`eG)(hd:`aQ)(hcd:`dX) :
  PN X i `mo (j6 i):=.mk λB δ=>`aNg fun σ H Q hq161=>by
 skip;let#[d,a,ns,as,sos,en,h,at',k]:=hq161
 unfold j6 at h;rw[`yy] at h;cases h;done;refine#[_,`gn,`RE];unfold O5;rw[xw0];exact `n #[0,a,wg0 0,`wz,rfl]
theorem yw0(h:`Tc)(hdp:∀δ d,`jx->`ami):PD X e (plN g):=.mk λB δ=>(h.go B δ).imp fun σ H Q hq162=>by
 let#[d,en,e1,k]:=hq162
 unfold plN at e1;cases e2:`ax with
 | none=>apply `aj;cases e1
 | some d' =>
  rw[e2,`q] at e1;split at e1
  ·rename_i hn
   cases e1;have:=hdp δ _ e2;cases e3:`nF with
   | none=>apply `aV e3;cases `x
   | some ns =>
    apply `aXA;exact#[d,a,ns,as,sos,en,e2,at',`Bx (k v H' s (bu0 hn r))]
  ·cases e1
open T in
def pw0{δ:Ds}{d:D}(h:J1 i ga gb δ=`bk):`ami:=by
 unfold J1 at h;let#[x,e1,h]:=`gB;let#[y,e2,h]:=`gB;cases e:`nF with
   | none=>rw[e] at h;cases h
   | some ns=>rfl
theorem rn0(ha:PN X i a ga)(hb:`dr)(hs:`Q?):PN X i `EH (J1 i ga gb):=.mk λB δ =>
 (J5 (V20 (Xb0.or ay0) `yx (U9 (hb.go B δ)) hs)).imp fun σ H Q hq163=>by
  skip;let#[d,ad,ns,as,sos,en,h,at',k]:=hq163
  unfold J1 at h;let#[dx,e1,h]:=`gB;cases e2:`fy with
  | none=>rw[e2] at h;cases h
  | some y =>
  rw[e2,`q,`yy,`q] at h;done;refine#[dx,ad,ns,as,sos,en,e1,at',`aA5];have J:=(`il).same s2;apply `F2;apply `amj;have U:=`rj;have O:=`nL;unfold lf0 at h;split at h
  ·skip;rename_i ds z
   rw[Z6] at r2;subst r2;cases e3:`kk with
   | some kk =>
    rw[e3] at h;dsimp only at h;split at h
    ·rename_i es hes
     have hn:ox0 ns `or=`le:=`Dp (`amg (`amh)=_) e3 hes
     apply `amk (`abv U hn);apply `p8;apply `aXB;done;refine `n (`aXC `Y?);rw[c2];exact `aXD
    ·cases h
   | none =>
    rw[e3] at h;dsimp only at h;rw[xw0] at U;rcases U with⟨k',c,f,_⟩|⟨_,c,xs,rfl,q,rx⟩
    ·rw[e3] at f;cases f
    ·apply `aXB
     have hc:c∉as:=λz=>by
      rcases J.w.own c z with z|z
      ·exact(`fY O).bad c (z▸`tR) |>.nt xs q.2
      ·rw[q.2] at z;cases z.2
     done;refine `p (`aXC (`n (`n (`k (xu0 hc) q.2))));rw[c2];exact `aXD
  ·cases h
theorem wx0(hm:`aPd)(ha:`Tc)(hg:`aPe)(he:`gx)(hpl:`nc) :
  PD X `aPf (za0 i g):=.mk λB δ=>(J5 (jh0 mk0 hg hm b6 (N7 (U9 `yx) y90 he) `v `v he hpl)).imp fun σ H Q hq164=>by
 skip;apply `bG hq164
 unfold za0 at h;let#[dx,e1,h]:=`gB;let#[ns,e2,h]:=`gB;let#[ad,as,sos,at']:=en.atN e2;done;apply `aXE;have J:=`il;apply `F2;apply `amj;skip;split at h
 rotate_left
 ·cases h
 rename_i es hn;cases h;apply `amk `aXF;apply `p8;done;refine#[c,xs,rfl,`n (`Y?),ad,`bL,c1,?_];rw[c2];exact k _ H1 s1 (by rw[Z6,`Td])
universe zz
universe DL
namespace DL
open Spec PyProof.Rows L2
section
variable{σ σ':St}{δ:Ds}
def EnvS.takeL(en:`cx)(b1:`lU)(b2:`lV)(e:`bs)(i:Nat){d:D}{p:`e}(hp:`ez)(s:`be)
  (r:RpL K H' `v0 d p):`aQW:=by
 apply `aQX
 have J:`ai2:=`aj?;have live:`aQY:=λ{j d' b} h1 h2=>by
  apply `aQZ;rw[h2] at q1;cases q1;apply `aQ_
 apply `aQ0
 ·apply `R1
  ·exact `aaI
  ·exact `p J
 ·refine `aQ1 r
  cases sl with
  | un=>trivial
  | ex c n=>apply `ih;apply `Fl
  | sh d=>apply `ih;apply `Fl
  | ow d=>apply `RY;apply `aQ2
 ·apply `R1
  ·exact`aQ3
  ·exact `tw
 ·skip;apply `R2
  ·apply `R3
   ·done;rfl
   ·apply `aQ4
    ·cases e3
     apply `FD;done;exact `aQ5
    ·done;exact `R4
  ·apply `R3
   ·apply `aQ6
    ·cases e4
     rw[`p3] at h3;done;exact `aQ7
    ·done;exact `aQ8
   ·rw[`p3] at h3
    apply `FD;done;apply `Q8
 ·skip;apply `R2
  ·apply `aQ9
   ·cases e3;done;exact J
   ·done;exact `R4
  ·rw[`p3] at h2
   done;exact `aQ'
universe zz
def vx0:D->`Qf
 | `dg=>`kk
 | _=>`f
def qn0(i:Nat)(go gv:GE):GX:=fun δ=>`yz λd=>`F3 λdv=>`gA λns=>`F4 λk=>match `i2 with
 | `le=>`a! (`aXG/\`g9<`W) (`y,`Te `aXH)
 | _=>`f
section
variable{σ:St}{δ:Ds}
open T in
def O20{d:D}{k:Nat}(h:vx0 d=`fG):`F1=`i2:=by
 unfold vx0 at h;split at h
 ·rename_i ds
  show `amg (`amh)=_;rw[h];rfl
 ·cases h
open T in
def RpW.nodeK(w:`fQ){d n:D}{k:Nat}(r:`k4)(h:vx0 d=`fG)(hn:`i2=`oq):∃(c:`e) (so:`dM),v=`xm/\`mC/\`o3/\`Q2:=by
 unfold vx0 at h;split at h
 ·rename_i ds
  rw[xw0] at r;apply `aXz
  ·rw[h] at e1
   cases e1;let#[so,hs,hn]:=`aXI;exact#[c,so,e3,e2,hs,hn]
  ·rw[h] at e1;cases e1
 ·cases h
def EnvS.setN(en:`cx)(b1:`lU)(b2:`lV)(env:`bs)(s:`be)(h:`tQ){k:Nat}{c:`e}{so':`dM}{n':D}(h1:`mC)(h2:`o3)
  (r:`k5 K H' B as n' so') (hi:`aXt) {d:D} {v:V} (rv:`_C) :
  ∃sub',`iG `aXJ a sub'/\EnvV K `ae `ab (`gI `aXJ a sub') σ (`aXy) d v:=by
 have h':=`Q7 s;let#[p1,p2,p3]:=h'.w.put h.bad h1 h2 r hi;refine#[_,p1,?_];rw[p2];let#[d0,d',O,e1,J]:=(`jO s).setN h' p3;rw[e1];exact `su (`Dt s b1 b2 O h.sl J) J (`MC (`z2 h.bad))
universe zz
section
variable{f:`J}
open T in
theorem fa0(ho:`F5)(h1:PD X e g1)
  (hbase:`aXK)
  (hfew:`H ((`tC
  &&`R9)=`d) Aa)
  (hline:`hm) (hs:`gx) (hplain:`pZ) :
  PX X (`sS `aBM [e]) (qn0 i go g1):=.mk λH₀ B₀ δ pins s σ H Q I hq165=>by
 apply `ba hq165
 unfold qn0 at e1;apply `aY;apply `Tf;let#[dv,e4,e1]:=`c1;let#[ns,e5,e1]:=`c1;let#[kk,e6,e1]:=`c1;split at e1
 rotate_left
 ·cases e1
 rename_i es hnode;split at e1
 rotate_left
 ·cases e1
 rename_i hz;cases e1;apply `aml;refine `aXL Aq0 Ar0 pc0;have J:=`il;apply `Tg;apply `p8;refine`aXM;apply `F2;refine`aXN;rw[c2];refine#[dv,`jV,e4,`BX];have U:=`nL;have O:=`qP U;have Z:=`amm;refine#[_,O.w.openOk,c,xs,v2,rfl,rfl,`aXO,`bR `Td hz.2,?_];have nk:`k5 X.K H2 B as `aXH (`t (xs++[v2])):=#[_,rfl,`Th (`rt Z) (lb0 hz.1 r2)];let#[Y,q1,q2]:=`amn U;exact#[a,Y,q1,k _ _ q2]
universe zz
universe DL
namespace L2
open Spec PyProof.Rows
section
variable{t:TA}{m:Str}{k:Nat}{f C:`e}{E:XK}{ds:`K}
theorem Y90(h:`xC):PA X es (`bm t λvs H'=>`aXe vs):=λpos pins s σ H Q I q =>
 thn (`XR h q) `aXf
theorem d50(h:`xC):PA X es (`cw (∃a sub,`tM/\t σ `tN Q)):=λpos pins s σ H Q I #[a,sub,c,q]=>h pos `r s σ _ Q (`Oa) q
def Su0{pl:`ia}(he:`tg)(c:`te)(hm:`PW)(F:`xD)(hr:`m7)(hb:`kY)(hd:`kZ)(hx:`xE)
  (ht:`H (`aXP=(do
   let ov ← `nU
   `m8
   let (f,`ie) ← `pL
   `Ti)) Aa) :
  PE X `abx (`bm ta (`aXQ E)):=by
 apply `bh;refine `PY λu s1 hq166=>?_;skip;apply `aXR hq166;subst ex;apply `pJ;done;apply `PZ;exact `aXS (Zx0 (us:=`eW) (vs:=`eW) F hr hb hd hx (I1.closed cl) `ahZ q)
universe zz
universe L2
namespace DL
open Spec PyProof.Rows L2
def ub0:`l->`l->Str->`d_
 | `u n::fs,`aC,f=>`o (n=f) `bk (ub0 fs ds f)
 | _,_,_=>`f
def nl0:`l->`l->Str->D->`l
 | `u n::fs,`aC,f,v=>`o (n=f) (v::ds) (d::nl0 fs ds f v)
 | _,ds,_,_=>ds
theorem m90:∀{ns:`i} {ds:`l} {xs:`V} {f:Str} {d:D},`h_->`aXT=`bk->∃v,(`L_).lookup f=`bO/\`k4
 | [],_,_,_,_,_,h=>by apply `yA;cases h
 | `p9,[],_,_,_,_,h=>by rw[`ag] at h;apply `yA;cases h
 | `p9,d'::ds,xs,f,d,r,h=>by
  rw[z70] at r;apply `akH;rw[`ag] at h;apply `yA;rw[`eI,`gv]
  by_cases e:n=f
  ·rw[`gy] at h
   cases h;rw[show (f==n)=`d from `xz e.symm];exact`QY
  ·rw[`e?] at h
   rw[show `aXU from `o1 (B4 e)];exact m90 h2 h
theorem gb0:∀{ns:`i} {xs:`a6} {f:Str},f∉ns->(`L_).lookup f=`f
 | [],_,_,_=>`a7
 | `cr,[],_,_=>`a7
 | `p9,`m5,f,h=>by
  rw[`rZ] at h;rw[`eI,`gv,show `aXU from `aXl];exact gb0 `amf
theorem j90{f:Str}{d:D}(rv:`k4):∀{ns:`i} {ds:`l} {xs:`V},`h_->`f'=`ar->f∈ns ->
  ∃ys,yj0 f v (`L_)=`Jn ns ys/\`f'=`fs/\`qM (nl0 (`aaB) ds f d) ys
 | [],_,_,_,_,h=>by cases h
 | `p9,[],xs,r,hl,_=>by rw[wf0] at r;subst r;cases hl
 | `p9,d'::ds,xs,r,hl,hf=>by
  rw[z70] at r;apply `akH;rw[`eI,`ag];unfold yj0 nl0
  by_cases e:n=f
  ·rw[`gy,`gy]
   refine#[v::r',rfl,hl,?_];rw[z70];exact#[v,r',rfl,rv,h2]
  ·rw[`e?,`e?]
   let#[ys,e1,e2,e3]:=j90 rv h2 `X3 (`J1 (`cF hf) (B4 e));refine#[x::ys,`aXV,by rw[`T,`T,e2],?_];rw[z70];exact#[x,ys,rfl,h1,e3]
structure ClsN(K:`z)(c:Str)(fs:`i):Prop where
 ok:∀C,`kj->`st/\∀f∈fs,`xB
def K7{o:`OD}{f:`aDk}{r:β}(h:`aDl):`aDm:=by
 cases o with
 | none=>cases h
 | some a=>exact`aDn
def Qs0:`EX
 | `C l=>`nm
 | _=>`f
def V10:`EX
 | `Tj=>`nm
 | _=>`f
def Vm0:D->`aB Str
 | `u l=>`nm
 | _=>`f
def unL:`l->`aB (D×`l)
 | a::l=>`c (a,l)
 | []=>`f
def Sm0{d:D}{l:`l}(h:Qs0 d=`nm):d=`C l:=by
 cases d<;>cases h
 rfl
def ax0{d:D}{l:`l}(h:V10 d=`nm):d=`Tj:=by
 cases d<;>cases h
 rfl
def Yx0{d:D}{l:Str}(h:Vm0 d=`nm):d=`u l:=by
 cases d<;>cases h
 rfl
def rh0{m:`l}{a:D}{l:`l}(h:unL m=`c (a,l)):m=a::l:=by
 cases m<;>cases h
 rfl
def l50(d:D):`aB (Str×`l×`l):=`aXW λc=>`amo λp=>`aXX λf=>`amo λp=>`aXX λe=>`o (p.2.isEmpty=`d) `amp `f
def pv0{d:D}{f e:`l}(h:l50 d=`amp):d=`C [`mu,`t f,`t e]:=by
 skip;unfold l50 at h;let#[l,w0,h]:=K7 h;let#[#[x,l1],w1,h]:=K7 h;let#[c,w2,h]:=K7 h;let#[#[y,l2],w3,h]:=K7 h;let#[f,w4,h]:=K7 h;let#[#[z,l3],w5,h]:=K7 h;let#[e,w6,h]:=K7 h;have h:(`o (l3.isEmpty=`d) `amp `f)=`c _:=h;split at h
 ·rename_i hz
  cases h;rw[List.isEmpty_iff.mp hz] at w5;done;rw[Sm0 w0,rh0 w1,Yx0 (d:=x) w2,`aXY,ax0 (d:=y) w4,rh0 (m:=l2) w5,ax0 (d:=z) w6]
 ·cases h
def j5(i:Nat)(c f:Str)(g:GE):GE:=`gw λd=>`gA λns=>((`F1).bind l50).bind λr=>`o `yB `amq `f
theorem s40{fs:`l}(h:`YK (`aMS)):`aMT:=h
section
variable{p:Pos}{g ga gb:GE}{f:Str}{F:`i}
def xz0{δ:Ds}{d:D}(h:j5 i c f g δ=`bk):`ami:=by
 unfold j5 at h;let#[x,e1,h]:=`gB;cases e:`nF with
  | none=>rw[e] at h;cases h
  | some ns=>rfl
theorem W7(ha:`Tc)(hc:`F6)(hf:`F7)(hb:`H (`aH!) Aa):PN X i `agQ (j5 i c f g):=.mk λB δ =>
 (J5 (Ib0 (U9 `yx) hb)).imp fun σ H Q hq167=>by
  skip;let#[d,ad,ns,as,sos,en,h,at',k]:=hq167
  unfold j5 at h;cases e1:`ax with
  | none=>rw[e1] at h;cases h
  | some dx =>
  rw[e1,`q,`yy,`q] at h;done;apply `aXE;have J:=`il;apply `F2;apply `amj;skip;let#[#[c',fs,ds],hn,h]:=K7 h;let#[_,hn,hi]:=K7 hn;cases pv0 hi
  done;try dsimp only at h
  skip;split at h
  rotate_left
  ·cases h
  rename_i hcc;subst hcc;let#[k',a,so,rfl,f1,f2,f3,f4]:=`aXF;let#[C,O,nm,xs,rfl,rfl,hl,hC,U,rx]:=s40 f4;let#[v,hv,rv]:=m90 rx h;apply `F8;done;refine#[a,C,O,_,v,rfl,`Lj,q1,`Oe,hv,ad,`bL,c1,?_];rw[c2];exact k v H1 s1 rv
universe zz
def vy0(i:Nat)(c f:Str)(gv:GE):GS:=fun δ=>`aXZ λr=>`a! (`yB/\`aXG/\`rG `amq/\`abK) (.nx (`aX_ dv))
def ba0(i:Nat)(c f:Str)(gv:GE):GS:=fun δ=>`F3 λdv=>`gA λns=>`amr λp=>`ams λr=>if `yB/\`abK then (match `amq,dv with
  | `c (`EJ),`nO=>`ay (`aX_ (`g (a+b)))
  | _,_=>`f) else `f
theorem mg0:∀{ns:`i} {ds:`l} {f:Str},`rG `aXT->f∈ns
 | [],_,_,h=>by apply `yA;cases h
 | `p9,[],_,h=>by rw[`ag] at h;apply `yA;cases h
 | `p9,`aC,f,h=>by
  rw[`ag] at h;apply `yA
  by_cases e:n=f
  ·rw[e];exact A4
  ·rw[`e?] at h
   exact A5 _ (mg0 h)
section
variable{gv:GE}{f:Str}{F:`i}
open T in
theorem s30(i:Nat)(hv:`amt)(hc:`F6)(hf:`F7)(hN:`dG)(hvis:`eG)(hd:`aQ)(hcd:`dX)
  (hs:`amu):`amv vy0 gv:=.mk λH₀ B₀ δ pins s σ H De I hq168=>by
 apply `gz hq168
 unfold vy0 at e1;apply `aY;apply `im;apply `amw;apply `im;apply `Tk;apply `Tl;clear e1;apply `Tm;clear e0;cases `Tn;apply `To
 apply `Tp
 split at e1
 rotate_left
 ·cases e1
 rename_i hq;let#[a2,hn,a3,O]:=hq;subst a2;cases e1;apply `Tq;apply `aX0;have J:=`il;apply `amx;apply `aX1;apply `F8;apply `aX2
 ·apply `BY
  rw[`S] at O;exact O
 ·let#[ys,y1,y2,y3]:=j90 (lb0 (as:=as) hn r1) rx hl (mg0 a3)
  rw[y1];let#[Z,z1,z2]:=`Tr b1 b2 env s1 at' `Lk Y (n':=`aX3 dv) (so':=.ins C U `aX4) (`aX5 U) `Ts (d:=`y) (v:=`y) `pg;apply `Tt
open T in
theorem Qv0(i:Nat)(hv:`amt)(hc:`F6)(hf:`F7)(hN:`dG)(hvis:`eG)(hd:`aQ)(hcd:`dX) :
  PSD X (`aIe `gL .Add) (ba0 i c f gv):=.mk λH₀ B₀ δ pins s σ H De I hq169=>by
 apply `gz hq169
 unfold ba0 at e1;apply `aY;apply `im;apply `amw;apply `im;apply `Tk;apply `Tl;clear e1;apply `Tm;clear e0;cases `Tn;apply `To
 apply `Tp
 split at e1
 rotate_left
 ·cases e1
 rename_i hq;let#[a2,O]:=hq;subst a2;split at e1
 rotate_left
 ·cases e1
 rename_i n1 n2 hlk;cases e1;apply `Tq;refine `adi (R60 `adg (je0 `adh) J10) #[a,`bZ,`gn,a,`bL,at'.w.openOk,?_];let#[so,Y,nk]:=`Z1 `abC;let#[C,J,nm,xs,rfl,rfl,hl,hC,a1,rx]:=`Mx;apply `F8;let#[v,a3,rv]:=m90 rx hlk;unfold RpN at rv;subst rv;let#[c1,c2]:=at'.w.back;refine#[a,C,J,_,`g n1,rfl,at'.w.opAt `wz Y,q1,`Oe,a3,a,`bL,c1,?_];rw[c2];refine#[`g n2,env,e2,`BX];rw[Z6] at r2;subst r2;have U:=`qP s2;refine#[`bL,U.w.openOk,n1,n2,rfl,rfl,J,_,U.w.opAt U.w.hd Y,?_,?_]
 ·apply `BY
  rw[`S] at O;exact O
 ·let#[ys,y1,y2,y3]:=j90 (d:=`amy) (v:=`amy) (f:=f) (by unfold RpN;rfl) (`amm) hl (mg0 (`aF hlk))
  rw[y1];let#[Z,z1,z2]:=`Tr b1 b2 env s2 at' `wz Y (n':=`aX3 (`amy)) (so':=.ins C J `aX4) (`aX5 J) `Ts (d:=`y) (v:=`y) `pg;apply `Tt
universe zz
def cv0(i:Nat)(go gv:GE):GX:=fun δ=>`yz λd=>`F3 λdv=>`gA λns=>`F4 λk=>match `i2,dv with
 | `le,`aaA=>`a! (wa0 fs=`d/\`g9+`Kj<=`W) (`y,`Te (`t (es++fs)))
 | _,_=>`f
def popS(i:Nat)(go:GE):GS:=fun δ=>`yz λd=>`gA λns=>`F4 λk=>match `i2 with
 | `le=>`o (es=[]) `f (`ay (`Te `aX6))
 | _=>`f
section
variable{f:`J}
open T in
theorem Mk0(ho:`F5)(h1:PD X e g1)
  (hbase:`Bs `R')
  (hfew:`H ((`tC
  &&`R9)=`d) Aa)
  (hline:`hm) (hs:`gx) (hplain:`pZ) :
  PX X (`p_ o `R' [e]) (cv0 i go g1):=.mk λH₀ B₀ δ pins s σ H Q I hq170=>by
 apply `ba hq170
 unfold cv0 at e1;apply `aY;apply `im;let#[d,e2,e1]:=e1;apply `im;let#[dv,e4,e1]:=e1;apply `im;let#[ns,e5,e1]:=e1;apply `im;let#[kk,e6,e1]:=e1;split at e1
 rotate_left
 ·cases e1
 rename_i es fs hnode;split at e1
 rotate_left
 ·cases e1
 rename_i hz;cases e1;apply `aml;refine `aXL Cq0 Cr0 g00;have J:=`il;apply `Tg;apply `p8;refine`aXM;apply `F2;refine`aXN;rw[c2];refine#[`aaA,`jV,e4,`BX];have Y:=`nL;have O:=`qP Y;have a1:=`amm;rw[S7] at r2;let#[b,zs,rfl,sq,rz]:=r2;let#[nb,hb]:=sq.at;have U:`Tb:=λz=>by
  rcases O.w.own b z with q|q
  ·exact nb (q▸`tR)
  ·apply `aX7
   ·rw[hb] at q;cases q.2
   ·rw[hb] at q;cases q.2
 refine#[_,O.w.openOk,c,b,xs,zs,rfl,rfl,`aXO,?_,by rw[← `Td,rz.length];exact hz.2,?_]
 ·refine `n ?_
  apply `aX7
  ·exact `n (`aX8)
  ·exact `p #[ob,`aX8]
 have nk:`k5 X.K H2 B as (`t (es++fs)) `RC:=#[_,rfl,`S9 (`x2 (`rt a1) (`rt (ni0 hz.1 rz)))];let#[Z,q1,q2]:=`amn Y;exact#[a,Z,q1,k _ _ q2]
open T in
theorem ky0(ho:`F5)
  (hbase:`Bs "pop") (hline:`hm)
  (hsw:`i1 `aX9 `f `l!) :
  PSD X (`Bo `aX9 pos) (popS i go):=.mk λH₀ B₀ δ pins s σ H De I hq171=>by
 apply `ba hq171
 unfold popS at e1;apply `aY;apply `Tf;let#[ns,e5,e1]:=`c1;let#[kk,e6,e1]:=`c1;split at e1
 rotate_left
 ·cases e1
 rename_i es hnode;split at e1
 ·cases e1
 rename_i hne;cases e1;apply `aml;refine `aX' (T20 Q1 Cs0 Ct0 Tr0 `amz `hn `jq);have J:=`il;apply `Tg;apply `p8;have pr:=`rt rx;obtain⟨dl,e7⟩:∃dl,es[`g9 - 1]?=`c dl:=#[_,C1 (by have:=`F9 hne;omega)];let#[y,hy,ry]:=`wy pr e7;refine#[a,`bL,`mB,`abw,c,xs,y,rfl,rfl,`Lj,`bR (`rH pr) hy,?_];have nk:`k5 X.K H1 B as `aX6 `ahP:=by
  refine`pH (`S9 ?_);have:∀{l:`l} {m:`V},`b' `aX! l m->`b' `aX! l.dropLast m.dropLast:=by
   intro l m h
   induction h with
   | nil=>exact `R
   | cons r t ih =>
    cases t with
    | nil=>exact `R
    | cons r' t'=>exact `D2
  exact `x pr
 let#[O,q1,q2]:=`amn s1;exact#[a,O,q1,k _ _ q2.s]
universe zz
def RpW.backS(h:`fQ)(s:`dc `w3 H'):`iG H' a `ew/\`dc H (`gI H' a `ew):=by
 refine#[`aXq (s _ _ (`aXr)),`aKZ,λb o xs e=>?_]
 ·apply `lf
  apply `m1
  ·rw[`dY]
   rw[hb,`xV] at e;exact e
  ·rw[`cz]
   by_cases hm:b∈as
   ·let#[so,q]:=vt0 `jz hm h.nd
    rw[q];rcases h.own b hm with z|z
    ·exact `aXo
    ·rw[z.2] at e;exact e
   ·rw[y40 hm]
    exact s b o (`k (xu0 hm) e)
 ·unfold closed at e
  apply `m1
  ·rw[`dY] at e;cases e
  ·rw[`cz] at e
   by_cases hm:b∈as
   ·let#[so,q]:=vt0 `jz hm h.nd
    rw[q] at e;cases e
   ·rw[y40 hm] at e
    have:=s.nf b o xs e;apply `aV (xu0 hm);exact `x
def fnN(i:Nat)(go:GE)(gA:GA)(f:`U):GE:=fun δ=>`yz λd=>`ts λds=>`gA λns=>match `F1 with
 | `le=>`tK (`Tu/\`yk) ((f (`l_::ds)).bind `aX?)
 | _=>`f
theorem ro0:∀{ds:`l},`yk->`S!
 | [],_=>rfl
 | `aC,h=>by
  unfold flats at h;rw[`pO,`bd] at h;unfold wa0;rw[`bd];refine#[?_,ro0 h.2];cases d<;>first|rfl|(cases h.1)
section
variable{p:Pos}{gA:GA}
open T in
def ed0{k:Nat}{f:`U}(C:`aPj)(hr:`tD)(hk:k<=m)(ho:`F5)(ha:`x0)(hg:`fR)(hdb:`aQ)
  (he:`j8 (o::es) ((`m,`nU)::`uj)) (hpl:`eE):PD X (`et `nN (o::es)) (fnN i go gA f):=by
 apply `ajH;exact .mk λB δ=>(J5 (`Rd `jD kp (N7 `au6 (Y90 `bt) he))).imp fun σ H Q hq172=>by
  let#[r,en,h,k]:=hq172
  unfold fnN at h;let#[d,e1,h]:=`gB;let#[ds,e2,h]:=`gB;let#[ns,e3,h]:=`gB;split at h
  rotate_left
  ·cases h
  rename_i ls hn;split at h
  rotate_left
  ·cases h
  rename_i hfl;cases e4:f (`aYa) with
  | none=>rw[e4] at h;cases h
  | some r' =>
  rw[e4,`q] at h;split at h
  rotate_left
  ·cases h
  rename_i hfr;cases h;apply `aXA;refine#[d,a,ns,as,sos,en,e1,at',`vh #[ds,`i_,e2,`aaR]];have O:=`nL;have J:=`qP O;apply `amk (`abv `Fc hn);apply `p8;refine#[a,`bL,`mB,?_];show spD X.K f ((`xm::vs)++[]) (`iL H2 `ew) _ E0;rw[`bS];refine#[`IN,`aYa,r,`aYb,?_,e4,`ak!]
  ·rw[j7]
   refine#[`xm,vs,rfl,?_,v50 hfl.2 r2];rw[S7];exact#[c,xs,rfl,`aYc,v50 hfl.1 (ot0 (ro0 hfl.1) rx)]
  ·let#[c1,c2]:=`amA s3
   exact#[a,`bL,c1,k v _ (O.trans c2) (q20 hfr r3)]
universe zz
structure FnT(P:`ai)(w:`Q)(K:`z)(mg:`a3)(base:`D)(c m:Str)(k:Nat)(ps:`i)(F:`i)(f:`a_):Prop where
 ex:∃C fa fd,`aYd/\`aYe
def sd0(c:Str)(F:`i)(d:D):`I:=match `aXW λ_=>`amo λq=>l50 q.1 with
 | `dR=>`ap (`yB)&&r.2.1.all λn=>match n with|`c3=>F.contains x|_=>`m
 | `f=>`m
def T4(i:Nat)(c:Str)(F:`i)(gA:GA)(f:`a_):GX:=fun δ=>`ys λb=>`o (sd0 c F b.1=`d) `aW? `f
open T in
def pi0{d:D}{m:Str}{F:`i}(h:sd0 c F d=`d)(r:`m?)(hm:m∉F):∃x ns as sos C dx fs,d=`Be/\`fQ/\`amB/\`kj/\`Ew:=by
 unfold sd0 at h;split at h
 ·rename_i r w
  let#[c',fs,ds]:=r;let#[l,w0,w]:=K7 w;let#[#[n0,l1],w1,w]:=K7 w;let#[x,w2,w]:=K7 w;let#[#[n1,rest],w3,w]:=K7 w;cases Sm0 w0;cases rh0 w1;cases Yx0 (d:=n0) w2;cases `aXY;cases pv0 (d:=n1) w
  try dsimp only at h
  rw[`bd,`Tv] at h;let#[hc,J]:=h;subst hc;let#[x',ns,e,as,sos,w]:=r;cases e;let#[so,U,nk]:=`Z1 w.all;let#[C,O,nm,xs,rfl,rfl,hl,hC,Y,rx]:=`Mx;refine#[x,_,as,sos,C,O,_,rfl,w,U,hC,gb0 λz=>hm ?_];rw[`kQ] at J;have:=J (`u m) (j0 z);exact Dc0.mp `x
 ·cases h
section
variable{gA:GA}{m:Str}{F:`i}
theorem K8(i:Nat){pl:`ia}{k:Nat}{f:`a_}(C:`aYf)(hr:`yC)(hk:k<=n)(ha:`k7)(hN:`pV)(hv:`yt)(hd:`yu)(hcd:`yv)
  (hst:`dn) (hpl:`eE)
  (ht:`H (`aYg=(do
   let ov ← `F0
   `m8
   let (f,`ie) ← `pL
   `PX)) Aa) :
  PX X `aby (T4 i c F gA f):=.mk λH₀ B₀ δ pins s σ H Q I hq173=>by
 skip;apply `gz hq173
 unfold T4 at e1;apply `aY;let#[Ca,fa,fd,Fo,hC,cl,a2,hb,a5]:=C.ex;apply `yw;split at e1
 rotate_left
 ·cases e1
 rename_i hfl;let#[d0,hi,Z]:=`nk;apply `S_;cases e3:`al! with
 | none=>apply `cs;cases e1
 | some q =>
 apply `cs;cases e1;apply `al?;let#[h1,h2]:=`nl Z;let#[x,ns,as,sos,C',dx,fs,a7,w,a6,Y,a4]:=`amC;have a1:C'=Ca:=by rw[hC] at Y;cases Y;rfl
 subst a1;apply `Tw;done;refine`b8 (M40 (pl:=pl) (E:=E0) `Tx cl a2 Fo `jD hb `R nc0 (d50 `bt) hst hpl ht) Q (`Ty J `aYh a4);rw[c2];refine`alO;show spB X.K 0 f `aYi H1 _ _;rw[`bS];refine`aXb `bw λv H' hh a3 rv=>?_;have U:`yo:=`S8;apply `ama U a3;apply `aXc
theorem pd0(i:Nat){pl:`ia}{k:Nat}{f:`a_}(C:`aYf)(hr:`yC)(hk:k<=n)(hN:`pV)(hv:`yt)(hd:`yu)(hcd:`yv)
  (ht:`H (`aYj=(do
   let ov ← `F0
   `m8
   let (f,`ie) ← `pL
   `Ti)) Aa) :
  PX X `abz (T4 i c F v8 f):=.mk λH₀ B₀ δ pins s σ H Q I hq174=>by
 skip;apply `gz hq174
 unfold T4 at e1;apply `aY;let#[Ca,fa,fd,Fo,hC,cl,a1,hb,a4]:=C.ex;apply `yw;split at e1
 rotate_left
 ·cases e1
 rename_i hfl;let#[d0,hi,Y]:=`nk;apply `aYk;cases e3:f bm.1 [] with
 | none=>apply `cs;cases e1
 | some q =>
 apply `cs;cases e1;apply `al?;let#[h1,h2]:=`nl Y;let#[x,ns,as,sos,C',dx,fs,a6,w,a5,U,a3]:=pi0 hfl h1 a4;have Z:C'=Ca:=`aYl hC
 subst Z;apply `Tw;done;refine`b8 (Su0 (pl:=pl) (E:=E0) `Tx cl a1 Fo `jD hb `R nc0 ht) Q (`Ty J (`My w.hd a5) a3);rw[c2];show spB X.K 0 f `eW H _ _;refine#[B,[],[],a,bm.1,q.2,q.1,`yD,hB,rfl,`bw,`k6,h1,e3,λv H' hh a2 rv=>?_];apply `ama hh a2;exact `amD (`sR b1 b2 hi J hh O) O
universe zz
def Env.unset{σ:St}{δ:Ds}(e:`bs)(i:Nat)(o:`ea):Env K H B `SV `aYm:=by
 refine`aiO `jr `ac0;skip;apply `aYn
 ·cases z
 rcases `AY with⟨_,z,_⟩|⟨n2,h2⟩
 ·cases z
 rw[`p3] at h3;apply `FD;done;apply `Q8
def tw0(i:Nat)(n:D)(δ:Ds):Ds:=match `rb with
 | `abA=>`co (`wA (ns++[n]))
 | _=>δ
structure PartAt(K:`z)(H₀:Hp)(B₀:BS)(H:Hp)(σ:St)(δ:Ds)(i j:Nat)(dp:D):Prop where
 en:`cx
 ex:∃B a ns as sos v,`R8 (`tQ/\`ah!/\`Xg dp)
def Vi0{δ:Ds}{mk:D->D}(h:`aYo)(ms:`l):dpN i (`co (`wA ms))=`c ms:=by
 have hl:i<`l9:=by
  cases q:`c4 with
  | none=>rw[q] at h;cases h
  | some s=>exact(`c7 q).1
 unfold dpN;rw[`xW];unfold yb0 at h;split at h
 ·cases h
 ·cases h
 ·cases h;rfl
 ·cases h;rfl
 ·cases h
open T in
def Wt0{δ:Ds}(h:`Of):∃x mk,`aYo:=by
 unfold dpN at h;cases eb:`rb with
 | none=>rw[eb] at h;cases h
 | some bm =>
  rw[eb,`q] at h;let#[b,mk]:=bm;split at h
  ·rename_i x ns' hb
   cases h;have hb:b=_:=hb;subst hb;exact#[x,mk,rfl]
  ·cases h
def NodeOk.ext(g:`eF){n:D}(hdx:∀C dx fs,so=`lC->dx≠L)(h:`Q2):`k5 K H' B' `o2 n so:=by
 have l:`aya `o2:=λk a e=>`k (`fw (`c7 e).1) e
 unfold NodeOk at h ⊢;split at h
 ·apply `pT;exact#[xs,e,`amE]
 ·let#[xs,e,z,r]:=h;exact#[xs,e,z,`amE]
 ·skip;let#[C,dx,ns,xs,e,f,z,c,q,r]:=h
  done;exact#[C,dx,ns,xs,e,f,z,c,λw=>(`d! w).elim q λw=>hdx _ _ _ e (L7.mp w),`amE]
 ·exact `j9
def EnvS.unset{σ:St}{δ:Ds}(e:`cx)(i:Nat)(o:`ea):`hV K `ae `ab H `SV `aYm:=by
 let#[B,b1,b2,env]:=e.ex;refine#[`Rp,(`sQ (env.unset i o)),`aBl,e.b0];skip;apply `aYn
 ·cases z
 rw[`p3] at h2;done;exact e.fr j ds a h1 h2
section
variable{lp:Pos}{gk:GE}
def Wr0{x1}(i j:Nat)(nd:`ej)(hk:PD X ke gk)(hi:`p5)(hy:`k9)
  (hs:`j8 `azb ((`l1 ke)::`aYp)) (hs2:`Ib `aYp (`l1 (`_K)))
  (hsw:`i1 `aYq `MG `l!)
  (hf:`ju) :
  PS X (`h2 `o4 `aYq pos) `aYr:=by
 intro pins s σ H D I #[`ae,`ab,δ,dk,ns,en,e1,c4,e2,c3,kk];skip;apply `aY;let#[a,as,sos,at']:=`JV e2;have jl:j<`vN:=by
  let#[m,hn,hl]:=id `fD;have h1:=`NS;have:=`eX;lia
 done;refine Zk0 nd hi hy (J5 (U9 (bi0 (N7 (hk.go B δ) (N7 (Zj0 y90) y90 hs2) hs)))) hsw hf `r s σ H D I #[dk,env,e1,`vh #[`bw,λL hL=>#[`YR,λt ht=>?_]]];apply `aYs;have Y:H L=`f:=`CC hL;obtain⟨H2,a8⟩:∃H2,H2=`aYt:=`ah;rw[← a8] at ht ⊢;have s2:`QD:=`k a8 (Y9 hL)
 have c2:`ak4:=`aR8 ht;obtain⟨H3,a2⟩:∃H3,H3=upd H2 t (`C `abB):=`ah;rw[← a2];have s3:`dc H2 H3:=`k a2 (Y9 ht)
 have a3:`dc H H3:=`tJ;have c8:H2 L=`c `n2:=by rw[a8,j8]
 have e4:H3 L=`c `n2:=s3 _ _ c8;have f0:H3 t=`aYu:=by rw[a2,j8]
 have d2:∀b∈as,`ahY:=λb hb z=>by
  rcases `Zc b hb with q|q
  ·rw[q,hH] at z;cases z
  ·rw[q.2] at z;cases z
 have La:L∉as:=λz=>d2 L z Y
 have ta:t∉as:=λz=>d2 t z c2
 apply `aYv
 have c1:=`qP a3;have O:`aYw=(`s `Yl):=`aYx
 have a6:`aYy:=by
  rw[`RN];apply `aYz;rw[`dK hy] at z;exact `aYA
 have a1:`aYB:=`aYC
 have e8:`aYD `KK (so=`uC):=λk c so q1 q2=>by
  by_cases hk':k<`hL
  ·rw[`Tz] at q1
   apply `aYE;exact `n `FH
  ·have hl1:=`aYF
   rw[`Z] at hl1;have e6:`amF:=`aYG
   subst e6;rw[`yE,`kG] at q1;rw[`CS,`yE,`kG] at q2;apply `aYH
 have Z:`aaC (`KK[k]?=`n5):=λk C dx fs e=>by
  by_cases hk':`Ta
  ·rw[`Tz] at e
   exact `aYI
  ·rw[`Dc] at e
   cases q:k - `JK with
   | zero=>rw[q] at e;cases e
   | succ n=>rw[q] at e;cases e
 have cl:`iG `ME a `amG:=q70 a1 a6 O (λk c so q1 q2=>by
  skip;rcases e8 k c so q1 q2 with⟨q1,q2⟩|⟨_,rfl,rfl⟩
  ·done;exact `aYJ
  ·done;rw[xu0 La];exact e4) Z
 refine#[a,`bL,c1.w.openOk,a,_,cl,kk _ _ ?_];obtain⟨Hc,U⟩:∃Hc,Hc=`gI `ME a `amG:=`ah;rw[← U];skip;have ca:Hc a=`c (`og `amG):=`azg U
 have a4:∀b∈`lA,`aYK:=λb hb n=>by
  rw[U];apply `lf;let#[so,q]:=vt0 O hb a6;rw[`_ n,q]
 have J:`aYL:=λb hb=>by
  rw[U];apply `lf;rw[`Su (b=a) λz=>hb (`k z (C8 a1)),y40 hb,`aYM]
 have but:But a H Hc:=#[λb u n z=>by
  apply `TA
  ·apply `TB
   ·rcases `adm with w|w
    ·exact `G w n
    ·rw[`amH,← w.2,z]
   ·rw[`F',Y] at z;cases z
  ·rw[J b hb];exact a3 _ _ z,λb u xs n z=>by
  apply `TA
  ·rw[`amH] at z;cases z
  ·rw[J b hb] at z;exact a3.nf _ _ _ z]
 have gr:Gr H Hc B B:=`BD `tR but;have e9:¬B L:=`F! Y;have hw:RpW X.K Hc B (`MA) a `o2 `KK:=by
  refine#[a1,a6,ca,`hK,O,`x2 ?_ (`aa #[[],rfl,`amI] `R),Z]
  ·by_cases n:b=a
   ·exact `n n
   ·refine `p #[?_,`amH]
    apply `TB
    ·exact`aYN
    ·rw[`F'];exact e9
  ·apply `aYO
   intro z;skip;subst e;have e7:=`aYP;subst e7;apply `alW `bL hH;have hm:`aYQ:=by
    refine `aYR;rw[`aYS];exact#[`wz,q2]
   let#[_,w,_]:=(all _ hm).2;rw[z,Y] at w;cases w
 let#[x,mk,b0]:=Wt0 e2;let#[d0,a5,e3]:=xt0 b0;let#[a',d1,hB,ro]:=`z6 a5;rw[`gn] at d1;cases d1;have e0:`aBK=`aYT:=by unfold tw0;rw[b0]
 have a7:`kf Hc (`aYT):=`w? a5 `gn but ((`nl e3).2 _ _ _ `aYU);have f1:=`sR b1 b2 a5 `gn but a7;done;rw[e0];have b3:=Vi0 b0 (`MA);refine#[EnvS.unset f1 j _,B,a,`MA,`lA,`Yl,`Iq,b1,b2,a7.unset j _,#[?_,hB,?_,hw],Dg0 jl,?_]
 ·rw[`aYV];exact `gn
 ·unfold dpN at b3 ⊢
  rw[`aYV];exact b3
 ·rw[xw0]
  have e5:Hc t=`aYu:=by
   rw[J t (λz=>(`d! z).elim ta λz=>by
    rw[`fa,c8] at ht;cases ht)]
   exact f0
  refine `p #[?_,t,`abB,rfl,#[`F! c2,e5],?_]
  ·cases dk<;>rfl
  ·rw[z70]
   apply `lc v1 [`vC] (lb0 ?_ (q20 c4 r1))
   ·cases dk<;>first|rfl|(cases c4)
   ·rw[z70]
    refine#[`vC,[],rfl,?_,`amI];unfold O5;rw[xw0];have d3:`f'=`hL:=`aYW
    exact `aYX d3
universe zz
def sy0(i:Nat)(go:GE)(dp:D)(δ:Ds):`aB Ds:=`yz λd=>`gA λns=>`F4 λk=>match `i2 with
 | `le=>`a! (`g9<`W) (`Te `TC)
 | _=>`f
section
variable{o2:`J}{lp:Pos}{gk go2:GE}
open T in
def jn0(i j:Nat)(ho:`F5)(hN:`p5)(hv:`yt)(hd:`yu)(hcd:`yv)
  (hbase:`aXK)
  (hfew:`H ((`Xy `aYY
  &&`JO (`o4:`bQ).length)=`d) Aa)
  (hline:`hm) (hs:`Ib `aYY (`l1 `IS)) (hplain:`pZ)
  (hsw:`i1 `aYZ `f `l!) :
  `amJ (`Bo `aYZ pos) go:=by
 intro pins s σ H De I #[`ae,`ab,δ,dp,δ',pt,e1,kk];let#[en,B,a,ns,as,sos,v,b1,b2,env,at',hj,rv]:=pt;unfold sy0 at e1;cases e2:go δ with
 | none=>apply `aj;cases e1
 | some d =>
 rw[e2,`q,`yy,`q] at e1;let#[k,e6,e1]:=`c1;split at e1
 rotate_left
 ·cases e1
 rename_i es hnode;split at e1
 rotate_left
 ·cases e1
 rename_i hz;cases e1;refine `aX' (ph0 Q1 Aq0 Ar0 pc0 `amz (N7 (`K? j hN) y90 hs) `hn hfew `jq hs `tl);have J:=`il;apply `Tg;apply `p8;refine#[a,`bL,`mB,`abw,v,hj,c,xs,v,rfl,rfl,`Lj,`bR `Td hz,?_];have nk:`k5 X.K H1 B as `TC (`t `CT):=#[_,rfl,`Th `JT (`ww s1)];let#[p1,p2,p3]:=J.w.put `tR f1 f2 nk `aY_;refine#[a,_,p1,kk _ ?_];rw[`bX ((HO.lst `CT)=(`Za `CT).ho),p2];let#[d0,d',Z,q1,O]:=(`jV).setN J p3;let#[x,mk,Y]:=Wt0 `yy;have U:dpN i (DL.setN i k `TC δ)=`c (`abu k `TC):=by
  unfold DL.setN;rw[Y];exact Vi0 Y _
 rw[q1] at U ⊢;exact#[`Dt s1 b1 b2 Z `gn O,B,a,_,as,_,v,b1,b2,O,#[`gn,`tR,U,p3],hj,(`ww s1).mono (`z2 `tR) `JS]
def qh0(i j:Nat)(gk ga gb:GE):GSB:=fun δ=>`S1 λdk=>`gA λns=>if `adk then
 (`aY0).bind fun δ2=>(`aY1).map fun δ3=>.nx δ3 else `f
theorem ag0{st1 st2 st3:`a1}{rest:`cg}{G:GSB}{ga gb:GE}(i j:Nat)(hij:i≠j)
  (h1:PS X st1 `aYr)
  (h2:`amJ st2 ga)
  (h3:`amJ st3 gb)
  (h:PSsB X `aR G):PSsB X (st1::st2::st3::`aR) (o6 (qh0 i j gk ga gb) G):=.mk λH₀ B₀ δ pins s σ H D I hq175=>by
 skip;apply `hp hq175
 unfold o6 qh0 at e;cases e1:gk δ with
 | none=>rw[e1] at e;cases e
 | some dk =>
 rw[e1,`q] at e;cases e2:`nF with
 | none=>rw[e2] at e;cases e
 | some ns =>
 rw[e2,`q] at e
 by_cases hf:`adk
 rotate_left
 ·rw[`R6] at e;cases e
 rw[`yb] at e;cases e3:`aY0 with
 | none=>rw[e3] at e;cases e
 | some δ2 =>
 rw[e3,`q] at e;cases e4:`aY1 with
 | none=>rw[e4] at e;cases e
 | some δ3 =>
 rw[e4] at e;done;refine T8 h1 (T8 h2 (T8 h3 (h.go `ae `ab δ3))) `r s σ H D I #[`ae,`ab,δ,dk,ns,en,e1,hf,e2,hij,fun σ1 H1 p1=>#[`ae,`ab,_,_,δ2,p1,e3,λH2 p2=>#[`ae,`ab,δ2,_,δ3,p2,e4,λH3 p3=>#[r,p3.en,e,k]]]]
universe zz
universe DL
namespace L2
open Spec PyProof.Rows
theorem Vg0(h:`gr):PE X e (`cw (∃a sub,`aWw/\te σ `aWx Q)):=λpins s σ H Q I #[a,sub,o,q]=>h `r s σ _ Q (I.opened o) q
universe L2
namespace DL
open Spec PyProof.Rows L2
mutual
def tr:`dZ
 | `dg=>`TD
 | `eB=>`m
 | `pW=>`m
 | `pX=>`m
 | _=>`d
def trs:`vq
 | []=>`d
 | `aC=>tr d&&`TD
end
section
mutual
theorem G20(g:`aY2):`E5 (`lg->`aMG)
 | `y,_,_,h=>`F? R3
 | `cb,_,_,h=>`F? U3
 | `cW,_,_,h=>`F? Z6
 | `ce,_,_,h=>`F? T5
 | `dg,_,n,h=>by
  unfold tr at n;rw[Q5] at h ⊢;apply `QV;exact#[a,xs,e,g a xs q.1 q.2,k90 g n r]
 | `ev,_,n,h=>by unfold tr at n;cases n
 | `k1,_,n,h=>by unfold tr at n;cases n
 | `tu,_,n,h=>by unfold tr at n;cases n
theorem k90(g:`aY2):`k2 (`TD=`d->`aiw)
 | [],_,_,h=>`F? d7
 | `aC,_,n,h=>by
  unfold trs at n;rw[`bd] at n;rw[j7] at h ⊢;apply `E6;exact#[x,r,e,G20 g n.1 h1,k90 g n.2 h2]
end
universe zz
def u30(ns:`l):`zO
 | `C [k,`C r]=>(yh0 r).bind λn=>match ns[n]? with
  | `le=>`a! (`dN k=`d/\trs es=`d/\wa0 es=`d) (`C [k,`l_])
  | _=>`f
 | _=>`f
def az0{d:D}(h:`p0):`jF:=by cases d<;>first|rfl|(cases h)
theorem RpW.off_tup(w:`fQ){t:`e}(h:H t=`iZ):t∉as:=λz=>by
 rcases w.own t z with q|q
 ·rw[q,w.at'] at h;cases h
 ·rw[q.2] at h;cases h
open T in
def RpW.part(w:`fQ){d d':D}(r:`k4)(h:`amK=`c d'):Rp K `w3 `yp d' v:=by
 unfold u30 at h;split at h
 rotate_left
 ·cases h
 rename_i k rr;let#[n,er,h]:=`gB;split at h
 rotate_left
 ·cases h
 rename_i es hn;split at h
 rotate_left
 ·cases h
 rename_i hq;cases h;let#[h1,h2,h3]:=hq;rw[xw0] at r;rcases r with⟨k',c,e,_⟩|⟨_,t,xs,rfl,q,rs⟩
 ·exfalso
  cases k<;>cases e
 rw[z70] at rs;let#[vk,r1,rfl,rk,rs]:=rs;rw[z70] at rs;let#[vc,r2,rfl,rc,rs]:=rs;rw[wf0] at rs;subst rs;rw[xw0,er] at rc;rcases rc with⟨k',c,e,hc,rfl⟩|⟨e,_⟩
 rotate_left
 ·cases e
 cases e;let#[so,J,nk]:=`aXI;let#[ys,rfl,ry]:=wc0 nk;have gt:∀b xs,`wt->`YA->¬(λ_:`e=>`b1) b/\`aXn=`iZ:=λb xs _ z=>#[`BU,`k (xu0 (w.off_tup z)) z]
 rw[Q5];apply `lc t _ (gt t _ q.1 q.2);rw[j7];apply `lc vk _ (q20 h1 (bu0 (az0 h1) rk));rw[j7];refine`E8 `xm ?_;rw[S7];exact#[c,ys,rfl,`n #[`BU,`n (`My hc J)],k90 gt h2 (ot0 h3 ry)]
def Env.blank{σ:St}(h:`vN=n):Env K H `yp σ (`aMb):=by
 subst h;refine#[?_,λa z=>`eA,`aRa]
 ·induction σ with
  | nil=>exact `R
  | cons o σ ih=>exact `aa `jr ih
 ·rw[`th] at h1
  split at h1<;>cases h1
def c30(i j:Nat)(g g2:GE):GSB:=fun δ=>`k? λd=>`gA λns=>(`amK).bind λd'=>(g2 `aY3).bind λr=>match r with
 | `l_=>`a! `Tu (.rt `Ij δ)
 | _=>`f
section
variable{e2:`J}{g g2:GE}
open T in
theorem Wy0(i j:Nat)(nd:`ej)(he:`Tc)(h2:PDF X e2 g2)(hi:`p5)(hy:`k9)
  (hsw:`i1 e `MG `l!)
  (hf:`ju) :
  PSsB X [`h2 `o4 e pos,`Xx (`c e2) pos2] (c30 i j g g2):=.mk λH₀ B₀ δ pins s σ H D I hq176=>by
 apply `gz hq176
 unfold c30 at e1;apply `aY;let#[d,q1,e1]:=`c1;let#[ns,q2,e1]:=`c1;cases q3:`amK with
 | none=>rw[q3] at e1;cases e1
 | some d' =>
 rw[q3,`q] at e1;let#[rr,q4,e1]:=`c1;split at e1
 rotate_left
 ·cases e1
 rename_i es;split at e1
 rotate_left
 ·cases e1
 rename_i hfl;cases e1;apply `aY4;refine T8 (Zk0 nd hi hy (he.go B δ) hsw hf) (T8 (sg0 (J5 (Vg0 (h2.go `yp `aY3)))) tt0) `r s σ H D I `aY5;have J:=`il;refine#[a,`bL,`mB,`l_,?_,q4,`aY6]
 ·exact(`aY7).set j (J.w.part r1 q3)
 ·let#[c1,c2]:=`amA s2
  refine#[a,`bL,c1,kk _ σ _ ?_];have O:p∉as:=λz=>by
   let#[so,l]:=vt0 J.w.len z J.w.nd;unfold opened at hp;rw[l] at hp;cases hp
  have U:`agU:=by rw[xu0 O] at hp;exact hp
  have sm:=`q0 c2;refine `aY8;let#[xs,o1,rx]:=ro;rw[S7];refine#[p,xs,rfl,`n #[`F! (`CC U),`n ?_],v50 hfl rx];apply `lf;rw[`_ (λz=>O `aY9),y40 O];exact o1
universe zz
universe DL
namespace DL
open Spec PyProof.Rows L2
def partsOf(ns:`l):`aim
 | []=>`wl
 | `nh=>(u30 ns p).bind λd=>(`TE).map (d::·)
def ld0(i:Nat)(go:GE)(n:Nat)(caps:`h)(f:`a?)(ge:GE):GX:=fun δ=>`yz λd=>`gA λns=>`F4 λk=>match `i2 with
 | `c (`t ps)=>(`TE).bind λitems=>(K9 n `di (`aY') f noT ge (`adn)).bind λr=>match r with
  | `t rs=>`a! (trs rs=`d) (`C rs,δ)
  | _=>`f
 | _=>`f
theorem RpW.parts(w:`fQ):∀{ps items:`l} {xs:`V},`qM ps xs->`TE=`JI->Rps K `w3 `yp `b? xs
 | [],_,_,r,h=>by
  rw[wf0] at r;cases h;rw[d7];exact r
 | `nh,_,_,r,h=>by
  skip;rw[z70] at r;let#[x,xs,rfl,r1,r2]:=r;unfold partsOf at h;let#[d,e1,h]:=`gB;cases e2:`TE with
  | none=>rw[e2] at h;cases h
  | some ds =>
  rw[e2] at h;cases h;done;rw[j7];exact#[x,xs,rfl,w.part r1 e1,w.parts r2 e2]
def Ps0(q:`Ct)(rs:`qz `b?):ItD K B (Itl K a) `b? H:=by
 refine`_D
 ·have:`xI:=`N1
  apply `aja
 ·let#[e3,y]:=y
  apply `ajb;have:=`ajc;apply `aV e4;cases `x;subst e3;apply `ajd
 ·apply `aje
section
variable{p lpos:Pos}
open T in
theorem Pj0(i:Nat){sc scope:`cT}{elt iter:`J}{N N':`i}{n:Nat}{caps:`h}{idx:`h}{f:`a?}{ge:GE}
  (hm:`cE `er=`f) (hbt:`aY!) (ok:`tE) (hidx:∀j∈idx,j<n) (hi:PN X i iter go)
  (hg:`jA) (he:`tB)
  (hc:`k!) (hsc:`x9) (hN:`x') (hs:`e7) (hgl:`ku `er)
  (hst:`j8 [`amL] ((`l1 (`amL))::`q4)) (hpl:`nc) :
  PX X (`et (`bx `er p) [`amL]) (ld0 i go n `di f ge):=.mk λH₀ B₀ δ pins s σ H Q I hq177=>by
 apply `gz hq177
 unfold ld0 at e1;apply `aY;let#[d,q1,e1]:=`c1;let#[ns,q2,e1]:=`c1;let#[k,q3,e1]:=`c1;split at e1
 rotate_left
 ·cases e1
 rename_i ps hn;let#[items,q4,e1]:=`c1;let#[rr,q5,e1]:=`c1;split at e1
 rotate_left
 ·cases e1
 rename_i rs;split at e1
 rotate_left
 ·cases e1
 rename_i htr;cases e1;apply `aY4;refine J5 (pf0 wq0 hgl hm hbt (N7 (f70 hc hsc `x! (Xg0 (U9 (hi.go B δ))) (g:=`ws) (tt:=`amM) (te:=`ajn)
  `Fn
  `amN
  `ajo hs) y90 hst) `v `v hst hpl) `r s σ H Q I `aY5
 have J:=`il;let#[c,so,rfl,f1,f2,f4]:=`au8 r1 q3 hn;apply `p8;have sq:SqL' X.K (`aY?) `yp c xs:=`aYc;refine#[a,`bL,`mB,c,rfl,#[xs,sq.to],?_];have Y:=ml0 (K:=X.K) (B:=`IN) (δ:=`adn) (σ:=σ) (H:=`aY?) (n:=n) (caps:=`di) (gi:=`aY') (idx:=idx) (f:=f) (gt:=noT) (ge:=ge) hidx
  (Q:=λv H'=>Qq0 σ H' λxs H2=>`aKq (v::xs) H2 `aXg) #[`t rs,`aY7,q5,`aY6]
 ·let#[Z,_,e',fk]:=Y
  cases e';exact fk (Itl X.K c) _ `w_ (Ps0 sq (J.w.parts rx q4))
 ·let#[zs,o1,rz]:=ro
  refine#[p,zs,rfl,`n #[`n (`n o1),λl hl=>?_]];obtain⟨H3,O⟩:∃H3,H3=upd H2 l (`C zs):=`ah;rw[← O];have s3:`dc H2 H3:=`k O (Y9 hl)
  let#[c1,c2]:=`amA `amO;have sm:=`q0 c2;refine#[a,`bL,c1,kk _ _ (`aY8)];have U:∀b xs,`aZa->`Tb:=λb xs z m=>by
   let#[so,l]:=vt0 J.w.len m J.w.nd;have:`iL H1 `ew b=`Mu:=by unfold opened;rw[l]
   rw[`amO _ _ `x] at z;exact `alV so xs `QR
  have gt:∀b xs,`aZa->`wt/\`aZb:=λb xs z=>by
   have hb:=U b xs z;have e:`aZb:=by
    apply `lf;rw[`_ (λz=>hb `aY9),y40 hb];exact z
   exact#[λw=>((`jO sm).bad b w).nt xs e,e]
  rw[Q5];exact#[l,zs,rfl,gt l zs (by rw[O,j8]),k90 (λb xs _ z=>gt b xs (s3 _ _ z)) htr rz]
universe zz
def zt0(f:`a?)(gx:GX)(jb:Nat)(δ0:Ds):`l->D->`aB (`l×D)
 | [],b=>`c ([],b)
 | `aC,b=>(f d (δ0.set jb (.ow b))).bind fun δ1=>(gx δ1).bind λr=>match r.2[jb]? with
  | `c (.ow b')=>(zt0 f gx jb δ0 ds b').map λq=>(r.1::q.1,q.2)
  | _=>`f
def v10(n:Nat)(caps:`h)(i jb:Nat)(gi:GA)(f:`a?)(gx:GX):GX:=fun δ=>`ys λb=>`xR λitems=>if `tr then
 (zt0 f gx jb `ke `b? b.1).bind λq=>`a! (isL q.2=`m) (`t q.1,`co (b.2 q.2)) else `f
def Env.comp_own{σ:St}{δ:Ds}(en:`bs)(no:`aOo){jb:Nat}{b:D}(hs:σ[jb]?=`zX)(hb:B a)(r:`Ik b):`jK H (`g_ jb (.ow b)):=by
 refine#[Pd.setR (i:=jb) `N7 hs `ZX,en.bad,λi j a' ds es h1 h2 _ _=>?_];skip;apply `aZc
 ·rcases `AY with⟨q2,_,_⟩|⟨_,z⟩
  ·done;exact q1.symm.trans q2
  ·done;exact `aZd
 ·done;exact `aZd
def Pf0{σ:St}{k:Nat}(hcap:`yF)(hs:`D9):`aZe=`oc:=by
 unfold G5;rw[`aLK,`gs,`aLL,`cX,hcap];show `c ((`If).join)=_;rw[hs];rfl
def teX(K:`z)(gx:GX):TE:=`cw (∃H₀ B₀ δ,tX K `ae `ab δ gx σ H Q)
open T in
def ii0{K:`z}{H₀:Hp}{B₀:BS}{δ:Ds}{σ:St}{H:Hp}{Q:VK}{k:Nat}{gi:GA}{f:`a?}{gx:GX}(hcap:`yF)(hidx:∀j∈idx,j<n)
  (h:tX K `ae `ab δ `abF σ H Q) :
  cg0 n `di (`azf K) `aOs (`cw (∃B δ,`gd tDT K noT)) (teX K gx) σ H Q:=by
 apply `gz h;apply `aY;unfold v10 at e1;apply `yw;let#[items,e2,e1]:=`c1;split at e1
 rotate_left
 ·cases e1
 rename_i hsz;let#[q,e3,e1]:=`c1;split at e1
 rotate_left
 ·cases e1
 rename_i hq;cases e1;let#[d0,a6,a8]:=`nk;let#[a,a3,hB,ro]:=`z6 a6;refine#[B,δ,`b?,env,e2,`aOt];have b0:=`jV;have f3:RpG K H1 B bm.1 a:=RpG.same s1 (`aZf).1;have d3:¬B L:=b0.free hL;have Z:a≠L:=`pi d3 hB
 obtain⟨Bp,a2⟩:∃Bp:BS,Bp=λx=>B x∨x=L:=`ah
 have e0:Bp L:=`k a2 `uq
 have O:∀x,B x->Bp x:=λx z=>`k a2 `gR
 have d2:∀x,Bp x->B x∨x=L:=λx z=>`ajj a2 z
 have gr:∀{H2:Hp},`aZg->`aOu:=λ{H2} h2 x o nb hx=>#[λz=>(d2 x z).elim nb (V5 hx hL),h2 x o (`pi nb hB) hx]
 have b3:`aZe=`zX:=Pf0 hcap a3;have c8:n+k∉idx:=λz=>`cO (hidx _ z)
 have f4:n+k<(`Ie).length:=by
  rw[← `rH (env.comp n `di).all];exact(`c7 b3).1
 have bu:But a H1 (`aYt):=#[λx o _ e=>`k `aZh e,λx o xs _ e=>by
  by_cases z:x=L
  ·rw[z,j8] at e;cases e
  ·rw[m7 z] at e;exact e]
 obtain⟨W,hW⟩:∃W:`QG,∀j m ys H2,W j m ys H2↔m=`dh - j/\j<=`dh/\`aOw/\`aZg/\`fs<=j/\∃pre rest b',q.1=pre++`aR/\`aOx/\RpL K H2 Bp b' a/\zt0 f gx `Dx `ke (`lP j) b'=`c (`aR,q.2):=`ajg;refine#[W,
  #[_,`tA #[rfl,`bw,j8,bu,`fg,[],q.1,bm.1,rfl,`k6,(`aj9 `aZi (gr bu) f3).toL,e3]],?_]
 intro j m ys H2 w0;let#[hm,g3,hD,s2,g4,pre,rest,b',ho,rp,rb,ec]:=`ajh;clear w0;subst hm;have a1:∀x,Bp x->NB (H2 x):=λx z=>by
  by_cases xa:x=a
  ·rw[xa];exact rb.live
  rcases d2 x z with z|z
  ·exact(b0.bad x z).keep λo h=>s2 x o xa h
  ·rw[z];exact NB.of hD (λ_ _ z=>by cases z) (λ_ z=>by cases z)
 have f7:Env K H2 Bp `fF ((`Ie).set `Dx (.ow b')) :=
  Env.comp_own #[`aOy b0.comp,a1,`aji] (λ_ _ z=>uh0 z) b3 (O a hB) rb
 by_cases hlt:j<`dh
 ·refine `p #[it.go j H2 `amP hlt,`aOz]
  let#[sm,dx,d1,rx]:=`aaM j H2 x H3 `amP y hlt;have s3:But a H1 H3:=(`amQ (sm _ _ (s2 x o n e)) (s2.nf x o xs n (sm.nf x o xs e)));have f1:`aOA:=rx Bp (gr s3) a1;have e9:=f7.same sm;have f9:=sm _ _ hD;have f0:=`Rv sm;have c3:`lP j=dx::`lP `xU:=by
   apply `Rr;congr 1;rw[`Rs] at d1;exact A3 d1
  rw[c3] at ec;unfold zt0 at ec;let#[δ1,e4,ec]:=bdS ec;let#[r5,e5,ec]:=bdS ec;split at ec
  rotate_left
  ·cases ec
  rename_i b2' ho5;cases e6:zt0 f gx `Dx `ke (`lP `xU) b2' with
  | none=>rw[e6] at ec;cases ec
  | some q6 =>
  rw[e6,`ky] at ec;have Y:r5.1::q6.1=`aR:=(`TF).1;have U:q6.2=q.2:=(`TF).2;refine#[Bp,dx,_,δ1,f1,e9,e4,`aOB λj' v z=>?_]
  ·by_cases hj:j'∈idx
   ·rw[bb0 (hidx j' hj)] at z;cases z
   ·rw[(`tz j' hj).1];exact z
  have h4:σ4[n+k]?=`zX:=`k (`tz _ c8).1 b3
  refine#[Bp,δ1,`d,en4,rfl,`aOC];show `o (`d=`d) _ _
  rw[`bp];have a4:=`aOD;refine#[λx=>`o (x=a) `f (H5 x),λx=>Bp x/\x≠a,δ1,r5,#[#[λx o e=>?_,λx o xs e=>?_],#[Bp,λ_ z=>z.1,λx z=>?_,a4],λi' ds a' h1 h2=>?_,λx z=>?_],e5,λv H6 ev=>?_]
  ·by_cases z:x=a
   ·apply `s_ z `hZ;cases e
   ·apply `s_ z `g?;exact e
  ·by_cases z:x=a
   ·exfalso
    let#[a5,c4,_,f6]:=a4.at (i:=n+k) (d:=b') (`k (`tz _ c8).2 (Dg0 f4));rw[h4] at c4;cases c4;rw[z] at e;exact f6.plain o xs e
   ·apply `mR z;exact e
  ·by_cases z':x=a
   ·exact `aWR z'
   ·exact `n #[z,z']
  ·have f5:i'∉idx:=λz=>w.own i' z ds h1
   rw[(`tz i' f5).2] at h1;apply `aZc
   ·rw[← q1,h4] at h2
    cases h2;simp only[`hZ]
   ·exact(uh0 z).elim
  ·apply `mR z.2
   exact a4.bad x z.1
  let#[B',c1,c2,e8,rv]:=ev.ex;let#[a',e7,f8,rl]:=e8.at ho5;rw[h4] at e7;cases e7;have less:∀x,Bp x->B' x:=λx z=>by
   by_cases q:x=a
   ·rw[q];exact f8
   ·exact `aWU
  have bt:But a H5 H6:=#[λx o z e=>`abG x o `aWS,λx o xs z e=>by have:=ev.same.nf x o xs e;apply `aWT];have f2:`aOE:=bt L _ (B4 Z) (s5 _ _ f9);have g6:Gr H6 `ayj B' Bp:=λx o nb hx=>#[λz=>nb (less x z),`k (m7 (λz=>nb (`k z (less L e0)))) hx]
  have g5:Gr H5 H6 Bp Bp:=`BD (O a hB) bt;have g7:`aOF:=λx o nb hx=>#[nb,`k (m7 (λz=>nb (`k z e0))) hx]
  refine#[f2,`F,`dh - `xU,`F,`tA #[rfl,hlt,j8,(`amQ ?_ ?_),`Xp,pre++[r5.1],q6.1,b2',by rw[ho,← Y];simp,?_,?_,by rw[e6,← U]]]
  ·rw[`aZh]
   exact bt _ _ n (s5 _ _ (s3 _ _ n e))
  ·by_cases z:x=L
   ·rw[z,j8] at e;cases e
   ·rw[m7 z] at e
    exact s3.nf _ _ _ n (s5.nf _ _ _ (bt.nf _ _ _ n e))
  ·exact `sp (((f0.same s5).mono g5).mono g7) (`MC g6)
  ·exact RpL.mono `aZi g6 rl
 ·have e:j=`dh:=`F
  subst e;refine `n #[`acW _ H2 `amP `bF,?_];rw[`x1] at ec;have Y:`ajl=`aR:=(`TF).1;have U:b'=q.2:=(`TF).2;subst Y;subst U;rw[`bS] at ho;have hh:But a H H2:=(`amQ (s2 x o n (s1 x o e)) (s1.nf x o xs (s2.nf x o xs n e)));have a7:`jK H2 `awd:=`w? a6 a3 hh ((`aZf).2 H2 B q.2 ((rb.toO hq).toG.less O));refine kk (`vC) H2 (`su (`sR b1 b2 a6 a3 hh a7) a7 ?_);rw[S7];exact#[L,ys,rfl,`n #[d3,`n hD],`k ho (rp.mono (`kv O))]
theorem Pv0(i k:Nat){sc scope:`cT}{elt iter:`J}{N':`i}{n:Nat}{caps:`h}{gi:GA}{idx:`h}{f:`a?}{gx:GX}
  (hcap:`yF) (hc:`d4) (hsc:`lK) (ok:`pS) (hidx:∀j∈idx,j<n) (hi:`ii)
  (hg:`jA) (he:`TG)
  (hs:`e7) :
  `aZj:=.mk λH₀ B₀ δ =>
 (f70 hc hsc ok (wi:=`aZk) (g:=`ws) (tt:=`amM) (te:=teX X.K gx)
  `aZl
  `Fn
  `amN
  `aZm hs).imp fun σ H Q h=>ii0 hcap hidx h
def jf0(j:Nat)(gx:GX):GS:=`kC `Fs (.nx (r.2.set j (.sh r.1)))
theorem b20(i k j:Nat){y:Str}{py spos:Pos}{sc scope:`cT}{elt iter:`J}{N':`i}{n:Nat}{caps:`h}{gi:GA}{idx:`h}{f:`a?}{gx:GX}
  (hcap:`yF) (hN:`ej) (hc:`d4) (hsc:`lK) (ok:`pS) (hidx:∀j∈idx,j<n) (hi:`ii)
  (hg:`jA) (he:`TG)
  (hiN:`p5) (hy:`k9)
  (hsw:`aZn)
  (hs:`e7)
  (hf:`ju) :
  `aZo:=.mk λH₀ B₀ δ pins s σ H D I hq178=>by
 apply `gz hq178
 unfold jf0 at e1;cases e2:v10 n `di i `Dx gi f gx δ with
 | none=>apply `aj;cases e1
 | some q =>
  apply `aj;cases e1;refine jq0 (i:=j) hN hiN hy hc hsc ok (wi:=`aZk) (g:=`ws) (tt:=`amM) (te:=teX X.K gx)
   `aZl
   `Fn
   `amN
   `aZm hsw hs hf `r s σ H D I (ii0 hcap hidx `amR)
  apply `yG;exact kk _ H' (ev.s.wr c1 c2 (`zQ H') cl0 (env.set j rv))
def ap0(gx:GX):GS:=`kC `Fs (.rt r.1)
theorem O10(h:`p4):`Rk ap0 gx:=.mk λH₀ B₀ δ pins s σ H D I hq179=>by
 apply `ba hq179
 unfold ap0 at e1;cases e2:`gS with
 | none=>apply `aj;cases e1
 | some q =>
  apply `aj;cases e1;refine `ty `ld `amR;apply `yG;exact `aZp
def dgO(i:Nat)(gk:GE):GE:=fun δ=>`ys λb=>match b.1 with
 | `E7=>`S1 λdk=>`aWm λq=>`ajK
 | _=>`f
section
variable{a:`J}{p:Pos}{g ga gb:GE}
theorem vn0(i:Nat)(hu:`lb)(hb:`dr)(hN:`dG)(hv:`eG)(hd:`aQ)(hcd:`dX)
  (hs:`aSG):PD X (`lS `gL b pos) (dgO i gb):=.mk λB δ=>(Yn0 hu `l6 `e' hs).imp fun σ H Q hq180=>by
 skip;apply `bG hq180
 unfold dgO at h;let#[bm,eb,h]:=`gB;let#[d0,Y,J]:=`nk;let#[a,O,hB,ro]:=en.at Y;have ro:=(J X.K H B a ro).1;split at h
 rotate_left
 ·cases h
 rename_i ks ds hbm;rw[hbm] at ro;let#[xs,hx,hl,rr]:=ro;let#[y,e2,h]:=`gB;let#[q,e3,h]:=`gB;done;refine#[_,O,y,en,e2,`BX];let#[v,U,rv]:=(w60 (rr.same s2)).1 d h;have:=p40 e3 r2;subst this;exact#[a,v,rfl,`bR U (DGet.k (s2 _ _ hx)),k v H2 s2 rv]
def Pm0{d:D}(h:`p0)(r:`c'):`aaw:=by
 apply `aka
 ·rw[R3] at r ⊢;exact r
 ·rw[U3] at r ⊢;exact r
 ·rw[Z6] at r ⊢;exact r
 ·rw[T5] at r ⊢;exact r
def Z00(ga:GE)(gx:GX):GX:=`EV λd=>`tK `p0 (`Fs λr=>(`C [d,r.1],r.2))
def EnvV.new{σ:St}{δ:Ds}{d d':D}{v':V}(ev:`FE)(s:`be)(r:∀B:BS,`pU->`c'->Rp K H' B d' v'):EnvV K `ae `ab H' σ δ d' v':=by
 apply `yG;exact#[`aZq s,#[B,c1,c2,`jO s,r B `yD rv],ev.fr,ev.b0]
theorem Is0{x1}(ha:`cA)(h:`p4)(hs:`j8 [a,e] (`YD::`Xc))(hs2:`gx):PX X (`PT [a,e]) (Z00 ga gx):=.mk λH₀ B₀ δ pins s σ H Q I hq181=>by
 skip;apply `ba hq181
 unfold Z00 at e1;apply `aY;apply `Tf;split at e1
 rotate_left
 ·cases e1
 rename_i hfl;cases e3:`gS with
 | none=>apply `cs;cases e1
 | some q =>
 apply `cs;cases e1;done;refine bi0 (N7 `bt (N7 `ld y90 hs2) hs) `r s σ H Q I (`Fh (`vh #[q,`amS,e3,λv2 H2 ev=>#[`aZr,λp hp=>k _ _ (ev.new `gh λB' hB rv=>?_)]]));rw[Q5];apply `lc p [v1,v2] #[λz=>hB p z hp,j8];rw[j7];apply `lc v1 [v2] (Pm0 hfl r1);rw[j7];exact`E8 v2 (`ww `gh)
def cm0(f:`U)(gx:GX):GX:=`kC `RI ((f [r.1]).map `aZs)
theorem Uk0{T:`cq}{f:`U}(hc:`ag8)(hf:`Rb)(hm:`pz)(hv:`ag9)(ha:`p4)(hg:`fR)
  (hn:`pA) (hdb:`aQ) (he:`gx) (hpl:`nc) :
  PX X `aR9 (cm0 f gx):=.mk λH₀ B₀ δ=>(`Rc pf0 hc (N7 `al_ y90 he)).imp fun σ H Q hq182=>by
 skip;let#[q,en,e1,k]:=hq182
 unfold cm0 at e1;let#[r2,e2,e1]:=`c1;cases e3:f [r2.1] with
 | none=>apply `cs;cases e1
 | some d =>
 apply `cs;cases e1;done;refine#[r2,en,e2,λv H1 ev=>?_];apply `yG;exact hf H1 B [v] [r2.1] d Q `yD (`Dl j7 (`E8 v rv)) e3 λv' H2 s2 r'=>k v' H2 #[`aZq s2,#[B,c1,c2,`jO s2,r'],ev.fr,ev.b0]
universe zz
theorem ef0:∀(kvs acc:`hf),((acc++kvs).map `cD).Nodup->sx0 acc kvs=acc++kvs
 | [],acc,_=>`aF `bS
 | p::r,acc,h=>by
  have hn:`aZt=acc++[p]:=by
   unfold putK;rw[`_];rw[`aZu];rintro⟨q,hq,e⟩;have e:=n5 e;rw[`aU,`ag,`RN] at h;exact h.2.2 q.1 (j0 hq) p.1 A4 e
  show sx0 (`aZt) r=_;rw[hn,ef0 r (acc++[p]) (`k `bg h),`bg];rfl
abbrev GP:=Ds->`aB (`TH)
def Wl0:GP:=`aL8
def ua0(gk gv:GE)(gP:GP):GP:=fun δ=>`S1 λk=>`F3 λv=>(gP δ).map λps=>(k,v)::ps
def RpP(K:`z)(H:Hp)(B:BS)(ps:`TH)(vs:`my):Prop:=`k3 `j7 (`rP `cD)/\`k3 `i8 (`Yn)
structure PDP(X:Cx)(pos:Pos)(keys:`FA)(vals:`bQ)(gP:GP):Prop where
 mk::go:∀δ,∃trs,PPs X pos keys vals trs/\∀B σ H Q,(∃ps,`aaQ/\gP δ=`c ps/\∀vs H',`be->RpP X.K H' B ps vs->`afz)->`aQo
section
variable{keys:`FA}{vals:`bQ}{gk gv:GE}{gP:GP}
theorem Kb0:PDP X pos [] [] Wl0:=.mk fun δ=>#[[],Ly0,λB σ H Q hq183=>by
 let#[ps,en,e,k]:=hq183
 cases e;exact k [] H `vm #[`aZv,`aZv]]
theorem j00(hk:PD X ke gk)(hv:PD X ve gv)(hr:`aZw):PDP X pos (`c ke::keys) (ve::vals) (ua0 gk gv gP):=.mk fun δ=>by
 let#[trs,h1,h2]:=hr.go δ;refine #[_,P80 (tk:=`cw (∃B,`gd tD X.K gk)) (tv:=`cw (∃B,`gd tD X.K gv)) (λpins s σ H Q I #[B,h]=>`FF hk h) (λpins s σ H Q I #[B,h]=>`FF hv h) h1,λB σ H Q hq184=>?_];skip;let#[ps,en,e,k]:=hq184;unfold ua0 at e;let#[a,e1,e]:=bdS e;let#[b,e2,e]:=bdS e;cases e3:gP δ with
 | none=>rw[e3] at e;cases e
 | some qs =>
 rw[e3] at e;cases e;done;refine#[B,a,en,e1,`vh #[B,b,`i_,e2,λv2 H2 s2 r2=>h2 B _ _ _ #[qs,`aZx,e3,λvs H3 s3 rr=>k _ H3 (`tJ) `tp]]]
 ·rw[`ag,`ag,j7]
  exact#[v1,_,rfl,`Iz `amO,rr.1]
 ·rw[`ag,`ag,j7]
  exact#[v2,_,rfl,r2.same s3,rr.2]
theorem a70:∀{ks:`gk} {vs:`my},`rP `cD=`Ma->vs=`aZy `aj8
 | [],[],_=>rfl
 | [],`cr,h=>by cases h
 | `cr,[],h=>by cases h
 | `la,v::vs,h=>by
  rw[`ag,`ag] at h;have h1:=(R1 h).1;have h2:=(R1 h).2;rw[`ag,`eI,`ag,← a70 h2,← h1]
def is0(gP:GP):GE:=fun δ=>(gP δ).bind λps=>(qu0 (`j7)).bind λks=>`a! (ks.Nodup/\`iK<=15) (`df `I4 (`i8))
theorem Uo0(h:`aZw)(hall:`H (`aQq) Aa)(hl:`H (`RX=vals.length) Aa)(h0:keys≠[]:=by exact λz=>nomatch z)(h15:`H (`RX<=15) Ab) :
  PDF X (.Dict keys vals pos) (is0 gP):=.mk λB δ pins s σ H Q I hq185=>by
 skip;let#[d,en,e,k]:=hq185
 unfold is0 at e;let#[ps,e1,e]:=bdS e;let#[ks,e2,e]:=bdS e;split at e
 rotate_left
 ·cases e
 rename_i hnd;cases e;let#[trs,h1,h2]:=h.go δ;done;refine Nu0 h1 hall hl h0 h15 `r s σ H Q I λp hp=>h2 `v0 _ _ _ #[ps,en.fresh hp,e1,λvs H' s' rr=>#[s' _ _ j8,`MD,?_,?_,?_]]
 ·exact a70 (ik0 e2 rr.1)
 ·rw[`u3]
  have:=hnd.2;lia
 ·have J:`iK=(`s `Yn):=by
   have:=C7 `CK (ik0 e2 rr.1)
   simpa using this.symm
  have hm:sx0 [] (`MD)=`MD:=by
   rw[ef0 _ [] (by
    rw[`hQ];have:`aZy `cD=ks:=List.map_fst_zip `j;rw[`x];exact hnd.1)]
   rfl
  rw[hm];refine k p _ hp #[λc o q=>?_,λc o xs q=>?_] #[`rP (λv:V×V=>v.2),j8,J,?_]
  ·have hc:c≠p:=V5 q hp
   rw[m7 hc];exact s' c o (`k (m7 hc) q)
  ·by_cases hc:c=p
   ·rw[hc,j8] at q;cases q
   ·rw[m7 hc] at q
    have:=s'.nf c o xs q
    rwa [m7 hc] at this
  ·exact rr.2.mono (`z2 `jo)
universe zz
theorem Nv0(i k:Nat){sc scope:`cT}{elt iter:`J}{N N':`i}{n:Nat}{caps:`h}{gi:GA}{idx:`h}{f:`a?}{gx:GX}
  (hcap:`yF) (ok:`tE) (hidx:∀j∈idx,j<n) (hi:`ii)
  (hg:`jA) (he:`TG)
  (hc:`k!) (hsc:`x9) (hN:`x') (hs:`e7) :
  `aZj:=Pv0 i k hcap hc hsc `x! hidx hi hg he hs
theorem Q30(i k j:Nat){y:Str}{py spos:Pos}{sc scope:`cT}{elt iter:`J}{N N':`i}{n:Nat}{caps:`h}{gi:GA}{idx:`h}{f:`a?}{gx:GX}
  (hcap:`yF) (nd:`ej) (ok:`tE) (hidx:∀j∈idx,j<n) (hi:`ii)
  (hg:`jA) (he:`TG)
  (hc:`k!) (hsc:`x9) (hN:`x')
  (hiN:`p5) (hy:`k9)
  (hsw:`aZn)
  (hs:`e7)
  (hf:`ju) :
  `aZo:=b20 i k j hcap nd hc hsc `x! hidx hi hg he hiN hy hsw hs hf
abbrev GTX:=Ds->`aB (`I×Ds)
def tTX(K:`z)(H₀:Hp)(B₀:BS)(δ:Ds)(gt:GTX):TT:=`cw (∃r,`cx/\`jX=`dR/\∀H',`iy K H' r.2->Q r.1 H')
structure PTX(X:Cx)(e:`J)(gt:GTX):Prop where
 mk::go:`h0 PT e `aZz
structure PWX(X:Cx)(e:`J)(gt:GTX):Prop where
 mk::go:`h0 PW e `aZz
def liftT(gt:GB):GTX:=fun δ=>`aZA λb=>(b,δ)
def Q8(gx:GX):GTX:=fun δ=>`RI λr=>match r.1 with
 | `f3=>`c (b,r.2)
 | _=>`f
def wb0(gt:GTX):GTX:=`kC `aZA (!r.1,r.2)
def Zf0(gt gu:GTX):GTX:=`kC `wo (`o `abH (gu r.2) (`c (`m,r.2)))
def orT(gt gu:GTX):GTX:=`kC `wo (`o `abH (`c (`d,r.2)) (gu r.2))
def ifX(gt:GTX)(Ga Gb:GSB):GSB:=`aZB
def ja0(ga:GE)(gx:GX)(f:`br):GX:=`EV λda=>`tK `aZC (`RI λr=>(f da r.1).map `aZs)
section
variable{a c:`J}{rest:`bQ}{as bs:`cg}{gt gu:GTX}{gb:GB}{ga:GE}
theorem af0(h:PTD X e gb):PTX X e (liftT gb):=.mk λH₀ B₀ δ pins s σ H Q I hq186=>by
 skip;apply `ba hq186
 apply `aY;unfold liftT at e1;cases e2:`fy with
 | none=>apply `aj;cases e1
 | some t =>
  apply `aj;cases e1;done;exact `FF h #[t,env,e2,λH' s'=>k H' (`acT)]
open T in
theorem lo0(h:`p4)(he:`afG):PTX X e (Q8 gx):=.mk λH₀ B₀ δ pins s σ H Q I hq187=>by
 apply `ba hq187
 unfold Q8 at e1;cases e2:`gS with
 | none=>apply `aj;cases e1
 | some q =>
  rw[e2,`q] at e1;split at e1
  rotate_left
  ·cases e1
  rename_i t hq;cases e1;refine R10 `ld he `r s σ H Q I `amR;apply `yG;rw[hq,U3] at rv;exact#[t,rv,k H' ev.s]
theorem fr0(h:`Ga):PTX X `Ej (wb0 gt):=.mk λH₀ B₀ δ pins s σ H Q I hq188=>by
 apply `ba hq188
 unfold wb0 at e1;cases e2:`jX with
 | none=>apply `aj;cases e1
 | some q =>
  apply `aj;cases e1;exact Ux0 `ld `r s σ H Q I (`vD k)
theorem Oi0(h:`Ga):PWX X `afH gt:=`amT Xl0
theorem Yo0(h:`Ga):PWX X `afI gt:=`amT S10
theorem Mr0(ha:`Ga)(hb:PWX X `Ef gu):PWX X `Eg (Zf0 gt gu):=.mk λH₀ B₀ δ wh pins s σ H Q I hq189=>by
 apply `ba hq189
 unfold Zf0 at e1;apply `TI;refine `aZD Tx0;cases hq:q.1 with
  | true=>apply `TJ;apply `yH
  | false=>apply `TK;cases e1;exact k H' J
theorem Ta0(ha:`Ga)(hb:PWX X `Eh gu):PWX X `Ei (orT gt gu):=.mk λH₀ B₀ δ wh pins s σ H Q I hq190=>by
 apply `ba hq190
 unfold orT at e1;apply `TI;refine `aZD N40;cases hq:q.1 with
  | true=>apply `TJ;cases e1;exact k H' J
  | false=>apply `TK;apply `yH
theorem PWX.pt(h:PWX X e gt):PTX X e gt:=`amT L2.PW.pt
theorem fo0(hc:PTX X c gt)(ha:`aWI)(hb:`aWJ):`ai8 PSB ifX:=.mk λH₀ B₀ δ pins s σ H D I hq191=>by
 apply `ba hq191
 unfold ifX at e1;apply `TI;apply `aZE;cases hq:q.1 with
  | true=>apply `TJ;apply `yH
  | false=>apply `TK;apply `yH
open T in
theorem O70{op:`hl}{rr:R2}{f:`br}(ho:`f2 op rr)(hf:Op2 X.K rr f)(ha:`cA)(hb:PX X b gx)(hm:`aiT):PTX X `s' (Q8 (ja0 ga gx f)):=.mk λH₀ B₀ δ pins s σ H Q I hq192=>by
 apply `ba hq192
 apply `aY;unfold Q8 ja0 at e1;cases e2:`ex with
 | none=>apply `aj;cases e1
 | some da =>
 rw[e2,`q] at e1
 by_cases hfl:`aZC
 rotate_left
 ·rw[`_ hfl] at e1;cases e1
 rw[`L hfl] at e1;cases e3:`gS with
 | none=>apply `cs;cases e1
 | some q =>
 rw[e3,`q] at e1;cases e4:f da q.1 with
 | none=>rw[e4] at e1;cases e1
 | some d =>
 rw[e4,`ky,`q] at e1;split at e1
 rotate_left
 ·cases e1
 rename_i t hd;have hd:d=.bl t:=hd;subst hd;cases e1;refine gz0 ho `yx `aWK hm `r s σ H Q I #[da,env,e2,λx H1 s1 r1=>#[q,`amS,e3,λy H2 ev=>?_]];apply `al8;refine hf H2 B' x y da q.1 _ _ J.bad (q20 hfl r1) rv e4 `ak!
 rw[U3] at r3;exact#[t,r3,k H3 (ev.s.grow s3)]
universe zz
universe DL
namespace L2
open Spec PyProof.Rows
section
variable{sub:`m0}
def CloseOk.other(c:`tM){b:`e}{u:`s2}(q:H b=u)(n:`aWy):`aZF=u:=by
 apply `aWz
 apply `lf;have hb:`i':=λz=>by
  cases l:`vp with
  | none=>have:=`S5;apply `aV l;cases `x
  | some so=>exact `aWA
 rw[`cz];cases l:`kA with
 | none=>exact q
 | some so=>exact `aWB
universe zz
def FnOk.closing{P:`ai}{w:`Q}{k:Nat}{f:`e}(F:`QC k ps sp) :
  `QC k ps (λvs H Q E=>∃a sub,`tM/\sp vs `tN Q E):=by
 refine #[λvs H Q E #[a,sub,c,q]=>`mQ vs _ Q E q,λA outer s H args us vs Q E hr e hb hv hq193=>?_];let#[a,sub,c,q]:=hq193;have no:∀b,`dj->`aZF=`f:=λb z=>`TL z λso z=>nomatch z
 refine K0 (`xF A `c8 s `tN args us vs Q E hr #[`agY,e.mod,λb o z=>#[(e.bs b o z).1,no b (e.bs b o z).2],e.bsz,e.funs,λb z=>no b (e.frf b z),e.hok.closed `S5 c.at' c.ins,e.bare] hb hv q) `xK
 skip;cases r with
 | error er=>done;exact hq
 | ok fl =>
  cases fl with
  | ret u =>
   let#[v,H',h1,h2,un,h3,h4,h5]:=hq;done;exact#[v,H',h1,h2,#[`amU un.keep,`amU un.slot,`amU un.free,un.there,λb xs e1=>un.tups b xs (`TL e1 `aWC),λb o u e1=>un.frzs b o u (`TL e1 `aWD),λb ps e1=>un.tbls b ps (`TL e1 `aWE)],h3,h4,h5]
  | next=>done;exact hq
  | brk=>done;exact hq
  | cont=>done;exact hq
universe L2
namespace DL
open Spec PyProof.Rows L2
def adopt{H3:Hp}{σ:St}{δ:Ds}{L:`e}{es:`l}{xs:`V}(en:`cx)(b1:`lU)(b2:`lV)(env:`bs)(at':`tQ)
  (hdx:∀C dx fs,`amB->`aZG) (s13:`dc H H3) (hLH:H L=`f) (hL3:H3 L=`I3) (hfl:`Tu) (rx:Rps K H3 B es xs) :
  `aZH/\∃Hc,`aZI/\`iy K Hc `TM/\`jK Hc `TM /\
   AtN K Hc B σ `TM i a `abJ `o2 `Dy/\RpN K Hc B `o2 (`adj) (`vC):=by
 apply `aYs;have c8:∀b∈as,`ahY:=λb hb z=>by
  rcases `Zc b hb with q|q
  ·rw[q,hH] at z;cases z
  ·rw[q.2] at z;cases z
 have La:L∉as:=λz=>c8 L z hLH
 apply `aYv
 have c1:=`qP s13;have J:`aYw=(`s `aur):=`aYx
 have Z:`aYy:=by
  rw[`RN];apply `aYz;rw[`dK hy] at z;exact `aYA
 have a4:`aYB:=`aYC
 have d1:`aYD `Dy `aiE:=λk c so q1 q2=>by
  by_cases hk':k<`hL
  ·rw[`Tz] at q1
   apply `aYE;exact `n `FH
  ·have hl1:=`aYF
   rw[`Z] at hl1;have b3:`amF:=`aYG
   subst b3;rw[`yE,`kG] at q1;rw[`CS,`yE,`kG] at q2;apply `aYH
 have a2:`aaC (`Dy[k]?=`n5):=λk C dx fs e=>by
  by_cases hk':`Ta
  ·rw[`Tz] at e
   exact `aYI
  ·rw[`Dc] at e
   cases q:k - `JK with
   | zero=>rw[q] at e;cases e
   | succ n=>rw[q] at e;cases e
 have cl:`aZH:=q70 a4 Z J (λk c so q1 q2=>by
  skip;rcases d1 k c so q1 q2 with⟨q1,q2⟩|⟨_,rfl,rfl⟩
  ·done;exact `aYJ
  ·done;rw[xu0 La];exact hL3) a2
 obtain⟨Hc,O⟩:∃Hc,`aZI:=`ah;refine#[cl,Hc,O,?_];skip;have ca:Hc a=`c (`og `abI):=`aZJ
 have a5:∀b∈`lA,`aYK:=λb hb n=>by
  rw[O];apply `lf;let#[so,q]:=vt0 J hb Z;rw[`_ n,q]
 have U:`aYL:=λb hb=>by
  rw[O];apply `lf;rw[`Su (b=a) λz=>hb (`k z (C8 a4)),y40 hb,`aYM]
 have but:But a H Hc:=#[λb u n z=>by
  apply `TA
  ·apply `TB
   ·rcases `adm with w|w
    ·exact `G w n
    ·rw[`amV,← w.2,z]
   ·rw[`F',hLH] at z;cases z
  ·rw[`TN];exact s13 _ _ z,λb u xs n z=>by
  apply `TA
  ·rw[`amV] at z;cases z
  ·rw[`TN] at z;exact s13.nf _ _ _ z]
 have gr:Gr H Hc B B:=`BD `tR but;have c4:¬B L:=`F! hLH;have hw:RpW K Hc B `abJ a `o2 `Dy:=by
  refine#[a4,Z,ca,`hK,J,`x2 ?_ (`aa #[xs,rfl,ni0 (ro0 hfl) (v50 hfl rx)] `R),a2]
  ·by_cases n:b=a
   ·exact `n n
   ·refine `p #[?_,`amV]
    apply `TB
    ·exact`aYN
    ·rw[`F'];exact c4
  ·apply `aYO
   intro z;subst e;have c2:=`aYP;subst c2;exact hdx C dx fs q2 (z▸hLH)
 let#[x,mk,a3]:=Wt0 `yy;let#[d0,Y,b0]:=xt0 a3;let#[a',a6,hB,ro]:=`z6 Y;rw[`gn] at a6;cases a6;have a8:`au9=`aZK:=by unfold tw0;rw[a3]
 have a1:`jK Hc (`aZK):=`w? Y `gn but ((`nl b0).2 _ _ _ `aYU);have c3:=`sR b1 b2 Y `gn but a1;done;rw[a8];refine#[c3,a1,#[`gn,hB,Vi0 a3 _,hw],?_];unfold O5;rw[xw0];have a7:`f'=`hL:=`aYW
 exact `aYX a7
def c50(f:Str)(fs:`l):`I:=fs.all λn=>match n with
 | `c3=>`ap (x≠f)
 | _=>`d
def gg0(i:Nat)(c f:Str)(gv:GE):GS:=fun δ=>`aXZ λr=>`a! (`yB/\`dN dv=`d/\`aZL) (`aZM dv δ)
def k80(i:Nat)(c f:Str)(g:GE):GS:=`gw λd=>`gA λns=>(V10 d).bind λes=>`amr λp=>`ams λr=>`a! (`yB/\`Tu/\`aZL) (`aZM `adj `TM)
theorem d70{f:Str}(h:c50 f `X6=`d):f∉nm:=λz=>by
 unfold c50 at h;rw[`kQ] at h;have:=h (`u f) (j0 z);simp at this
theorem j10{f:Str}:∀{nm:`i} {xs:`V},`ec=`ar->f∉nm->`aZN
 | [],[],_,_=>rfl
 | [],`cr,h,_=>by cases h
 | `cr,[],h,_=>by cases h
 | n::nm,`m5,h,hn=>by
  rw[`rZ] at hn;have ih:`aZN:=j10 `i4 λz=>hn `KJ
  show (`o (n=f) _ ((n,x)::`azh))=_;rw[`_ (λz=>hn (`n `rJ)),ih];rfl
def Jl0{σ:St}{s:`w}(I:`A)(w:`Xa X.K H){C:`e}{fs:`h9}(h:`amB):`aZG:=by
 apply `alW `bL w.at';have hm:`aYQ:=by
  refine `aYR;rw[`aYS];exact#[w.hd,h]
 let#[_,w,_]:=(all _ hm).2;rw[w];exact λz=>nomatch z
section
variable{gv g:GE}{f:Str}{F:`i}
theorem oz0(i:Nat)(hv:`amt)(hc:`F6)(hf:`F7)(hN:`dG)(hvis:`eG)(hd:`aQ)(hcd:`dX)
  (hs:`amu):`amv gg0 gv:=.mk λH₀ B₀ δ pins s σ H De I hq194=>by
 skip;apply `gz hq194
 unfold gg0 at e1;apply `aY;done;apply `im;apply `amw;apply `im;skip;apply `Tk;apply `Tl;clear e1;apply `Tm;clear e0;cases `Tn;apply `To
 done;apply `Tp
 skip;split at e1
 rotate_left
 ·cases e1
 rename_i hq;let#[a2,hn,a3,O]:=hq;subst a2;cases e1;apply `Tq;done;apply `aX0;skip;have J:=`il;apply `amx;apply `aX1;apply `F8;done;apply `aX2
 ·apply `BY
  rw[`S] at O;exact O
 ·rw[j10 hl (d70 a3)]
  let#[Z,z1,z2]:=`Tr b1 b2 env s1 at' `Lk Y (n':=`aZO [dv]) (so':=`aZP v1) #[C,U,`MF,xs++[v1],rfl,`aZQ,`aZR,hC,a1,`Th `JT (lb0 (az0 hn) r1)] `Ts (d:=`y) (v:=`y) `pg;apply `Tt
theorem p00(i:Nat)(hv:PDF X `g2 g)(hc:`F6)(hf:`F7)(hN:`dG)(hvis:`eG)(hd:`aQ)(hcd:`dX)
  (hs:`amu):`amv k80 g:=.mk λH₀ B₀ δ pins s σ H De I hq195=>by
 skip;apply `gz hq195
 unfold k80 at e1;apply `aY;done;apply `im;let#[d,e2,e1]:=e1;apply `im;skip;apply `Tk;let#[es,w2,e0]:=K7 e1;clear e1;have e1:=e0;clear e0;cases ax0 w2;apply `Tl;clear e1;apply `Tm;clear e0;cases `Tn;apply `To
 done;apply `Tp
 skip;split at e1
 rotate_left
 ·cases e1
 rename_i hq;let#[a4,hn,a6,O]:=hq;subst a4;cases e1;apply `Tq;done;refine `adi (b60 `adg (J5 (U9 `adh)) hs) #[a,`l_,env,e2,λp H1 hp s1 ro=>?_];skip;let#[ys,o1,ry]:=ro;let#[cl,Hc,a3,a5,a1,J,rn]:=adopt (es:=es) en b1 b2 env at' (λC dx fs h=>Jl0 I at'.w h) s1 hp o1 hn (v50 hn ry);done;refine#[a,`bL,(`il).w.openOk,a,_,cl,?_];rw[← a3];skip;apply `amx;let#[C,U,nm,xs,rfl,rfl,hl,hC,a2,rx]:=`Mx;apply `F8;done;refine#[`bZ,`gn,a,_,`mB,a,C,U,_,rfl,`aBI,q1,`Oe,?_,?_]
 ·apply `BY
  rw[`S] at O;exact O
 ·rw[j10 hl (d70 a6)]
  let#[Z,z1,z2]:=a5.setN b1 b2 a1 `w_ J `Lk Y (n':=`aZO [O5 (`s (`dU [`amW,`TO,`ev]::`aR))]) (so':=`aZP `fW) #[C,U,`MF,xs++[`fW],rfl,`aZQ,`aZR,hC,a2,`Th `JT rn] `Ts (d:=`y) (v:=`y) `pg;apply `Tt
universe zz
def Vh0(c:Str):D:=`C [`uS,`aZS]
def k00(j:Nat)(c:Str)(f:`a_):GS:=fun δ=>match f (Vh0 c) [] with
 | `c (`y,`Be)=>`ay (`g_ j `aW')
 | _=>`f
section
variable{p:Pos}
open T in
theorem Rj0(j:Nat){k:Nat}{C:`e}{f:`a_}(nd:`ej)(M:Mk X.K C fa)(F:`IL CX0 fa (spB X.K 0 f))(hb:`aNq)(hC:`Mp)(hr:`yC)(hk:k+1<=n)(hm:`cE c=`Ac)(hg:`aZT)
  (hi:`p5) (hy:`k9) (hdb:`aZU)
  (hf:`ju) {spos:Pos} (hsw':`aZV) :
  `aZW:=.mk λH₀ B₀ δ pins s σ H De I hq196=>by
 apply `gz hq196
 unfold k00 at e1;apply `aY;split at e1
 rotate_left
 ·cases e1
 rename_i xx ns hq;cases e1;refine Zk0 nd hi hy (P20 (E:=E0) M F.closing `jD hg hm hb `R nc0 hdb) hsw' hf `r s σ H De I λx dx hx Z Y=>?_
 obtain⟨H1,J⟩:∃H1,H1=`aIH:=`ah;rw[← J];have a2:H1 x=`c `aZX:=by rw[J,j8]
 have cl:`iG H1 x `amX:=q70 rfl (`adl) rfl (λk c so e1 e2=>by
  match k with
  | 0=>cases e1;cases e2;exact a2
  | k+1=>simp at e1) (λk C dx fs e=>by
  match k with
  | 0=>rfl
  | k+1=>simp at e)
 obtain⟨Hc,O⟩:∃Hc,Hc=`gI H1 x `amX:=`ah;refine#[x,_,cl,?_];rw[← O];have cx:Hc x=`c (`og `amX):=`aZJ
 have U:∀b,`xe->Hc b=H1 b:=λb hb=>by
  rw[O];apply `lf;rw[`cz,y40 (`k `aPN hb)]
 have sm:`dc H Hc:=#[λb o z=>by
  have n1:`xe:=V5 z hx;rw[U b n1,J,m7 n1,m7 (V5 z Z)];exact z,λb o xs z=>by
  by_cases n1:b=x
  ·rw[n1,cx] at z;cases z
  rw[U b n1,J,m7 n1] at z
  by_cases n2:b=dx
  ·rw[n2,j8] at z;cases z
  rw[m7 n2] at z;exact z]
 have a3:¬B x:=`F! hx;have w:RpW X.K Hc (`aZY) [`aZS] x [x] `aBP:=by
  refine#[rfl,`adl,cx,λb hb=>`n (L7.mp hb),rfl,`aa #[C,dx,[],[],rfl,rfl,rfl,hC,λz=>Y `TP,`amI] `R,λk C dx fs e=>by
   match k with
   | 0=>rfl
   | k+1=>simp at e]
 refine#[`aZY,[],[],x,Vh0 c,`C (`u xx::ns),`y,`aaZ,`uq,rfl,`bw,`k6,#["",_,rfl,_,_,w],hq,λv H' but rg rv=>#[by rw[R3] at rv;exact rv,kk _ _ ?_]]
 ·rcases z with z|z
  ·exact(`yD b z).same sm
  ·rw[z];exact .of cx (λ_ _ q=>nomatch q) λ_ q=>nomatch q
 ·have a1:`be:=#[λb o z=>but b o (V5 z hx) (sm b o z),λb o xs z=>by
   by_cases n1:b=x
   ·rw[n1] at z;exact `G z (rg.plain o xs)
   ·exact sm.nf b o xs (but.nf b o xs n1 z)]
  exact en.takeL b1 b2 env j hx a1 rg.toL
universe zz
def Vo0(K:`z)(C:`e)(F:`i):`I:=`aH0&&W.hasDictIn K C&&`axD&&(match `avW with
 | `c (`c (`cn s))=>s == `_u
 | _=>`m)&&F.all (λf=>match `auY with
 | `gZ=>`d
 | _=>`m)&&`avX&&`ag1
open T in
def z30{C:`e}{F:`i}(h:`aZZ):`st/\(∀f∈F,`xB)/\`agL/\`ag1=`d:=by
 unfold Vo0 at h;simp only[`bd] at h;let#[#[#[#[#[#[h1,h2],h3],h4],h5],h6],h7]:=h;refine#[#[h1,h2,h3,?_],λf hf=>?_,h6,h7]
 ·split at h4
  ·rename_i s e
   rw[e,`P! h4]
  ·cases h4
 ·have:=x3.mp h5 f hf
  split at this
  ·rename_i e;exact e
  ·cases `x
theorem Lx0{C:`e}{F:`i}(a:`kj)(h:`aZZ):ClsN K c F:=#[λC' e=>by
 rw[a] at e;cases e;exact#[(z30 h).1,(z30 h).2.1]]
structure FnI(P:`ai)(w:`Q)(K:`z)(mg:`a3)(base:`D)(c:Str)(k:Nat)(ps:`i)(f:`a_):Prop where
 ex:∃C fa fd,`aYd/\`kj/\Mk K C fa/\`AX/\`aDN
section
variable{p:Pos}
def Tq0(j:Nat){k:Nat}{f:`a_}(nd:`ej)(M:`L8 FnI c)(hr:`yC)(hk:k+1<=n)(hg:`aZT)
  (hi:`p5) (hy:`k9) (hdb:`aZU) {spos:Pos}
  (hsw:`aZV)
  (hf:`ju) :
  `aZW:=by
 skip;let#[C,fa,fd,F,hC,mk,hb,hm]:=M.ex;done;exact Rj0 j nd mk F hb hC hr hk hm hg hi hy hdb (hf:=hf) (hsw':=hsw)
universe zz
universe DL
namespace DL
open Spec PyProof.Rows L2
def atC(ys:`i):`zO
 | `bD=>`aZ_ `fm
 | _=>`f
section
variable{a0 ix:`J}{gi gb:GE}{gA:GA}{posg p pg p5 rp:Pos}
def Qe0(ys:`i)(i:Int):`ZJ `Cw i=`aZ_ `Bb:=by
 unfold L2.atI;rw[`S];cases L2.ixN `fs i with
 | none=>rfl
 | some j=>simp
open T in
theorem It0{ys:`i}(hK:`aV9)(hb:`dr)(hg:`fR)(hd:`aQ)(hs:`Q?) :
  PD X (`lS `Mq b pos) (unG (atC ys) gb):=.mk λB δ=>by
 let#[p,o,its,n,hm,hk,hc,U,J,O,hv]:=hK;refine (V20 ay0 `aV! `e' hs).imp fun σ H Q hq197=>?_;apply `bG hq197
 unfold unG at h;cases e2:`fy with
 | none=>rw[e2] at h;cases h
 | some dk =>
  rw[e2,`q] at h;unfold atC at h;split at h
  ·rename_i i
   cases e3:`azk with
   | none=>rw[e3] at h;cases h
   | some y =>
    rw[e3] at h;cases h;refine#[_,en,e2,`Cy];rw[Z6] at r1;subst r1;exact#[p,`XT,i,`ok,rfl,rfl,`aV? O,`dl Qe0 e3,k _ H1 s1 `JL]
  ·cases h
universe zz
def zr0{α:Type}(xs:`a6)(lo hi st:`aP):`a6:=(`amY `amZ `amZ `amZ).filterMap `awj
theorem bm0(r:`bC):∀l:`h,`k3 (`KM (ds[·]?)) (`am_)
 | []=>by rw[`aZ0,`aZ0,d7]
 | i::l=>by
  have ih:=bm0 r l;cases e:ds[i]? with
  | none =>
   have e2:`aa!:=r9.mpr (`k `cd (r9.mp e));rw[`TQ e,`TQ e2];exact ih
  | some d =>
   let#[x,ex,rx]:=`pM e;rw[`Gb e,`Gb ex,j7];exact`k0 rx ih
theorem d30(r:`ei):∀l:`h,`bU (`am_) (`KM (us[·]?))
 | []=>`R
 | i::l=>by
  have ih:=d30 r l;cases e:`Xs with
  | none =>
   rw[`TQ e,`TQ (r.none_of e)];exact ih
  | some d =>
   let#[u,eu,ru]:=`pM e;rw[`Gb e,`Gb eu];exact `aa ru ih
section
variable{lo hi st:`rk}{tl th ts:TO}
def Gi0(K:`z)(te:TE)(tl th ts:TO):TE:=`bm te (`ta tl λl H2=>th σ H2 λu H3=>ts σ H3 λc H4=>∃a xs,`ek/\SqL K H4 a xs/\c≠`c 0/\`m6 (H4 p=`f) H4 (`aZ1))
def Mc0(he:`gr)(hl:PO X lo tl)(hu:PO X hi th)(hst:PO X st ts)(hsub:`aZ2):PE X `aZ3 (Gi0 X.K te tl th ts):=by
 apply `bh;refine `Qb (thn `kU λv s1 hq198=>?_);apply `gq hq198;refine `aJD (thn `aJE λvl s2 hq199=>?_);let#[l,H2,I2,pl,q2]:=hq199;refine thn `aJF λvu s3 hq200=>?_;let#[u,H3,I3,pu,q3]:=hq200;refine thn (hst `r s3 σ H3 _ I3 q3) λvc s4 hq201=>?_;skip;let#[c,H4,I4,pc,a,xs,ex,hx,hc,q]:=hq201;subst ex;cases r1;have I5:`a0 H4 `aZ4:=I4.kept (t':=s4.toks) `YH
 let#[its,r,ht,hz]:=I5.list hx;have O:=`cd;have hg:`pB (`oO `cu (`aZ5)) `fE `aZ4:=by
  refine C80 ht.isList `aJG pl pu pc hc ?_ `ahq;refine#[`X _,_,I5.laid (t':=s4.toks) (o:=`aZ1) `aZ6 `bF ?_,rfl,q _ (I5.hok.fresh `bF)];have hp:slicePick `b4 l u c=(`hW `TR):=by
   unfold slicePick zr0;simp
  have U:(`s `TR)<=`sh:=by
   have:=slicePick_size_le `b4 l u c;apply `aV hp
   apply `Db
  have J:`bU `abL (`TR):=by
   unfold zr0;rw[O];exact d30 r _
  exact#[`cH J.length,`TR,0,J,`k hp `gY]
 done;exact `ahc (ops:=[`bZ,`aZ5]) `aJ? `ahp hg (hsub _ _)
def c60(g:GE)(gl gh gs:`xT):GE:=fun δ=>`k? λd=>`aPD λlo=>`aPE λhi=>(gs δ).bind λc=>match d with
 | `dv=>`a! (c≠`c 0) (`t (zr0 xs lo hi c))
 | _=>`f
open T in
theorem Xs0{g:GE}{gl gh gs:`xT}(he:`db)(hl:`aR_)(hh:`aR0)(hs:PDO X st gs)(hsub:`aZ2) :
  PD X `aZ3 (c60 g gl gh gs):=.mk λB δ=>(Mc0 (he B δ) (hl B δ) (hh B δ) (hs B δ) hsub).imp fun σ H Q hq202=>by
 apply `bG hq202
 unfold c60 at h;cases e1:`ax with
 | none=>rw[e1] at h;cases h
 | some x =>
  rw[e1,`q] at h;cases e2:gl δ with
  | none=>rw[e2] at h;cases h
  | some l =>
   rw[e2,`q] at h;cases e3:`CA with
   | none=>rw[e3] at h;cases h
   | some u =>
    rw[e3,`q] at h;cases e4:gs δ with
    | none=>rw[e4] at h;cases h
    | some c =>
     rw[e4,`q] at h;split at h
     ·rename_i xs
      split at h
      ·rename_i hc
       cases h;refine`Ra _ (`aR1 `aZx #[c,`fY (`tJ),(`ac1 e4),λH4 s4=>?_]);have r4:=((`rj).same s3).same s4;rw[S7] at r4;let#[a,ys,rfl,hq,rr]:=r4;have J:=(`tJ).trans s4;refine#[a,ys,rfl,`pY,hc,`wZ (J.trans `gh) ?_];rw[S7];apply `lc p _ (`n #[(`fY J).free hp,`aiZ]);have:Rps X.K H4 B `abL (zr0 ys l u c):=by
        unfold zr0;rw[`L7];exact bm0 rr _
       exact this.same `gh
      ·cases h
     ·cases h
universe zz
universe DL
namespace Bt
open DL W
section
def zf0:GS:=(v9 (ifD `aZ7
 (v9 `aZ8
 t7)
 t7)
 (v9 `TS
 t7))
def xl0:`i:=`wR
def W0:`U:=`aZ9
def vo0:GS:=(v9 (Z8 `cL (gc (`u `aZ')))
 (v9 (Z8 `kM `tS)
 (v9 (rc0 (ys0 (z7 `n_ v8)) `pj
 (v9 `aZ!
 t7))
 (v9 (Z8 `DE (o2 `TT `Og o8))
 (v9 (wj0 6 `IC)
 (v9 (rc0 (ys0 `e4) (gN 7)
 (v9 `aZ?
 (v9 `a_a
 (v9 (ifD `TU
 (v9 `a_b
 t7)
 (v9 (ifD `am0
 (v9 `a_c
 t7)
 (v9 `a_d
 t7))
 t7))
 t7))))
 (v9 (mm0 6)
 t7)))))))
def qq0:`i:=(`a_e `a_f)
def y50:`U:=mkN 2 qq0 vo0
def wo0:GS:=(v9 (ifD `a_g
 (v9 (X6 (`mS (o2 (o2 `aJ (`mT (`DI `a_h)) o8) `a_h zb0)))
 t7)
 t7)
 (v9 (ifD `TU
 (v9 (X6 (`fI (`fI `TT 300 o8) 150 zb0))
 t7)
 t7)
 (v9 (ifD `am0
 (v9 (X6 (`fI (`fI `TT 40001 o8) 20000 zb0))
 t7)
 t7)
 (v9 (X6 (`mS (o2 (o2 `TT (`mT (`DI `a_i)) o8) `a_i zb0)))
 t7))))
def rb0:`i:=`Gc
def zs0:`U:=mkF 2 rb0 wo0
def u40:GSB:=(o6 (Z2 (Z8 `Oh (dgO 0 `pk)))
 (o6 (Z2 (yi0 (V4 `adt) (putL 0 `pk)))
 (o6 (`o6 (dgO 0 `aB'))
 (o6 (ifB `a_j
 (o6 `a_k
 `P)
 `P)
 (o6 `a_l
 `P)))))
def pm0:`i:=`a_m
def R4:`a_:=mkB 1 pm0 0 u40
def vb0:GSB:=(o6 `am1
 (o6 (ifB `a_n
 (o6 (S5 (V4 `kN))
 `P)
 `P)
 (o6 (ifB (ob (o2 `DB `iP ltD))
 (o6 (S5 (V4 (oA (`eg `Ox `au') zs0)))
 `P)
 `P)
 (o6 (`TV (`eg `pk (o2 `Ox (dgO 0 `adu) o8)))
 `P))))
def t70:`i:=`a_o
def O1:`a_:=mkB 1 t70 0 vb0
def u70:GSB:=(o6 (`o6 (gc (`u `am2)))
 (o6 (Z2 (yi0 `aB_ `kM))
 (o6 (S5 (V4 (nk0 `tS (z7 (K9 1 [2,3] (ys0 `e4) `dD noT (o2 `ak (o2 (o2 `a_p `adV m8) `aDb o8) ixD)) v8))))
 `P)))
def s90:`i:=[`ls, `Jj, `a_f, `gT]
def zw0:`a_:=mkB 2 s90 0 u70
def wu0:GSB:=(o6 `am1
 (o6 `a_q
 (o6 (Z2 (ifD `TW
 (v9 `TX
 t7)
 t7))
 (o6 (ifB `a_r
 (o6 (S5 (Z00 `IV (K4 0 (z7 (`fI `DC 21 o8) v8) zw0)))
 `P)
 `P)
 (o6 `a_s
 (o6 (ifB `am3
 (o6 (`TV (`eg `Jr (oA `mU ss0)))
 `P)
 `P)
 (o6 `a_t
 (o6 `a_u
 (o6 `a_v
 (o6 (ifB `a_w
 (o6 (`TV (z7 `adA `am4))
 `P)
 `P)
 (o6 (`TV (z7 `adw (z7 (o2 `go (o2 (`fI `ak 300 j4) `ads o8) ixD) `am4)))
 `P)))))))))))
def xb0:`i:=`a_x
def M9:`a_:=mkB 1 xb0 0 wu0
def tc0:GS:=(v9 (Z8 `cL (`Ny `e4))
 (v9 (wj0 3 (is0 `a_y))
 (v9 (`a_z `aT `n_)
 (v9 (ifD (ob (dgO 3 `adp))
 (v9 (`a_z (`rI `aBU) `MI)
 t7)
 t7)
 (v9 (yi0 (V4 (oA (`eg (o2 (`fI `aT 11 j4) (o2 (`fI `a_A 30 qa0) `aBV m8) o8) (o2 `a_B `a_C ixD)) y50)) (`DF 3 `aB5))
 (v9 (ap0 (cm0 ss0 (v10 1 [3] 3 1 (ys0 (z7 (dgO 3 `adu) v8)) `dD `am5)))
 t7))))))
def rl0:`i:=`a_D
def zv0:`U:=mkF 2 rl0 tc0
universe zz
universe Bt
namespace Rk
open DL W
open Bt (zf0 W0 vo0 y50 u40 R4 wo0 zs0 vb0 O1 u70 zw0 wu0 M9 tc0 zv0)
section
def xl0:`i:=`wR
def qq0:`i:=(`a_e `acF)
def pm0:`i:=`a_m
def rb0:`i:=`Gc
def t70:`i:=`a_o
def s90:`i:=[`ls, `Jj, `acF, `gT]
def xb0:`i:=`a_x
def rl0:`i:=`a_D
abbrev o4:`i:=[`sW, `jP, `up, `q1, `uv, `lL, `hS, `pl]
def w70:GS:=(v9 (ifD `tT
 (v9 `tU
 t7)
 t7)
 (v9 (ifD `TY
 (v9 `am6
 t7)
 t7)
 (v9 `Gd
 (v9 (ifD `am7
 (v9 `am8
 t7)
 t7)
 (v9 (rc0 `Ge `cL
 (v9 `TZ
 t7))
 (v9 `Gf
 t7))))))
def w40:`i:=`am9
def J3:`U:=`am'
def ow0:GS:=(v9 `a_E
 t7)
def to0:`i:=`kJ
def zi0:`U:=`a_F
def tq0:GS:=(v9 (ifD `am!
 (v9 `am?
 t7)
 t7)
 (v9 `ana
 t7))
def s50:`i:=`hd
def v90:`U:=`anb
def t00:GS:=(v9 (ifD `a_G
 (v9 `TS
 t7)
 t7)
 (v9 (ifD (ob `DH)
 (v9 `a_H
 t7)
 t7)
 (v9 `a_I
 t7)))
def th0:`i:=`kJ
def zo0:`U:=`a_J
def zz0:GS:=(v9 `anc
 (v9 `and
 (v9 (J4 `T_
 (v9 `T0
 (v9 `T1
 t7)) 100000)
 (v9 `ane
 t7))))
def y00:`i:=`anf
def U0:`U:=`ang
def xm0:GS:=(v9 `anh
 t7)
def y80:`i:=`wP
def P0:`U:=`ani
def tg0:GS:=(v9 (ifD `a_K
 (v9 `a_L
 t7)
 t7)
 (v9 `a_M
 t7))
def t50:`i:=`Gg
def xn0:`U:=`a_N
def yo0:GS:=(v9 `anj
 t7)
def yn0:`i:=`el
def z60:`U:=`ank
def xo0:GS:=(v9 (ifD `tT
 (v9 `anl
 t7)
 t7)
 (v9 `tU
 t7))
def xx0:`i:=`el
def zk0:`U:=`anm
def uy0:GS:=(v9 (ifD `ann
 (v9 `a_O
 t7)
 t7)
 (v9 (ifD `a_P
 (v9 `a_Q
 (v9 `a_R
 t7))
 t7)
 (v9 `a_S
 t7)))
def t80:`i:=`a_T
def zl0:`U:=`a_U
def ju0:GS:=(v9 `Gd
 (v9 `a_V
 (v9 `a_W
 (v9 `a_X
 (v9 (J4 `ano
 (v9 `anp
 (v9 `anq
 (v9 (ifD `anr
 (v9 `ans
 t7)
 (v9 (ifD `ant
 (v9 `anu
 (v9 `anv
 t7))
 t7)
 t7))
 t7))) 100000)
 (v9 `Gf
 t7))))))
def if0:`i:=`a_Y
def sn0:`U:=`a_Z
def rg0:GSB:=(o6 (`anw `sW)
 (o6 (`anx `jP)
 (o6 (`anx `up)
 (o6 (`anx `q1)
 (o6 (Z2 (k80 0 `aZ `uv (`T2 `any)))
 (o6 (`anw `lL)
 (o6 (`anw `hS)
 (o6 (Z2 (gg0 0 `aZ `pl `tS))
 `P))))))))
def rf0:`i:=`fT
def z50:`a_:=mkB 1 rf0 0 rg0
def va0:GSB:=(o6 (Z2 (J4 `a__
 (v9 `abN
 (v9 (popS 0 `je)
 t7)) 100000))
 `P)
def se0:`i:=`fT
def J8:`a_:=mkB 1 se0 0 va0
def ug0:GSB:=(o6 (S5 (V4 (orG (`Ok `Ll) (o2 `a_0 `a_1 leD))))
 `P)
def qo0:`i:=`Gh
def J7:`a_:=mkB 2 qo0 0 ug0
def ra0:GSB:=(o6 (ifB (ob `a_2)
 (o6 (`nn (qn0 0 `a_3 `ak))
 `P)
 `P)
 (o6 `a_4
 (o6 `a_5
 `P)))
def no0:`i:=`Gi
def W6:`a_:=mkB 2 no0 0 ra0
def kr0:GS:=(v9 (ifD `anz
 (v9 (X6 `aCv)
 t7)
 t7)
 (v9 (X6 `aBR)
 t7))
def kh0:`i:=`T3
def wt0:`U:=mkF 1 kh0 kr0
def px0:GS:=(v9 (ifD `anz
 (v9 (X6 (o2 (`T2 (gc (`u `o5))) `ak mulL))
 t7)
 t7)
 (v9 (ifD `a_6
 (v9 (X6 (o2 (U7 `aCx) `ak mulL))
 t7)
 t7)
 (v9 (ifD `a_7
 (v9 (X6 `a_8)
 t7)
 t7)
 (v9 (X6 (o2 (`T2 (gc (`u "class"))) `a_8 m8))
 t7))))
def o30:`i:=`T4
def vq0:`U:=mkF 2 o30 px0
def yd0:GSB:=(o6 (ifB (z90 (ob `anA) (ob `anB))
 (o6 `hq
 `P)
 `P)
 (o6 (`nn (`dV `a_9 W6))
 (o6 (qh0 0 3 `ak `ru `je)
 (o6 (`nn (qn0 0 `jT `aCu))
 (o6 (`nn (cv0 0 `jT (`p' (oA `adx vq0) pp0)))
 (o6 `tV
 `P))))))
def ti0:`i:=[`c_, `Az, `X!, `zP]
def R7:`a_:=mkB 3 ti0 0 yd0
def gc0:GS:=(v9 (ifD (ob `a_')
 (v9 (X6 (`mT (unG O2 `T5)))
 t7)
 t7)
 (v9 (X6 `T5)
 t7))
def il0:`i:=`hd
def rr0:`U:=mkF 1 il0 gc0
def J0:GSB:=(o6 (`o6 `DC)
 (o6 (ifB (`hN `DD `g0)
 (o6 (S5 (`dV (`eg (unG (atC `K4) (o2 `aT `iP o8)) (`rI `iP)) R7))
 `P)
 `P)
 (o6 (ifB (`hN `MJ `any)
 (o6 `hq
 `P)
 `P)
 (o6 (ifB `am3
 (o6 (`nn (`dV (z7 (oA `d9 rr0) v8) W6))
 `P)
 (o6 (ifB (vw0 `a_w (ob (o2 `aT `Om ltD)))
 (o6 (`nn (`dV (z7 (yk0 (`eg `pk (o2 (`mT `Om) `aT zb0))) v8) W6))
 `P)
 (o6 (ifB (`hN `ak `c5)
 (o6 (`nn (`dV (z7 `kN v8) W6))
 `P)
 (o6 `hq
 `P))
 `P))
 `P))
 (o6 `tV
 `P)))))
def tl0:`i:=[`c_, `zR, "rest"]
def V8:`a_:=mkB 2 tl0 0 J0
def z10:GSB:=(o6 (`o6 (o2 (o2 (plN `a_!) `iX V9) (`Af `iX) m8))
 (o6 (ifB (ob (o2 `ak `iX ltD))
 (o6 (S5 (`dV `d9 V8))
 `P)
 `P)
 (o6 (ifX (orT (liftT `ab_) (wb0 `azL))
 (o6 `hq
 `P)
 `P)
 (o6 (`T6 `lL `aT)
 (o6 `tV
 `P)))))
def t10:`i:=[`c_, `qC, `zR]
def T6:`a_:=mkB 2 t10 0 z10
def eh0:GS:=(v9 (Z8 `kM `cG)
 (v9 (rc0 (ys0 (z7 (o2 `ak `w5 zb0) v8)) `pj
 (v9 `a_?
 t7))
 (v9 (X6 (o2 (`p' (K9 1 [1,2] (Vc0 `aJ) `dD (`a0a) `aJ) T3) `nM ltD))
 t7)))
def m80:`i:=[`q1, `hS, `Zm, "most", "place"]
def yv0:`U:=mkF 3 m80 eh0
def e40:GS:=(v9 (rc0 (ku0 `ak) `cL
 (v9 (ifD `a0b
 (v9 `a0c
 t7)
 t7)
 t7))
 (v9 (X6 `kN)
 t7))
def e20:`i:=[`qC, `XJ, `o5]
def vf0:`U:=mkF 2 e20 e40
def N6:GSB:=(o6 `a0d
 (o6 (ifB `a0e
 (o6 `hq
 `P)
 `P)
 (o6 `a0f
 (o6 (ifB (ob `a0g)
 (o6 (Z2 (Z3 `a0h))
 (o6 (`nn (`dV `aCD W6))
 (o6 (`T6 `hS `c5)
 (o6 (`T6 `pl `tS)
 `P))))
 `P)
 (o6 `tV
 `P)))))
def up0:`i:=`a0i
def U8:`a_:=mkB 2 up0 0 N6
def l90:GS:=(v9 (X6 (oA (`eg (c60 `aJ (`fu `c5) Q9 `a0j) (c60 `aJ `a0k Q9 `a0j)) Wb0))
 t7)
def m30:`i:=`T7
def vj0:`U:=mkF 1 m30 l90
def kn0:GS:=(v9 (ifD `anz
 (v9 (X6 (yk0 (`eg `IV (nk0 `tS `e4))))
 t7)
 t7)
 (v9 (ifD `a_6
 (v9 (X6 (yk0 (`eg `Jr (oA `e4 ss0))))
 t7)
 t7)
 (v9 (ifD `a_7
 (v9 (X6 (yk0 (`eg `adA (oA `e4 vj0))))
 t7)
 t7)
 (v9 (X6 (yk0 (z7 `adw (`eg `aCE (`p' (K3 `ak `a0k Q9) vj0)))))
 t7))))
def kk0:`i:=`NL
def K1:`U:=mkF 2 kk0 kn0
def mo0:GS:=(v9 (ifD (z90 `tT `TY)
 (v9 `tU
 t7)
 t7)
 (v9 (M6 (K9 1 [] `Ge `dD noT `re))
 t7))
def J2:`i:=`el
def vc0:`U:=mkN 1 J2 mo0
def yf0:GSB:=(c30 0 1 `adz (oA `a0l vc0))
def tj0:`i:=[`c_, `zP]
def O4:`a_:=mkB 1 tj0 0 yf0
def O7:GSB:=(o6 (ifB (ob (o2 `ak `adF geD))
 (o6 `hq
 `P)
 `P)
 (o6 (`o6 (plN (J1 0 `wB (o2 (`mT `adF) `ak zb0))))
 (o6 (ifX (Zf0 (liftT `azW) (Q8 `azX))
 (o6 `hq
 `P)
 `P)
 (o6 `a0m
 (o6 `tV
 `P)))))
def v00:`i:=[`c_, "behind", `u?]
def W3:`a_:=mkB 2 v00 0 O7
def S9:GSB:=(o6 (ifB (`hN (`Af `hO) `c5)
 (o6 (S5 (`dV (z7 `a0n v8) W3))
 `P)
 `P)
 (o6 (`o6 `a0n)
 (o6 (ifB (z90 `ab_ (z90 (ob `anC) (ob `anD)))
 (o6 `hq
 `P)
 `P)
 (o6 (ifB (zp0 (ob (`adE (`eg `aT `tS))))
 (o6 `hq
 `P)
 `P)
 (o6 (`T6 `hS `aT)
 (o6 `tV
 `P))))))
def wr0:`i:=[`c_, `qC, `hS]
def Y0:`a_:=mkB 2 wr0 0 S9
def yg0:GSB:=(o6 (`o6 (oA (`eg `ak (gc (`azN))) vf0))
 (o6 (ifB `aCC
 (o6 `hq
 `P)
 `P)
 (o6 `a0m
 (o6 `tV
 `P))))
def tm0:`i:=`a0i
def O3:`a_:=mkB 2 tm0 0 yg0
def ty0:GSB:=(o6 (S5 (V4 (`Js `aCs)))
 `P)
def od0:`i:=`fT
def S8:`a_:=mkB 1 od0 0 ty0
def zy0:GSB:=(o6 (ifX `Nt
 (o6 `hq
 `P)
 `P)
 (o6 `a0o
 (o6 (ifB (z90 (`hN `aT `any) (`hN `aT `Ll))
 (o6 (S5 (`dV `e4 T6))
 `P)
 `P)
 (o6 (ifB (`hN `aT (gc (`u `o5)))
 (o6 (S5 (`dV `e4 O3))
 `P)
 `P)
 (o6 (ifB (ob `a0p)
 (o6 (S5 (`dV `e4 U8))
 `P)
 `P)
 (o6 (S5 (`dV `e4 Y0))
 `P))))))
def o90:`i:=[`c_, `qC, "want"]
def b8:`a_:=mkB 2 o90 0 zy0
def iy0:GS:=(v9 (X6 (pq0 (wh0 isInt `aJ) (Q90 (wh0 `Rz `aJ))))
 t7)
def jo0:`i:=`p!
def vr0:`U:=mkF 1 jo0 iy0
def d40:GS:=(v9 (X6 (pq0 `anE `a0q))
 t7)
def ew0:`i:=`p!
def w80:`U:=mkF 1 ew0 d40
universe zz
universe Rk
namespace W
open DL
def hasAll(x s:Str):`I:=x.cps.toList.all λc=>`ap (c∈`f7)
def nameS:Str := `B_
def c10:Str := `B2
def isName(x:Str):`I:=(`ap (`SL<=8)&&hasAll x nameS)&&`ap (0<`SL)
def isWord(x:Str):`I:=`ap (`SL<=20)&&hasAll x c10
def marks(x:D)(m:Str):`I:=match x with
 | `ok=>`ap (y=m)
 | _=>`m
def fd0:`dZ
 | `y=>`d
 | `cW=>`d
 | `C [x,`bD]=>marks x `c2&&`anF
 | _=>`m
inductive Pt where
 | text (w:Str)|row (vs:`l)|table (ps:`dH)|rcd (c:Str) (ps:`dH)
def pr(p:`uk):D:=`C `a0r
def Pt.d:Pt->D
 | `tW=>`C [`l0,`u w]
 | `tX=>`C [`AG,`C vs]
 | `p?=>`C [`km,`JZ]
 | `T8=>`C [`j!,`mu,`JZ]
def Pt.vals:`anG
 | `T9=>[]
 | `tX=>vs
 | `p?=>`i8
 | `anH=>`i8
def Pt.pnames:Pt->`i
 | `T9=>[]
 | .row _=>[]
 | `p?=>`j7
 | `anH=>`j7
def Pt.cls:Pt->`i
 | .rcd c _=>[c]
 | _=>[]
def Pt.all(p:Pt):`i:=p.pnames++p.cls
def lk:D->`aP
 | `C [_,`bD]=>`rc
 | _=>`f
structure PsOk(ps:`dH):Prop where
 len:`aI<=12
 names:∀p∈ps,`os p.1=`d
 vals:∀p∈ps,fd0 p.2=`d
 nd:(`j7).Nodup
def Pt.Ok:Pt->Prop
 | `tW=>`a0s
 | `tX=>`dz<=12/\∀v∈vs,`anI
 | `p?=>`anJ
 | `T8=>`os c=`d/\`anJ
def U30{n:Str}(h:`os n=`d):`zS<=8:=by
 unfold isName at h;apply `oE `bd `Gj;lia
def Uz0{v:D}(h:`anI):`wX∨(∃i,`E4)∨∃i,v=`a0t/\0<=i:=by
 cases v with
 | non=>exact `lp
 | int i=>exact `p (`n #[i,rfl])
 | tup xs =>
  match xs,h with
  | [x,`bD],h =>
   simp only[fd0,`bd,`Gj] at h;apply `BA x marks
   apply `jt #[i,by rw[h.1],h.2]
 | _=>cases h
def N8:Str := `aZ'
def cg(i:Int):Nat:=`T' `fA 0
def fm0(i:Int)(h0:0<=i)(h1:i<36):ixD (`uw) `fq=`c (`u #[⟨cg i⟩]):=by
 have hl:N8.cps.toList.length=36:=`bb
 have hz:N8.length<=`W:=`bb
 have:=vl0 (xs:=N8.cps.toList) (i:=i) h0 (by rw[hl];omega) 0;simp only[ixD,`L hz,`x,`ky];rfl
def bl0(i:Int)(h0:0<=i)(h1:i<36):cg i∈`I!:=by
 have h:`kH (n<36->`T' n 0∈`I!):=`bb
 exact h `fA `j
def bz0(i j:Int)(h0:0<=i)(h1:i<36)(h2:0<=j)(h3:j<36)(e:cg i=cg j):i=j:=by
 have h:`kH (n<36->∀m:Nat,m<36->`T' n 0=`T' m 0->n=m):=`bb
 have:=h `fA `j `ka `j e;lia
def strOf(l:`h):Str:=#[l.toArray]
def Sp0(l:`h)(h1:0<`bK)(h2:`bK<=8)(h3:∀c∈l,`Gk):`os `uP=`d:=by
 unfold isName hasAll;have e:`a0u:=`a0v
 have e2:`a0w:=`a0x
 rw[e,e2];simp only[`bd,`Gj,`kQ];exact#[`a0y,`F]
def S90{l m:`h}(h:`Ag=`a2 m):l=m:=by
 unfold strOf at h;injection h with h
 simpa using C7 `aAP h
universe W
namespace W
open DL StrLaws Builtin.Str
def wl0(l:`h):`a0w:=`a0x
def zm0(l:`h):`a0u:=`a0v
def qx0(sep:`h):`io->`h
 | []=>[]
 | [p]=>p
 | p::q::r=>`a0z
universe W
namespace Rm
open DL W PySem.StrLaws
inductive Want where
 | root|value|sign|name|cls|fin
 deriving DecidableEq
variable{ws:`a0A}
structure RS where
 count:Nat
 begun:`tY
 un:`h
 names:`io
 wait:`N
 digits:Int
 length:Nat
 spelled:`h
variable{S' S1:Rm.RS}
def start:RS:=#[0,[],[],[],`Gl,0,0,[]]
def Y7:`h:=`yI 10 (48+·)++`yI 26 (97+·)
def M4:`h:=32::Y7
def RS.hold(S:RS)(d:D):RS:=(`a0B (match `aH with|[]=>`ca|k::_=>`mI) `jg)
def wanted:Nat->Nat->`N
 | 0,n=>`a0C
 | 1,n=>`a0D
 | 2,n=>`anK
 | _,n=>.cls::`anK
def link(k:Nat):D:=`C `a0E
def RS.part(S:RS)(kind:Nat)(size:Int):`no :=
 if size > (`o (kind=0) 20 12)∨`M5 then `f
 else
  let S1:=`on
  `c { S1 with begun:=`pa++[(kind,[])],un:=`M?::`sE,wait:=`qQ kind size.toNat++`a8::`jc }
def w00(n:Int):Int:=if n%2=1 then -(n/2) - 1 else n/2
def RS.head(S:RS)(n:Int):`no :=
 if n%4=3 then `acj `a0F (n/4/4)
 else if `rq=`c `gK then `f
 else if n%4=1 then `c (`hw (`g (w00 (n/4))))
 else if `a0G then `c (`hw (link (`_O n)))
 else `o (n=0) (`c `aCL) `f
def RS.digit(S:RS)(b:Nat):`no :=
 let n:=`Nm
 if `fJ then S.head n
 else if n=0∨`a0H n then `f
 else `c `a0I
def left(names:`io)(len:Nat)(pre:`h):`I:=`ap ((`s (`_f len `KQ))<36 ^ (len - `fx))
def pairsOf:`l->`TH
 | `LR=>`anL
 | _=>[]
def R0(p:`d8):`l:=match p.1 with
 | 2=>`a0J `cD
 | 3=>`a0K `cD
 | _=>[]
def m9(l:`h):D:=`sy
def RS.known(S:RS)(k:Nat)(inHere:`T!):`no :=
 if `fl<=k then `f
 else
  let n:=m9 (`anM (`T?) [])
  `o (`rq=`c `fn/\inHere n (R0 (`a0L))=`d) `f (`c (`hw n))
def RS.number(S:RS)(b:Nat)(inHere:`T!):`no :=
 if b%2=0 then S.known `ow inHere
 else if `anN then `f
 else `c (`KR (b/2))
def RS.letter(S:RS)(b:Nat):`no :=
 if `Ua then `f
 else if `Gm then
  `c (`a0M (((`C4 `Gn):RS).hold (`anO)))
 else `c `BI
def RS.takes(S:RS)(b:Nat)(inHere:`T!):`no:=match `rq with
 | `f=>`f
 | `c `gK=>`Ub
 | `c `b_=>`Ub
 | `c `cM=>`anP
 | _=>`o `Os `adS (S.number b inHere)
def Q4:`N->`h->`N×`h
 | `a8::w,_::u=>`Jh
 | w,u=>(w,u)
def RS.ends(S:RS):RS:=(`anQ (`Go).1 (`Go).2)
def eqS:`T!
 | `c3,l=>l.any λd=>match d with|`ok=>`Cj|_=>`m
 | _,_=>`m
def codes:`l->`h
 | `c3::r=>`aV0++`lW r
 | _=>[]
def made(p:`d8):D:=match p.1 with
 | 0=>`C [`l0,m9 (`lW p.2)]
 | 1=>`C [`AG,`C p.2]
 | 2=>`C [`km,`C (`a0J `r2)]
 | _=>`C [`j!,p.2.headD `y,`C (`a0K `r2)]
universe Rm
variable{ws:`a0A}{S' S1:Rm.RS}
namespace Bt
open DL W
theorem X5{G:GSB}{b:D}{r:D}(hl:`nj)(h:∀p,`yr `md (`c `al5)):`al9:=cw0 hl λp=>`n (h p)
def n6{G1 G2:GSB}{δ:Ds}{r:`tO}(h:`ais)(k:`RM):`a0N=r:=by unfold o6;rw[h];exact k
def c7{G1 G2:GSB}{δ:Ds}{d:D}(h:`eY=`anR):`a0N=`anR:=by unfold o6;rw[h]
def Y4{δ:Ds}(h:`al6):Z2 G δ=`eZ:=by unfold Z2;rw[h]
def M5{g:GB}{δ:Ds}(h:`ax=`e9):`a0O=Ga δ:=`a0P
def R6{g:GB}{δ:Ds}(h:`ax=`bY):`a0O=`Cs:=`a0P
def V3{δ:Ds}{d:D}(h:`anS):S5 gx δ=`anR:=by unfold S5;rw[h];rfl
def S6{g:GE}{δ:Ds}{d:D}(h:`jx):V4 g δ=`c (d,δ):=by unfold V4;rw[h];rfl
def bk(k:Int)(cs:`M)(sm:`I)(m:Int)(pool:`i):D:=`df (`n [`anT,`anU,`anV,`p "many",`p "pool"]) [`n0,`ol,`tZ,`g m,`u6]
def xy0{ga gb:GE}{δ:Ds}{i j:Int}(h1:`ex=`BF)(h2:`fy=`c `AH)(h:0<j):o2 ga gb o8 δ=`ain:=by
 rw[o5 h1 h2];show (`o (0<j) _ _)=_;rw[`ch]
def v80(i j:Int)(h:`avr):`a0Q:=`a0R (`p h)
def Zs0{cs:`M}{g:GE}{δ:Ds}{i:Int}(s0 s1:Sl)(hδ:δ=[s0,s1,`I?])(h:`anW)(h0:0<=i)(h1:i<`JW):∃c:Int,o2 `aT g ixD δ=`Nz:=by
 refine#[cs[i.toNat]'`j,?_];have e:`MS=`a0S:=`lh
 rw[o5 e h];show atI (`a0T) i=_;rw[vl0 h0 (`k `S h1) `y];have:`fA<`JW:=`F
 simp[`b5,`x]
def fq0(k:Int)(h0:0<=k)(hk:`anX)(cs:`M)(hc:`t_)(sm:`I)(m:Int)(pool:`i):`a0U:=by
 have pos:0<`JW:=`F9 hc;have J:∀(z:Int),(∀p:`e,∀δ:Ds,δ=`Gp->(o6 (ifB `a_j (o6 `a_k `P) `P)
   (o6 `a_l `P)) δ=`c (.rt `qD δ))->0<=z->`a0U:=λz h hz=>by
  refine#[z,hz,`cj `Gp];refine `dm [`Gq,`va,.un] `anY;refine `dm [`qV,`va,.un] `anY;refine `dm `Gp `anY;exact h p _ rfl
 have len:∀(s0:Sl),oA `d9 T3 `Uc=`c (`g `Ud):=λs0=>by
  show `fb ((`s `a0T):Int);rw[`S]
 have cond:∀s0:Sl,ob `aBT `Uc=`cc (k<`Ud):=λs0=>by
  unfold ob;rw[o5 (x:=`n0) rfl (len s0)];rfl
 by_cases hlt:k<`Ud
 ·have ex:∃c:Int,`a0V `ak:=by
   let#[c,hc]:=Zs0 (cs:=cs) (g:=gv 1) (δ:=`a0W) _ _ rfl rfl h0 hlt;exact#[c,λs0=>hc]
  let#[c,hc]:=ex;refine `a0X (c%(10 ^ 64+57));subst hδ;refine `hu;rw[M5 (`jG cond hlt)];refine `A4 (xy0 (hc _) ?_ `v);kernel_rfl
 ·obtain⟨c,hc⟩:∃c:Int,`a0V `aBW:=by
   have em:∀s0:Sl,o2 `ak `w5 o8 `Uc=`r9 (k%`Ud):=λs0=>xy0 rfl (len s0) `a'
   let#[c,hc]:=Zs0 (cs:=cs) (δ:=`a0W) _ _ rfl (em .un) (E3 _ `a') (L8 _ `a');refine#[c,λs0=>?_];rw[o5 (x:=`ol) rfl (em .un)] at hc;rw[o5 (x:=`ol) rfl (em s0)];exact hc
  refine `a0X ((`anZ+7)*48271%2147483647);subst hδ;refine `dm `Gp (`aF (`t0 R6 cond hlt));refine `A4 (xy0 ((`aL (`g (`anZ+7)) `aBZ ?_).trans (v80 _ 48271 `v)) rfl `v);have e3:o2 `aBY `ak V9 `Gp=`c (`a0Y):=by
   rw[`aL (`g (3*k)) `n0 (`a0Z (v80 3 k `a'))];exact v80 _ _ `a'
  exact(`aL (`g `anZ) (`g 7) ((o5 (x:=`g (`awn)) (y:=`a0Y) (xy0 (hc _) rfl `v) e3).trans rfl)).trans rfl
universe Bt
namespace Pn
open DL W
def put:Pt->`l->Pt
 | `tW,_=>`tW
 | .row _,vs=>`tX
 | `p?,vs=>`Iv (`Or vs)
 | `T8,vs=>.rcd c (`Or vs)
universe Pn
namespace Gw
open DL W
def zf0:GS:=(v9 (ifD `aZ7
 (v9 `aZ8
 t7)
 t7)
 (v9 `TS
 t7))
def xl0:`i:=`wR
def W0:`U:=`aZ9
universe Gw
namespace Gw
open DL W StrLaws
def rv0(i j:Int)(h:`avq):`a0Q:=`a0R `P2
def cc0(i j:Int)(h:0<j):o8 `fq `AH=`ain:=`a0_ o8
def Zu0(i j:Int)(h:`PE):j4 `fq `AH=`aMf:=`a0_ j4
def Ug0{g:GE}{δ:Ds}{l:`l}{d:D}(h1:`oF=`nm)(h2:`jx)(h3:`bK<`W):Z3 (wz0 i g) δ=`ay (`co (`t `aw8)):=by
 unfold Z3 wz0;rw[h1,h2];simp only[`q];rw[`Ue];rfl
def W10(ns:`M)(k:Int)(h0:0<=k):∃z,W0 [`jN,`n0]=`Uf:=by
 by_cases h:k<`f'
 ·have J:`mc<`f':=`F
  refine#[ns[k.toNat],`Gr];rw[O9 (by
   apply `a00;rw[`b0 `an_])]
  apply `qa;show atI `an0 k=_;rw[vl0 h0 `an_ `y];simp[`b5,J]
 ·refine#[0,`gC (`e3 [`Ja,`va] rfl)]
  rw[W5 (by
   apply `a00;rw[`bE `an_])]
  rfl
def Ix0(l:`h)(k:Int)(h0:0<=k)(h1:k<=`bK):`aBh `uP `f (`fG)=`a2 (`mX `mc):=by
 show sliceText _ _ _=_;rw[sliceText_to #[h0,`k wl0 h1],wl0];simp[`a2]
def G60(a b:`h):`a01:=by
 show (#[_]:Str)=#[_];simp[`a2]
def ly0(a b:`h)(h:`a02):m8 (`u (`CV)) (`u (`CW))=`c (`f6 `MK):=by
 simp only[m8];rw[`L (`fz zm0 zm0 h),G60]
universe Gw
namespace Gw
open DL W
structure Vk(v:D)(m:Int):Prop where
 ok:`anI
 bd:∀i,`E4->i.natAbs<`Ug
 lk:∀k,lk v=`fG->k<m
structure Gd(p:Pt)(m:Int)(nm:`i):Prop where
 ok:p.Ok
 vk:∀v∈`Gs,`Uh
 nms:∀s∈p.all,s∈nm
def Ti0(l:`h)(h2:`an1)(h3:∀c∈l,`an2):isWord `uP=`d:=by
 unfold isWord hasAll;rw[zm0,wl0];simp only[`bd,`Gj,`kQ];exact`a0y
def qd0(xs:`l)(x:D):atI (`aix) (-1)=`du:=by
 unfold atI ixN;rw[`dS,`L `a03];rw[show ((-1:Int)+((`s `aix):Int)).toNat=`ar by rw[`Z];apply `w7;lia];simp
universe Gw
namespace Bt
open DL W
def b7{g:GE}{δ:Ds}{b:`I}(h:`a04):`a05:=`a06
def T30(c:Int)(sm:`I):∃n:Int,n.natAbs<`Ug/\zs0 [`jL,`tZ]=`Li:=by
 cases sm with
 | true=>exact#[c%(2*10 ^ 12 - 1) - 10 ^ 12+1,`b7,`gC (d8 (by apply `yJ;exact `Ui))]
 | false =>
  have s0:`a07 `a_g:=λGa G r h=>t8 `yK h
  have e0:∀j:Int,ob `a08 `an3=`cc (c%3=j):=`an4
  by_cases h0:c%3=0
  ·exact#[c/3%300 - 150,`b7,`gC (s0 _ _ _ (d8 (`k (`Gt e0 `an5) `Ui)))]
  ·have s1:`a07 `TU:=λGa G r h=>t8 (`aF (`Gu e0 `an6)) h
   by_cases h1:c%3=1
   ·exact#[c/3%40001 - 20000,`b7,`gC (s0 _ _ _ (s1 _ _ _ (d8 (`k (`Gt e0 `Gv) `Ui))))]
   ·exact#[c/3%(2*`Ug - 1) - `Ug+1,`b7,`gC (s0 _ _ _ (s1 _ _ _ (t8 (`aF (`Gu e0 `an7)) (`Ui))))]
def rp0{gA:GA}{f:`a_}{δ:Ds}{p:`e}{b r:D}(h:`c4=`al')(hA:`tt)(hf:`al3):`a09=`c (r,`co (z9 p b')):=by
 unfold K4;rw[h];show (`abs `a0' (`co (`C [`F_,r.2])))=_;rw[hA];show `a0' _=_;rw[hf];rfl
def et0{gA:GA}{f:`a_}{δ:Ds}{ks:KS}{vs:`l}{r:D}(h:`c4=`aW9)(hA:`tt)(hf:`azs=`ZZ):`a09=`c (r,`co b'):=by
 unfold K4;rw[h];show (`abs `a0! (`co r.2))=_;rw[hA];show `a0! _=_;rw[hf];rfl
def js0{ft:`a?}{δ δ1 δ2:Ds}{d:D}(h:`gS=`c (d,δ1))(k:ft d δ1=`c δ2):yi0 gx ft δ=`ax9:=by
 unfold yi0;rw[h];show (ft d δ1).map _=_;rw[k];rfl
open Gw (Vk)
def Ll0(i:Int):fd0 (`a0t)=`anF:=by
 show (`a0?&&`anF)=_;rw[show `a0?=`d from `bb];rfl
def Qo0(k:Int)(h0:0<=k)(hk:`anX)(cs:`M)(hc:`t_)(sm:`I)(m:Int)(hm:1<=m)(pool:`i):∃v,`Uh/\O1 `iR []=`c (v,`q7):=by
 let#[z,hz,hn]:=`a1a;have call:∀p:`e,Z2 `aB0 (N5 t70 0 p `iR [])=`ay `t1:=λp =>
  `a1b
 have c8:`a1c eqD (`cc (z%8=j)):=`a1d
 have l8:`a1c ltD (`cc (z%8<j)):=`a1d
 by_cases q0:z%8=0
 ·refine#[`y,#[rfl,`a1e,λk e=>by cases e],`an8 `e2]
  rw[`Uj c8 `an9];apply `ip
 have s1:`a1f `t1 (o6 (ifB `a_n Ga `P) G `t1):=λp Ga G r h =>
  n6 (δ':=`t1) (`aF (R6 (by rw[c8,`an']))) h
 by_cases q4:z%8<4
 ·let#[n,O,J]:=T30 (z/8) sm
  refine#[`d7,#[rfl,(λi e=>by cases e;exact O),λk e=>by cases e],`an8 (s1 p _ _ _ `e2)];rw[M5 (`jG l8 q4)];refine `Uk;rw[Z1 (ds:=[`g (z/8),`tZ]) (`kE rfl `fr)];exact J
 ·refine#[`C [`lD,`g (z/8%m)],#[`k Ll0 (X0 (E3 _ `j)),`a1e,λk e=>by cases e;exact L8 _ `j],`an8 (s1 p _ _ _ (`dm `t1 ?_))]
  ·rw[`t0 R6 l8 q4]
   rfl
  ·refine `A4 (vk0 (`kE rfl (xy0 (i:=z/8) (j:=m) rfl `fr `j)) (`aZr))
theorem Xp0(cs:`M)(hc:`t_)(sm:`I)(m:Int)(hm:1<=m)(pool:`i):∀(items:`l) (k:Int),0<=k->k+`dh<1000000 ->
  ∃vs:`l,`dz=`dh/\(∀v∈vs,Gw.Vk v m)/\`Zd `adq=`c (vs,`q6 (k+`dh))
 | [],k,_,_=>#[[],rfl,`Ul,`aF (show k+(([]:`l).length:Int)=k by simp)]
 | `aC,k,h0,hk=>by
  simp only[`T] at hk;let#[v,hv,e]:=Qo0 k h0 `j cs hc sm m hm `bn;let#[vs,hl,J,ih]:=`a1g ds `j;refine#[v::vs,`an!,`m!,?_]
  ·apply `m'
   ·exact hv
   ·exact J x hx
  ·have c:K4 1 v8 O1 `adI=`c (v,[`f5,.ow (`q7)]):=`a1h
   unfold zt0;apply `a1i;show `a1j `adq (`q7) v;rw[ih,show k+1+(`bN:Int)=k+(`QN:Int) by simp only[`T];lia];rfl
universe Bt
namespace Bt
open DL W StrLaws
def Tu0(a b:`h):`a01:=by
 show (#[a.toArray++b.toArray]:Str)=#[(`hW (a++b))];rw[List.append_toArray]
def On0(sep:`h):∀parts:`io,Txt.join (`Um) (`azu `a2)=`a1k:=by
 intro parts;unfold Txt.join;rw[StrLaws.glued_eq_join]
 induction `CX with
 | nil=>rfl
 | cons p r ih =>
  cases r with
  | nil=>rfl
  | cons q r =>
   show `a2 p++`Um++PySem.Str.join (`Um) ((q::r).map `a2)=`a2 (`a0z);rw[ih,Tu0,Tu0]
def ah0{g:GE}{δ:Ds}{S:`N'}(sep:`h)(parts:`io)(B:Nat)(hS:S=`Um)(hg:`ax=`c (`a1l))(hB:∀p∈`CX,`rT<=B)(hz:parts.length*(B+`ax8)<=16777216) :
  nk0 (gc (`u S)) `C6 δ=`c (`u (`a1k)):=by
 have J:∀l:`io,(∀p∈l,`rT<=B)->((`c6 `a2).map `ax7).sum<=`bK*B:=by
  intro l
  induction l with
  | nil=>intro _;simp
  | cons p l ih =>
   intro h;have:=ih `aT_
   have:=h p A4;rw[`ag,`ag,List.sum_cons,`T,zm0,Nat.add_mul];lia
 have e1:=strs_map `a2 `CX;rw[Nk0 (x:=`u S) (ds:=[`a1l]) rfl (`aW hg rfl)];simp only[c70];rw[e1,`q,`L,hS,On0];have:=J `CX hB;rw[hS,zm0,`S];rw[Nat.mul_add] at hz;lia
theorem m20:∀l:`h,`a1m=l
 | []=>rfl
 | [c]=>rfl
 | c::d::r=>by
  show[c]++[]++qx0 [] ((d::r).map `MM)=_;rw[m20 (d::r)];rfl
def signs:`h:=(`an? `am2)
def Mn0(k:Int)(h0:0<=k)(hk:`anX)(cs:`M)(hc:`t_)(sm:`I)(m:Int)(pool:`i)(n:Nat)(hn:n<=20):∃l:`h,`bK=n/\(∀c∈l,c∈`jw)/\zw0 `iR [`eQ]=`c (`sy,`q7):=by
 let#[z,hz,he]:=`a1a;obtain⟨S,hS⟩:∃S:Str,S = `am2 := `ah;have J:`a1n=`jw:=`a1o
 have U:signs.length=37:=`bb
 let at':`hr:=λj=>signs.getD (`On%37).toNat 0
 have O:∀j,at' j∈`jw:=λj=>by
  apply `a1p;apply `a1q;show signs.getD _ 0∈`jw;rw[`b5,`ay?];exact k7 _
 refine#[`aoa,`a7,`DY,`cj `aob]
 ·let#[j,_,rfl]:=`de hc
  exact O j
 ·refine `dm [`Gq,`cJ,`YX,.un] (Y4 (`a1o))
  refine `dm `aob (Y4 (js0 (`aCG he) rfl));refine `Uk;have hp:`aoa=qx0 [] ((`aoa).map `MM):=(m20 _).symm;rw[hp];refine ah0 [] _ 1 rfl ?_ `a1r `pG;have hr:ys0 `e4 `aob=`c (`Gw):=o20 rfl `j `j;refine(q50 hr (`k uk0 (C0 (`a4 (_<=20)) `v)) (aj0 (λj=>`f6 [at' j]) λj hj=>#[`Un,rfl,rfl,?_])).trans ?_
  ·have d1:o2 `aT `aB2 j4 `Un=`r9 (z/(`cC+1)):=by
    show (`a! (`eh<`cC+1/\`cC+1<1073741824) (`b3 (z/(`cC+1))))=_;rw[`Gx]
   have d2:o2 `aJ `aJ V9 `Un=`c (`a1s):=`a0Z (`aoc);have d0:o2 `a_p `adV m8 `Un=`c (`g `On):=(o5 d1 d2).trans rfl;have d3:=xy0 (gb:=`axa) d0 rfl `aCH;apply `a1p;apply `a1q;rw[o5 (x:=`u S) rfl d3];show (`tK (`ds<=`W) ((atI `a1n _).map _))=_;rw[`L (by rw[hS];decide +kernel),J,vl0 a1 (`k U a2) 0];rfl
  ·rw[`b!,`cS,`cS]
   rfl
universe Bt
namespace Bt
def Zo0:(∀d∈`aod,∀s∈`aod,d=0∨s=0∨d*s%13≠0)/\∀d∈`aod,∀s∈`bP 53,d=0∨s=0∨d*s%53≠0:=`bb
def d00(p:Nat)(hp:`a1t)(a:Int)(s:Nat)(h1:1<=s)(h2:s<p)(i d:Nat)(hd:d<13)(h:`a1u=`azv%`sx):d=0:=by
 have e:(p:Int) ∣ ((d*s:Nat):Int):=by
  have:=Int.emod_emod_of_dvd `abP (Int.dvd_refl `sx);have h':(`a1v)%`sx=0:=by
   rw[Int.sub_emod,h,Int.sub_self];rfl
  have e2:`a1v=(`ad (d*s)):=by
   rw[Int.natCast_add,Int.add_mul,Int.natCast_mul];lia
  rw[e2] at h';exact Int.dvd_of_emod_eq_zero h'
 have e3:d*s%p=0:=Nat.mod_eq_zero_of_dvd (Int.natCast_dvd_natCast.mp e);rcases hp with rfl|rfl
 ·rcases Zo0.1 d `a1w s `a1x with z|z|z
  ·exact z
  ·lia
  ·exact `a1y
 ·rcases Zo0.2 d `a1w s `a1x with z|z|z
  ·exact z
  ·lia
  ·exact `a1y
def unlike(p:Nat)(hp:`a1t)(a:Int)(s:Nat)(h1:1<=s)(h2:s<p)(i j:Nat)(hi:i<13)(hj:j<13)(h:`a1u=(a+`cC*`rf)%`sx):i=j:=by
 rcases `aTD i j with q|q
 ·have:=d00 p hp a s h1 h2 i (j - i) `j (`k (`a4 (i+(j - i)=j)) h)
  lia
 ·have:=d00 p hp a s h1 h2 j `LG `j (`k (`a4 (j+`LG=i)) h.symm)
  lia
universe Bt
namespace Bt
open DL W
def NB1:GS:=(v9 `aZ!
 t7)
def NB2:GS:=(v9 `aZ?
 (v9 `a_a
 (v9 (ifD `TU
 (v9 `a_b
 t7)
 (v9 (ifD `am0
 (v9 `a_c
 t7)
 (v9 `a_d
 t7))
 t7))
 t7)))
def code(N:Int)(k:Nat):`h:=[`Z8,`a1z]
def nmF(N:Int)(w:`h)(a k:Nat):`h:=`o (N%3=0) `a1A (`o (N%3=1) `a1B `aoe)
structure PoolB(n:Nat)(nm:`i):Prop where
 len:`ec=n
 names:∀s∈nm,`Uo
 nd:nm.Nodup
def lr0{g:GE}{gl gh:GO}{δ:Ds}{d:D}{l h:`aP}(h1:`jx)(h2:gl δ=`nm)(h3:`CA=`c h):K3 g gl gh δ=slA d l h:=by
 unfold K3;rw[h1,`q,h2,`q,h3,`q]
def aa0{g:GE}{δ:Ds}{i:Int}(h:`anW):`fu g δ=`c (`rc):=by
 unfold someO;rw[h];rfl
def Wp0(w:`h)(i:Int)(h0:0<=i)(h1:i<=`d?)(hl:`d?<=100):slA `Ir `f (`rc)=`c (`f6 (`Lo `fA)):=by
 apply `yL
 simp only[slA];rw[`L (`cH zm0),Gw.Ix0 _ _ h0 h1]
def Kq0(N:Int)(w:`h)(hw:`Up)(a:Nat)(ha:a<7)(k:Nat)(hk:k<100)(names:`i)(hl:`a1C)(s1 s4 s8:Sl) :
  NB2 (`Ap `XX s8)=`ay (`Ap (`hR ((`ig++[`awp]).map `u)) `XY):=by
 apply `yL
 have cl:(`s `q?)=2:=rfl;refine t8 (δ':=(`Ap `XX (.sh (`aof)))) (V7 (d:=`aof) (by
  rw[`aog `uw `g ((N+`d5)%36)];exact `aoh)) ?_
 refine t8 (δ':=`CY) (V7 (d:=`Bg) (by
  rw[o5 (x:=`aof) (y:=`f6 [`a1z]) rfl (by
   rw[`aL `uw (`g `azw) rfl];exact `aoh)]
  apply `Uq)) ?_
 have app:∀(g:GE) (l:`h),g `CY=`a1D ->
   v9 (Z3 (wz0 6 g)) t7 `CY=`ay (`Ap (`hR ((`ig++[`Ag]).map `u)) `XY):=λg l h=>by
  refine t8 (Gw.Ug0 (l:=`Bf `u) (d:=`sy) rfl h `oL) ?_;rw[`aU];rfl
 refine `aoi;have c3:∀j:Int,ob `a08 `CY=`cc (N%3=j):=`an4
 by_cases q0:N%3=0
 ·rw[`Gt c3 `an9,show `B1=`a1A by unfold nmF;rw[`L q0]]
  refine `aoj;rw[o5 (x:=`f6 (`Lo a)) (y:=`Bg) (by
   show slA `Ir `f (`c `uO)=_;rw[`a1E,`b!]) rfl]
  exact `a1F
 ·rw[`Gu c3 `an']
  refine `aoi
  by_cases q1:N%3=1
  ·rw[O9 (`jG c3 q1),`a1G `a1B `L]
   refine `aoj;rw[o5 (x:=`f6 (`azx)) (y:=`Bg) (by
    show slA `Ir `f (`c (`d5%7))=_;rw[`a1E,`a4 ((`d5%7).toNat=k%7)]) rfl]
   exact `a1F
  ·rw[`t0 W5 c3 q1,`a1G `aoe `_]
   refine `aoj
   by_cases q3:35<k
   ·have e:`a1H=`c (`qG):=by
     rw[o5 (x:=`dJ) (y:=`dJ) rfl (by
      rw[Z1 (ds:=[`lu]) (`aW (by
       apply `a1I;rw[`jH]) rfl)]
      rfl)]
     rfl
    rw[`a1J 2];rw[`L q3];exact Wp0 _ 2 `j `Ur `Ur
   ·have e:`a1H=`c (`dJ):=by
     rw[o5 (x:=`dJ) (y:=`iH) rfl (by
      rw[Z1 (ds:=[`z_]) (`aW (by
       apply `a1I;rw[`hs]) rfl)]
      rfl)]
     rfl
    rw[`a1J 1];rw[`_ q3];exact Wp0 _ 1 `j `Ur `Ur
def code_inj(N:Int)(i j:Nat)(hi:i<72)(hj:j<72)(e:code N i=code N j):i=j:=by
 unfold code at e;injection e with e1 e2
 injection e2 with e2 _
 have e1:=`aok e1;have e2:=`aok e2;lia
theorem j80(N:Int)(k:Nat):∀c∈`q?,`Gk:=λc hc=>by
 unfold code at hc;rcases `cF hc with rfl|hc
 ·exact `aol
 ·rw[`dK hc];exact `aol
theorem s70(N:Int)(k:Nat):(`s `q?)=2:=rfl
def Lt0(N:Int)(w:`h)(hw:`Up)(a:Nat)(ha:a<7)(k:Nat):0<`a1K/\`a1K<=8:=by
 unfold nmF;split
 ·rw[`Z,`dT,s70];lia
 ·split
  ·rw[`Z,`dT,s70];lia
  ·rw[`dT,s70];split<;>lia
theorem K90(N:Int)(w:`h)(hm:∀c∈w,`Gk)(a k:Nat):∀c∈`B1,`Gk:=λc hc=>by
 unfold nmF at hc;split at hc
 ·rcases `aom with q|q
  ·exact `a1L
  ·exact `a1M
 ·split at hc
  ·rcases `aom with q|q
   ·exact `a1L
   ·exact `a1M
  ·exact j80 N k c (x4 hc)
def Nq0(N:Int)(w:`h)(hw:`Up)(a:Nat)(ha:a<7)(i j:Nat)(hi:i<53)(hj:j<53)(e:nmF N w a i=nmF N w a j):i=j:=by
 unfold nmF at e;split at e
 ·exact code_inj N i j `j `j (List.append_cancel_left e)
 ·split at e
  ·have:=`a1N
   simp only[`Z,`dT,s70] at this;have e2:=(List.append_inj e (`i! `dT `dT)).2;exact code_inj N i j `j `j e2
  ·have hl:=`a1N
   rw[`dT,`dT,s70,s70] at hl;have h1:∀k,(`aoe)[0]?=`c (`Z8):=λk=>by
    rw[List.getElem?_take,`L (`aon)];rfl
   have e0:=h1 i;rw[e,h1 j] at e0;have e0:=A3 e0;have e0:=`aok e0
   by_cases q1:35<i<;>by_cases q2:35<j<;>simp only[q1,q2,`hZ,`g?] at hl<;>lia
def Ol0(N:Int)(n:Nat)(hn:n<=53):∃nm,y50 [`H',`eQ]=`c (`TO)/\PoolB n nm:=by
 skip;apply `yL
 let#[δ',l1,w,s4,rfl,hw,hm]:=oq0 (f:=gN 4) (G:=NB1) (λi δ=>∃(w:`h) (s4:Sl),δ=(`aoo `MO s4)/\`d?=i/\∀x∈w,x∈`I!) (G7 0 8) 0
  (`aoo (.sh (`a1O)) .un) (by
   rintro j d δ hj ⟨w,s4,rfl,hl,hx⟩;let#[J,rfl]:=X40 hj;have J:j<8:=J;obtain⟨q,hq⟩:∃q:Int,q=N/`aop%36:=`ah;have jj:0<=`AI/\`AI<=49:=by
    have:j=0∨j=1∨j=2∨j=3∨j=4∨j=5∨j=6∨j=7:=`F
    rcases `x with rfl|rfl|rfl|rfl|rfl|rfl|rfl|rfl<;>decide
   refine#[_,(`aoo (.sh (`a1P)) `vr),rfl,?_,w++[cg q],_,rfl,`an!,λx O=>?_]
   ·refine `qb `a1P ?_ rfl
    rw[o5 (x:=`auQ) (y:=`f6 [cg q]) rfl (by
     rw[o5 (x:=`uw) (y:=`g q) rfl (by
      rw[o5 (x:=`g (N/`aop)) (y:=`IU) (by
       rw[o5 (x:=`H') (y:=`g `aop) rfl (by
        rw[`aL `a1s (`g 3) (`k (`aL `gN `gN rfl) `aoc)];rfl)]
       exact Gw.Zu0 _ _ `j) rfl]
      rw[hq];exact `a1Q)]
     exact `aoh)]
    apply `Uq
   ·rcases `d! O with q'|q'
    ·exact hx x q'
    ·rw[`dK q'];exact `aol) #[[],_,rfl,rfl,λx hx=>by cases hx]
 have hw:`Up:=hw;obtain⟨a,ha⟩:∃a:Nat,`uO=N/3%7:=#[(N/3%7).toNat,`F];let#[Y,m1,s7,s8,rfl]:=oq0 (f:=gN 7) (G:=NB2) (λi δ=>∃(s7 s8:Sl),δ=[`iC,`cJ,`MN,`MO,s4,`wC,`hR (((`bP i).map `aoq).map `u),s7,s8]) (`Gw) 0
  `a1R (by
   rintro j d δ hj ⟨s7,s8,rfl⟩;let#[J,rfl]:=X40 hj;rw[`b!] at J;refine#[_,_,rfl,Kq0 N w hw a `j j `j ((`bP (0+j)).map `aoq) `pG _ _ _,`vr,.sh (`f6 (code N j)),?_];rw[`mH,`Us,`aU,`aU,`aU];rfl) #[_,_,rfl]
 rw[uk0,`b!,`mH] at m1;done;refine#[`Z7 `aoq,K6 rfl (`qb `uw rfl (`qb `a1O rfl (t8 (sr0 (items:=G7 0 8) rfl l1) (`qb `qU (`aF ha) (`iq `a1R (t8 (sr0 (items:=`Gw) `a1S m1) `w')))))),?_,`acr,?_]
 ·simp
 ·let#[k,hk,rfl]:=`Gy
  let#[h1,h2]:=Lt0 N w hw a `j k;exact Sp0 _ h1 h2 (K90 N w hm a k)
 ·refine `a1T n
  intro i j hi hj U e;have hi:=`u1 hi;have hj:=`yM;exact U (Nq0 N w hw a `j i j `j `j (S90 e))
universe Bt
namespace Bt
open DL W
open Gw (Gd Vk)
def Qc0:∀c∈`jw,`an2:=`bb
def L20(z:Int)(sm:`I):∃n:Nat,`t2/\∀(p:`e) (k:Int) (cs:`M) (m:Int) (pool:`i),
  Z2 (ifD `TW
 (v9 `TX
 t7)
 t7) (`me `Gq `MP)=`ay (`me `Gq `cJ):=by
 cases sm with
 | true =>
  refine#[`a1U,`F,`a1V];rw[`Xl,`a4 ((`ad `a1U)=z/4%4)];rfl
 | false =>
  have ix:∀(s0:Sl) (t:Nat) (r:Int),`Ut=`aor->([z/4%5,z/4%5,z/4%13]:`M)[t]?=`dR->`a1W:=λs0 t r ht hr=>by
   have hl:t<3:=by
    have:=(`c7 hr).1
    apply `Db
   rw[o5 (x:=`t (`a1X `g)) (y:=`g `aor) `adG (`Fm ht)];show atI (`a1X `b3) `aor=_;rw[vl0 `j `pG `y,`b!,`b5,`cX,hr];rfl
  have J:∀r:Int,(∀s0:Sl,`a1W)->0<=r->r<=12->∃n:Nat,`t2/\∀(p:`e) (k:Int) (cs:`M) (m:Int) (pool:`i),
   Z2 (ifD `TW
 (v9 `TX
 t7)
 t7) (`me `a1Y `MP)=`ay (`me `a1Y `cJ):=λr h h0 h1=>by
   refine#[r.toNat,`F,`a1V];rw[`Gz,`a4 ((`ad r.toNat)=r)];exact t8 (V7 (h _)) rfl
  have:`Ut=0∨`Ut=1∨`Ut=2:=`F
  rcases `x with q|q|q
  ·exact `aos 0
  ·exact `aos 1
  ·exact `aos 2
def Le0{δ:Ds}{p:`e}{k:Int}{cs:`M}{sm:`I}{m:Int}{vs:`l}{gi:GA}{f:`a_}{k':Int}(h0:δ[0]?=`c (`Gq))(hi:`QP)(hl:`tr)
  (hc:`a1Z) (j:Nat) :
  jf0 j (v10 1 [0] 0 1 gi `dD `Ze) δ=`ay ((`g_ 0 `a1_).set j (`JX)):=by
 unfold jf0 v10;rw[h0];show `qc (`xR _);rw[hi,`q,`rY];have e:zc0 1 [0] δ=`Uu:=by
  show[`sn]++[lv0 δ[0]?]=_;rw[h0];rfl
 rw[e];show `qc (`yN `abR);rw[hc];rfl
def La0{ga:GE}{δ:Ds}{d r:D}(h:`ex=`bk)(hf:`p0)(hx:`gS=`a10):Z00 ga gx δ=`c (`C [d,r],δ'):=by
 unfold Z00;rw[h,`q,`yb,hx];rfl
def ln0{np:Nat}(hp:`a11)(i:Int)(h0:0<=i)(h1:i<np):ixD (`TO) `fq=`c (`u (`aot))/\`aot∈nm:=by
 have hl:=hp.len;have J:`fA<`ec:=`F
 refine`tp
 ·show atI (`Jq `fm) i=_
  rw[vl0 h0 `oL `y];simp[`b5,J]
 ·rw[`Uv (`aot=nm[i.toNat]) J]
  exact k7 J
def getD_inj{np:Nat}(hp:`a11)(hi:i<np)(hj:j<np)(e:`a12=`a13):i=j:=by
 have hl:=hp.len;have h1:i<`ec:=`F
 have h2:j<`ec:=`F
 rw[`Uv (`a12=nm[i]) h1,`Uv (`a13=nm[j]) h2] at e;exact(A60 hp.nd).mp e
def Q80{np:Nat}(hnp:`Uw)(P:`aou)(z:Int)(st:Nat)(h1:1<=st)(h2:st<np)(m:Int)(vs:`l)(hl:`dz<=12)(hv:∀v∈vs,`Uh):∃ps:`dH,`anJ/\(∀p∈ps,p.1∈`bn)/\`i8=vs /\
  ∀(s0 s2 s6:Sl),oA `aB6 ss0 [s0,`iD,s2,`JX,`A5,`JY,s6]=`c (`JZ):=by
 have z1:`IO:=`aw
 have Y:=P.len;obtain⟨ix,U⟩:∃ix:`hr,ix=λ(j:Nat)=>(`a14).toNat:=`ah
 have O:∀j,`aov=`a14:=λj=>by
  rw[U];have:=E3 (`MQ) `a15;show (`ad (`uX _))=_;lia
 have J:∀j,ix j<np:=λj=>by
  have:=L8 (`MQ) (`a4 (`eh<np));have:=O j;lia
 refine#[`a16,#[by simp;exact hl,`gm,`gm,?_],`gm,?_,λs0 s2 s6=>?_]
 ·apply `aow
  exact P.names _ (`aox).2
 ·apply `aow
  have hj:=`yM;refine(hv _ ?_).ok;rw[`Uv (`C_=vs[j]) hj];exact k7 hj
 ·rw[`cS]
  refine `a1T `dz;intro i j hi hj Z e;have hi:=`u1 hi;have hj:=`yM;have e:=getD_inj P (J i) (J j) e;have e:(`ad (ix i))=`aov:=`aoy
  rw[O,O] at e;exact Z (unlike np hnp (`Yp) st h1 h2 i j `j `j e)
 ·apply `aow
  exact(`aox).2
 ·rw[`cS]
  refine m4 `aM λi h1 h2=>?_
  have hi:i<`dz:=`Bm
  simp[`b5,hi]
 ·rw[Z1 (ds:=[`t ((`a16).map pr)]) (`aW (q50 (items:=qz0 vs) (by
   show `w8 (`c [`mk vs]) Zl0=_;rfl) (by unfold qz0;rw[`S,`o7];lia) (by
   rw[qy0 (`Sf (`C [`iQ,v]) (pr (`Lp (ix `ka) "",v))) (λd hd=>by
    unfold qz0 at hd;let#[j,hj,rfl]:=`hH;have hj:=`yM;refine`FT [`vr,.sh (`C_),`iD,`A5,`JY] ?_;refine vk0 (`aW (d:=`u (`azz)) ?_ (`aW (d:=`C_) rfl rfl)) `Ux;rw[o5 (x:=`u6) (y:=`g `aov) rfl (by
     rw[O];refine xy0 (i:=`MQ) (j:=`om) ?_ ?_ `j
     ·rw[o5 (x:=`g (`Yp)) (y:=`g (`cC*`Jt)) rfl (`k (`aL `gN `Yq rfl) `aoc)]
      rfl
     ·apply `aoz
      rw[`S,Y])]
    exact(`aox).1)]
   unfold qz0;rw[`cS,`cS];refine C7 `c (Q2 `ai5);show pr (`Lp (ix (`cC).toNat) "",`C_)=_;rw[`b!];rfl)) rfl)]
  rfl
def Li0(k:Int)(h0:0<=k)(hk:k<900000)(cs:`M)(hc:`t_)(sm:`I)(m:Int)(hm:1<=m)(np:Nat)(hnp:`Uw)(pool:`i)(P:`aou):`a17:=by
 skip;have z1:`IO:=`aw
 have U:=P.len;let#[z,hz,hn]:=`azt `j;let#[n,b3,a8]:=L20 z sm;have fin:∀(q:Pt) (k':Int),k<=k'->k'<=k+14->Gd q m `bn->(∀p:`e,∃δ',wu0 `a18=`c (.rt q.d δ')/\δ'[0]?=`c `a1_)->`a17:=λq k' a1 a2 a3 a4=>#[q,k',a1,a2,a3,X5 rfl a4]
 have head:∀(p:`e) (G:GSB) (r:`tO),G `aoA=r->(o6 `am1
 (o6 `a_q
 (o6 (Z2 (ifD `TW
 (v9 `TX
 t7)
 t7)) G))) `a18=r:=λp G r h=>by
  refine `dm (`me `qV .un) (`a1b);refine `dm (`me `qV `MP) `abZ;exact n6 (a8 p _ _ _ _) h
 have c4:∀(s0 s2 s3 s4 s5 s6:Sl) (j:Int),ob `aCK [s0,`iD,s2,s3,s4,s5,s6]=`cc (z%4=j):=λ_ _ _ _ _ _ j=>`r0
 by_cases q0:z%4=0
 ·let#[l,hl,b1,hw]:=Mn0 `d6 `j `j cs hc sm m `bn `aoB `j
  done;refine fin (.text `uP) (k+1+1) `j `j #[Gw.Ti0 l `j λc hc=>Qc0 c (b1 c hc),`Ul,λs hs=>by cases hs] λp=>#[(`me (`hB (`q6 (k+1+1))) `cJ),head p _ _ `e2,rfl]
  rw[`Uj c4 `an9];refine c7 (V3 (La0 (d:=`l0) rfl rfl (rp0 (p:=p) (b:=`q7) (ds:=[`o9 `aoB]) rfl (`aW (by
   show `fb (`Z');rw[`a4 ((`ad `aoB)=`Z')]) rfl) hw)))
 let#[vs,a6,hv,a5]:=`a1g (`Gw) (`GA);have rl:(`s `Gw)=n:=`GA
 rw[rl] at a6 a5;have J:`a1f `Uy (o6 (ifB `a_r Ga `P) (o6 `a_s G) `aoA):=λp Ga G r h=>by
  refine `dm `aoA (`aF (R6 (by rw[c4,`an'])));exact n6 (Y4 (Le0 (p:=p) rfl `a1S (`cH rl) a5 3)) h
 by_cases q1:z%4=1
 ·done;refine fin (`tX) `Ju `j `j #[#[`F,λv h=>(hv v h).ok],hv,λs hs=>by cases hs] (`aoC `Uy `e2)
  rw[M5 (`jG c4 q1)];apply `ip
 obtain⟨st,a7⟩:∃st:Nat,`Jt=1+`aoD:=#[(1+`aoD).toNat,`cO `a19];have st1:1<=st/\st<np:=by
  have a1:=`a19;have a2:=L8 (z/156) (`a4 (`eh<`KN));lia
 let#[ps,pk,pin,b0,b2]:=Q80 hnp P z st st1.1 st1.2 m vs `j hv;have O:∀(p:`e) (Ga G:GSB) (r:`tO),G `Uz=r->(o6 (ifB `am3 Ga `P)
 (o6 `a_t
 (o6 `a_u
 (o6 `a_v G)))) `Uy=r:=λp Ga G r h=>by
  refine `dm `Uy (`aF (`t0 R6 c4 q1));refine `dm (`YY `A5 .un) (Y4 (V7 (d:=`u6) `fr));refine `dm (`YY `A5 `JY) (Y4 (V7 (d:=`Yq) ?_))
  ·rw[o5 (x:=`dJ) (y:=`g (`aoD)) rfl (xy0 (i:=z/156) (j:=`KN) rfl (by
    rw[o5 (x:=`aoE) (y:=`dJ) (by
     apply `aoz;rw[`S,U]) rfl]
    rfl) `j),a7]
   rfl
  ·exact n6 (Y4 (V7 (b2 _ _ _))) h
 have Z:∀v∈`i8,`Uh:=λv h=>hv v (b0▸h)
 have Y:∀s∈`j7,`t3:=λs h=>by
  let#[p,hp,rfl]:=`de h;exact pin p hp
 by_cases q2:z%4=2
 ·done;refine fin (`p?) `Ju `j `j #[pk,Z,λs hs=>Y s (by simpa [Pt.all,Pt.cls,Pt.pnames] using hs)] (`aoC `Uz (O p _ _ _ `e2))
  rw[M5 (`jG c4 q2)];exact `A4 (vk0 `C3 `Ux)
 ·have i0:=E3 (z/300) `a15
  have i1:=L8 (z/300) (`a4 (`eh<`om));let#[e1,e2]:=ln0 P (`adK) i0 i1;done;refine fin (.rcd `a1' ps) `Ju `j `j #[#[P.names _ e2,pk],Z,`acr] (`aoC `Uz (O p _ _ _ (n6 (δ':=`Uz) (`aF (`t0 R6 c4 q2)) (`Uk))))
  ·rcases `aoF with q|q
   ·exact Y s q
   ·rw[`F'];exact e2
  ·refine vk0 (`aW rfl (`aW (d:=`u `a1') ?_ `lR)) `a1!
   rw[o5 (x:=`u6) (y:=`g (`adK)) rfl (xy0 (i:=z/300) (j:=`om) rfl (by
    apply `aoz;rw[`S,U]) `j)]
   exact e1
theorem Zq0(cs:`M)(hc:`t_)(sm:`I)(m:Int)(hm:1<=m)(np:Nat)(hnp:`Uw)(pool:`i)(P:`aou):∀(items:`l) (k:Int),0<=k->k+14*`dh<900000 ->
  ∃(ps:`aE) (k':Int),`aI=`dh/\(∀p∈ps,`azA)/\`Zd `am5=`c (`MR,`CZ)
 | [],k,_,_=>#[[],k,rfl,`Ul,rfl]
 | `aC,k,h0,hk=>by
  skip;simp only[`T] at hk;let#[p,k1,a1,a2,hp,e]:=Li0 k h0 `j cs hc sm m hm np hnp `bn P;let#[ps,k2,hl,J,ih]:=Zq0 cs hc sm m hm np hnp `bn P ds k1 `j `j;done;refine#[`nh,k2,`an!,`m!,?_]
  ·apply `m'
   ·exact hp
   ·exact J x hx
  ·have c:K4 1 v8 M9 `adI=`c (p.d,[`f5,.ow `a1?]):=`a1h
   unfold zt0;apply `a1i;show `a1j `am5 `a1? p.d;rw[ih];rfl
def R00(xs:`l)(k:Nat):cutD xs (`c `d5) `f=`rU k:=by
 unfold cutD sIx;simp only[];rw[`aoG,`b!]
 by_cases q:k<=`ar
 ·rw[`aoH q,`a2a]
 ·rw[`aoI,`azC `bF,`a2b,`a2c]
def comp_own{δ:Ds}{k:Int}{cs:`M}{sm:`I}{m:Int}{vs:`l}{gi:GA}{f:`a_}{k':Int}(h0:`c4=`oX `iR)(hi:`QP)(hl:`tr)
  (hc:`a1Z) :
  v10 1 [i] i 1 gi `dD `Ze δ=`c (`Ah,`co (`CZ)):=by
 unfold v10;rw[h0];show (`xR _)=_;rw[hi,`q,`rY];have e:zc0 1 [i] δ=`Uu:=by
  show[`sn]++[lv0 `c4]=_;rw[h0];rfl
 rw[e];show (`yN `abR)=_;rw[hc];rfl
def Ma0{δ:Ds}{d:D}(h:`anS):ap0 gx δ=`v1:=by unfold ap0;rw[h];rfl
def K60{f:`U}{δ:Ds}{d r:D}(h:`anS)(hf:f [d]=`dR):cm0 f gx δ=`a10:=by
 unfold cm0;rw[h,`q];show (f [d]).map _=_;rw[hf];rfl
def bk3(cs:`M)(sm:`I):D:=`df (`n [`anT,`anU,`anV]) [`iH,`ol,`tZ]
def bk4(cs:`M)(sm:`I)(m:Int):D:=`df (`n [`anT,`anU,`anV,`p "many"]) [`iH,`ol,`tZ,`g m]
def Iv0(ns:`M)(hl:`f'<=1000)(s:Nat)(hs:s<=1000):∃(ps:`aE) (pool:`i),1<=`aI/\`aoJ/\`aoK<=53/\(∀p∈ps,`a2d)/\zv0 `aoL=`c (`a2e):=by
 skip;have z1:`uJ 5000:=`aw
 obtain⟨f,hf⟩:∃z,W0 `aoL=`Uf:=Gw.W10 ns `rf `j;obtain⟨cs,Z⟩:∃cs,cs=`a2f++[f]:=`ah;have cne:`t_:=`g1 Z
 obtain⟨sm,a2⟩:∃sm:`I,sm=`ap (f/8%8=3):=`ah;obtain⟨np,a4,a1⟩:∃np:Nat,(`Uw)/\∀δ:Ds,`a2g->o2 `a_B `a_C ixD δ=`c (`aoE):=by
  have ix:∀δ:Ds,`a2g->o2 `aB? `hO o8 δ=`r9 (f/5%2):=fun δ h=>xy0 (i:=f/5) (j:=2) (`aF (o5 h rfl)) rfl `v
  have:f/5%2=0∨f/5%2=1:=`F
  rcases `x with q|q
  ·exact#[13,`lp,fun δ h=>`aF (`h3 `a2h `iH `a2i)]
  ·exact#[53,`uq,fun δ h=>`aF (`h3 `a2h `dJ `a2i)]
 let#[pool,J,P]:=Ol0 (f/11%(`aoM)) np `j;obtain⟨m,Y,a5⟩:∃m:Nat,`l'=(`a2j)/\1<=m/\m<=60:=#[(`a2j).toNat,`aon,`aon];let#[ps,k',U,a3,O]:=Zq0 cs cne sm `l' `j np a4 `bn P (`a2k) 0 `j (`GA);have rl:(`s `a2k)=m:=`GA
 rw[rl] at U;done;refine#[ps,`bn,`F,`F,`cO P.len,λp hp=>`k U (a3 p hp),`UA];refine `yO `GB (V7 (d:=`g f) (`k (`c9 `aoL) hf));refine `e3 (`MT `a2l) ?_
 ·have e1:o2 `aB7 `aB8 m8 `GB=`a0S:=by
   rw[o5 (x:=`cQ `a2f) (y:=`t [`g f]) (by
    rw[lr0 (d:=`jN) (l:=`a2m) (h:=`f) rfl rfl rfl];show `GC (cutD `an0 (`a2m) `f);rw[R00,`aoN]) rfl]
   simp only[m8];rw[`L (by rw[`S,`kB];apply `w7;lia),Z,`aU];rfl
  have e2:o2 `aB9 `g0 eqD `GB=`c (`tZ):=`aF a2
  have e3:is0 `a_y `GB=`c `a2l:=by
   unfold is0;rw[show ua0 `pk `c5 `aB! `GB=`c [(`lD,`iH),(`aBS,`ol),(`aB1,`tZ)] from by
    unfold ua0;rw[e1,e2];rfl]
   kernel_rfl
  unfold wj0;rw[e3];rfl
 refine `yO (`MT (bk4 cs sm (1+f%8))) `fr;refine `e3 `a2n ?_
 ·cases sm with
  | true =>
   rw[Y,`bp,`Gz];kernel_rfl
  | false =>
   rw[Y,`dS,`Xl];rfl
 refine `e3 (`MT (bk 0 cs sm `l' `bn)) `gU
 ·refine js0 (d:=`u6) (δ1:=`a2n) (S6 ?_) `fr
  rw[Z1 (ds:=[`g (f/11%(`aoM)),`aoE]) (`kE (xy0 (i:=f/11) (j:=`aoM) rfl `fr `v) (a1 _ rfl))];exact J
 ·exact Ma0 (K60 (d:=`t (`MR)) (comp_own (k:=0) rfl (o20 (`aW (d:=`g `l') `fr rfl) `j `j) (`cH rl) O) rfl)
universe Bt
namespace Rk
open DL W Rm
open Bt (X5 n6 c7 Y4 M5 R6 V3 S6 b7)
def kindS:Nat->Str
 | 0 => `Il
 | 1 => "row"
 | 2 => `Ig
 | _ => `zZ
def Z5:`ac->Str
 | `gK => `Ys
 | `b_ => `Ih
 | `cM => `o5
 | `fn => `u?
 | .cls => "class"
 | `a8 => "end"
def V0(S:RS)(k:Nat):D:=`C [`u (`qY `a2o),`ab6]
def inst(S:RS):D:=`C [`u `aZ,`t [`u `sW,`u `jP,`u `up,`u `q1,`u `uv,`u `lL,`u `hS,`u `pl],
 `t [`azD,O5 1,O5 2,O5 3,O5 4,`abS,`MU,`wE]]
def nodes(S:RS):`l:=`aoO (`abW::`rQ λp=>`t p.2)
def R(S:RS):D:=`C (`uS::`IW)
theorem Ka0:z50 (Vh0 `aZ) []=`c (`y,R `eU) :=
 cw0 rfl λp=>`p #[rfl,[`bz `eU],`dd,rfl]
section
variable(p:`e)(S:RS)(δ:Ds)
theorem zu0:dpN 0 `bH=`c `B3:=rfl
def M00:`qd `sW=`a2p:=`dd
def Xw0:`qd `jP=`a2q:=`dd
def p10:`qd `up=`a2r:=`dd
def ll0:`qd `q1=`c (O5 3):=`dd
def sv0:`qd `uv=`c (O5 4):=`dd
def Ql0:`qd `lL=`a2s:=`dd
def Og0:`qd `hS=`a2t:=`dd
def Rd0:`qd `pl=`a2u:=`dd
def kp0:`UB `jT `aoP:=by
 unfold za0;rw[sv0,`q,zu0];show `fb (`aoQ:Int);rw[`S,`mE]
def uo0:`UB `ru `MX:=by
 unfold za0;rw[Xw0,`q,zu0];show `fb ((`s `vb):Int);rw[`S,`o7]
def Y00:`UB `je `a2v:=by
 unfold za0;rw[p10,`q,zu0];show `fb ((`s `oK):Int);rw[`S,`mE]
def vd0:`UB `wB `Oo:=by
 unfold za0;rw[ll0,`q,zu0];show `fb (`a2w:Int);rw[`S]
universe zz
theorem n70(S:RS):S8 `bf []=`c (`hU `yP,R S):=X5 rfl λp=>#[`ee,show ty0 `ee=_ from c7 (V3 (S6 (by
 rw[`aL `aoP `iH (kp0 p S [])];show `eJ (`Z!=0);congr 2
 by_cases h:`yP
 ·rw[`ir,`b0 (`aV_)]
 ·rw[`hj,`bE (λz=>h (`a2x `j))]))),rfl]
def xg0(k:Nat):vx0 (O5 k)=`fG:=by
 unfold O5 vx0;exact wg0 k
def op0{es:`l}{k:Nat}{z:Int}(h:`i2=`le):lf0 ns (O5 k) `qD=atI es z:=by
 unfold lf0 O5;simp only[wg0,h]
def item_tup{z:Int}(h:`kk=`f):lf0 ns `or `qD=atI ds z:=by
 unfold lf0;simp only[h]
structure Ok(S:RS):Prop where
 un:∀k∈`aH,`t4
 few:`yQ
 held:∀p∈`ca,p.2.length<=1000
 wait:`hE<=100000
 names:`aoR
def s20(p:`e)(S S':RS)(δ:Ds)(k:Nat)(n:D)(h:`aoS k n=nodes S'):setN 0 k n `bH=`sT::δ:=by
 show Sl.ow (`C [`g `sx,`C (`uS::`aoS k n)])::δ=_;rw[h];rfl
def Ww0{S:RS}(h:∀k:Nat,(S'.begun.getD k `sv).1=`a2o):V0 S'=V0 S:=by
 funext k
 unfold V0;rw[h]
def put(S:RS)(k:Nat)(d:D):RS:={ S with begun:=`mI }
def O40(S:RS)(k:Nat)(d:D)(j:Nat):((`XG).begun.getD j `sv).1=(`abO j `sv).1:=by
 show ((`mI).getD j `sv).1=_;rw[`b5,`b5,`jI];cases `aoT with
 | none=>rfl
 | some a =>
  by_cases q:k=j
  ·simp[q]
  ·simp[q]
def R40(S:RS)(k:Nat)(d:D)(q:`d8)(hk:`gf):`aoS (k+5) `azF=nodes `wF:=by
 show `aoO (`abW::`a2y)=_;have e1:`a2y=(`mI).map `avx:=by
  apply Dh0;intro i;rw[`cX,`jI,List.getElem?_set,`cX,`S]
  by_cases z:k=i
  ·subst z
   have hl:=(`c7 hk).1;rw[`bp,`rY,hk];simp
  ·rw[`k8]
   simp[z]
 rw[e1,← Ww0 (O40 S k d)];show _=inst `wF::`t (`yI (`s `mI) (V0 `wF))::_;rw[`qe];rfl
def Gv0(p:`e)(S:RS)(δ:Ds)(k:Nat)(u:`h)(h:`g5):J1 0 `adz `cG `bH=`c (`ab6):=by
 have e1:J1 0 `je `q5 `bH=`c (`C5):=by
  unfold J1;rw[p10,`q,`a2z,`q,zu0,`q];rw[`a2A];rw[h,`gt,`aU];exact `aoU
 unfold J1 at e1 ⊢;rw[e1,`q,`bX (gc (`dJ) (`sz::δ)=`c (`dJ)),`q,zu0,`q];unfold V0;rw[item_tup rfl];rfl
theorem S00{G:GSB}{b:D}(hl:`nj)(h:∀p,`yr `md `eZ):`Z_=`c (`y,b'):=cw0 hl λp=>`p #[rfl,h p]
def wm0(S:RS):RS:={ S with wait:=`jg }
def Xd0(S:RS):RS:=(`CU 0)
def Ke0(S:RS)(d:D):`lz=Xd0 (wm0 (match `aH with|[]=>S|k::_=>`XG)):=by
 skip;let#[c,b,u,n,w,dg,l,sp]:=S;done;cases u<;>rfl
def av0(p:`e)(S:RS)(δ:Ds)(h:`np):popS 0 `jT `bH=`ay (`bz `C1::δ):=by
 unfold popS;rw[sv0,`q,zu0,`q,xg0,`q];show (`o ((`vU)=[]) `f (`c (`GD (`t5 4 (`t (`vU).dropLast)))))=_;rw[`_ `i4,s20 p S `C1];cases e:`bu with
 | nil=>exact `G e h
 | cons w ws =>
  show `aoO (`t (`aoV `ff).dropLast::`rQ _)=inst `C1::`t (`aud `a2B)::`t (`at_ `a2B)::`abV::`t (S.wait.tail.reverse.map `Ai)::`rQ _;rw[e,`gt,`aU,`GE,`aoW];rfl
def jt0(p:`e)(S:RS)(δ:Ds)(g:GE)(z:Int)(hg:`yR=`Uf):`aoX `lL=`ay (`bz ((`CU z))::δ):=by
 unfold vy0;rw[hg,`q];kernel_rfl
def Qd0(p:`e)(S:RS)(δ:Ds)(k:Nat)(u:`h)(h:`g5)(hk:`t4)(g:GE)(d:D)(hg:`yR=`bk)(hn:`jF)(hl:∀q∈`ca,`A8<=1000) :
  Z3 (qn0 0 `a_3 g) `bH=`ay (`a2C::δ):=by
 apply `qf
 have e:`Ia=`c S.begun[k]:=C1 hk;have hq:=hl _ (k7 hk);unfold Z3 qn0;apply `UC (Gv0 p S δ k u h) hg;have e2:`azU=`c (`t S.begun[k].2):=by
  show `aoY;rw[`cX,e];rfl
 rw[e2];show `qc (`o (`jF/\S.begun[k].2.length<`W) _ `f);rw[`L #[hn,`F],s20 p S `wF δ _ _ (R40 S k d _ e)];rfl
def pz0(S:RS)(ok:Ok S)(hw:`np)(d:D)(hn:`jF):W6 `bf [d]=`c (`y,R `oQ):=by
 refine S00 rfl λp=>#[[`avc,`f5],?_,rfl]
 show ra0 `aoZ=_;have c0:ob `a_2 `aoZ=`cc (0<`gH):=by
  apply `bT;rw[`aL `a2v `iH (Y00 p S _)];show `eJ (`eh<`azE);congr 2;exact `UD
 have rest:∀S1:RS,`jc=`bu->o6 `a_4 (o6 `a_5 `P) [`aAF,`f5]=`ay [`bz (Xd0 (wm0 S1)),`f5]:=λS1 h1=>by
  refine n6 (Y4 (av0 p S1 [`f5] (`k h1 hw))) (n6 (Y4 (jt0 p (wm0 S1) [`f5] `c5 0 rfl)) rfl)
 rw[Ke0];cases hu:`aH with
 | nil =>
  refine `jf `aoZ (`aR S rfl);rw[R6 `a2D];rfl
 | cons k u =>
  refine `jf [`a2C,`f5] (`aR `wF rfl);rw[M5 `a2D];exact n6 (Y4 (Qd0 p S [`f5] k u hu (`a2E) `ak d rfl hn `_j)) rfl
def ks0{a b:`ac}:Z5 a=Z5 b↔a=b:=by
 constructor
 ·intro h
  cases a<;>cases b<;>first|rfl|exact `G h `cZ
 ·rintro rfl;rfl
def ms0(p:`e)(S:RS)(δ:Ds)(w:`ac)(ws:`N)(h:`aS):plN (J1 0 `jT `q5) `bH=`ao_:=by
 unfold plN J1;rw[sv0,`q,`a2z,`q,zu0,`q,`abT `vU,h,`gt,`aU];have:atI (ws.reverse.map (`Ai)++[w].map `Ai) (-1)=`ao_:=`aoU;rw[`x];rfl
def q40(p:`e)(S:RS)(δ:Ds)(w:`ac)(ws:`N)(h:`aS)(v:`ac):ob (`Ok `a2F) `bH=`a2G:=by
 apply `bT;rw[`aL `Aq `azG (ms0 p S δ w ws h)];apply `a2H;congr 2;exact `ao0
def Kp0(p:`e)(S:RS)(δ:Ds)(k:Nat)(u:`h)(h:`g5):popS 0 `je `bH=`ay (`bz `a2I::δ):=by
 unfold popS;rw[p10,`q,zu0,`q,xg0,`q];show (`o ((`oK)=[]) `f (`c (`GD (`t5 2 `a2J))))=_;rw[`_ (`g1 h),s20 p S `a2I];show `nq::`ao1::`a2J::_=`nq::`ao1::`t (u.reverse.map `Is)::_;rw[h,`gt,`aU,`GE,`aoW]
def ET:GB:=`a__
def EB:GS:=(v9 `abN
 (v9 (popS 0 `je)
 t7))
def Gg0(p:`e)(S:RS):ET `ee=`cc (`rq=`rr):=by
 have c0:ob `aCt `ee=`cc (0<`hE):=by
  apply `bT;rw[`aL `aoP `iH (kp0 p S _)];show `eJ (`eh<`Z!);congr 2;exact `UD
 unfold ET vw0;rw[c0];cases h:`bu with
 | nil=>rfl
 | cons w ws =>
  show ob _ _=_;rw[`bX (("end" : Str)=Z5 `a8),q40 p S [] w ws h `a8];simp
theorem eq0(p:`e):∀(w:`N) (S:RS) (n:Nat),`bu=w->`d?<n->`a2K<=`gH->J4 ET EB n `ee=`ay `a2L
 | w,S,0,_,h,_=>`G h `Dd
 | w,S,n+1,hw,hn,hc=>by
  unfold J4;rw[Gg0];cases w with
  | nil =>
   have e:`GF:=by
    skip;apply `a2M;have:w=[]:=hw;subst this;done;rfl
   rw[hw,e];rfl
  | cons v ws =>
   rw[hw]
   by_cases hv:v=`a8
   ·subst hv
    rw[`bX (`ap ((`acf).head?=`c `vG)=`d)];cases hu:`aH with
    | nil =>
     rw[hu,`ao2] at hc;simp at hc
    | cons k u =>
     have hb:EB `ee=`ay [`bz `ao3] :=
      t8 (av0 p S [] `GG) (t8 (Kp0 p `C1 [] k u hu) rfl)
     simp only[hb];have ih:=eq0 p ws `ao3 n (`at5 ws) (by simp at hn;omega) (by
      rw[hu,`ao2] at hc;show _<=`yS;simp at hc;exact hc)
     rw[ih];have e:(`ao3:RS).ends=`oh:=by
      skip;let#[c,b,u',nm,w,dg,l,sp]:=S;have h1:w=`f8:=hw;have h2:u'=k::u:=hu;subst h1 h2;done;rfl
     rw[e]
   ·have e:`GF:=by
     skip;apply `a2M;have:w=v::ws:=hw;subst this;done;apply `wL v `a2N
    rw[`bE `ag',e]
theorem Zw0(S:RS)(hl:`yT)(hc:`li):J8 `bf []=`c (`y,R `oh) :=
 S00 rfl λp=>#[`a2L,show va0 `ee=_ from n6 (Y4 (eq0 p `bu S 100000 rfl hl hc)) rfl,rfl]
def G6{f:`a_}{gA:GA}{p:`e}{S:RS}{δ:Ds}{r:D}(hA:gA `bH=`nY)(hf:`UE=`g4):T4 0 `aZ o4 gA f `bH=`c (r,`sT::δ):=by
 have h:`adL:=`dd
 unfold T4;show `a2O;rw[`ch,hA,`q];show `qc `UE;rw[hf];rfl
def vh0(S:RS)(kd:Nat):RS:={ S with begun:=`MW,un:=`Nd }
theorem i80(S:RS)(kd:Nat):∀k,`t4->V0 `qg k=`C5:=λk hk=>by
 unfold V0;show `a2P k;rw[`b5,`fw hk,← `b5]
def Ue0(S:RS)(kd:Nat):V0 `qg `aK=`UF:=by
 unfold V0;show `a2P `aK;rw[`b5,`yE,`kG];rfl
def Yh0(S:RS)(kd:Nat)(hu:∀k∈`aH,`t4):nodes `qg=`nq::`t (`vb++[`UF])::`t (`oK++[`UF])::`a2Q:=by
 show `nq::`t (`yI (`s `MW) (V0 `qg))::`t ((`Nd).reverse.map (V0 `qg))::`eB::`eB::(`MW).map (`azH)=_;rw[`Z,`d2,`Us,`aU,`GE,`gt,`aU,`GE,`aU,Ue0,
  `a2R (g:=V0 S) (λk hk=>i80 S kd k (`u1 hk)),`a2R (g:=V0 S) (l:=S.un.reverse) (λk hk=>i80 S kd k (hu k (List.mem_reverse.mp hk)))]
 rfl
def Oe0(p:`e)(S:RS)(kd:Nat)(s2 s3:Sl)(hu:∀k∈`aH,`t4)(h1:`aK<=1000)(h2:`UG) :
  qh0 0 3 `ak `ru `je `ao4=`ay [`bz `qg,`rm,s2,.un]:=by
 skip;apply `qf
 obtain⟨dp,O⟩:∃dp:D,dp=`UF:=`ah;have U:(`s `IW)=`aK+5:=by
  show (`s `_a)+5=_;rw[`S]
 obtain⟨L,hL⟩:∃L:`l->`l->`l,L=λb u=>`nq::`t b::`t u::`a2Q:=`ah
 obtain⟨N0,J⟩:∃N0:`l->`l->D,N0=λb u=>`C (`uS::L b u):=`ah
 have dN:`GH (dpN 0 `GI=`c (L b u)):=λb u δ=>`GJ
 have a0:(tw0 0 `n2 `ao4).set 3 .un=[`hB (N0 (`vb) (`oK)),`rm,s2,.un]:=`dl J hL
 have fb:`GH (j5 0 `aZ `jP `UH `GI=`a2q):=`a2S
 have fu:`GH (j5 0 `aZ `up `UH `GI=`a2r):=`a2S
 have a1:`GH (`ML<`W->sy0 0 `ru dp `GI=`c (`hB (N0 (b++[dp]) u)::δ)):=λb u δ hb=>by
  unfold sy0;rw[fb,`q,dN,`q,xg0,`q,hL];show (`a! (`ML<`W) (`t5 1 (`t (b++[dp]))))=_;rw[`dY,J,hL];rfl
 have a2:`GH (`yS<`W->sy0 0 `je dp `GI=`c (`hB (N0 b (u++[dp]))::δ)):=λb u δ hb=>by
  unfold sy0;rw[fu,`q,dN,`q,xg0,`q,hL];show (`a! (`yS<`W) (`t5 2 (`t (u++[dp]))))=_;rw[`dY,J,hL];rfl
 done;unfold qh0;rw[`bX (gv 1 `ao4=`c (`lH)),`q,zu0,`q,`L (`bX (`dN (`fm (`qY kd))=`d)),U,← O,a0,a1 _ _ _ (`a2T),`q,a2 _ _ _ (`a2U)];have e:N0 (`vb++[dp]) (`oK++[dp])=R `qg:=by
  rw[J,hL,O];show `dU _=`C (`uS::nodes `qg);rw[Yh0 S kd hu]
 rw[e];rfl
def wd(w:`N):`l:=w.map `avy
theorem Rc0(w:`N):`kH ((`kl n (wd w))=`a2V)
 | 0=>rfl
 | n+1=>by
  rw[`da,`gu,Rc0 w n,`da,`gu];unfold wd;rw[`aU]
theorem fp0(w:`ac):`kH ((`kl n [w])=`bB n w)
 | 0=>rfl
 | n+1=>by rw[`da,`gu,fp0 w n,`da];rfl
def ib0(w:`N)(hw:w≠[])(hl:`d?<=2)(n:Nat)(hn:n<=100):mulL (`t (wd w)) `qB=`o' `a2V:=by
 show (`a! (wd w≠[]/\0<=`bv/\`bv<`jY/\`ao5*`a2W<=`abm) (`mk (`kl `a2W (wd w))))=_;have h1:wd w≠[]:=by unfold wd;simpa using hw
 have h2:`ao5<=2:=by unfold wd;rw[`S];exact hl
 have h3:`ao5*n<=2*100:=`a2X h2 hn;rw[`L #[h1,`F,`F,`cH `b!],`b!,Rc0]
def R30(kd:Nat)(hk:kd<4)(n:Nat)(hn:n<=100):vq0 `ao6=`c (`a2Y):=by
 apply `yL
 have c:`a2Z `cJ:=`a2_
 apply `qh
 ·refine `Gr;show `sB [.sh (`l0),`cJ];apply `yU;apply `qa;rw[`aL (`t (wd [`cM])) `eQ rfl,`abX [`cM],fp0];rfl
 ·refine `yV `a20 `a20 `gU;apply `yU;apply `qa;rw[`aL (`t (wd [`b_])) `eQ rfl,`abX [`b_],fp0];rfl
 ·refine `yV `ao7 `ao7 (`yW `ao7 `gU);apply `yU;apply `qa;rw[`a21,`a22];rfl
 ·refine `yV `UI `UI (`yW `UI (`yW `UI `mV));rw[o5 (x:=`t (wd [.cls])) (y:=`t (wd `anK)) rfl (by
   rw[`a21];exact `a22)]
  simp only[m8];have hl:`GK=n*2:=`a7
  rw[`L (by unfold wd;rw[`S,`S,hl];simp;lia)];rfl
def W20(kd:Nat)(hk:kd<4):wt0 [`lH]=`c (`ao8):=by
 apply `qh
 ·kernel_rfl
 ·kernel_rfl
 ·kernel_rfl
 ·kernel_rfl
def await(S:RS)(w:`N):RS:={ S with wait:=w++`bu }
def O60(p:`e)(S:RS)(δ:Ds)(w:`ac)(hl:`yT):Z3 (qn0 0 `jT (gc `Bh)) `bH=`ay (`bz (await S [w])::δ):=by
 have z:`a23:=`aw
 unfold Z3 qn0;apply `UC sv0 (`bX (gc `Bh (`sz::δ)=`ao_));show `qc (`a! (nrf `Bh=`d/\`aoQ<`W) (D.non,`t5 4 `a24));rw[`L #[rfl,`a2U],s20 p S (await S [w])]
 ·rfl
 ·show `UJ `a24=`UJ (`t (`aoV (w::`bu)))
  rw[`gt,`aU];rfl
def Om0(p:`e)(S:RS)(δ:Ds)(g:GE)(ws:`N)(hg:`yR=`c (`t `abY))(hl:`hE+`EC<100000):Z3 (cv0 0 `jT g) `bH=`ay (`bz `a25::δ):=by
 have z:`a23:=`aw
 have hf:∀ws:`N,`a26:=λws=>by
  refine ro0 ?_;unfold flats wd;rw[`kQ];intro d hd;rw[List.mem_reverse] at hd;let#[w,_,rfl]:=`hH;rfl
 unfold Z3 cv0;apply `UC sv0 hg;show `qc (`a! (`a26/\`aoQ+(wd ws).reverse.length<=`W) (D.non,`t5 4 `a27));rw[`L #[hf ws,by unfold wd;rw[`S,`mE,`mE,`S];lia],s20 p S `a25]
 ·rfl
 ·show `UJ `a27=`UJ (`t (`aoV (ws++`bu)))
  rw[`a28,`aU];unfold wd;rw[← `a29];rfl
def qc0(k:Nat):nrf (link k)=`d:=by
 unfold link nrf;rw[`bd];refine#[?_,rfl];show (yh0 `a0E).isNone=`d;show (`o (`aVk = "@") (`c (`d5).toNat) `f).isNone=`d;rw[`_ `cZ];rfl
def ue0(S:RS)(d:D):`acp=`aK:=by
 apply `yX;cases `aH with
 | nil=>rfl
 | cons k u=>exact `qe ..
theorem fn0(S:RS)(d:D):`ao9=`aH:=rfl
theorem vg0(S:RS)(d:D):`UK=`jg:=rfl
def Q3(S:RS)(kd:Nat)(n:Nat):RS:=await `a2' (`i0)
def X50(S:RS)(kd n:Nat)(h1:`UL)(h2:`yY):`acj kd `bv=`c `sA:=by
 unfold RS.part;rw[`_ (by
  rintro (q|q)
  ·split at q<;>split at h1<;>lia
  ·exact h2 q),`b!]
 rfl
def rk0(kd n:Nat)(hn:n<=20):`ao'<=50:=by
 have hl:`GK=n*2:=`a7
 match kd with
 | 0=>apply `UM;rw[`gs];lia
 | 1=>apply `UM;rw[`gs];lia
 | 2=>show `GK<=_;rw[hl];lia
 | k+3=>show `ao!<=_;rw[`T,hl];lia
def ns0(S:RS)(ok:Ok S)(hw:`np)(hl:`ao?)(hul:`UG)(kd:Nat)(hk:kd<4)(n:Nat)(h1:`UL)(h2:`yY):R7 `bf `ao6=`a2!:=by
 have J:n<=20:=`a2?
 refine `cj [`a3a,`rm,`cJ,.un]
 show yd0 `GL=_;have c1:ob `anA `GL=`bY:=by
  apply `bT;rw[`h3 `eQ `ao8 `a3b];show `eJ (`Zj<`bv);rw[`bE (by split at h1<;>split<;>lia)]
 have c2:ob `anB `GL=`bY:=by
  apply `bT;rw[`a3c];show `a3d;rw[`hs]
 refine n6 (δ':=`GL) (by
  rw[R6 (by unfold z90;rw[c1];exact c2)];rfl) ?_
 have hh:W6 `bf [`z8]=`c (`y,R `MZ):=pz0 S ok hw _ `apa;have ca:T4 0 `aZ o4 `a_9 W6 `GL=`c (`y,`a3e) :=
  G6 (`aW (vk0 (`kE rfl `MY) `SK) rfl) hh
 refine `dm `a3e (Y4 (by unfold Z3;rw[ca];rfl));have U:=`a3f;have few:=`KX;refine n6 (Oe0 p `MZ kd (`cJ) .un (λk O=>`k U (`BJ k O)) `j hul) ?_;have tl:`a3g<=10000:=by
  rw[vg0,`C?];lia
 refine n6 (Y4 (O60 p `aCJ _ `a8 (`dQ (`a3g<_)))) ?_;refine n6 (Y4 (Om0 p `a2' _ _ (`i0) (by
  rw[Z1 (ds:=[`a2Y]) (`aW (by
   rw[`c9 `ao6];exact R30 kd hk n `j) rfl)]
  rfl) (by
  have:=rk0 kd n J;show (`s (`vG::`a3h))+_<_;rw[`T];lia))) ?_
 apply `ip
def Y50(n:Int):rr0 `FJ=`r9 (w00 n):=by
 have c:ob `a_' [`qN]=`cc (n%2=1):=`r0
 by_cases h:n%2=1
 ·refine `Gr
  show `a3i;rw[`Gt c `ir];unfold w00;rw[`ch];exact `t6
 ·refine `gC (`yO [`qN] (by show `a3i;rw[`Gu c `hj];rfl))
  unfold w00;rw[`dF];exact `t6
def Zg0(q:Nat)(hq:q<4):atC `K4 (`g (q:Int))=`c (`u (`qY q)):=by
 rcases k4 hq with rfl|rfl|rfl|rfl
 ·kernel_rfl
 ·kernel_rfl
 ·kernel_rfl
 ·kernel_rfl
def So0(S:RS)(ok:Ok S)(hw:`np)(hl:`ao?)(hul:`UG)(kd:Nat)(hk:kd<4)(n:Nat)(h1:`UL)(h2:`yY):V8 `bf [`g `acl]=`a2!:=by
 apply `apb Int `acl;rw[← hN];refine `cj [`a3a,`iC,`ux]
 apply `UN;refine `a3j;rw[M5 (by
  apply `bT;show `eJ (N%4=3);rw[`jH])]
 refine `UO (`aW (d:=`lH) ?_ (`t7 `eQ)) (ns0 S ok hw hl hul kd hk n h1 h2)
 ·show `a3k
  rw[`a4 (N/4%4=(`ad kd))];exact Zg0 kd hk
 ·show `fb (N/4/4)
  rw[`a4 (N/4/4=`bv)]
def rq0(S:RS)(ok:Ok S)(ws:`N)(hw:`GM)(N:Int)(d:D)(hn:`jF)
  (h:N%4=1/\d=`g (w00 (N/4))∨N%4=2/\`acd/\0<=N/\d=`a3l∨N=0/\`o?):`apc=`hX `oQ:=by
 have J:`np:=`auD
 refine `cj `UP
 apply `UN;have cm:∀j:Int,`a3m:=`an4
 refine `a3n;refine `dm `kD (by apply `apd;rfl);refine n6 (δ':=`kD) (by
  rw[R6 (`dl `KP (`M7 `b_ `gK))];rfl) ?_
 have hold:∀(gA:GA),gA `kD=`c [d]->o6 (`nn (`dV gA W6)) `P `kD=`ay `UP:=λgA hA=>by
  refine `UQ `UP rfl;unfold Z3;rw[G6 hA (pz0 S ok J d hn)];rfl
 refine `jf `UP `yZ;skip;rcases h with⟨h1,rfl⟩|⟨h1,h2,h3,rfl⟩|⟨h1,rfl⟩
 ·done;rw[`Uj cm `Gv]
  exact hold _ (`aW (`k (`c9 [`II]) (Y50 _)) rfl)
 ·done;apply `apd
  refine `jf [`bz (`hw (`a3l)),`iC,`ux] rfl;rw[M5 (by
   unfold vw0;rw[cm,`Gv,`q,`bp];apply `bT;rw[`a3o];show `a3p;rw[`b0 h2])]
  refine hold _ (`aW (vk0 (`aW rfl (`t7 (`g (`ad `azJ)))) `SK) rfl);rw[`aL (`g (`rv - 1)) `II (`aF (`aL `MX `dJ `MY))];show `fb (`rv - 1 - N/4);congr 2;omega
 ·done;apply `apd
  apply `a3q;rw[R6 (by
   unfold vw0;rw[cm,`adM];rfl)]
  apply `a3q;rw[M5 (by
   apply `bT;show `a3r;rw[`Gv])]
  exact hold _ `lR
def Gs0{ga gb:GE}{δ:Ds}(h:`ex=`hb):`a3s=`hb:=`a3t
def G40{ga gb:GE}{δ:Ds}(h:`ex=`tq):`a3s=`fy:=`a3t
def i30(S:RS)(w:`ac)(ws:`N)(hw:`aS)(n:Int):J7 `bf `FJ=`c (.bl (`a3u),R S):=by
 refine `cj `UR
 show ug0 `UR=_;refine `Uk;have c1:o2 `MJ `Ll eqD `UR=`c (`hU `hv):=by
  rw[`aL `Aq (`u (`_b)) `a3v];show `eJ (Z5 w=`_b);congr 2;exact `ao0
 have c2:o2 `a_0 `a_1 leD `UR=`c (`hU `azK):=by
  rw[o5 (x:=`g (n*128)) (y:=`g 323) (`k (`aL `d7 `Xd rfl) `adN) `fr];rfl
 by_cases hv:`hv
 ·rw[Gs0 (`jG c1 hv),`b0 (`acm hv)]
 ·rw[`t0 G40 c1 hv,c2]
  congr 2;exact `J_ #[`p,λz=>z.resolve_left hv]
def mi0(p:`e)(S:RS)(δ:Ds):plN `a_! `bH=`a2s:=by
 unfold plN;rw[Ql0];rfl
def ck0(S:RS)(w:`ac)(ws:`N)(hw:`aS)(b:Int)(hb:`gp)(h0:`C2≠0)(hg:`a3w):`ab0=`hX ((`CU `C2)):=by
 apply `a3x;rw[← hn] at h0 hg ⊢;refine `cj [`bz `a0I,`es,`qN]
 show z10 `hP=_;refine n6 (δ':=`h4) (Y4 (V7 (d:=`d7) (by
  apply `a3y;rfl))) ?_
 refine n6 (δ':=`h4) (by
  rw[R6 (by
   apply `bT;apply `ape;rw[`hs])]
  rfl) ?_
 refine `dm `h4 ?_
 ·have t1:`a3z=`a3A:=by
   unfold DL.liftT;rw[show `a3B=`bY from b7 (by
    show `y_ (`apf);rw[`an6])]
   rfl
  have t2:`a3C=`a3A:=by
   unfold wb0 Q8;rw[`a3D,`b0 hg];rfl
  unfold ifX orT;rw[t1,`q];apply `a3E;rw[`dS,t2];rfl
 ·refine `a3F jt0 n
def ey0(S S':RS)(b:Int)(hb:0<=b/\`fJ)(r:D)(h:V8 `bf [`US]=`g4):`a3G:=by
 refine `cj [`sT,`es,.sh (`US)]
 show z10 `hP=_;refine n6 (δ':=[`ck,`es,.sh (`US)]) (Y4 (V7 (d:=`US) (by
  rw[o5 (x:=`aCM) (y:=`nO) `aCN (by
   show `fb (b%128);rw[Int.emod_eq_of_lt hb.1 hb.2])]
  rfl))) `e2
 rw[M5 (by
  apply `bT;apply `ape;rw[`b0 hb.2])]
 apply `UT
def l70(S:RS)(w:`ac)(ws:`N)(hw:`aS)(b:Int)(p:`e)(G:GSB)(r:`tO)(h:G `UU=r) :
  o6 (ifX `Nt (o6 `hq `P) `P) (o6 `a0o G) `hP=r:=by
 refine `jf `hP (n6 (Y4 (V7 `a3v)) h);have t:`a3H=`c (`m,`hP):=by
  unfold Q8;rw[`UV,hw];rfl
 unfold ifX;rw[t];rfl
def sl0(w v:`ac)(s0 s1:Sl):ob (o2 `aT `a2F eqD) [s0,s1,`Y_]=`a2G:=by
 apply `bT;apply `a2H;congr 2;exact `ao0
def t20(S S':RS)(w:`ac)(ws:`N)(hw:`aS)(hv:`gD)(b:Int)(r:D)(h:`a3G):`apg:=by
 apply `a3I
 show `UW;refine `aph w `e2;rw[M5 (by
  unfold z90;apply `api;apply `apj)]
 apply `UT
def pr0(S S':RS)(ws:`N)(hw:`a3J)(b:Int)(r:D)(h:O3 `bf `oo=`g4):`apg:=by
 refine `cj [`sT,`es,`a3K]
 show `UW;refine `aph `cM (`jf [`ck,`es,`a3K] `e2)
 ·rw[R6 (by
   unfold z90;apply `api;rfl)]
  rfl
 ·rw[M5 (by apply `a3L;rfl)]
  apply `UT
def p80(p:`e)(S:RS)(δ:Ds):plN `aCA `bH=`a2t:=by
 unfold plN;rw[Og0];rfl
def Na0(p:`e)(S:RS)(δ:Ds):ob `a0p `bH=`cc (0<`ds):=by
 apply `bT;rw[`aL `MU `iH `ab4];show `eJ (`eh<`Yr);congr 2;exact `UD
def ws0(S S':RS)(w:`ac)(ws:`N)(hw:`aS)(hv:`fU)(b:Int)(r:D)
  (h:0<`ds/\U8 `bf `oo=`g4∨`cP/\Y0 `bf `oo=`g4):`apg:=by
 apply `a3I
 show `UW;refine `aph w (`jf `UU (`dm `UU ?_))
 ·rw[R6 (by
   unfold z90;apply `api;apply `apj)]
  rfl
 ·rw[R6 (by apply `a3L;apply `apj)]
  rfl
 ·rcases h with⟨h0,h⟩|⟨h0,h⟩
  ·refine `hu
   rw[`Uj Na0 `an5];apply `UT
  ·refine `jf `UU (`avd)
   rw[R6 (`dl Na0 h0)];rfl
def Mf0(b:Int)(h:`it):w80 `oo=`hb:=by
 have w:vr0 `oo=`hb:=rfl;apply `GN;show pq0 `anE `a0q [`es]=_;unfold pq0;rw[show ob `anE [`es]=`e9 from b7 w,`q,`bp];have e1:leD `qA `qE=`hb:=`lj (`eJ (0<=b)) (`b0 h.1)
 have e2:leD `qE `Ln=`hb:=`lj (`eJ (`d3)) (`b0 h.2)
 unfold vm0;simp only[`bX (gc `qA [`es]=`c `qA),`bX (gv 0 [`sX `qE]=`c `qE),`bX (gc `Ln [`sX `qE]=`c `Ln),`q,e1,e2];rfl
def next(S:RS):RS:=(`GO:RS).ends
def Th(S:RS):Prop:=∀q∈`ca,`apk
inductive Runs:RS->`M->`apl
 | nil (S:RS):`cR S [] S
 | cons {S S1 S':RS} {b:Int} {r:`M} (hb:`it) (ht:`GP) (hl:`GQ) (hc:`y0) (hr:`cR `BN r S') (th:Th S1) (hk:`a3M):`cR S (b::r) S'
def Runs.app{S S2:RS}{r:`M}(h:`cR S l S1)(h':`cR S1 r S2):`cR S (l++r) S2:=by
 induction h with
 | nil=>exact h'
 | cons hb ht hl hc _ th hk ih=>exact `apm (ih h')
def Tk0(p:`e)(S:RS)(δ:Ds):ba0 0 `aZ `sW `cG `bH=`ay (`bz `GO::δ):=`dd
def SB:GS:=(v9 (ifD `a0b
 (v9 `a0c
 t7)
 t7)
 t7)
theorem fz0(b:Nat)(s1:Sl):∀(l:`h) (s2:Sl),(b∈l->`a3N=`c (.rt (`IX)))/\(b∉l->∃s2',`a3N=`ay [`eO,s1,s2'])
 | [],s2=>#[(λh=>by cases h),λ_=>`a3O]
 | c::l,s2=>by
  let#[i1,i2]:=fz0 b s1 l (`X7);have cc:ob `aCz `GR=`cc (c=b):=by
   apply `bT;rw[`aL `awZ `lr rfl];show `eJ (`KV=`b9);congr 2;exact `UD
  by_cases h:c=b
  ·subst h
   refine#[`akF,λn=>`G A4 n];rw[`ag];unfold zg0;have e:`a3P=`c (.rt (`Zf)):=by
    refine d8 ?_;rw[`Gt cc `y1];exact `t6
   show `a3Q `a3P;rw[e]
  ·have e:SB `GR=`ay `GR:=by
    refine `aoi;rw[`Gu cc `hj];rfl
   have st:zg0 `cL SB ((c::l).map `auR) `azM=`Y0 `GR:=by
    rw[`ag]
    conv=>lhs;unfold zg0
    show `a3Q (SB `GR);rw[e]
   rw[st];exact#[λhm=>i1 (`J1 `KW (`a3R)),λhn=>i2 λz=>hn `nr]
def us0(b:Nat)(s:Str)(l:`h)(hs:`f7=l)(hl:`bK<=100):vf0 [`lr,`dL]=`c (`o (b∈l) `IX `y):=by
 have it:∀δ:Ds,ku0 `ak (`eO::`A7::δ)=`c `a3S:=fun δ=>by
  show `c (`jw s)=_;unfold signs;rw[hs];rfl
 let#[i1,i2]:=fz0 b (`A7) l .un
 by_cases h:b∈l
 ·rw[`ch]
  exact `gC (d8 (sr0 (it _) (i1 h)))
 ·rw[`dF]
  let#[J,e]:=i2 h;exact `gC (t8 (sr0 (it _) e) (`t6))
def be0:(`an? `B2)=M4:=`bb
def g90:(`an? `B_)=Y7:=`bb
def nw0(S:RS)(ok:Ok S)(hw:`np)(b:Nat)(hb:`BE):`a3T=`hX (`i3):=by
 refine `cj `a3U
 show yg0 `iY=_;refine n6 (δ':=`pm) (Y4 (V7 (by
  rw[`a3V,`a3W,`dY]))) ?_
 refine `dm `pm (`aF (R6 `fr));refine `UQ `a3U `yZ;unfold Z3;rw[G6 `lR (pz0 S ok hw (`zV) rfl)];rfl
universe Rk
namespace Rk
open DL W Rm StrLaws
open Bt (X5 n6 c7 Y4 M5 R6 V3 S6 b7)
def starts_pre(a b:`h):`ac2 (`CV) (`CW)=`apn:=by
 unfold Txt.startswith;rw[subAt_eq,wl0,wl0,zm0,zm0,`mH,`a3X]
 by_cases h:b <+: a
 ·rw[List.isPrefixOf_iff_prefix.mpr h]
  have:=h.length_le;rw[`b0 `x,List.prefix_iff_eq_take.mp h];simp
 ·have hf:`apn=`m:=by
   cases q:`apn with
   | false=>rfl
   | true=>exact `G (Ax0.mp q) h
  rw[hf,Bool.and_eq_false_iff]
  by_cases hl:`ML<=`jb
  ·right
   rw[beq_eq_false_iff_ne];intro z;exact h (z▸List.take_prefix _ _)
  ·left
   exact X1 hl
def ab0{d:D}{δ δ1 δ2:Ds}(h1:`aMo)(h2:`aMp):zg0 f G `j? δ=zg0 f G ds δ2:=by
 conv=>lhs;unfold zg0
 rw[h1,`q,h2]
def LB:GS:=(v9 `a_?
 t7)
theorem ex0(s0 s1 s2:Sl):∀(k:Nat) (m:Nat) (s4:Sl),∃s4',zg0 `pj LB ((`N? m k).map λ(j:Nat)=>`b3 `cC) [s0,s1,s2,.sh (`_c),s4]=`ay [s0,s1,s2,`n' (`ad (36 ^ (m+k))),s4']
 | 0,m,s4=>#[s4,rfl]
 | k+1,m,s4=>by
  let#[s4',e]:=ex0 s0 s1 s2 k `rR (`_d);refine#[s4',?_];rw[`alL,`ag];have J:oA `adB T3 `apo=`c (`IU):=`dd
  have hb:LB `apo=`ay [s0,s1,s2,.sh (`a3Y),`_d]:=by
   refine `qb `a3Y ?_ rfl;rw[`h3 `_c `IU J,`adN,`sV];simp
  rw[ab0 (δ1:=`apo) rfl hb,`a4 (m+`d6=m+1+k)];exact e
def V60(names:`io)(hn:`a1C)(hl:∀n∈`ig,`h5)(L:Nat)(pre:`h)(hp:`fx<=L)(hL:L<=100):yv0 [`awr,`nP,`Ar]=`C9 (left `ig L pre):=by
 apply `yL
 let#[J,e]:=ex0 (`app) (`n6) (`BH) (`_Q) 0 .un;rw[`mH] at e;refine `gC (`iq [`app,`n6,`BH,`n' (`ad (36 ^ 0)),.un] (t8 (δ':=[`app,`n6,`BH,.sh (`a3Z),J]) (sr0 (items:=G7 0 (`apq)) (o20 (`t7 (`g (`apq))) `j `j) ?_) `mV))
 ·rw[o5 (x:=`nP) (y:=`g `aws) rfl (by
   rw[`c9 [`Ar]];show (`a! (`a3_<=`W) (`b3 (`a3_:Int)))=_;rw[zm0,`Gx])]
  rfl
 ·rw[← e]
  unfold G7;rw[`a4 ((`apq - 0).toNat=`_Q),`a30];congr 1;refine `a31
  rw[`Sd]
 ·have c:=qf0 (f:=gN 0) (gt:=`a0a) (ge:=gv 0) (δ:=[.un,`n6,`BH]) (`a32) (`S7) (items:=`_P) (λd hd=>by
   let#[n,O,rfl]:=`hH;have Y:=hl n O;refine#[`apr,rfl,?_,`hh];show vw0 _ _ _=`c (`ap ((`vE).cps.toList.length=L)&&`Yt (`DJ `vE));rw[wl0];unfold vw0;have t1:ob `azq `apr=`c (`aps):=by
    apply `bT;rw[o5 (x:=`g `a33) (y:=`nP) (by
     rw[`c9 [`_e]];show (`a! (`a34<=`W) (`b3 (`a34:Int)))=_;rw[zm0,`Gx]) rfl]
    show `eJ (`a33=`uG);congr 2;apply `t8
   have t2:ob `azr `apr=`c (`KQ):=by
    apply `bT;show `y_ (`ac2 (`vE) (`X_));rw[starts_pre]
   rw[t1,`q,t2];cases `aps<;>rfl)
  obtain⟨F,hF⟩:∃F:`l,F=((`a35).filter `a32):=`ah;have U:`wG=(`s (`a36 λn=>`aps&&`KQ)):=by
   rw[hF,List.filter_map,`S];congr 1
  rw[o5 (x:=`g `a37) (y:=`a3Z) (by
   rw[`lk [`t F] (q50 (items:=`_P) rfl `oL (by rw[hF];refine c.trans ?_;rw[List.map_id']))];rfl) rfl]
  show `eJ (`a37<`azO);unfold left;congr 2;rw[U];apply `t8
universe Rk
namespace Rk
open DL W Rm
theorem sub_len'[`y2]:∀{l m:`a6},`a38
 | [],_,_,_=>`bw
 | a::l,m,hn,h=>by
  rw[`ak_] at hn;have ha:=h a A4;have ih:=`UX (l:=l) (m:=m.erase a) hn.2 λb hb=>by
   have J:`i':=`pi hn.1 hb
   exact(List.mem_erase_of_ne J).mpr (h b (`Pa))
  rw[List.length_erase_of_mem ha] at ih;have:=Dj0 ha;rw[`T];lia
def words(A:`h):Nat->`io
 | 0=>[[]]
 | k+1=>A.flatMap λc=>`a39
theorem el0(A:`h):∀k,(`s `ab3)=`a3'
 | 0=>rfl
 | k+1=>by
  unfold words;rw[List.length_flatMap];have:(A.map λc=>(`s `a39))=A.map λ_=>`a3':=Q2 λc _=>by rw[`S,el0 A k]
  rw[`x,List.map_const',List.sum_replicate_nat,`sV,`aWg]
theorem mj0(A:`h):∀(k:Nat) (w:`h),`d?=k->(∀c∈w,c∈A)->w∈`ab3
 | 0,w,h,_=>`k (`a2x h) A4
 | k+1,[],h,_=>by cases h
 | k+1,c::w,h,hA=>k9.mpr #[c,hA c A4,`BM w (mj0 A k w `i4 (`UY hA))]
def Vy0:Y7.length=36:=`aw
def d80(names:`io)(hnd:names.Nodup)(hA:∀n∈`ig,∀c∈n,`jJ)(w:`h)(hw:∀c∈w,`jJ)(hn:w∉`ig)(pre:`h)(hp:pre <+: w):left `ig `d? pre=`d:=by
 unfold left;refine X0 ?_;have O:(`s ((`apt).map (·.drop `fx)))<=(`s (words Y7 (`d? - `fx))):=by
  refine `UX ?_ λa ha=>?_
  ·refine `apu
   have nd:(`apt).Nodup:=`Zb #[λz=>hn (M1.mp z).1,hnd.filter _];refine Av0 ?_ (N9.mp nd);intro a b ha hb J e;have pf:∀x∈(`apt),pre <+: x:=λx hx=>by
    apply `m'
    ·exact hp
    ·have:=(M1.mp hx).2
     apply `aV `bd;exact Ax0.mp this.2
   let#[a',rfl]:=pf a ha;let#[b',rfl]:=pf b hb;simp only[`GS] at e;exact J (`aoy)
  ·let#[x,hx,rfl]:=`de ha
   apply `m'
   ·exact mj0 _ _ _ (by rw[`kB]) λc hc=>hw c (x5 hc)
   ·let#[h1,h2]:=M1.mp hx
    rw[`bd,`Gj] at h2;exact mj0 _ _ _ (by rw[`kB,h2.1]) λc hc=>hA x h1 c (x5 hc)
 rw[el0,Vy0,`S,`T] at O;lia
universe Rk
namespace Rk
open DL W Rm
open Bt (X5 n6 c7 Y4 M5 R6 V3 S6 b7)
def V50(names:`io):`iM (`a35)=`d:=by
 unfold flats;rw[`kQ];intro d hd;let#[n,_,rfl]:=`hH;rfl
def lq0(p:`e)(S:RS)(δ:Ds)(gA:GA)(L:Nat)(pre:`h)(hA:gA `bH=`c `a3!)(hn:`w!)(hl:∀n∈`a9,`h5)(hp:`fx<=L)(hL:L<=100) :
  ob (`adE gA) `bH=`c (left `a9 L pre):=by
 apply `bT;unfold fnN;rw[ll0,`q,hA,`q,zu0,`q,O20 (xg0 3)];show (`tK (`iM (`C0)=`d/\`iM `a3!=`d) ((yv0 [`t (`C0),`nP,`Ar]).bind (`aX?)))=_;rw[`L #[V50 _,rfl],V60 `a9 hn hl L pre hp hL];rfl
def ig0(p:`e)(S:RS)(δ:Ds)(g:GE)(n:Nat)(hg:`yR=`sF):`aoX `hS=`ay (`bz ((`KR n))::δ):=by
 unfold vy0;rw[hg,`q];kernel_rfl
def kj0(p:`e)(S:RS)(δ:Ds)(g:GE)(l:`h)(hg:`yR=`a1D):`aoX `pl=`ay (`bz ((`IY S l))::δ):=by
 unfold vy0;rw[hg,`q];kernel_rfl
def jx0(S:RS)(hn:`GT)(hl:∀n∈`a9,`h5)(L:Nat)(h1:1<=L)(h8:L<=8)(hleft:`a3?=`d):Y0 `bf [`g `a4a]=`hX `apv:=by
 obtain⟨b,hb⟩:∃b:Int,b=`a4a:=`ah;have J:b/2=`uG:=`F
 rw[← hb];refine `cj [`bz `apv,`es,`n6]
 show S9 `hP=_;refine n6 (δ':=`hP) (by
  rw[R6 (by
   apply `bT;show `eJ (b%2=0);rw[`hs])]
  rfl) ?_
 refine n6 (δ':=`y3) (Y4 (V7 (d:=`nP) (by
  show `fb `ow;rw[J]))) ?_
 refine n6 (δ':=`y3) (by
  rw[R6 (by
   have t1:ob `Kg `y3=`bY:=b7 (by
    show `a4b;rw[`hs])
   have t2:ob `anC `y3=`bY:=b7 (by
    apply `a4c;rw[`hs])
   have t3:ob `anD `y3=`bY:=b7 (by
    apply `a4d;show `a4e;rw[`hs])
   unfold z90;rw[t1,`q,`dS,t2,`q,`dS,t3])]
  rfl) ?_
 refine n6 (δ':=`y3) (by
  rw[R6 (by
   unfold zp0;rw[`a4f,hleft];rfl)]
  rfl) ?_
 exact `a3F ig0 L
def uu0(p:`e)(S:RS)(δ:Ds):plN `auP `bH=`a2u:=by
 unfold plN;rw[Rd0];rfl
def R90(p:`e)(S:RS)(δ:Ds)(hl:`aoR):Z3 `a0h `bH=`ay (`bz `a4g::δ):=by
 apply `qf
 unfold Z3 qn0;apply `UC ll0 uu0;show `qc (`a! (nrf (`wE)=`d/\`a2w<`W) (D.non,`t5 3 `a4h));rw[`L #[rfl,`at0],s20 p S `a4g]
 ·rfl
 ·show `nq::`eB::`eB::`a4h::_=`nq::`eB::`eB::`t ((`azP).map `XZ)::_
  rw[`aU];rfl
def ie0(S:RS)(b:Nat)(hb:`ns)(hn:`w!)(hl:∀n∈`a9,`h5)(hs:`apw)(hL:`y4)(hleft:`GU)(p:`e)(G:GSB)(r:`tO)
  (h:G `apx=r) :
  (o6 `a0d
 (o6 (ifB `a0e
 (o6 `hq
 `P)
 `P)
 (o6 `a0f G))) `iY=r:=by
 apply `qf
 have sp:`a4i:=by
  rw[`a4j];apply `Uq
 refine n6 (δ':=`pm) (Y4 (V7 (by
  rw[`apy,`apz,`dY]))) ?_
 refine n6 (δ':=`pm) (by
  rw[R6 (by
   unfold z90;apply `a4k;unfold zp0;rw[`a4l,hleft];rfl)]
  rfl) ?_
 exact n6 (Y4 (kj0 p S _ _ `lJ sp)) h
def Tp0(p:`e)(S:RS)(δ:Ds)(hs:`rl<=8):ob `a0g `bH=`cc (`rl=`ds):=by
 apply `qf
 apply `bT;rw[o5 (x:=`g `a4m) (y:=`MU) (by
  rw[`lk [`wE] `azQ];show (`a! (`a4n<=`W) (`b3 (`a4n:Int)))=_;rw[zm0,`Gx]) `ab4]
 show `eJ (`a4m=`Yr);congr 2;apply `t8
def eb0(S:RS)(b:Nat)(hb:`ns)(hn:`w!)(hl:∀n∈`a9,`h5)(hs:`rl+1<`ds)(hL:`y4)(hleft:`GU) :
  `apA=`hX `BI:=by
 refine `cj `apx
 show `UZ;refine `a4o (`jf `apx `yZ);rw[R6 (by
  rw[Tp0 p `BI _ (`apB `ab5 8),`bE];show ¬`a4p;apply `hJ;lia)]
 rfl
def named(S:RS)(w:`h):RS:=(`a0M (((`C4 `X8):RS).hold (m9 w)))
def h70(S:RS)(ok:Ok S)(hw:`np)(b:Nat)(hb:`ns)(hn:`w!)(hl:∀n∈`a9,`h5)(hs:`Gm)(hL:`y4)(hleft:`GU) :
  `apA=`hX (`wH):=by
 obtain⟨w,J⟩:∃w,w=`qX:=`ah;have wl:`d?=`ds:=by rw[J,`Z,`d2];exact hs
 refine `cj `a4q
 show `UZ;refine `a4o (`jf `a4q `yZ);rw[← J];rw[M5 (by
  rw[Tp0 p `a4r _ (`dQ (`d?<=8)),`b0];exact wl)]
 refine n6 (Y4 (R90 p `a4r _ (`dQ `aoR))) ?_;have O:Ok `GV:=#[`BJ,`KX,`_j,ok.wait,`apB (`s `X8) 1000];refine `UQ [`bz ((`GV:RS).hold (m9 w)),`eO,`z9] ?_
 ·unfold Z3
  rw[G6 (S:=`GV) (`aW (uu0 p `GV _) rfl) (pz0 `GV O hw (m9 w) rfl)];rfl
 ·refine n6 (Y4 (ig0 p _ _ `c5 0 rfl)) (n6 (Y4 (kj0 p _ _ `tS [] rfl)) ?_)
  rfl
universe Rk
namespace Rk
open DL W Rm StrLaws
open Bt (X5 n6 c7 Y4 M5 R6 V3 S6 b7)
def Xx0:(∀n∈`bP 40,`amY `apC `apC `apC=`yI (`i6/2) (2*·)) /\
  ∀n∈`bP 40,`amY `apD `apD `apD=`yI (n/2) (2*·+1):=`bb
theorem fl0(xs:`a6)(d:α):∀l:`h,(∀i∈l,`xI)->`am_=`c6 (`QQ · d)
 | [],_=>rfl
 | i::l,h=>by
  have hi:=h i A4;rw[`Gb (C1 hi),fl0 xs d l `apE,`ag];simp[`b5,hi]
theorem on0:∀xs:`l,`DL=(`bP (`ar/2)).map λj=>(`QQ (2*j) `y,`QQ (2*j+1) `y)
 | []=>rfl
 | [a]=>by unfold pairsOf;simp
 | `LR=>by
  show `anL=_;rw[on0 r,`T,`T,`a4 ((`cd+1+1)/2=`cd/2+1),`aRx,`ag,`cS];rfl
def Qi0(xs:`l)(h:`ar<40):`a4s=`DL:=by
 unfold zr0;rw[Xx0.1 _ (`mD h),Xx0.2 _ (`mD h),fl0 xs `y _ (λi hi=>by
  apply `a4t;have:=`yM;show 2*j<_;lia),fl0 xs `y _ (λi hi=>by
  apply `a4t;have:=`yM;show 2*j+1<_;lia),on0]
 refine m4 `pG `aRC
 simp
def nv0(xs:`l)(h:`ar<40):vj0 [`dv]=`c `a4u:=by
 apply `GN;rw[Z1 (ds:=[`t (`azR),`t `azS]) `C3];show `c (`dU ((`a4s).map `aSb))=_;rw[Qi0 xs h]
def Fits(kd:Nat)(held:`l):Prop:=`a4v<=30/\(kd=0->∀d∈`cN,`a4w)/\(kd=3->`cN≠[])
theorem rt0:∀l:`h,`GW=l
 | []=>rfl
 | c::l=>by
  show (`DJ (`a2 [c]))++`GW=_;rw[rt0 l,wl0];rfl
def ma0(kd:Nat)(hk:kd<4)(held:`l)(h:Fits kd `cN):K1 [`lH,`Zg]=`c (`gX `apF):=by
 apply `qf
 let#[hl,h0,h3]:=h;have c:`a2Z `_g:=`a2_
 match kd,hk,h0,h3 with
 | 0,_,h0,_ =>
  obtain⟨l,rfl⟩:∃l:`h,`a4x:=by
   have:∀held:`l,(∀d∈`cN,`a4w)->∃l:`h,`a4x:=by
    intro held
    induction `cN with
    | nil=>exact λ_=>#[[],rfl]
    | cons d ds ih =>
     intro hd;let#[c,rfl]:=hd d A4;let#[l,rfl]:=ih `aAj
     exact#[c::l,rfl]
   exact `x `cN (h0 rfl)
  refine `Gr;show `sB [.sh (`l0),.sh (`t (`Aw))];apply `yU;refine `apG (`aW rfl (`t7 `sy)) |>.trans ?_
  ·have hp:l=`a1m:=(Bt.m20 l).symm
   rw[`S] at hl
   conv=>rhs;rw[hp]
   refine Bt.ah0 [] (`c6 `MM) 1 rfl ?_ `a1r `pG;show `GC (`Aw);rw[`cS];rfl
  ·show `c (Res.rt (`dU [`l0,`sy]))=`c (Res.rt (`dU [`l0,m9 (`GW)]))
   rw[rt0];rfl
 | 1,_,_,_ =>
  refine `yV `a4y `a4y `gU;apply `yU;exact `apG `C3
 | 2,_,_,_ =>
  refine `yV `apH `apH (`yW `apH `gU);apply `yU;exact `apG (`kE rfl (`k (`c9 [`Zg]) (nv0 `cN `j)))
 | 3,_,_,h3 =>
  cases `cN with
  | nil=>exact `G rfl (h3 rfl)
  | cons d ds =>
   refine `yV `U_ `U_ (`yW `U_ (`yW `U_ `mV));refine vk0 (`aW rfl (`aW (d:=d) (by
    show atI `j? 0=_;rw[vl0 `v (`DN) `y];rfl) (`t7 `apI))) `a1!
   rw[Z1 (ds:=`EZ) (`aW (by
    rw[Bt.lr0 (d:=`t `j?) (l:=`a4z) (h:=`f) rfl rfl rfl];show `GC (cutD `j? (`a4z) `f);rw[Bt.R00];rfl) rfl)]
   exact nv0 ds (by rw[`T] at hl;lia)
def km0(xs:`l):(`s `DL)<=`ar:=by
 rw[on0,`S,`o7];lia
def ei0(X:D)(ps:`TH)(hX:ixD X (`MV)=`c (`C (`a4A)))(hl:`aI<=1000):K9 1 [] `Ge `dD noT `re [.sh X]=`o' `j7:=by
 apply `qf
 refine q50 (items:=`a4A) ?_ `oL ?_
 ·show `w8 (o2 `aJ `q5 ixD [.sh X]) _=_
  rw[`aL X `MV rfl,hX];rfl
 ·rw[qy0 (`Sf (`C [a,_]) a) (λd hd=>by
   let#[q,_,rfl]:=`hH;exact`FT [.sh (`C `Xt)] rfl),`cS]
  rfl
def dq0(kd:Nat)(hk:kd<4)(held:`l)(h:`a4v<=1000):vc0 [`gX `apF]=`o' (R0 `apF):=by
 apply `qh
 ·refine `GX;rw[O9 (by unfold z90;rw[show ob `XB (U6 J2 [`gX (0,`cN)])=`e9 from `dd];rfl)];exact `a4B
 ·refine `GX;rw[O9 (`apJ `a4C `a4C `e9)];exact `a4B
 ·refine K6 rfl (t8 (δ':=[.sh (`apK)]) (by
   rw[W5 (`apJ (U6 J2 [`apK]) (U6 J2 [`apK]) `bY)];rfl) `qi)
  exact ei0 _ (`f9 `cN) (`Z? [`km] _) (C0 (km0 _) h)
 ·refine K6 rfl (t8 (δ':=[.sh (`apL)]) (by
   rw[W5 (`apJ (U6 J2 [`apL]) (U6 J2 [`apL]) `bY)];rfl) `qi)
  exact ei0 _ (`a4D) (`Z? [`j!,`a4E] _) (C0 (km0 _) (by rw[`kB];omega))
structure Held(q:`d8):Prop where
 kd:`y5
 fits:`a4F
 tr:`apk
 nr:`a4G
 fl:`iM `Zi=`d
def Th0(S:RS)(k:Nat)(q:`d8)(hq:`gf)(h:`vV):`a4H:=by
 have e2:`a4I:=by
  show `aoY;rw[`cX,hq];rfl
 have e1:`a4J:=by
  unfold V0;rw[`b5,hq];rfl
 rw[e1];unfold u30 O5;simp only[wg0,`q,e2];rw[`L #[rfl,h.tr,h.nr]]
def nr0(S:RS)(k:Nat)(u:`h)(hu:`g5)(q:`d8)(hq:`gf)(h:`vV):O4 `bf []=`c (`_R,R S):=by
 refine `cj `apM
 show yf0 `apM=_;have e1:J1 0 `je `q5 `apM=`c (`C5):=by
  unfold J1;rw[p10,`q,`bX (unG O2 `cG [`sz,.un]=`c (`MV)),`q,zu0,`q];rw[`a2A];rw[hu,`gt,`aU];exact `aoU
 unfold yf0 c30;rw[e1,`q,zu0,`q,Th0 S k q hq h,`q];have e3:oA `a0l vc0 ((`bB ([`sz,`sn]:Ds).length `sn).set 1 (`apN))=`c (`_R):=by
  rw[Z1 (ds:=[`U0]) (`aW (by
   rw[`a4K];exact ma0 q.1 h.kd q.2 h.fits) rfl)]
  exact dq0 q.1 h.kd q.2 (`cO h.fits.1)
 rw[e3,`q];simp only[];rw[`L h.fl]
def b00(p:`e)(S:RS)(δ:Ds)(g:GE)(i:Nat)(nm:`h)(hg:`yR=`c (`FQ))(hn:`a9[i]?=`Je):plN (J1 0 `wB g) `bH=`c `jR:=by
 unfold plN J1;rw[ll0,`q,hg,`q,zu0,`q,`abT `C0];have hi:=(`c7 hn).1;rw[`apO,`b!,`b5,`cX,hn];rfl
def ai0(S:RS)(ok:Ok S)(w:`ac)(ws:`N)(hw:`aS)(b:Nat)(hb:`U1)(nm:`h)(hnm:`GY)
  (hin:`apP):`aAh=`a4L:=by
 refine `cj `a4M
 show `apQ;refine n6 (δ':=`iY) (by
  rw[R6 (by
   apply `bT;apply `apR;apply `apS;rw[`hs])]
  rfl) ?_
 refine n6 (δ':=`mF) (Y4 (V7 (b00 p S _ _ (`rn - b) nm (by
  apply `a4N;apply `a4O;congr 2;lia) hnm))) ?_
 refine `dm `mF ?_
 ·have t1:`a4P=`c (`ap (`qJ),`mF):=by
   unfold DL.liftT;rw[`a4Q,`M7 w `fn];rfl
  unfold ifX Zf0;rw[t1,`q]
  by_cases hwn:`qJ
  ·skip;let#[k,u,q,hu,hq,hh,O]:=hin hwn
   have t2:`a4R=`c (`m,`mF):=by
    unfold Q8 ja0;apply `a4S;have e:`aCQ=`tq:=by
     show (`a! (`adP/\(R0 q).all `dN=`d) (`fC (xor `m (`a4T))))=_;rw[`L #[rfl,hh.fl]];congr 2;rw[`wv];cases ha:`a4T with
     | false=>rfl
     | true =>
      exfalso;let#[y,hy,he]:=l4.mp ha;have J:`dN y=`d:=x3.mp hh.fl y hy;cases y with
      | str t =>
       have:t=`BL:=G0.mp he;rw[`x] at hy;exact O hy
      | non=>cases he
      | bl _=>cases he
      | int _=>cases he
      | tup _=>cases J
      | lst _=>cases J
      | dct _ _=>cases J
      | fn _ _=>cases J
    show `a4U;rw[e];rfl
   done;rw[`b0 hwn];apply `a4V;rw[`bp,t2];rfl
  ·rw[`bE hwn]
   rfl
 ·refine `UQ `a4M `yZ
  unfold Z3;rw[G6 `lR (pz0 S ok `GG `jR rfl)];rfl
def Ze0(S:RS)(ok:Ok S)(w:`ac)(ws:`N)(hw:`aS)(b:Nat)(hb:`U1)(nm:`h)(hnm:`GY)
  (hin:`apP):Y0 `bf [`g `apT]=`a4L:=by
 obtain⟨c,hc⟩:∃c:Int,c=`apT:=`ah;rw[← hc];refine `cj [`azV,`f!,.un]
 show S9 [`ck,`f!,.un]=_;refine `hu;rw[M5 (by
  apply `bT;apply `apU;rw[`jH])]
 refine `UO (`t7 `lr) (`a4W ai0);show `fb (c/2);congr 2;lia
universe Rk
namespace Bw
open DL W
def zz0:GS:=(v9 `anc
 (v9 `and
 (v9 (J4 `T_
 (v9 `T0
 (v9 `T1
 t7)) 100000)
 (v9 `ane
 t7))))
def y00:`i:=`anf
def U0:`U:=`ang
def tq0:GS:=(v9 (ifD `am!
 (v9 `am?
 t7)
 t7)
 (v9 `ana
 t7))
def s50:`i:=`hd
def v90:`U:=`anb
def xm0:GS:=(v9 `anh
 t7)
def y80:`i:=`wP
def P0:`U:=`ani
def yo0:GS:=(v9 `anj
 t7)
def yn0:`i:=`el
def z60:`U:=`ank
def xo0:GS:=(v9 (ifD `tT
 (v9 `anl
 t7)
 t7)
 (v9 `tU
 t7))
def xx0:`i:=`el
def zk0:`U:=`anm
def w70:GS:=(v9 (ifD `tT
 (v9 `tU
 t7)
 t7)
 (v9 (ifD `TY
 (v9 `am6
 t7)
 t7)
 (v9 `Gd
 (v9 (ifD `am7
 (v9 `am8
 t7)
 t7)
 (v9 (rc0 `Ge `cL
 (v9 `TZ
 t7))
 (v9 `Gf
 t7))))))
def w40:`i:=`am9
def J3:`U:=`am'
universe Bw
namespace Bw
open DL W
def fu0{g:GE}{δ:Ds}{b:`I}(h:`a04):`a05:=`a06
def dgf:Nat->Nat->`M
 | 0,_=>[]
 | f+1,r=>`a4X
def dg(r:Nat):`M:=dgf r r
theorem Re0:∀(f g r:Nat),r<=f->r<=g->dgf f r=dgf g r
 | 0,0,_,_,_=>rfl
 | 0,g+1,r,h,_=>by
  have:r=0:=Nat.le_zero.mp h;subst this;rfl
 | f+1,0,r,_,h=>by
  have:r=0:=Nat.le_zero.mp h;subst this;rfl
 | f+1,g+1,r,h1,h2=>by
  show (`a4X)=`o (r=0) [] (`ha::dgf g `kF)
  by_cases z:r=0
  ·rw[`L z,`L z]
  ·rw[`k8,`k8,Re0 f g `kF `j `j]
theorem Kt0:dg 0=[]:=rfl
def Ha0(r:Nat)(h:r≠0):dg r=`ha::dg `kF:=by
 obtain⟨n,rfl⟩:∃n,r=n+1:=#[r - 1,`F];show (`o (n+1=0) [] ((`ad (128+`i6%128))::dgf n (`i6/128)))=_;rw[`dF,Re0 n (`i6/128) (`i6/128) `j `bF];rfl
def hi(r:Nat):`M:=(dg r).reverse
def ji0:hi 0=[]:=by unfold hi;rw[Kt0];rfl
def Wx0(r:Nat)(h:r≠0):hi r=hi `kF++[`ha]:=by unfold hi;rw[Ha0 r h,`gt]
def bs(n:Nat):`M:=hi `GZ++[`wN]
def Ii0:∀(m r:Nat),r<2 ^ m->(`s (hi r))<=m:=by
 intro m
 induction m with
 | zero =>
  intro r h;have h2:r=0:=by
   simp at h;exact h
  subst h2;rw[ji0];exact `fg
 | succ m ih =>
  intro r h
  by_cases h0:r=0
  ·subst h0;rw[ji0];exact `bw
  ·rw[Wx0 r h0,`Z]
   have:2 ^ `rR=2 ^ m*2:=`sV 2 m;have:=ih `kF `j;apply `w7;lia
def St0(n:Nat)(h:`G_):`a4Y:=by
 unfold bs;rw[`Z];have:=Ii0 2600 `GZ (`a4Z);apply `w7;lia
def WT:GB:=`T_
def WB:GS:=(v9 `T0
 (v9 `T1
 t7))
def wt(a b:Sl)(r:Nat):WT [a,b,`azZ]=`cc (0<r):=by
 show `cc (`eh<`kn)=_
 by_cases h:0<r
 ·rw[`ir,`jH]
 ·rw[`hj,`hs]
theorem wh(a:Sl):∀(m r:Nat) (o:`M) (f:Nat),r<2 ^ m->m<f->`apV+m<`W ->
  ∃s,J4 WT WB f `a4_=`ay [a,.ow (`cQ (o++dg r)),s]
 | m,r,o,0,_,hf,_=>`G hf `Dd
 | m,r,o,f+1,hr,hf,hl=>by
  by_cases h0:r=0
  ·subst h0
   unfold J4;rw[wt,Kt0,`bS];exact`ah
  ·cases m with
   | zero=>simp at hr;lia
   | succ m =>
    have hb:WB `a4_=`ay [a,.ow (`cQ (o++[`ha])),`n' `U2]:=by
     have e1:`No+`kn%128=`ha:=`F
     have e2:`kn/128=`U2:=`F
     refine t8 (Gw.Ug0 (l:=`avA) (d:=`g (128+`kn%128)) rfl rfl `oL) ?_;rw[`aU,← e1,← e2];rfl
    have h2:r/128<2 ^ m:=by
     have:2 ^ `rR=2 ^ m*2:=`sV 2 m;lia
    let#[s,e]:=wh a m `kF (o++[`ha]) f h2 `j `a03;refine#[s,?_];unfold J4;rw[wt,`jH];simp only[hb];rw[e,Ha0 r h0,`bg];rfl
def p60(n:Nat)(h:`G_):`a40:=by
 apply `apW
 have h2:n/128<`Jf:=`a4Z;let#[s,e]:=wh (`cJ) 2600 `GZ [`wN] 100000 h2 `v (`dQ (1+2600<_));refine K6 rfl ?_;have e1:`bv%128=`wN:=`F
 have e2:`bv/128=`a41:=`F
 refine `yO [`cJ,`hR [`g `wN],.un] (`Fm e1);refine `qb (`g `a41) (`Fm e2) ?_;refine t8 e `qi;show `GC (((`wN::dg `GZ).map `b3).reverse);rw[← `a29,`gt];rfl
inductive Vb:`U3
 | non:Vb `y
 | lk (j:Nat) (h:j<1000):Vb `q2
 | int (z:Int) (h:`apX):Vb `qD
def fold(z:Int):Nat:=if z<0 then (-2*z - 1).toNat else (2*z).toNat
def fold_lt(z:Int)(h:`apX):`B4<2 ^ 2502:=by
 unfold fold;have e:`a42=4*`KU:=`bb
 generalize `apY=w at h e;split<;>lia
def l00(z:Int):`a43:=by
 by_cases h:z<0
 ·refine `Gr
  rw[O9 (`lj `a44 `ir)];apply `qa;rw[`aL (`g (-2*z)) `dJ (`k (`aL (`g (-2)) `hC rfl) `qj)];have:`a45=-2*z - 1:=`a46 `ch
  rw[`x];rfl
 ·refine `gC (t8 (δ':=[`iD]) (`aF (W5 (`lj `a44 `hj))) `mV)
  rw[`aL `qG `hC rfl,`qj];have:`a45=2*z:=`a46 `dF
  rw[`x]
def sg(s:Str):`M:=s.cps.toList.map `apZ
def aq0(s:Str):(`s (sg s))=`uH:=by unfold sg;rw[`S];rfl
def P90(s:Str):yx0 `dD noT `aCb [.un] (`jw s)=`c `aw0:=by
 unfold signs;rw[qy0 (`Sf `c3 (`g (`ad (x.cps.toList.headD 0)))) (λd hd=>by
  let#[c,hc,rfl]:=`hH;exact`FT [.sh (`wp)] rfl)]
 unfold sg;rw[`cS,`cS];rfl
theorem ce0(s:Str)(h:`ap_):`a47 :=
 K6 rfl (R5 (zq0 (q50 (items:=`jw s) rfl (by unfold signs;rw[`S];exact h) (P90 s))))
def Nb0(a b:`M)(h:`a02):mn0 (`t (a.map `g)) (`t (b.map `g))=`c (`cQ (a++b)):=by
 simp only[mn0];rw[`L (`fz `S `S h),`aU]
def Js0{g:GE}{δ:Ds}{e:`M}(h1:`oF=`c `Bk)(h2:`ax=`o' (e.map `g))(h3:`a48):`a49=`ay (`co (`cQ (l++e))):=by
 unfold Z3 wy0;rw[h1,h2];simp only[`q];rw[`L (`fz `S `S h3),`aU];rfl
def N00{g:GE}{δ:Ds}{l e:`l}(h1:`oF=`nm)(h2:`ax=`c (`t e))(h3:`a48):`a49=`ay (`co (`t (l++e))):=by
 unfold Z3 wy0;rw[h1,h2];simp only[`q];rw[`Ue];rfl
def Ib(d:D):Prop:=`a4'∨Vb d
theorem small(h:`Ji n):`G_:=`a4!
def er0{g:GE}{δ:Ds}{s:Str}(h:`ax=`c `fj)(hs:`ap_):`a4?=`c (`a5a):=by
 rw[Z1 (ds:=`M1) `a5b];simp only[T3];rw[`L hs]
def cnt:Pt->Nat
 | `tW=>`d?
 | `tX=>`dz
 | `p?=>`aI
 | `anH=>`aI
def kn:Pt->Nat
 | `T9=>0
 | .row _=>1
 | `Iv _=>2
 | .rcd _ _=>3
def two(p:`uk):`l:=`a0r
def its:`anG
 | `T9=>[]
 | `tX=>vs
 | `p?=>`iT
 | `T8=>`mu::`iT
def tx:Pt->`M
 | `tW=>sg w
 | _=>[]
structure Gp(p:Pt):Prop where
 cnt:`qk
 len:`ap0<=50
 it:∀d∈`e_,Ib d
def Ir0{p:Pt}(h:Gp p):(`s (tx p))<=20:=by
 cases p with
 | text w=>show (`s (sg w))<=20;rw[aq0];exact h.cnt
 | _=>exact `bw
def Vr0(p:Pt):`ga<=3:=by cases p<;>simp[kn]
def Nh0{p:Pt}(h:`qk)(δ:Ds):oA `aCe T3 (.sh p.d::δ)=`c (`g `ap1):=by
 have z:`G0:=`aw
 cases p with
 | text w =>
  have h:`d?<=20:=h;exact er0 rfl `j
 | row vs=>rfl
 | table ps =>
  apply `a5c;rw[`S];rfl
 | rcd c ps =>
  apply `a5c;rw[`S];rfl
def Fh0(p:Pt)(δ:Ds):oA `aCf `aCg (.sh p.d::δ)=`c (`a5d):=by
 cases p<;>kernel_rfl
def Gt0(a b:Nat):4*`uO+`b9=(`ad (4*a+b)):=`F
def Wi0{p:Pt}(h:`qk):`a5e:=by
 apply `GN
 change o2 _ _ _ [.sh p.d]=_
 rw[o5 (x:=`g (4*`ap1)) (y:=`a5d) (by
  rw[`h3 `nE (`g `ap1) (Nh0 h _)];exact `qj) (Fh0 p _),← Gt0]
 rfl
def Vt0{p:Pt}(h:`qk):`a5f:=by
 have z:`G0:=`aw
 cases p with
 | text w =>
  have h:`d?<=20:=h;refine `GX;rw[`Gz];refine `Iw;rw[`c9 [`u w]];exact ce0 w `j
 | row vs=>exact `ql [`a5g] `nt `w'
 | table ps=>exact `ql [`M3] `nt `w'
 | rcd c ps=>exact `ql [`C8] `nt `w'
def HB:GS:=(v9 `TZ
 t7)
theorem y20:∀ps:`dH,`a5h
 | []=>rfl
 | `nh=>by rw[`G1,`Z,y20 ps,`T];show 2+_=_;lia
def Oq0{ps:`dH}{p:`uk}(h:`aUb):`a5i++two p=`wI (`ab8 `xU):=by
 rw[List.take_succ,h,List.flatMap_append];simp
def e30(a:Sl)(pre:`l)(ps:`dH)(hl:`fx+2*`aI<=`W)(s:Sl):∃s',zg0 `cL HB (`AJ) `a5j=`ay [a,`hR (pre++`iT),s']:=by
 let#[δ',l1,l2]:=oq0 (f:=gN 2) (G:=HB) (λi δ=>∃s,δ=[a,`hR (pre++`wI (`ab8 i)),s]) (`AJ) 0 `a5j (by
  rintro j d δ hj ⟨s,rfl⟩;rw[`cX] at hj;cases hp:ps[j]? with
  | none=>rw[hp] at hj;cases hj
  | some p =>
   rw[hp] at hj;cases hj;have J:=(`c7 hp).1;rw[`mH];refine#[_,_,rfl,t8 (N00 (l:=pre++`a5i) (e:=two p) rfl rfl (by
    rw[`Z,y20,`dT];show _+2<=_;lia)) rfl,.sh (pr p),?_]
   rw[`bg,Oq0 hp];rfl) #[s,`a7]
 let#[s',rfl]:=l2;refine#[s',?_];rw[l1,`mH,`S,`ap2]
def Vv0{p:Pt}(h:Gp p):`a5k:=by
 have z:`G0:=`aw
 have hc:=h.cnt;cases p with
 | text w=>kernel_rfl
 | row vs =>
  refine `ql [`a5g,.un,.un] `nt `X9;rw[`Gz];rfl
 | table ps =>
  have hc:`U4:=hc;let#[s',e]:=e30 (`M3) [] ps (by simp only[`n1];lia) .un;refine `ql `a5l `nt (t8 (δ':=`a5l) `nt (`iq `a5m (t8 (δ':=`a5m) `nt `a5n)))
 | rcd c ps =>
  have hc:`U4:=hc;let#[s',e]:=e30 (`C8) [`mu] ps `adJ .un;refine `ql `a5o `nt (t8 (δ':=`a5o) `nt (`iq [`C8,`wD,.un] (t8 (δ':=[`C8,`hR [`mu],.un]) (`aF `Gz) `a5n)))
structure Gq(p:Pt):Prop where
 cnt:`qk
 vals:∀v∈`Gs,Vb v
 names:∀s∈p.all,`o!
 few:`a5p
theorem Xo0{ps:`dH}(h1:∀v∈`i8,Vb v)(h2:∀s∈`j7,`o!):∀d∈ps,`a5q:=λd hd=>#[h2 _ `a5r,h1 _ `a5r]
theorem Uj0{ps:`dH}(h:∀d∈ps,`a5q):∀d∈`iT,Ib d:=λd hd=>by
 skip;let#[p,hp,hm]:=k9.mp hd;let#[q1,q2]:=h p hp;unfold two at hm;apply `ap3
 ·done;exact `n #[_,rfl,q1]
 ·done;rw[`U5];exact `p q2
def Gq.gp{p:Pt}(h:Gq p):Gp p:=by
 let#[h1,h2,h3]:=h;cases p with
 | text w=>exact#[h1,`bw,λd hd=>by cases hd]
 | row vs=>exact#[h1,by have:`dz<=20:=h1;show `dz<=50;lia,λd hd=>`p (h2 d hd)]
 | table ps =>
  apply `a5s
  exact#[h1,by have:`U4:=h1;show `M2<=50;rw[y20];lia,Uj0 hp]
 | rcd c ps =>
  apply `a5s
  refine#[h1,by have:`U4:=h1;show `ap4<=50;rw[`T,y20];lia,`nu];apply `qm
  ·exact `n #[_,rfl,h3 c (D4 _ (`ap5))]
  ·exact Uj0 hp d hd
def web(ps:`aE):D:=`a2e
def Lk(m:Nat)(v:D):Prop:=∀j:Nat,v=`Aa->j<m
theorem Hj0(h:i<m):Lk m (`C [`lD,`FQ]):=λj e=>by
 apply `G2
 injection e with _ e
 injection e with e _
 apply `G2
 lia
universe Bw
namespace K22
open DL W
theorem sub_len:∀{l m:`h},`a38
 | [],m,_,_=>`bw
 | a::l,m,h,hs=>by
  let#[h1,h2]:=E1.mp h;let#[m1,m2,rfl]:=List.append_of_mem (hs a A4);have:=`ap6 (m:=m1++m2) h2 λb hb=>by
   have:=hs b (`Pa);rcases `d! `x with q|q
   ·exact B0.mpr (`m2)
   ·rcases `cF q with rfl|q
    ·exact `G hb h1
    ·exact B0.mpr (`p q)
  simp only[`Z,`T] at this ⊢;lia
def nd(l:`h):`l:=`c6 λ(i:Nat)=>`b3 `u!
def Iq0(a b:`h):nd `MK=nd a++nd b:=by unfold nd;rw[`aU]
def lkv(f:`hr):D->D
 | `U6=>`C [`lD,`o9 (f `ka)]
 | v=>v
def rel(f:`hr)(p:Pt):Pt:=Pn.put p (p.vals.map (lkv f))
universe K22
namespace Km
open DL W K22
def zz0:GS:=(v9 `anc
 (v9 `and
 (v9 (J4 `T_
 (v9 `T0
 (v9 `T1
 t7)) 100000)
 (v9 `ane
 t7))))
def y00:`i:=`anf
def U0:`U:=`ang
def tq0:GS:=(v9 (ifD `am!
 (v9 `am?
 t7)
 t7)
 (v9 `ana
 t7))
def s50:`i:=`hd
def v90:`U:=`anb
def ow0:GS:=(v9 `a_E
 t7)
def to0:`i:=`kJ
def zi0:`U:=`a_F
def xm0:GS:=(v9 `anh
 t7)
def y80:`i:=`wP
def P0:`U:=`ani
def tg0:GS:=(v9 (ifD `a_K
 (v9 `a_L
 t7)
 t7)
 (v9 `a_M
 t7))
def t50:`i:=`Gg
def xn0:`U:=`a_N
def yo0:GS:=(v9 `anj
 t7)
def yn0:`i:=`el
def z60:`U:=`ank
def xo0:GS:=(v9 (ifD `tT
 (v9 `anl
 t7)
 t7)
 (v9 `tU
 t7))
def xx0:`i:=`el
def zk0:`U:=`anm
def t00:GS:=(v9 (ifD `a_G
 (v9 `TS
 t7)
 t7)
 (v9 (ifD (ob `DH)
 (v9 `a_H
 t7)
 t7)
 (v9 `a_I
 t7)))
def th0:`i:=`kJ
def zo0:`U:=`a_J
def uy0:GS:=(v9 (ifD `ann
 (v9 `a_O
 t7)
 t7)
 (v9 (ifD `a_P
 (v9 `a_Q
 (v9 `a_R
 t7))
 t7)
 (v9 `a_S
 t7)))
def t80:`i:=`a_T
def zl0:`U:=`a_U
def w70:GS:=(v9 (ifD `tT
 (v9 `tU
 t7)
 t7)
 (v9 (ifD `TY
 (v9 `am6
 t7)
 t7)
 (v9 `Gd
 (v9 (ifD `am7
 (v9 `am8
 t7)
 t7)
 (v9 (rc0 `Ge `cL
 (v9 `TZ
 t7))
 (v9 `Gf
 t7))))))
def w40:`i:=`am9
def J3:`U:=`am'
def ju0:GS:=(v9 `Gd
 (v9 `a_V
 (v9 `a_W
 (v9 `a_X
 (v9 (J4 `ano
 (v9 `anp
 (v9 `anq
 (v9 (ifD `anr
 (v9 `ans
 t7)
 (v9 (ifD `ant
 (v9 `anu
 (v9 `anv
 t7))
 t7)
 t7))
 t7))) 100000)
 (v9 `Gf
 t7))))))
def if0:`i:=`a_Y
def sn0:`U:=`a_Z
universe Km
namespace Km
open DL W K22
open Bw (bs sg cnt kn its tx fold Vb Gp Gq)
def pd(ks:`gk):D:=`df `I4 `ap7
def ix{α:Type}[`y2]:`a6->α->Nat
 | [],_=>0
 | b::l,a=>`o (b=a) 0 (`G3+1)
theorem hh0[`y2]:∀{l:`a6} {a:α},a∈l->`G3<`bK
 | [],_,h=>by cases h
 | b::l,a,h=>by
  unfold ix;rw[`T]
  by_cases e:b=a
  ·rw[`gy];lia
  ·have:=hh0 (l:=l) (a:=a) (`U7)
   rw[`e?];lia
theorem Or0[`y2]:∀{l:`a6} {a:α},a∈l->l[`G3]?=`jU
 | [],_,h=>by cases h
 | b::l,a,h=>by
  unfold ix
  by_cases e:b=a
  ·rw[`gy,e];rfl
  ·rw[`e?,`aWP]
   exact Or0 (`U7)
theorem ci0:∀(ks:`gk) (s:Nat) (k:J6),`U8->`a5t s=`c (`g (`ad (s+`U9)))
 | [],s,k,h=>by cases h
 | a::ks,s,k,h=>by
  rw[`T,`alL];show (if a=k then `c (`b3 `rf) else `a5t (s+1))=_;unfold ix
  by_cases e:a=k
  ·rw[`gy,`gy]
   rfl
  ·have hk:`U8:=`U7
   rw[`e?,`e?,ci0 ks (s+1) k hk,`a4 (s+1+`U9=s+(`U9+1))]
def au0{ks:`gk}{k:J6}(h:`U8):vz0 ks `ap7 k=`c (`o9 `U9):=by
 rw[`a30,ci0 ks 0 k h,`mH]
def lc0(ks:`gk)(k:J6):`Cz=`d↔`U8:=by
 unfold y70;rw[`aZu];constructor
 ·rintro⟨x,hx,e⟩
  rw[← `aWa e];exact hx
 ·intro h
  exact#[k,h,X0 rfl]
def cd0{ks:`gk}{k:J6}(h:k∉ks):`Cz=`m:=by
 cases e:`Cz with
 | false=>rfl
 | true=>exact `G ((lc0 ks k).mp e) h
def Ra0{ks:`gk}{k:J6}(h:k∉ks):(`df `aXd (xj0 ks `ap7 k `a5u):D)=pd (ks++[k]):=by
 unfold xi0 xj0 pd;rw[cd0 h,`jE,`jE,`Z,`d2,`Us,Iq0];rfl
theorem idx_map[`y2][`Ip β](f:α->β)(a:α):∀l:`a6,(∀b∈l,f b=f a->b=a)->ix (`c6 f) (f a)=`G3
 | [],_=>rfl
 | b::l,h=>by
  rw[`ag];unfold ix
  by_cases e:b=a
  ·rw[`gy,`L (`aoy)]
  ·rw[`e?,`_ (λz=>e (h b A4 z)),`ap8 f a l λc hc=>h c (A5 _ hc)]
def kb(B:`h):`gk:=B.map `a5v
def kt(T:`i):`gk:=T.map `a5w
def kb_mem(B:`h)(j:Nat):`a5x∈kb B↔`fB:=by
 unfold kb;rw[`a5y];constructor
 ·rintro⟨k,hk,e⟩
  have:`d5=`cC:=`U'
  have:k=j:=`F
  rw[← `x];exact hk
 ·exact λh=>#[j,h,rfl]
def qb0(T:`i)(s:Str):`ab9∈kt T↔`lX:=by
 unfold kt;rw[`a5y];constructor
 ·rintro⟨k,hk,e⟩
  have:k=s:=`U'
  rw[← `x];exact hk
 ·exact λh=>#[s,h,rfl]
theorem In0(B:`h)(j:Nat):ix `uz `a5x=`v4:=`ap8 (`a5v) j B λb _ e=>by
 have:`b9=`cC:=`U'
 lia
theorem Jr0(T:`i)(s:Str):ix `uW `ab9=`Lt:=`ap8 (`a5w) s T λb _ e=>`U'
def R20(B:`h):`G4=`bI:=by unfold kb;rw[`S]
def kt_len(T:`i):`C'=`gb:=by unfold kt;rw[`S]
structure Wb(ps:`aE):Prop where
 len:0<`aI/\`aoJ
 it:∀p∈ps,Gq p
 lk:∀p∈ps,∀v∈`Gs,Bw.Lk `aI v
def It(n:Nat)(d:D):Prop:=`a4'∨`o?∨(∃z:Int,`v7/\`apX)∨∃j:Nat,d=`Aa/\j<n
def It.of{v:D}(h:Vb v)(hl:Bw.Lk n v):It n v:=by
 cases h with
 | non=>exact `p `c0
 | lk j _=>exact `tI #[j,rfl,hl j rfl]
 | int z hz=>apply `jt (`n #[z,rfl,hz])
def hb(ps:`aE)(B:`h)(T:`i):D->`M
 | `dL=>`G5
 | `U6=>if `ap9 then bs (4*(`adQ - ix B `ka)+2) else `B6 (4*cnt `U!+kn `U!) `U!
 | `hC=>bs (4*`B4+1)
 | _=>bs 0
theorem p60(n:Nat)(h:`G_):`a40:=Bw.p60 n h
theorem ce0(s:Str)(h:`ap_):`a47:=Bw.ce0 s h
theorem Wi0{p:Pt}(h:`qk):`a5e:=Bw.Wi0 h
theorem Vt0{p:Pt}(h:`qk):`a5f:=Bw.Vt0 h
theorem Vv0{p:Pt}(h:Gp p):`a5k:=Bw.Vv0 h
theorem l00(z:Int):`a43:=Bw.l00 z
theorem Uu0(ks:`gk):xh0 [pd ks]=`c `a5u:=rfl
def Lc0(T:`i)(s:Str):ve0 `m `fj `Jy=`C9 `a5z:=by
 show `y_ (xor `m (`a5A));rw[`wv]
 by_cases h:`lX
 ·rw[`a5B,`ir]
 ·rw[`a5C,`hj]
def O90(B:`h)(j:Nat):ve0 `d `uV `Jz=`a5D:=by
 show `y_ (xor `d (y70 `uz `U?))
 by_cases h:`fB
 ·rw[`az4 ((`Va).mpr h),`ap'];rfl
 ·rw[cd0 (λz=>h ((`Va).mp z)),`ir];rfl
def Pz0{T:`i}{s:Str}(h:`lX):p20 `Jy `fj=`c (`a5E):=by
 show `a5F=_;rw[`a5G,Jr0]
def Ri0{B:`h}(h:`fB):p20 `Jz `uV=`c (`a5H):=by
 show vz0 `uz (nd (`bP `G4)) `U?=_;rw[au0 ((`Va).mpr h),In0]
def Nw0(T:`i)(hT:`Vb)(s:Str)(hs:`o!)(ps:`aE)(B:`h):xn0 `a5I=`c (`cQ `ap!):=by
 apply `apW
 have ht:ob `aCd `Vc=`c `a5z:=by
  unfold ob;rw[`aL `dL `vi rfl,Lc0];rfl
 show _=`c (`mk ((`G5).map `g))
 by_cases h:`lX
 ·rw[`ir] at ht
  rw[`ch];have J:=hh0 h;refine `GX;show `sB `Vc;rw[O9 ht];refine `Iw;rw[Z1 (ds:=[`g (`ad `aw2)]) (`aW (by
   rw[o5 (x:=`qG) (y:=`g (`ap? - 1 - `az8)) rfl (by
    rw[o5 (x:=`g (`ap? - 1)) (y:=`a5E) (by
     rw[`aL (`g `ap?) `dJ (by rw[`c9 [`vi],Uu0,kt_len])];rfl) (by rw[`aL `vi `dL rfl,Pz0 h])]
    rfl),`qj]
   congr 2;lia) rfl)]
  exact `Vd
 ·rw[`hj] at ht
  rw[`dF];refine K6 rfl (t8 (δ':=`Vc) (by
   show `sB `Vc;rw[W5 ht];rfl) `qi)
  have h1:=Bw.St0 `Jg `ot;have h2:=Bw.aq0 s;rw[o5 (x:=`cQ (bs `Jg)) (y:=`az0) (by
   rw[Z1 (ds:=[`g (`ad (2*`uH+1))]) (`aW (by
    rw[o5 (x:=`g (2*`az1)) (y:=`dJ) (by
     rw[`h3 `qG `a5a (Bw.er0 rfl `j)];exact `qj) rfl]
    apply `Ve;congr 2) rfl)]
   exact `Vd) (`k (`c9 `M1) (ce0 s `j))]
  exact `a5J
def ao0(B:`h)(j:Nat):zi0 `Lu=`a5D:=by
 apply `GN;unfold pq0;rw[`bX (ob `DH (U6 to0 `Lu)=`e9),`q,`bp];rw[`aL `gN `j6 rfl];exact O90 B j
def lw0{d:D}(h:isTup d=`m)(B:`h):zi0 [d,`j6]=`tq:=by
 apply `GN;unfold pq0;rw[`bX (ob `DH (U6 to0 [d,`j6])=`c (isTup d)),h];rfl
def Pd0(X:D):zo0 [`y,X]=`c (`Vf):=`dd
def Oh0(z:Int)(X:D):zo0 [`hC,X]=`c (`g (`ad (4*`B4+1))):=by
 refine `gC (t8 (δ':=`a5K) `yK (t8 (δ':=`a5K) `yK `mV));rw[o5 (x:=`g (4*`aw_)) (y:=`dJ) (by
  rw[`h3 `nE `az_ (by rw[`c9 [`hC],l00])];exact `qj) rfl]
 apply `Ve;congr 2
def Sn0{B:`h}(h:`fB):zo0 `Lu=`c (`a5L):=by
 have J:=hh0 h;refine `gC (t8 (δ':=[`ou,`a5M]) `yK `gU);apply `yJ;apply `qa;rw[o5 (x:=`g (4*`a5N)) (y:=`qG) (by
  rw[o5 (x:=`nE) (y:=`g `a5N) rfl (by
   rw[o5 (x:=`g (`ab' - 1)) (y:=`a5H) (by
    rw[`aL (`g `ab') `dJ (by rw[`c9 [`j6],Uu0,R20])];rfl) (by rw[`aL `j6 `gN rfl,Ri0 h])]
   rfl)]
  exact `qj) rfl]
 apply `Ve;congr 2;omega
def yc0{ps:`aE}(hj:`l7):ixD (`nQ) `uV=`c (`lB).d/\`lB∈ps:=by
 constructor
 ·show atI (`MR) `cC=_
  rw[`apO,`b!];simp[`b5,hj]
 ·rw[`b5,`l4 hj]
  exact k7 hj
def Vx0(l:`M):`iM (`c6 `b3)=`d:=by
 unfold flats;rw[`aRy,`kQ];exact λ_ _=>rfl
def Ys0{ps:`aE}(hw:`iu){B:`h}{T:`i}(hB:`Vg)(hT:`Vb){d:D}(hd:`mf):zl0 `a5O=`c (`cQ `oM)/\(`s `oM)<=2700:=by
 skip;apply `apW
 have one:`kH (`G_->`a4Y):=Bw.St0;apply `G6
 ·done;refine#[`GX,?_]
  ·apply `yJ
   refine `Iw;rw[`c9 `a5I];exact Nw0 T hT s hs ps B
  ·show (`s `G5)<=2700
   split
   ·have:=one `auF `ot;lia
   ·have:=one `Jg `ot
    have:=Bw.aq0 s;rw[`Z];lia
 ·done;refine#[`ql `aqa `yK (`e3 `aqa `qi),?_]
  ·show `sB `aqa
   rw[W5 (`Vh `a5P)];rfl
  ·rw[`lk [`Vf] (by apply `aCT;exact Pd0 _)]
   exact p60 0 `ot
  ·exact C0 (one 0 `ot) `j
 ·have hf:4*fold x+1<`Jf:=by
   have:=Bw.fold_lt x hx;have e:8*`a42<`Jf:=`bb
   generalize `a5Q=w at e;lia
  done;refine#[`ql `aqb `yK (`e3 `aqb `qi),?_]
  ·show `sB `aqb
   rw[W5 (`Vh `a5R)];rfl
  ·rw[`lk [`g (`ad (4*fold x+1))] (by apply `aCV;exact Oh0 x _)]
   exact p60 _ hf
  ·exact C0 (one _ hf) `j
 ·have J:∀G:GS,ifD `ann G t7 `Vi=`ay `Vi:=λG=>`auj
  have ht:ob `aCh `Vi=`a5S:=`Vh `a5T;have O:`avB=`a5U:=by
   unfold hb;apply `sC
  done;rw[O];let#[w1,w2]:=yc0 hj;have hq:=`Vj
  by_cases h:`fB
  ·rw[`ap'] at ht
   rw[`ch];refine#[K6 rfl (t8 (J _) (`e3 `Vi `qi)),?_]
   ·rw[W5 ht];rfl
   ·rw[`lk [`a5L] (`k `aCW (Sn0 h))]
    exact `Vd
   ·exact C0 (one _ `ot) `j
  ·rw[`ir] at ht
   rw[`dF];apply `a5V;have hc:=hq.cnt;have U:=Bw.Vr0 p;have h1:=one (4*(`Ls)+3) `ot;have h2:=Bw.Ir0 hq.gp;refine#[K6 rfl (t8 (J _) `X9),`a5W];rw[O9 ht];refine `qb p.d ?_ `qi
   ·rw[`a5X]
    exact w1
   ·rw[o5 (x:=`cQ (bs (4*(`Ls)+3))) (y:=`az3) (by
     rw[Z1 (ds:=[`g (`ad (4*(`Ls)+3))]) (`aW (by
      rw[o5 (x:=`g (4*`aw1)) (y:=`g 3) (by
       rw[`h3 `nE `az2 (`k `a5Y (Wi0 hc))];exact `qj) rfl]
      apply `Ve;congr 2) rfl)]
     exact `Vd) (`k `a5Y (Vt0 hc))]
    exact `a5J
def nB(B:`h):D->`h
 | `U6=>`o `ap9 B (B++[`ka])
 | _=>B
def nT(T:`i):D->`i
 | `dL=>`Vk
 | _=>T
def nW(ps:`aE)(B:`h)(W:`l):D->`l
 | `U6=>`o `ap9 W (its `U!++W)
 | _=>W
def pk(ps:`aE):Nat->`h->`i->`l->`M
 | 0,_,_,_=>[]
 | _+1,_,_,[]=>[]
 | f+1,B,T,d::W=>`a5Z
def st(ps:`aE)(o:`M)(B:`h)(T:`i)(W:`l)(s:Sl):Ds:=[`y6,`ab7,`aqc,`_i,`hR `ab!,s]
def PT:GB:=`ano
def PB:GS:=(v9 `anp
 (v9 `anq
 (v9 (ifD `anr
 (v9 `ans
 t7)
 (v9 (ifD `ant
 (v9 `anu
 (v9 `anv
 t7))
 t7)
 t7))
 t7)))
def Wg0(ps:`aE)(o:`M)(B:`h)(T:`i)(W:`l)(s:Sl):PT `a5_=`cc (0<`v6):=by
 show `cc (`eh<(W.reverse.length:Int))=_;rw[`mE];congr 1
 by_cases h:0<`v6
 ·rw[`ir,`jH]
 ·rw[`hj,`hs]
def J60{T:`i}{s:Str}(hT:`Vb)(a b c e:Sl):Z3 `aCm `aqd=`ay (`Vl (pd (kt `M9))):=by
 have zs:`G0:=`aw
 have e1:jb0 3 `oP `aCl `aqd=`tK (`C'<`W) (if `a5A=`d then (`a5F).map λr=>(r,(`aqd:Ds)) else `c (`a50,(`Vl (`df (`n (xi0 `uW `M4)) (xj0 `uW (nd (`bP `C')) `M4 (`a50)))))):=rfl
 unfold Z3;rw[e1,`L (`cH kt_len)];show `w9 _ _=`c (`GD (`Vl (pd (kt (`Vk)))))
 by_cases h:`lX
 ·rw[`L (`a5B),`a5G,`ch]
  rfl
 ·rw[`a5C,`jE,Ra0 `az6,`dF]
  show `c (`GD (`Vl (pd (kt T++[`p s]))))=_;unfold kt;rw[`aU];rfl
def J30{B:`h}(hB:`Vg)(hj:`B5)(a b c e:Sl):yi0 `aCp `aCq [a,b,`aqc,c,e,`ou]=`ay [a,b,.ow (pd (kb `r?)),c,e,`ou]:=by
 have zs:`G0:=`aw
 show `w9 `GD (`a! (`G4<`W) ([a,b,.ow (`df (`n (xi0 `uz `U?)) (xj0 `uz (nd (`bP `G4)) `U? (`o9 `G4))),c,e,`ou]:Ds))=_;rw[`L (`cH R20),Ra0 (λz=>hj ((`Va).mp z))];unfold kb;rw[`aU];rfl
def Lz0{ps:`aE}(hw:`iu){o:`M}{B:`h}{T:`i}{W:`l}{d:D}(s:Sl)(hB:`Vg)(hT:`Vb)(hd:`mf)(ho:`apV<=12000000)(hW:`v6<=10000) :
  PB `a51=`ay (st ps `aqe (`wJ) (nT T d) (`C!) `vl):=by
 have zs:`aqf:=`aw
 let#[i1,i2]:=Ys0 hw hB hT hd;have p1:yi0 (jg0 4) `DE `a51=`ay `a52:=by
  unfold st yi0 jg0;rw[`gt];show `w8 (`w9 (λd'=>(d',([`y6,`ab7,`aqc,`_i,`hR (`a53).dropLast,s]:Ds))) (`a53).getLast?) _=_;rw[List.getLast?_concat,`aoW];rfl
 have p2:Z3 `aCk `a52=`ay (`v5 `aqe `vl) :=
  Bw.Js0 (l:=o) (e:=`oM) rfl (Ny0 (`k (`c9 `a5O) i1) (Vx0 _)) `j
 refine t8 p1 (t8 p2 ?_);skip;apply `a54
 ·done;refine `e3 (st ps (o++`vd `oS) B (nT T `oS) W (.sh `oS)) rfl
  apply `yJ;exact t8 (J60 hT _ _ _ _) rfl
 ·done;apply `a55
  apply `v3;apply `a55;rw[W5 (`aqg `a5P)];rfl
 ·done;apply `a56
  apply `v3;apply `a56;rw[W5 (`aqg `a5R)];rfl
 ·let#[w1,w2]:=yc0 hj
  have ht:ob `aCn (`aAa)=`a5S :=
   `aqg `a5T
  apply `a57
  apply `a58
  have e3:nT T `q2=T:=rfl;done;rw[e1,e2,e3]
  by_cases h:`fB
  ·rw[`ch,`ch]
   rw[`ap'] at ht;refine `a59;apply `v3;refine `a59;rw[W5 ht];rfl
  ·rw[`dF,`dF]
   rw[`ir] at ht;have hq:=`Vj;apply `a5V;have J:=hq.gp.len;have p4:Z3 `aCr (st ps `_T `r? T W (`ou))=`ay (`aAb):=by
    refine(Bw.N00 (l:=`ab!) (e:=(`e_).reverse) rfl (by
     rw[Z1 (ds:=[`t (`e_)]) (`aW (by
      rw[`lk `C7 (`k `a5X w1)];exact Vv0 hq.gp) rfl)]
     rfl) (`i! `mE `mE)).trans ?_
    unfold st;rw[`a28];rfl
   refine `a5';apply `v3;refine `a5';rw[O9 ht];exact t8 (J30 hB h _ _ _ _) (t8 p4 rfl)
universe Km
namespace Km
open DL W K22
open Bw (bs sg cnt kn its tx fold Vb Gp Gq two)
def lkd(j:Nat):D:=`Aa
theorem Ub0{P:`U3}(hs:`a5!){ps:`dH}(h1:∀v∈`i8,P v)(h2:∀s∈`j7,`o!):∀d∈`iT,P d:=λd hd=>by
 let#[p,hp,hm]:=k9.mp hd;unfold two at hm;apply `ap3
 ·exact hs _ (h2 _ `a5?)
 ·rw[`U5];exact h1 _ `a5?
def Nn0{P:`U3}(hs:`a5!){p:Pt}(hn:∀s∈p.all,`o!)(hv:∀v∈`Gs,P v):∀d∈`e_,P d:=by
 cases p with
 | text w=>intro d hd;cases hd
 | row vs=>exact hv
 | table ps=>exact Ub0 hs hv `a6a
 | rcd c ps =>
  intro d hd;apply `qm
  ·exact hs c (hn c (D4 _ (`ap5)))
  ·exact Ub0 hs hv (`a6a) d hd
theorem Wb.its{ps:`aE}(hw:`iu){p:Pt}(hp:p∈ps):∀d∈`e_,`mf :=
 Nn0 (λs h=>`n #[s,rfl,h]) (hw.it p hp).names λv hv=>.of ((hw.it p hp).vals v hv) (hw.lk p hp v hv)
def Rz0{ps:`aE}(hw:`iu):∀(M f:Nat) (o:`M) (B:`h) (T:`i) (W:`l) (s:Sl),`aw7->M<f->M<=4000->`apV+2700*M<=11000000->`gb+M<=20000->`G7->(∀x∈B,`y7)->(∀d∈W,`mf) ->
  (`s (o++`aqh))<=11000000/\∃B' T' s',J4 PT PB f `a5_=`ay (st ps (o++`aqh) B' T' [] s'):=by
 intro M
 induction M with
 | zero =>
  intro f o B T W s h1 h2 _ h4 _ _ _ _;have:W=[]:=i7.mp `j;subst this;apply `a6b;rw[pk,`bS];refine`a6c;unfold J4;rw[Wg0,`bE `aM]
 | succ M ih =>
  intro f o B T W s h1 h2 h3 h4 h5 hn J hW;skip;apply `a6b;cases W with
  | nil =>
   done;rw[pk,`bS];refine`a6c;unfold J4;rw[Wg0,`bE `aM]
  | cons d W =>
   rw[`T] at h1;have hd:=hW d A4;have O:∀d∈W,`mf:=λe he=>hW e (A5 _ he)
   have a3:`bI<=`aI:=by
    have:=`Vm `ap6 hn (J y hy)
    rwa [Ay0] at this
   have a1:=hw.len.2;have sp:=Lz0 hw s (o:=o) (B:=B) (T:=T) (W:=W) (d:=d) `j `j hd `j `j;let#[_,i2]:=Ys0 hw (B:=B) (T:=T) `j `j hd;have Z:(`s `C!)+51*(`aI - (`s `wJ))<=M/\(`s (nT T d))<=`gb+1/\(`wJ).Nodup/\(∀x∈`wJ,`y7)/\∀e∈`C!,It `aI e:=by
    skip;apply `a54
    ·done;refine#[`aAc,?_,hn,J,O]
     show (`s (`o (x∈T) T (T++[x])))<=_;split
     ·lia
     ·apply `hJ;lia
    ·done;exact`a6d
    ·done;exact`a6d
    ·apply `a57
     apply `a58
     done;rw[e1,e2]
     by_cases h:`fB
     ·rw[`ch,`ch]
      exact#[`F,`ab?,hn,J,O]
     ·rw[`dF,`dF]
      let#[_,w2]:=yc0 hj;have a2:=(`Vj).gp.len;have Y:`a6e:=`Vn #[hn,`a7,`a6f];have U:∀x∈`nW,`y7:=λx hx=>by
       apply `t9
       ·exact J x z
       ·rw[`fa];exact hj
      have hl2:`a6g<=`aI:=by
       have:=`Vm `ap6 Y (U y hy)
       rwa [Ay0] at this
      refine#[?_,`ab?,Y,U,λe he=>?_]
      ·rw[`Z] at hl2 ⊢
       rw[`Z];simp only[`d2] at hl2 ⊢;lia
      ·rcases `d! he with z|z
       ·exact `y8 w2 e z
       ·exact O e z
   let#[k1,k2,k3,k4,k5]:=Z;have:=ih g `aqe (`wJ) (nT T d) (`C!) `vl k1 `j `j (`a5W) `j k3 k4 k5;apply `aV `bg;let#[q0,B',T',s',q]:=`x;done;refine#[q0,B',T',s',?_];unfold J4;rw[Wg0,`b0 (`DN)];simp only[sp];exact q
def pak(ps:`aE)(r:Nat):`M:=pk ps 100000 [] [] [lkd r]
def X30{ps:`aE}(hw:`iu):sn0 [`nQ]=`c (`cQ (pak ps 0))/\(`s (pak ps 0))<=11000000:=by
 have J:=hw.len.2;let#[q0,B',T',s',q]:=Rz0 hw 3500 100000 [] [] [] `y9 .un `adJ `v `v `aM `aM S4 (λx hx=>by cases hx) (λd hd=>by
  rw[`G8];exact `tI #[0,rfl,hw.len.1])
 rw[`hQ] at q0 q;refine#[K6 rfl ?_,q0];refine `iq [`y6,`wD,.un,.un,.un,.un] (`iq [`y6,`wD,`aqi,.un,.un,.un] (`iq [`y6,`wD,`aqi,`aqi,.un,.un] (`iq (st ps [] [] [] `y9 .un) (t8 q `w'))))
theorem ff0(f:D->D):∀ps:`dH,`Or (`aC_ f)=`a6h
 | []=>rfl
 | `nh=>by
  rw[`ag,`ag,`ag,`eI,ff0 f ps,`ag]
theorem lu0(f:D->D)(hf:∀s,f `fj=`dL):∀ps:`dH,`wI `a6h=`aCZ f
 | []=>rfl
 | `nh=>by
  rw[`ag,`G1,lu0 f hf ps,`G1,`aU];show[`_V,f p.2]++_=[f (`u p.1),f p.2]++_;rw[hf]
def cj0(π:`hr)(j:Nat):lkv π `j4=lkd (π j):=by unfold lkd lkv;apply `sC
def Ot0(B:`h)(j:Nat):`a6i=`az?:=by unfold nB lkd;apply `sC
def Ne0(ps:`aE)(B:`h)(W:`l)(j:Nat):nW ps B W `j4=`aCX:=by unfold nW lkd;apply `sC
def c90(ps:`aE)(B:`h)(T:`i)(j:Nat):`Vo=`a5U:=by
 unfold hb lkd;apply `sC
def laid(ps:`aE)(L:`h):`aE:=`a6j
universe Km
namespace Rk
open DL W Rm StrLaws
open Bw (bs hi)
def s60{S:RS}{w:`ac}(hw:`aS)(hv:`eS):`GF:=by
 skip;apply `a6k;have:w'=`ff:=hw;subst this;done;apply `wL w `a2N
theorem gu0{S:RS}{w:`ac}(hw:`aS)(hv:`eS):`y'=`GO:=s60 (S:=`GO) hw hv
theorem Runs.one{S:RS}{b:Int}(hb:`it)(ht:`GP)(hl:`GQ)(hc:`y0)(th:Th S1)(hk:`a3M):`cR S [b] `BN:=`apm (`Np)
def ur0{S:RS}(th:Th S){d:D}(hd:`lg):Th `oQ:=by
 cases hu:`aH with
 | nil =>
  unfold Th RS.hold;rw[hu];exact th
 | cons k u =>
  intro q hq;unfold RS.hold at hq;rw[hu] at hq;let#[i,hi]:=`_o;rw[`jI] at hi;cases e:`aqj with
  | none=>rw[e] at hi;cases hi
  | some y =>
   have hy:=th y (C8 e);rw[e] at hi
   by_cases z:k=i
   ·simp[z] at hi
    rw[← hi];show trs (y.2++[d])=`d;have:∀l:`l,`Vp->`a6l:=by
     intro l
     induction l with
     | nil=>intro _;show `a6m;rw[hd];rfl
     | cons a l ih =>
      intro h;unfold trs at h;apply `p6;show `a6n;rw[h.1,ih h.2];rfl
    exact `x _ hy
   ·simp[z] at hi
    rw[← hi];exact hy
def L60(S:RS)(w:`ac)(ws:`N)(hw:`aS)(hv:`gD)(hd:`ll)(hl:`yT)(hc:`li)(th:Th S):∀r:Nat,(`hv∨r*128<=323)->∃c,`cR S (hi r) (`u2 `kn c):=by
 intro r
 induction r using Nat.strongRecOn with
 | ind r ih =>
  intro hg
  by_cases h0:r=0
  ·subst h0
   rw[`G9];refine`a6o;have e:((`u2 `vs `gO):RS)=S:=by
    skip;apply `a6k;have:dg=0:=hd;subst this;done;rfl
   rw[e];exact `y!
  ·let#[c,h]:=ih `kF `j `a6p
   refine`aqk;rw[`a6q];refine h.app ?_;obtain⟨S1,J⟩:∃S1:RS,S1=(`u2 `U2 c):=`ah;have e1:`aql*128+`ha%128=`kn:=by
    rw[J];show `U2*128+`ha%128=`kn;lia
   have w1:`jc=`ff:=`Qd
   have ht:b8 (R S1) [`g `ha]=`hX `aqm:=by
    refine t20 S1 _ w ws w1 hv _ _ ?_;have:=ck0 S1 w ws w1 `ha `j (`cH e1) (by rw[e1];rcases hg with z|z;exact `gR;right;lia);apply `aV e1;exact `x
   have:=`G' (b:=`ha) `j ht (`k J hl) `a6r `a6s;rw[← J];have e2:next `aqm=(`u2 `kn (c+1)):=`a6t `aqm `DO;apply `aV e2;exact `x
def Zp0(S:RS)(w:`ac)(ws:`N)(hw:`aS)(hv:`gD)(hd:`ll)(hl:`yT)(hc:`li)(N:Nat)(hg:`hv∨N<=323)
  (th:Th S) (S2:RS) (hl2:S2.wait.length<100000) (hc2:S2.wait.count `a8<=S2.un.length) (th2:Th S2)
  (ht:∀c,V8 (R `y?) [`g `gl]=`hX `G!):`G? (bs N) `G!:=by
 let#[c,h]:=L60 S w ws hw hv hd hl hc th (N/128) `a6p;refine`aqk;unfold bs;refine h.app ?_;have t:=`G' (S:=`y?) (S1:=`G!) (b:=`Vq) `j (t20 `y? `G! w ws hw hv _ _ (ey0 `y? `G! `Vq `j _ (by
  have e:((`y?:RS).digits*128+`Vq)=`gl:=by
   show `aul*128+`Vq=`gl;lia
  rw[e];exact ht c))) hl2 hc2 th2
 exact t
def Yb0(z:Int):w00 (`ad `B')=z:=by
 unfold w00 Bw.fold
 by_cases h:z<0
 ·rw[`ch,`L `a']
  omega
 ·rw[`dF,`_ `a']
  omega
def Wk0(S:RS)(ok:Ok S)(ws:`N)(hw:`GM)(hd:`ll)(hl:`Ha)(hc:`li)(th:Th S)(N:Nat)(d:D)(hn:`jF)(htr:`lg)
  (h:`gl%4=1/\d=`a6u∨`a6v d `o?):`G? (bs N) ((`d' `lz c)):=by
 refine Zp0 S `b_ ws hw `jo hd `j hc N `c0 th `oQ ?_ ?_ (ur0 th htr) λc=>?_
 ·rw[vg0,`C?];lia
 ·rw[vg0,fn0,hw]
  rw[hw] at hc;have:`DM (`vW::ws)=`Hb:=`g1 `t'
  show `Hb<=_;lia
 ·have:=rq0 `y? `aqn ws hw `gl d hn h
  exact `x
def Tw0(S:RS)(ok:Ok S)(w:`ac)(ws:`N)(hw:`aS)(hv:`gD)(hd:`ll)(hl:`hE<=9000)(hul:`UG)(hc:`li)(th:Th S)(kd n:Nat)(hk:kd<4)(h1:`UL)(h2:`yY):`G? (bs (`Zk)) ((`d' `q8 c)):=by
 have J:n<=20:=`a2?
 have Y:=rk0 kd n J;have O:`a6w:=by
  rw[`a6x];intro z
  apply `qh
  ·have:=`Hc;cases `x
  ·have:=`Hc;cases `x
  ·apply `Vr;apply `qn;simp at hm
  ·apply `Hd
   ·cases z
   ·apply `Vr
    apply `qn;simp at hm
 have U:`Hb<=`gH:=by
  rw[hw,`t'] at hc;lia
 have e1:`aqo:=by
  show `i0++([`a8]++`jg)=_;rw[hw];rfl
 refine Zp0 S w ws hw hv hd `j hc _ (by rcases hv with rfl|rfl;right;split at h1<;>lia;exact `lp) th `sA ?_ ?_ (λq hq=>by
  rcases `d! (show q∈`Vs from hq) with z|z
  ·exact ur0 th rfl q z
  ·rw[`fa];rfl) λc=>?_
 ·rw[e1,`Z,`T]
  have:`hE=`EC+1:=`a6y
  lia
 ·rw[e1,`aqp,`t',O]
  have:(`q8).un.length=`gH+1:=rfl;rw[`x];simp;lia
 ·have:=So0 (`u2 ((`Zk)/128:Nat) c) `aqn (by show `np;rw[hw];simp) (`dQ `ao?) hul kd hk n h1 h2
  exact `x
universe Rk
namespace Rk
open DL W Rm StrLaws
open Bw (bs hi sg)
def h40(n:Nat)(h:n<128):bs n=[`bv]:=by
 unfold bs;rw[`a4 (n/128=0),`G9,`a4 (n%128=n)];rfl
def count_tail{w:`ac}(hv:`eS):`DM `ff=`Hb:=by
 rw[`t'];simp[hv]
def Vk0(S:RS)(ok:Ok S)(w:`ac)(ws:`N)(hw:`aS)(hv:`fU)(h0:`cP)(hl:`Ha)(hc:`li)(th:Th S)(h60:`aqq)(b:Nat)(hb:`U1)(nm:`h)(hnm:`GY)
  (hin:`apP):`G? (bs (2*b)) ((`d' `o8 c)):=by
 apply `He
 rw[`a6z];refine#[`vc,?_];have:=`G' (S:=S) (S1:=`o8) (b:=`apT) `j (`a6A (`a4W Ze0)) `a6B (by
  rw[vg0,fn0,hw];rw[hw,`aqr] at hc;exact hc) (`aqs)
 exact `x
def Z10(S:RS)(ok:Ok S)(w:`ac)(ws:`N)(hw:`aS)(hv:`fU)(hl:`Ha)(hc:`li)(th:Th S)(h60:`GT)(hln:∀n∈`a9,`h5)(nm:`h)(h8:`ec<=8)(hnd:`aqt)(hA:∀n∈`a9,∀c∈n,`jJ)(hN:∀c∈nm,`jJ)(hni:`a6C) :
  ∀(rest sp:`h) (c:Nat),sp++`aR=nm->`aR≠[]->∃c',`cR `a6D (rest.map `acb) ((`d' `r3 c'):RS).ends:=by
 apply `He
 have U:∀b∈Y7,`d3:=`aw
 intro rest
 induction `aR with
 | nil=>intro sp c _ h;exact `K_
 | cons b rest ih =>
  intro sp c he _;obtain⟨S1,J⟩:∃S1:RS,S1=`a6D:=`ah;rw[← J];have hb:`ns:=hN b (by rw[← he];simp);have a1:=`TN;have Y:`aqu+(`v?+1)=`ec:=by rw[← he,`Z,`T]
  have O:left `a9 `ec `Vt=`d:=d80 `a9 hnd hA nm hN hni `Vt #[`aR,`auG];have w1:`jc=`ff:=`Qd
  rw[`ag]
  by_cases hr:`aR=[]
  ·subst hr
   refine`aqk;have Z:`Y3=nm:=he;have ht:=h70 S1 (`Dl J `aqn) (`g1 w1) b hb `a6E `a6F (by rw[J];show `aqu+1=`ec;simpa using Y) `a6G `a6H;have e1:`Ab S1 (`aAg)=`aqv:=by
    rw[J];show `Ab _ `Vt=_;rw[Z];rfl
   rw[e1] at ht;have e2:(`r3).wait=`jg:=rfl;have e3:(`r3).un=`aH:=rfl;exact `G' (S:=S1) (S1:=`aqv) (b:=`b9) `j `a6I (by show (`r3).wait.length<100000;rw[e2,`C?];lia) (by
    show (`r3).wait.count `a8<=(`r3).un.length;rw[e2,e3,hw];rw[hw,`aqr] at hc;exact hc) (ur0 (S:=(`C4 (`a9++[nm]))) th rfl)
  ·let#[c',h]:=ih `Vt (c+1) `aqw hr
   refine#[c',?_];have a2:0<`v?:=`F9 hr;have ht:=eb0 S1 b hb `a6E `a6F (`sU J (`aqu+1<`ec)) `a6G `a6H;have e2:next `a6J=(`aca `Y3 (c+1)):=`a6t `a6J hf;refine `aa `j `a6I (`sU J `yT) `a6r ?_ `a6s;rw[e2];exact h
def Ry0(S:RS)(ok:Ok S)(w:`ac)(ws:`N)(hw:`aS)(hv:`fU)(h0:`cP)(hsp:`i5)(hl:`Ha)(hc:`li)(th:Th S)(h60:`GT)(hln:∀n∈`a9,`h5)(nm:`h)(h1:1<=`ec)(h8:`ec<=8)(hnd:`aqt)(hA:∀n∈`a9,∀c∈n,`jJ)(hN:∀c∈nm,`jJ)(hni:`a6C) :
  `G? (bs (2*`ec+1)++`Jq `acb) `aqv:=by
 apply `He
 let#[c,h]:=Z10 S ok w ws hw hv hl hc th h60 hln nm h8 hnd hA hN hni nm [] (`vc) rfl (by intro z;rw[z] at h1;simp at h1);refine#[c,Runs.app ?_ h];rw[`a6z];have ht:=jx0 S h60 hln `ec h1 h8 (d80 `a9 hnd hA nm hN hni [] (List.nil_prefix));have:=`G' (S:=S) (S1:=`aqx) (b:=(`ad (2*`ec+1))) `j (`a6A ht) (`dQ `yT) hc th;have e2:next `aqx=(`aca [] `vc):=(gu0 (S:=`aqx) hw hf).trans (by rw[← hsp]);apply `aV e2;exact `x
def xk0(S:RS)(k:Nat)(l:`h)(ws:`N):RS:=(`a0B (`z3 k λp=>(p.1,p.2++`Aw)) ws)
def modify_id(f:`t!)(hf:∀a,f a=a)(l:`a6)(k:Nat):`Hf=l:=by
 have:f=id:=funext hf;rw[`x];exact List.modify_id k l
def xp0(f g:`t!)(l:`a6)(k:Nat):(`Hf).modify k g=l.modify k (λa=>g (f a)):=by
 apply Dh0;intro i;rw[`jI,`jI,`jI];cases l[i]? with
 | none=>rfl
 | some a =>
  by_cases q:k=i
  ·simp[q]
  ·simp[q]
def Wn0:∀(l:`h) (S:RS) (k:Nat) (u:`h) (ws:`N),Ok S->`g5->`bu=`aqy->(∀q∈`ca,`a6K)->`ll->`Ha->`li->Th S->(∀c∈l,`Vu)->∃c,`cR `oh (`a6L) ((`d' (xk0 S k l ws) c):RS).ends:=by
 have U:∀b∈M4,`d3:=`aw
 intro l
 induction l with
 | nil =>
  intro S k u ws ok hu hw hq hd _ _ _ _;refine`a6o;have e:((`d' (xk0 S k [] ws) `gO):RS)=S:=by
   skip;let#[c,b,u',nm,w',dg,le,sp]:=S;have e1:w'=ws:=hw;have e2:dg=0:=hd;subst e1 e2;done;unfold xk0;simp only[];rw[modify_id _ (`a6M)]
  rw[e];exact `Np
 | cons b l ih =>
  intro S k u ws ok hu hw hq hd hl hc th hs;have J:`bu=`cM::(`aqy):=by rw[hw,`T,`da];rfl
  have hb:=hs b A4;have a1:=`TN;have ht:=nw0 S ok (`g1 J) b hb;have hk:=`a2E;obtain⟨S1,O⟩:∃S1:RS,S1=(`d' `i3 `vc):=`ah;have b1:`pa=`z3 k λp=>(p.1,p.2++[`zV]):=by
   rw[O];apply `yX;rw[hu]
  have w1:`jc=`aqy:=by rw[O];show `jg=_;rw[J];rfl
  have u1:`sE=k::u:=`k O hu
  have Y:∀q∈`pa,`a6K:=λq hm=>by
   rw[b1] at hm;let#[i,hi]:=`Bj hm;rw[`jI] at hi;cases e:`aqj with
   | none=>rw[e] at hi;cases hi
   | some q0 =>
    have:=hq q0 (C8 e);apply `aV `T;rw[e] at hi
    by_cases z:k=i
    ·simp[z] at hi
     rw[← hi];simp;lia
    ·simp[z] at hi
     rw[← hi];lia
  have Z:Ok S1:=#[λj hj=>by
   rw[b1,`qe];rw[u1,← hu] at hj;exact `BJ j hj,`fz b1 `qe `KX,λq hm=>`cO (Y q hm),`a6N,`k O ok.names]
  have c1:`y0:=by
   rw[w1,u1,← hu];rw[J,`KY `v] at hc;exact hc
  let#[c,h]:=ih S1 k u ws Z u1 w1 Y (`aF O) (`a6N) c1 (`k O `aqs) (`UY hs)
  refine#[c,?_];have e3:((`d' (xk0 S1 k l ws) c):RS)=`a6O:=by
   unfold xk0;rw[b1,xp0,O];apply `Vv;rfl
  rw[e3] at h;rw[s60 J `v,`ag];have:=Runs.cons (S:=S) (S1:=`i3) (b:=`b9) (r:=`a6L) (S':=(`a6O:RS).ends) `j (pr0 S _ _ J _ _ ht) `a6B (by
   rw[vg0,fn0,J];rw[J,`KY `v] at hc;exact hc) (by
   unfold next;rw[O] at h;exact h) (`aqs)
  exact `x
universe Rk
namespace Rk
open DL W Rm StrLaws
open Bt (X5 n6 c7 Y4 M5 R6 V3 S6 b7)
def K30(S:RS)(kd:Nat)(hk:kd<4)(n:Int)(h:`a6P):R7 `bf `a6Q=`kc:=by
 refine `cj `Vw
 show yd0 `Vw=_;have c1:ob `anA `Vw=`cc `acc:=by
  apply `bT;rw[`h3 `d7 `ao8 `a3b];rfl
 have c2:ob `anB `Vw=`cc `M5:=by
  apply `bT;rw[`a3c];show `a3d;congr 2;apply `t8
 refine `hu;rw[M5 (by
  unfold z90;rw[c1,`q,c2]
  by_cases h1:`acc
  ·rw[`Gv];rfl
  ·rw[`an7,`b0 (`Vx h1)];rfl)]
 apply `ip
theorem k50(S:RS)(p:`e)(N:Int)(j:Int):`a3m:=`r0
def bq0(S S':RS)(N:Int)(h0:0<=N)(h3:N%4=3)(r:D)(h:R7 `bf [`a6R,`g (N/4/4)]=`g4):`apc=`g4:=by
 refine `cj [`sT,`iC,`ux]
 apply `UN;refine `a3j;rw[M5 (`jG k50 h3)];refine `UO (`aW (d:=`a6R) ?_ (`aW (d:=`g (N/4/4)) rfl rfl)) h;show `a3k;rw[`a4 (N/4%4=(`ad `M6))];exact Zg0 _ `j
def Xf0(S:RS)(w:`ac)(ws:`N)(hw:`aS)(N:Int)(h3:N%4≠3)(h:`um∨(N%4≠1/\¬(`a6S)/\N≠0)):`apc=`kc:=by
 refine `cj `kD
 apply `UN;refine `a3n;refine `dm `kD (`aF (`t0 R6 k50 h3))
 by_cases hr:`um
 ·refine `hu
  rw[M5 (by rw[`KP,`a6T,`b0 hr])];apply `ip
 ·let#[h1,h2,h4]:=`Vx hr
  refine n6 (δ':=`kD) (by
   rw[R6 (by rw[`KP,`a6T,`bE hr])];rfl) `e2
  rw[R6 (by rw[k50,`an7])];refine `hu;rw[R6 (by
   unfold vw0;rw[k50,`q]
   by_cases h5:N%4=2
   ·rw[`b0 h5,`bp]
    apply `bT;rw[`a3o];show `a3p;rw[`bE λz=>h2 #[h5,z]]
   ·rw[`bE h5];rfl)]
  refine `hu;rw[R6 (by
   apply `bT;show `a3r;rw[`bE h4])]
  apply `ip
def Qg0(S:RS)(w:`ac)(ws:`N)(hw:`aS)(b:Int)(hb:`gp)(h:`C2=0∨¬(`a3w)):`ab0=`kc:=by
 apply `a3x;rw[← hn] at h;refine `cj `h4
 show z10 `hP=_;refine n6 (δ':=`h4) (Y4 (V7 (d:=`d7) (by
  apply `a3y;rfl))) ?_
 refine n6 (δ':=`h4) (by
  rw[R6 (by
   apply `bT;apply `ape;rw[`hs])]
  rfl) `e2
 have t1:`a3z=`c (`apf,`h4):=by
  unfold DL.liftT;rw[show `a3B=`c (`apf) from `r0];rfl
 have t2:`a3C=`c (!`a3u,`h4):=by
  unfold wb0 Q8;rw[`a3D];rfl
 unfold ifX orT;rw[t1,`q]
 by_cases h0:n=0
 ·rw[`an5]
  rfl
 ·rw[`an6]
  apply `a3E;rw[`dS,t2,`bE (`Vx h0)];rfl
def Lq0(S:RS)(b:Nat)(hb:b∉M4):`a3T=`kc:=by
 apply `a6U
 show yg0 `iY=_;refine n6 (δ':=`Op) (Y4 (V7 (by
  rw[`a3V,`a3W,`cz]))) `e2
 rw[M5 `fr];apply `ip
def Sy0(S:RS)(b:Nat)(hn:`w!)(hl:∀n∈`a9,`h5)(hs:`apw)(hL:`y4)(h:`Ua):`apA=`kc:=by
 by_cases hb:`ns
 ·have J:=`Vx λz=>z hb
  refine `cj `pm
  show `UZ;have sp:`a4i:=by
   apply `qf
   rw[`a4j];apply `Uq
  refine n6 (δ':=`pm) (Y4 (V7 (by
   rw[`apy,`apz,`dY]))) `e2
  rw[M5 (by
   unfold z90;apply `a4k;unfold zp0;rw[`a4l,J];rfl)]
  apply `ip
 ·apply `a6U
  show `UZ;refine n6 (δ':=`Op) (Y4 (V7 (by
   rw[`apy,`apz,`cz]))) `e2
  rw[M5 (by
   unfold z90;rw[show ob `adC `Op=`e9 from `dd];rfl)]
  apply `ip
def Sc0(S:RS)(hn:`aqq)(hl:∀n∈`a9,`h5)(b:Nat)(hb:b%2=1)(h:`anN):`a6V=`kc:=by
 obtain⟨L,hL⟩:∃L:Nat,L=b/2:=`ah;rw[← hL] at h;refine `cj `za
 show S9 `iY=_;refine n6 (δ':=`iY) (by
  rw[R6 (by
   apply `bT;apply `a6W;rw[`hs])]
  rfl) ?_
 refine n6 (δ':=`za) (Y4 (V7 (d:=`nP) (by
  show `a6X;congr 2;lia))) ?_
 have t1:ob `Kg `za=`cc (L=0):=b7 (by
  show `a4b;congr 2;apply `t8)
 have t2:ob `anC `za=`cc (8<L):=b7 (by
  apply `a4c;congr 2;apply `t8)
 have t3:ob `anD `za=`cc `Z5:=b7 (by
  apply `a4d;show `a4e;congr 2;apply `t8)
 by_cases hA:L=0∨8<L∨`Z5
 ·refine `hu
  rw[M5 (by
   unfold z90;rw[t1,t2,t3]
   by_cases a:L=0
   ·rw[`b0 a];rfl
   ·rw[`bE a]
    by_cases a2:8<L
    ·rw[`b0 a2];rfl
    ·rw[`bE a2,`b0 (`J1 (hA.resolve_left a) a2)];rfl)]
  apply `ip
 ·have J:`a3?=`m:=by
   rcases h with h|h|h|h
   ·exact `G `P2 hA
   ·exact `G (`p `P2) hA
   ·exact `G (`p (`p h)) hA
   ·exact h
  refine n6 (δ':=`za) (by
   rw[R6 (by
    unfold z90;rw[t1,t2,t3,`bE λz=>hA `AF,`bE λz=>hA `Vy,`bE λz=>hA (`p `KJ)];rfl)]
   rfl) `e2
  rw[M5 (by
   unfold zp0;rw[`a4f,J];rfl)]
  apply `ip
def Tj0(S:RS)(b:Nat)(hb:`fl<=b):`a6Y:=by
 refine `cj `iY
 show `apQ;refine `hu;rw[M5 (by
  apply `bT;apply `apR;apply `apS;rw[`jH])]
 apply `ip
def Nm0(nm:`h)(l:`l)(hl:`a6Z)(h:`uy∈l):u50 `m `jR (`Tj)=`hb:=by
 show (`a! (`adP/\`a6Z) (`fC (xor `m (l.any `azY))))=_;rw[`L #[rfl,hl]];congr 2;rw[`wv];exact l4.mpr #[_,h,`xz rfl]
def Wh0(S:RS)(ws:`N)(hw:`bu=`fn::ws)(b:Nat)(hb:`U1)(nm:`h)(hnm:`GY)
  (k:Nat) (u:`h) (q:`d8) (hu:`g5) (hq:`gf) (hh:`vV) (hni:`uy∈R0 q):`a6Y:=by
 refine `cj `mF
 show `apQ;refine n6 (δ':=`iY) (by
  rw[R6 (by
   apply `bT;apply `apR;apply `apS;rw[`adM])]
  rfl) ?_
 refine n6 (δ':=`mF) (Y4 (V7 (b00 p S _ _ (`rn - b) nm (by
  apply `a4N;apply `a4O;congr 2;omega) hnm))) `e2
 have t1:`a4P=`a6_:=by
  unfold DL.liftT;rw[`a4Q,`M7 `fn `fn];rfl
 have t2:`a4R=`a6_:=by
  unfold Q8 ja0;apply `a4S;show `a4U;rw[Nm0 nm _ hh.fl hni];rfl
 unfold ifX Zf0;rw[t1,`q];apply `a4V;rw[`bp,t2];rfl
def i60(S S':RS)(b:Nat)(hb:b%2=0)(r:D)(h:W3 `bf [`a60]=`g4):`a6V=`g4:=by
 refine `cj [`sT,`eO,.un]
 show S9 `iY=_;refine `hu;rw[M5 (by
  apply `bT;apply `a6W;rw[`jH])]
 refine `UO (`t7 `a60) h;show `a6X;congr 2
def oy0(S:RS)(hw:`yP)(b:Int):`Vz:=by
 refine `cj `hP
 show `UW;refine `hu;have t:`a3H=`c (`d,`hP):=by
  unfold Q8;rw[`UV,hw];rfl
 unfold ifX;rw[t];rfl
universe Rk
namespace Rk
open DL W Rm
open Bw (bs its)
open Km (hb nB nT nW pk lkd It Wb)
inductive Pk (ps:`aE):`h->`i->`l->`h->`i->`aqz
 | nil (B:`h) (T:`i):Pk ps B T [] B T []
 | str {B:`h} {T:`i} {s:Str} {ds:`l} {B':`h} {T':`i} {b:`M} (h:Pk ps B `M9 ds B' T' b):`z4 (`dL::ds) (`ap!++b)
 | val {B:`h} {T:`i} {d:D} {ds:`l} {B':`h} {T':`i} {b:`M} (hd:`a61) (h:`nv):`z4 `j? (`oM++b)
 | old {B:`h} {T:`i} {j:Nat} {ds:`l} {B':`h} {T':`i} {b:`M} (hj:`fB) (h:`nv):`z4 `a62 (`Vo++b)
 | new {B:`h} {T:`i} {j:Nat} {ds:`l} {B1 B':`h} {T1 T':`i} {b1 b:`M} (hj:`B5) (h1:Pk ps `r? T (`B7) B1 T1 b1) (h2:Pk ps B1 T1 ds B' T' b):`z4 `a62 (`Vo++(b1++b))
theorem o10{B:`h}(hn:`G7)(hj:`B5):`a6e:=`Vn #[hn,`a7,`aAd hj]
def Jb0{d:D}(hd:`a61):`ly≠d:=by
 rcases hd with rfl|⟨z,rfl⟩<;>exact λz=>nomatch z
def k30(h:lkd i=`ly):i=j:=by
 unfold lkd at h;injection h with h
 injection h with _ h
 apply `aqA
 injection h with h
 lia
def Pk.pre{ps:`aE}{B B':`h}{T:`i}{b:`M}(h:`nv):∃N,B'=B++N:=by
 induction h with
 | nil B T=>exact`a63
 | str _ ih=>exact ih
 | val _ _ ih=>exact ih
 | old _ _ ih=>exact ih
 | new _ _ _ i1 i2 =>
  let#[N,rfl]:=i1;let#[M,rfl]:=i2;exact#[_,by rw[`bg,`bg]]
def Pk.nodup{ps:`aE}{B B':`h}{T:`i}{b:`M}(h:`nv):`G7->B'.Nodup:=by
 induction h with
 | nil B T=>exact id
 | str _ ih=>exact ih
 | val _ _ ih=>exact ih
 | old _ _ ih=>exact ih
 | new hj _ _ i1 i2=>exact λhn=>i2 (i1 (o10 hn hj))
open T in
def Pk.links{ps:`aE}{B B':`h}{T:`i}{b:`M}(h:`nv):(∀j,`ly∈ds->j∈B')/\∀k∈B',k∉B->∀j,`a64->j∈B':=by
 induction h with
 | nil B T=>exact#[(λj h=>by cases h),λk hk hn=>`G hk hn]
 | str _ ih=>exact`a65 λz=>nomatch z
 | val hd _ ih=>exact`a65 (Jb0 hd)
 | old hj h ih =>
  rename_i B T j ds B' T' b;refine#[λi hi=>?_,ih.2];rcases `cF hi with z|z
  ·rw[k30 z]
   let#[N,rfl]:=h.pre;exact D6 _ hj
  ·exact ih.1 i z
 | new hj h1 h2 i1 i2 =>
  apply `aqB;let#[N,e1]:=h1.pre;let#[M,e2]:=h2.pre;have m1:∀x∈B1,x∈B':=λx hx=>`k e2 (D6 _ hx)
  have J:j∈B1:=`g1 e1
  refine#[λi hi=>?_,λk hk hn i hi=>?_]
  ·rcases `cF hi with z|z
   ·rw[k30 z];exact m1 _ J
   ·exact i2.1 i z
  ·by_cases hk1:k∈B1
   ·by_cases hkj:k=j
    ·subst hkj
     exact m1 _ (i1.1 i hi)
    ·exact m1 _ (i1.2 k hk1 (λz=>by
      apply `VA
      ·exact hn z
      ·exact hkj `TP) i hi)
   ·exact i2.2 k hk hk1 i hi
def al0(h:It n `j4):j<n:=by
 skip;rcases h with⟨s,e,_⟩|e|⟨z,e,_⟩|⟨i,e,hi⟩
 ·cases e
 ·cases e
 ·cases e
 ·done;rw[k30 (j:=i) e];exact hi
def Pk.range{ps:`aE}(hw:`iu){B B':`h}{T:`i}{b:`M}(h:`nv):`VB->`aqC->∀j∈B',`l7:=by
 induction h with
 | nil B T=>exact λh _=>h
 | str _ ih=>exact `aqD
 | val _ _ ih=>exact `aqD
 | old _ _ ih=>exact `aqD
 | new hj _ _ i1 i2 =>
  intro h hd;have J:=`a66;refine i2 (i1 (`m!) λd m=>`y8 `aqE d m) `_U
  apply `t9
  ·exact h x z
  ·rw[`fa];exact J
open T in
def Pk.steps{ps:`aE}(hw:`iu){B B':`h}{T:`i}{b:`M}(h:`nv):`VB->`aqC->∃n,n+51*`bI<=`bN+51*B'.length/\∀(f:Nat) (W:`l),pk ps (n+f) B T `adR=b++pk ps f B' T' W:=by
 induction h with
 | nil B T=>exact λ_ _=>#[0,`a7,λf W=>`a67]
 | str _ ih =>
  intro h hd;apply `aqF
  apply `aqG;apply `aqH;rfl
 | val hd' _ ih =>
  intro h hd;apply `aqF
  apply `aqG;apply `aqH;rcases hd' with rfl|⟨z,rfl⟩<;>rfl
 | old hj _ ih =>
  rename_i B T j ds B' T' b _;intro h hd;apply `aqF
  apply `aqG;apply `aqH;show `a68 (n+f);rw[Km.Ot0,Km.Ne0,`aqI,`aqI]
 | new hj p1 p2 i1 i2 =>
  apply `aqB;intro h hd;have J:=`a66;have O:∀x∈`nW,`y7:=λx hx=>by
   apply `t9
   ·exact h x z
   ·rw[`fa];exact J
  have hI:=`y8 `aqE;let#[n1,a1,a2]:=i1 O hI;let#[n2,c1,c2]:=i2 (p1.range hw O hI) `_U
  have U:=(hw.it _ `aqE).gp.len;refine#[n1+n2+1,by rw[`Z,`d2] at a1;rw[`T];lia,`aCY];rw[`a4 (n1+n2+1+f=`a69+1),`bg,`bg,← c2 f W,← a2 (n2+f) `adR];show `a68 `a69;rw[Km.Ot0,Km.Ne0,`aqJ,`aqJ]
def Pk.ex{ps:`aE}(hw:`iu):∀(m:Nat) (ds:`l) (B:`h) (T:`i),`aw6<=m->`G7->`VB->`aqC->∃B' T' b,`nv:=by
 intro m
 induction m with
 | zero =>
  intro ds
  induction ds with
  | nil=>apply `a6'
  | cons d ds ih =>
   intro B T hm hn hB hd;skip;apply `a6!
   apply `a6?
   ·apply `a7a
    done;exact`a7b
   ·apply `zb
    done;exact`a7c
   ·apply `zb
    done;apply `a7d
   ·by_cases hj':`fB
    ·apply `zb
     done;exact`a7e
    ·done;exfalso
     have:=`aqK `aqL (m:=`a7f) λy hy=>`mD (by
      rcases `d! hy with z|z
      ·exact hB y z
      ·rw[`fa];exact hj)
     rw[`o7,`Z,`d2] at this;omega
 | succ m im =>
  intro ds
  induction ds with
  | nil=>apply `a6'
  | cons d ds ih =>
   intro B T hm hn hB hd;skip;apply `a6!
   apply `a6?
   ·apply `a7a
    done;exact`a7b
   ·apply `zb
    done;exact`a7c
   ·apply `zb
    done;apply `a7d
   ·by_cases hj':`fB
    ·apply `zb
     done;exact`a7e
    ·have O:∀x∈`nW,`y7:=λx hx=>by
      apply `t9
      ·exact hB x z
      ·rw[`fa];exact hj
     have hI:=`y8 `aqM;let#[B1,T1,b1,h1]:=im (`B7) `r? T (by apply `hJ;omega) `aqL O hI;let#[N,e1]:=h1.pre;let#[B',T',b,h2]:=im ds B1 T1 (by rw[e1];simp only[`Z,`d2];omega) (h1.nodup `aqL) (h1.range hw O hI) J;done;exact#[B',T',_,.new hj' h1 h2]
def Ok0{ps:`aE}(hw:`iu):∃L T b1,`a7g/\`a7h/\L.Nodup/\(∀k∈L,k<`aI)/\(∀k∈L,∀j,`a64->j∈L)/\∃N,L=0::N:=by
 skip;have J:=hw.len;have hB:∀j∈[0],`l7:=λj hj=>`k (`dK hj) J.1
 have hI:=`y8 (`Bi J.1).2;let#[L,T,b1,h]:=Pk.ex hw 60 (`M') [0] [] `j `aM hB hI;have hn:=h.nodup `aM;have hr:=h.range hw hB hI;apply `VC;have hp:Pk ps [] [] `y9 L T (`aAk++(b1++[])):=.new `aM h (`R L T);let#[n,a1,a2]:=hp.steps hw (λj hj=>by cases hj) (λd hd=>`k `G8 (`tI #[0,rfl,J.1]));have hl:L.length<=`aI:=by
  have:=`Vm `aqK hn (hr y hy)
  rwa [Ay0] at this
 have O:n<=100000:=by simp only[`T,`n1] at a1;lia
 done;refine#[L,T,b1,h,?_,hn,hr,λk hk j hj=>?_,N,hN]
 ·have:=a2 (`VD) []
  rw[`a4 (n+(`VD)=100000),`bS] at this;show pk ps 100000 [] [] `y9=_;rw[`x];have e:pk ps (`VD) L T []=[]:=by
   generalize `VD=m;cases m<;>rfl
  rw[e,`bS,`bS]
 ·by_cases z:k∈[0]
  ·rw[`fa] at hj
   exact h.links.1 j hj
  ·exact h.links.2 k hk z j hj
universe Rk
namespace Rk
open DL W Rm StrLaws
open Bw (bs its two kn cnt Vb Gq)
open Km (hb nB nT nW pk lkd It Wb)
open K22 (lkv rel)
theorem l80:∀(ps:`dH) (pre:`l) (d:D) (rest:`l),`a7i->∃ps1 q ps2,ps=ps1++q::ps2/\(pre=ps1.flatMap two/\d=`u q.1∨pre=ps1.flatMap two++[`u q.1]/\d=q.2)
 | [],pre,d,`aR,h=>by
  cases pre<;>cases h
 | q::ps,pre,d,`aR,h=>by
  have h:`aqN::q.2::`iT=`Da:=h
  match pre,h with
  | [],h =>
   apply `zc
   exact#[[],q,ps,rfl,`n #[rfl,h1.symm]]
  | [x],h =>
   apply `zc
   injection h2 with h2 h3
   exact#[[],q,ps,rfl,`p #[`Fm h1,h2.symm]]
  | x::y::pre,h =>
   apply `zc
   injection h2 with h2 h3
   let#[ps1,q',ps2,e,hh]:=`aqO h3;refine#[q::ps1,q',ps2,`aHc,?_];subst h1 h2;apply `aqP
   ·left
    exact`a7j
   ·right
    exact`a7j
def pw(n:Nat):`N:=`BG
def fb0(n:Nat):pw `i6=`fn::`b_::pw n:=by
 unfold pw;rw[`da,`gu];rfl
def Sj0(n:Nat):(`s (pw n))=2*n:=by
 induction n with
 | zero=>rfl
 | succ n ih=>rw[fb0,`T,`T,ih];lia
theorem o60:∀(a b:Nat),(pw (a+b)).drop (2*a)=pw b
 | 0,b=>`a67
 | a+1,b=>by
  rw[`a4 (a+1+b=(a+b)+1),fb0,`a4 (2*`vu=2*a+1+1)];exact o60 a b
def y20(ps:`dH):`a5h:=by
 induction ps with
 | nil=>rfl
 | cons q ps ih =>
  rw[`G1,`Z,ih,`T];show 2+_=_;lia
theorem qw0:∀ps:`dH,`a7k=`nH λp=>(`_V,p.2)
 | []=>rfl
 | q::ps=>by
  show (`aqN,q.2)::`a7k=_;rw[qw0 ps];rfl
theorem vu0:`aqQ `lg `Vp
 | [],_=>rfl
 | d::l,h=>by
  unfold trs;rw[`VE,vu0 `pQ];rfl
theorem nf0:`aqQ `jF (wa0 l=`d)
 | [],_=>rfl
 | d::l,h=>by
  unfold wa0;rw[`VE,nf0 `pQ];rfl
theorem fi0(π:`hr)(s:Str):lkv π `fj=`dL:=rfl
def gd0{d:D}(h:It n d)(π:`hr):tr (lkv π d)=`d/\nrf (lkv π d)=`d:=by
 skip;rcases h with⟨s,rfl,_⟩|rfl|⟨z,rfl,_⟩|⟨j,rfl,_⟩
 ·done;exact`ks
 ·done;exact`ks
 ·done;exact`ks
 ·done;rw[show lkv π `q2=lkd (π j) from Km.cj0 π j]
  exact#[rfl,qc0 _]
def V90(p:Pt):`ga<4:=`cO (Bw.Vr0 p)
def q10{p:Pt}(hp:p.Ok):`ap0<=25:=by
 cases p with
 | text w=>exact `bw
 | row vs=>have:=hp.1;show `dz<=25;lia
 | table ps=>have:=`qo hp;show `M2<=25;rw[y20];lia
 | rcd c ps=>have:=`qo hp.2;show `ap4<=25;rw[`T,y20];lia
def stage(p:Pt)(hp:p.Ok)(hq:Gq p)(hI:∀d∈`e_,It n d)(ht:`VF)(pre:`l)(d:D)(rest:`l)(h:`e_=`Da):∃w wr,`aqR=w::wr/\((∀s,d≠`dL)->`hv) /\
  ∀s,d=`dL->w=.cls∨`qJ/\∀π,Held `a7l/\`wK ∉R0 `a7l:=by
 skip;have a3:∀x∈pre,It n x:=λx hx=>hI x (`k h (D6 _ hx))
 have a4:`fx<=24:=by
  have:=q10 hp;rw[h,`Z,`T] at this;lia
 have hv:=hq.vals;have hs:∀(s:Str),`wK=`dL:=λs=>rfl
 have Y:∀(v:D),Vb v->∀s,v≠`dL:=λv hv s e=>by subst e;cases hv
 have a1:∀π,trs (`B8)=`d:=fun π=>vu0 λx hx=>by
  apply `ajS;exact(`a7m).1
 have a2:∀π,wa0 (`B8)=`d:=fun π=>nf0 λx hx=>by
  apply `ajS;exact(`a7m).2
 have fl:∀ps:`dH,`iM (`nH `aAl)=`d:=λps=>by
  unfold flats;rw[`kQ];intro x hx;let#[y,_,rfl]:=`de hx;rfl
 have U:∀(J:`dH) (π:`hr),(`f9 ((J.flatMap two).map `n!)).map `cD=`a7n:=λJ π=>by
  rw[← `aAp,qw0,`cS,`cS];rfl
 have Z:∀(J O:`dH) (q:`uk),((J++q::O).map `cD).Nodup->`aqN ∉`a7n:=λJ O q nd z=>by
  let#[y,hy,e]:=`de z;apply `G2
  rw[`aU,`ag] at nd;exact(l5.mp nd).2.2 y.1 (`BM y hy) q.1 A4 e
 cases p with
 | text w=>done;exact `VG
 | row vs =>
  have h:vs=`Da:=h;done;refine#[`b_,`bB `v? `b_,?_,`hh,λs e=>?_]
  ·show (`a7o).drop `fx=_
   rw[List.drop_replicate,h,`Z,`T,`a4 (`fx+(`v?+1) - `fx=`v?+1),`da]
  ·exact `G e (Y d (hv d (by show d∈vs;rw[h];simp)) s)
 | table ps =>
  have h:`a7i:=h;let#[J,q,O,e,hh]:=`aqO h;apply `a7p
  apply `aqP
  ·done;refine`a7q (`dQ (2<4)) #[`VH (`s `B8),`hM,`hM]
   ·apply `VI
    rw[a,y20,hl,o60,fb0]
   ·show `a7r
    rw[a,U];exact fl J
   ·show `a7s
    rw[a,U,hs,← es,b];exact Z J O q (`bR e (PsOk.nd hp))
  ·done;apply `a7t
   ·apply `VI
    apply `a7u;rfl
   ·refine `a7v
    show d∈`i8;rw[b,e];simp
 | rcd c ps =>
  have h:`aww=`Da:=h;cases pre with
  | nil =>
   done;apply `zc
   exact#[.cls,`Oq,rfl,λz=>`G h1.symm (z c),λs _=>`lp]
  | cons x pre =>
   done;apply `zc
   skip;subst h1;let#[J,q,O,e,hh]:=`aqO h2;apply `a7p
   apply `aqP
   ·done;refine`a7q (`dQ (3<4)) #[`VH (`s ((`fm c::pre).map `n!)),`hM,`aFu]
    ·apply `VI
     rw[a,y20,hl,o60,fb0]
    ·show `a7r
     rw[a,U];exact fl J
    ·show `a7s
     rw[a,U,hs,← es,b];exact Z J O q (`bR e (PsOk.nd hp.2))
   ·done;apply `a7t
    ·apply `VI
     apply `a7u;rfl
    ·refine `a7v
     show d∈`i8;rw[b,e];simp
def hl(π:`hr):`anG
 | `tW=>`aqS `u7
 | p=>`aqT `n!
def v30(ps:`aE)(π:`hr)(j:Nat):`d8:=(`oR,hl π `lE)
def S20(π:`hr)(p:Pt):`gX (`ga,hl π p)=(rel π p).d:=by
 cases p with
 | text w =>
  show `dU [`l0,m9 (`lW (`aqS `u7))]=_;rw[rt0];rfl
 | row vs=>rfl
 | table ps =>
  show `dU [`km,`a7w]=`dU [`km,`a7x];apply `a7y;rfl
 | rcd c ps =>
  show `dU [`j!,`mu,`a7w]=`dU [`j!,`mu,`a7x];apply `a7y;rfl
def oc0{w:Str}(h:`a0s):`Hg<=20/\∀c∈`a7z,`Vu:=by
 unfold isWord at h;rw[`bd,`Tv] at h;have e:`Hg=`d?:=rfl;refine#[`F,`DY];have:=x3.mp h.2 c hc;rw[← be0];have h3:`an2:=`a7A
 exact h3
def gi0{w:Str}(h:`os w=`d):1<=`Hg/\`Hg<=8/\∀c∈`a7z,`jJ:=by
 unfold isName at h;rw[`bd,`bd,`Tv,`Tv] at h;have e:`Hg=`d?:=rfl;refine#[`b7,`b7,`DY];have:=x3.mp h.1.2 c hc;rw[← g90];have h3:`Gk:=`a7A
 exact h3
universe Rk
namespace Rk
open DL W Rm StrLaws
open Bw (bs sg its two kn cnt tx Vb Gq)
open Km (hb nB nT nW pk lkd It Wb ix)
open K22 (lkv rel)
structure Wf(ps:`aE)(pool:`i):Prop where
 wb:`iu
 pl:`aoK<=60
 pn:∀s∈`bn,`Uo
 ok:∀p∈ps,p.Ok
 nm:∀p∈ps,∀s∈p.all,`t3
structure Inv(pool:`i)(B:`h)(T:`i)(S:RS):Prop where
 len:`aK=`bI
 few:`Vg
 nms:`a9=`a7B
 tnd:T.Nodup
 tin:∀s∈T,`t3
 d0:`ll
 l0:`cP
 s0:`i5
 un:∀k∈`aH,`t4
 unl:`gH<=`aK
 held:∀q∈`ca,`ace
 wl:`hE<=60*`aK+1
 wc:`atW=`gH
 th:Th S
section
variable{ps:`aE}{B:`h}{T:`i}{S:RS}
theorem Inv.tl(W:`nw)(I:`qp):`gb<=60:=C0 (`UX `Hh `Hi) W.pl
def Inv.okS(W:`nw)(I:`qp):Ok S:=by
 have h1:=`eX;have h2:=I.few;have h3:=I.wl;have h4:=I.tl W;exact#[I.un,`F,λq hq=>`cO (`VJ q hq),`F,`i! `nx `S]
def Inv.wlen(I:`qp):`a7C:=by
 have h1:=`eX;have h2:=I.few;have h3:=I.wl;lia
def Px0{l:`l}{d:D}(h:`Vp)(hd:`lg):`a6l:=by
 induction l with
 | nil=>show `a6m;rw[hd];rfl
 | cons a l ih =>
  unfold trs at h;apply `p6;show `a6n;rw[h.1,ih h.2];rfl
theorem gw0{l:`a6}{k:Nat}{f:`t!}{P:α->Prop}{a:α}(h:∀x∈l,P x)(ha:`a7D)(hf:P (f a)):∀x∈`Hf,P x:=λx hx=>by
 let#[i,hi]:=`Bj hx;rw[`jI] at hi;cases e:l[i]? with
 | none=>rw[e] at hi;cases hi
 | some y =>
  rw[e] at hi
  by_cases z:k=i
  ·subst z
   rw[ha] at e;cases e;simp at hi;rw[← hi];exact hf
  ·simp[z] at hi
   rw[← hi];exact h y (C8 e)
def pt0{l:`a6}{k:Nat}{f:`t!}{a:α}(ha:`a7D):(`Hf)[k]?=`c (f a):=by
 rw[`jI,ha];simp
structure Aft(S S1:RS)(k:Nat)(d:D):Prop where
 bg:`pa=`mI
 un:`sE=`aH
 wt:`jc=`jg
def tv0{k:Nat}{u:`h}(hu:`g5)(d:D):`a7E:=by
 apply `yX;rw[hu]
def Inv.aft(I:`qp){k:Nat}{d:D}(A:`Na d){T1:`i}(hq:`gf)(hl:`VK){w:`ac}(hw:`aS)(hf:`eS)
  (hn:S1.names=T1.map `aAq) (h1:T1.Nodup) (h2:∀s∈T1,`t3) (h3:`aql=0) (h4:`a7F) (h5:`aw9=[]) (htr:`lg):`Nb T1:=by
 have bl:`a7G:=by rw[A.bg,`qe]
 refine#[`k bl `eX,I.few,hn,h1,h2,h3,h4,h5,`ai5,`fz bl A.un I.unl,?_,?_,?_,?_]
 ·rw[bl]
  rw[A.un] at hj;exact I.un j hj
 ·rw[A.bg]
  exact gw0 (P:=`a7H) (f:=`Xj) `VJ hq (by show (`s `Lq)<=30;apply `hJ;omega)
 ·rw[bl,A.wt,`C?]
  have:=I.wl;omega
 ·rw[A.wt,A.un,hw]
  have:=I.wc;rw[hw,`aqr] at this;exact `x
 ·unfold Th
  rw[A.bg];exact gw0 (P:=λq=>`apk) (f:=`Xj) I.th hq (Px0 (I.th q (C8 hq)) htr)
def Ig0{B M:`h}(h:`fB):ix (B++M) j=`v4:=by
 induction B with
 | nil=>cases h
 | cons a B ih =>
  rw[`kb];unfold ix
  by_cases e:a=j
  ·rw[`gy,`gy]
  ·rw[`e?,`e?,ih (`U7)]
def I80{B M:`h}(h:`B5):ix (B++j::M) j=`bI:=by
 induction B with
 | nil =>
  rw[`hQ];unfold ix;rw[`bp];rfl
 | cons a B ih =>
  rw[`kb];unfold ix;have h1:a≠j:=`pi h A4
  rw[`EG,ih λz=>h `nr,`T]
def e70{s t:Str}(h:`f7=`Ki):s=t:=by
 have:`a2 `f7=`a2 `Ki:=by rw[h]
 exact `x
def O80{T:`i}(h:T.Nodup):(`a7B).Nodup:=by
 refine `apu;exact`a7I λhn e=>hn (e70 e)
def O30(W:`nw)(I:`qp){k:Nat}{u:`h}(hu:`g5)(hq:`gf)(hl:`VK){w:`ac}(hw:`aS)(s:Str)(hs:`t3)
  (hv:w=.cls∨`qJ/\`vV/\`wK ∉R0 q):`VL `ap! (`Nb `M9/\`a7J):=by
 have ok:=`aqU;have hf:`eS:=`a7K hv
 have O:`fU:=by rcases hv with h|⟨h,_⟩;exact `p h;exact `n h
 have a2:=I.wlen;have a3:=I.tl W;have a1:`fl=`gb:=by rw[`nx,`S]
 let#[n1,n8,nS]:=gi0 (W.pn s hs);show `VL `G5 (`Nb (`Vk)/\`a7J)
 by_cases h:`lX
 ·rw[`ch,`ch]
  have Y:=Km.hh0 h;have Z:=Km.Or0 h;let#[c,r]:=Vk0 S ok w ws hw O I.l0 `a' `VM I.th `a' `_S `a' `f7 (by
   rw[a1,`VN (`aCR - `_S=`Lt),`nx,`cX,Z];rfl) (λz=>by
   rcases hv with h|⟨_,h1,h2⟩
   ·rw[h] at z;cases z
   ·exact#[k,u,q,hu,hq,h1,h2])
  have A:Aft S (`d' (`hw (`wK)) c) k `fj:=`a7L;exact`a7M hf rfl
 ·rw[`dF,`dF]
  have U:`f7 ∉`a9:=λz=>by
   rw[`nx] at z;let#[t,ht,e]:=`de z;exact h (e70 e▸ht)
  have tnd:(`Y2).Nodup:=`Vn #[`Hh,`a7,`a6f];have tin:∀x∈`Y2,x∈`bn:=λx hx=>by
   apply `t9
   ·exact `Hi x z
   ·rw[`fa];exact hs
  have Y:`gb<60:=by
   have:=`UX tnd tin;rw[`Z,`d2] at this;have:=W.pl;omega
  have J:∀n∈`a9,`h5/\∀c∈n,`jJ:=λn hn=>by
   rw[`nx] at hn;let#[t,ht,rfl]:=`de hn;let#[_,a,b]:=gi0 (W.pn t (`Hi t ht));exact#[`b7,b]
  let#[c,r]:=Ry0 S ok w ws hw O I.l0 I.s0 `a' `VM I.th `a' (λn hn=>(J n hn).1) `f7 n1 n8 (`k `nx (O80 `Hh)) (λn hn=>(J n hn).2) nS U;have A:Aft S (`d' (`Ab S `f7) c) k `fj:=by
   refine`Rx ?_;show ((`a7N:RS).hold (`wK)).begun=_;exact tv0 (S:=`a7N) hu _
  refine#[_,r,I.aft A hq hl hw hf ?_ tnd tin rfl rfl rfl rfl,A];show `aAr=_;rw[`nx,`aU];rfl
def cp0(W:`nw)(I:`qp){k:Nat}{u:`h}(hu:`g5)(hq:`gf)(hl:`VK)(hw:`GM)(L:`h)(hL:∃M,L=B++M)(d:D)
  (hd:`o?∨(`aAi)∨∃j:Nat,`fB/\d=`ly):`VL `oM (`a7O/\`Na (lkv `mG d)):=by
 skip;have ok:=`aqU;have Y:=I.wlen;have fin:∀(N:Nat) (d':D),nrf d'=`d->tr d'=`d->(`gl%4=1/\d'=`a6u∨`a6v d' (d'=`y))->`VL (bs N) (`a7O/\`Na d'):=λN d' hn J h=>by
  let#[c,r]:=Wk0 S ok ws hw I.d0 `a' `VM I.th N d' hn J h;have A:Aft S (`d' (`hw d') c) k d':=`a7L;exact`a7M `v J
 rcases hd with rfl|⟨z,rfl⟩|⟨j,hj,rfl⟩
 ·done;exact fin 0 `y rfl rfl (`p (`aI1))
 ·done;refine fin (4*`B'+1) `qD rfl rfl (`n #[`b7,?_])
  rw[`VN (`aAv/4=(`B':Int)),Yb0]
 ·have O:=Km.hh0 hj
  have U:=`eX;let#[M,rfl]:=hL;done;rw[Km.cj0,Ig0 hj,`VO,`aqI];refine fin `az' (lkd (`v4)) `apa rfl (`p (`n #[`b7,`b7,`b7,?_]));show link (`v4)=_;congr 1;omega
def gm0(A:`a6)(x:α)(f:`t!)(n:Nat)(hn:n=A.length):(A++[x]).modify n f=A++[f x]:=by
 subst hn
 induction A with
 | nil=>rfl
 | cons a A ih =>
  rw[`kb,`T,`kb,← ih];rfl
def O00(A N:`a6)(k:Nat)(f:`t!)(h:k<A.length):`a7P=A.modify k f++N:=by
 induction A generalizing k with
 | nil=>cases h
 | cons a A ih =>
  cases k with
  | zero=>rfl
  | succ k =>
   have:=ih k (by rw[`T] at h;lia);show a::`a7P=_;rw[`x];rfl
def Vl0(kd n:Nat)(hk:kd<4):`a6w:=by
 rw[`a6x];intro z
 apply `qh
 ·have:=`Hc;cases `x
 ·have:=`Hc;cases `x
 ·apply `Vr;apply `qn;simp at hm
 ·apply `Hd
  ·cases z
  ·apply `Vr
   apply `qn;simp at hm
def enter(W:`nw)(I:`qp){w:`ac}(hw:`aS)(hv:`gD)(hun:∀k u,`g5->∃q,`gf/\`VK)(j:Nat)(hj:`l7)(h60:`bI<60) :
  ∃S1,`cR S (`az!) `acv/\Inv `bn `r? T S1/\`sE=`aqV /\
   `pa=`VP++[(`oR,if `oR=0 then hl (λx=>x) `lE else [])] /\
   `jc=(`o (`oR=0) [] (`qQ (`oR) (cnt `lE)))++`f8:=by
 have ok:=`aqU;have a8:=I.wlen;have a1:=`eX;have a5:`eS:=`n?
 have O:=W.ok _ `aqM;generalize `lB=p at O ⊢;have hc:`z'<=(`o (`ga=0) 20 12):=by
  cases p with
  | text t =>
   have:=(`a7Q).1;show `aqW<=20;exact `x
  | row vs=>exact O.1
  | table ps=>exact `qo O
  | rcd c ps=>exact `qo O.2
 have a3:`qk:=by split at hc<;>lia
 have b1:=I.unl;let#[c,r]:=Tw0 S ok w ws hw hv I.d0 `j `j `VM I.th `JA `JB (V90 p) hc `j;obtain⟨S0,J⟩:∃S0:RS,S0=(`d' (Q3 S `JA `JB) c):=`ah;rw[← J] at r;have a4:=`a3f;have b0:S0.begun=`VP++[(`ga,[])]:=by
  rw[J,← a1];rfl
 have u0:S0.un=`aqV:=by
  rw[J,← a1];show `aqX;rw[a4]
 have w0:S0.wait=`KZ++`f8:=by
  rw[J];show `KZ++([`a8]++`jg)=_;rw[hw];rfl
 have a2:`Hb=`gH:=by
  have:=I.wc;rw[hw,`KY a5] at this;exact `x
 have a7:`hE=`EC+1:=`a6y
 have hh:∀q∈`VP,`ace:=by
  cases hu:`aH with
  | nil =>
   apply `yX;rw[hu];exact `VJ
  | cons k u =>
   let#[q,q1,q2]:=hun k u hu;rw[tv0 hu];exact gw0 (P:=`a7H) (f:=`aw?) `VJ q1 (`apB (`s (q.2++[`B9])) 30)
 have U:(`ve `avg)=`bI:=`k ue0 a1
 have I0:Inv `bn `r? T S0:=by
  have Y:S0.begun.length=`bI+1:=`CR b0 U
  refine#[`dl Y `Z,`Jw,`k J `nx,`Hh,`Hi,`GJ,`k J I.l0,`k J I.s0,λk hk=>?_,?_,`tG,?_,?_,`tG]
  ·rw[Y]
   rw[u0] at hk;rcases `aqY with z|z
   ·lia
   ·have:=I.un k z
    lia
  ·rw[Y,u0,`T]
   lia
  ·rw[b0] at hq
   apply `VQ
   ·exact hh q z
   ·rw[`fa];exact `bw
  ·rw[Y,w0,`Z,`T]
   have:=rk0 `JA `JB a3;have:=I.wl;lia
  ·rw[w0,u0,`aqp,Vl0 _ _ (V90 p),`t',`T,a2]
   simp
  ·rw[b0] at hq
   apply `VQ
   ·exact `a7R
   ·rw[`fa];rfl
 by_cases h0:`ga=0
 ·cases p with
  | text t =>
   have a6:=`a7Q;let#[c',r']:=Wn0 `Ki S0 `bI `aH (`f8) (I0.okS W) u0 (by
    rw[w0];rfl) (λq hq=>`cO (I0.held q hq)) I0.d0 (`cO I0.wlen) (H0 I0.wc) I0.th a6.2
   refine#[(`d' `X' c'),`adT,?_,u0,?_,?_]
   ·have bb:`aqZ=`VP++[(0,`a7S `u7)]:=by
     show `a7T;rw[b0,`a7U];rfl
    have Z:`Hj=`bI+1:=`CR bb U
    have w1:`a7V<=60*(`bI+1)+1:=by
     rw[`T];have:=I.wl;lia
    refine#[by show `Hj=_;rw[Z,`Z];rfl,I0.few,I0.nms,I0.tnd,I0.tin,rfl,I0.l0,I0.s0,λk hk=>?_,?_,`tG,?_,?_,`tG]
    ·show k<`Hj
     rw[Z];have:=I0.un k hk;have:=I0.len;rw[`Z,`d2] at this;lia
    ·show `a7W<=`Hj
     rw[Z,u0,`T];lia
    ·have hq:q∈`aqZ:=hq
     rw[bb] at hq;apply `VQ
     ·exact hh q z
     ·rw[`fa]
      show (`s (`a7S _))<=30;rw[`S];lia
    ·show `a7V<=60*`Hj+1
     rw[Z];exact w1
    ·show `DM `acf=`a7W
     rw[u0,`t',`T,a2];simp
    ·have hq:q∈`aqZ:=hq
     rw[bb] at hq;apply `VQ
     ·exact `a7R
     ·rw[`fa]
      exact vu0 λd hd=>by apply `Hk;rfl
   ·show `a7T
    rw[b0,`a7U];rfl
   ·rfl
  | row _=>cases h0
  | table _=>cases h0
  | rcd _ _=>cases h0
 ·have ht:tx p=[]:=by cases p with|text _=>exact `G rfl h0|_=>rfl
  rw[ht,`bS,`jm,`jm];exact#[S0,r,I0,u0,b0,w0]
universe zz
universe Rk
namespace Rk
open DL W Rm StrLaws
def Nm(l:`h):Prop:=1<=`bK/\`bK<=8/\∀c∈l,`jJ
def Ft(n:Nat):`ac->`U3
 | `cM,d=>∃c,`Vu/\d=m9 [c]
 | `b_,d=>`o?∨(∃z,`v7)∨∃j,j<n/\d=link j
 | `fn,d=>`a7X
 | .cls,d=>`a7X
 | _,_=>`b1
inductive Fts (n:Nat):`N->`l->Prop
 | nil:Fts n [] []
 | cons {w:`ac} {ws:`N} {d:D} {ds:`l}:`Hl->`zd->Fts n `Nh `j?
def Ft.mono(h:n<=m){w:`ac}{d:D}(f:`Hl):Ft m w d:=by
 skip;cases w with
 | value =>
  rcases f with f|f|⟨j,hj,f⟩
  ·done;exact `n f
  ·done;exact `p (`n f)
  ·done;apply `jt #[j,`F,f]
 | root=>done;exact f
 | sign=>done;exact f
 | name=>done;exact f
 | cls=>done;exact f
 | fin=>done;exact f
def Fts.mono(h:n<=m)(f:`zd):Fts m ws ds:=by
 induction f with
 | nil=>exact `R
 | cons a _ ih=>exact `aa (a.mono h) ih
def Fts.snoc(f:`zd){w:`ac}{d:D}(h:`Hl):Fts n (ws++[w]) (ds++[d]):=by
 induction f with
 | nil=>exact `aa h `R
 | cons a _ ih=>exact `aa a ih
def Fts.len(f:`zd):`EC=`bN:=by
 induction f with
 | nil=>rfl
 | cons a _ ih=>rw[`T,`T,ih]
def Ft.tr{w:`ac}{d:D}(h:`Hl):`lg:=by
 cases w with
 | value=>rcases h with rfl|⟨z,rfl⟩|⟨j,_,rfl⟩<;>rfl
 | sign=>apply `ze;rfl
 | name=>apply `ze;rfl
 | cls=>apply `ze;rfl
 | root=>exact `j9
 | fin=>exact `j9
def Ft.nr{w:`ac}{d:D}(h:`Hl):`jF:=by
 skip;cases w with
 | value =>
  rcases h with rfl|⟨z,rfl⟩|⟨j,_,rfl⟩
  ·done;rfl
  ·done;rfl
  ·done;exact qc0 j
 | sign=>apply `ze;done;rfl
 | name=>apply `ze;done;rfl
 | cls=>apply `ze;done;rfl
 | root=>done;exact `j9
 | fin=>done;exact `j9
def Fts.trs(f:`zd):`TD=`d:=by
 induction f with
 | nil=>rfl
 | cons a _ ih =>
  show (DL.tr _&&DL.trs _)=`d;rw[a.tr,ih];rfl
def Fts.nrs(f:`zd):`S!:=by
 induction f with
 | nil=>rfl
 | cons a _ ih =>
  show (nrf _&&wa0 _)=`d;rw[a.nr,ih];rfl
def lim(kd:Nat):Nat:=`YZ
def Pq(N:Nat)(q:`d8)(todo:`N):Prop:=∃n done,`y5/\`aq_/\`Ng=done++`dx/\Fts N done q.2
inductive Opens (N:Nat) (bg:`tY):`h->`N->Prop
 | nil:`fk N bg [] []
 | cons {k:Nat} {q:`d8} {us:`h} {todo ws:`N}:`Hm->Pq N q `dx->`a7Y->`a7Z->`fk N bg `rp (`Ax)
def Zi0(kd:Nat):`J4<=20:=by unfold lim;split<;>lia
def Pq.mono{N M:Nat}(h:N<=M){t:`N}(p:`Hn):Pq M q t:=by
 let#[n,d,a,b,c,e]:=p;exact#[n,d,a,b,c,e.mono h]
def Opens.mono{N M:Nat}(h:N<=M){u:`h}{w:`N}(o:`qq):`fk M bg u w:=by
 induction o with
 | nil=>exact `R
 | cons a b c _ ih=>exact `aa a (b.mono h) c ih
def Opens.same{N:Nat}{u:`h}{w:`N}(o:`qq)(h:∀j∈u,`a7_):`fk N bg' u w:=by
 induction o with
 | nil=>exact `R
 | cons a b c _ ih=>exact `aa `a70 b c (ih `apE)
def Opens.un{N:Nat}{u:`h}{w:`N}(o:`qq):∀k∈u,k<bg.length:=by
 induction o with
 | nil=>intro k hk;cases hk
 | cons a b c _ ih =>
  intro k hk;rcases `aqY with rfl|hk
  ·exact(`c7 a).1
  ·exact ih k hk
def Opens.len{N:Nat}{u:`h}{w:`N}(o:`qq):∀m,(∀k∈u,k<m)->`yS<=m:=by
 induction o with
 | nil=>intro m _;exact `bw
 | cons a b c _ ih =>
  intro m hm;have h1:=hm _ A4;have h2:=ih _ c;rw[`T];lia
def ga0(kd n:Nat):`vG ∉`i0:=by
 have hf:`kH (`vG ∉`BG):=λn hm=>by
  apply `VR;apply `qn;simp at hm
 intro h
 match kd with
 | 0=>cases `VS
 | 1=>cases `VS
 | 2=>exact `VT
 | k+3 =>
  rcases `A6 with h|h
  ·cases h
  ·exact `VT
def Wj0(kd n:Nat):`aq0 ∉`i0:=by
 have hf:`kH (`aq0 ∉`BG):=λn hm=>by
  apply `VR;apply `qn;simp at hm
 intro h
 match kd with
 | 0=>cases `VS
 | 1=>cases `VS
 | 2=>exact `VT
 | k+3 =>
  rcases `A6 with h|h
  ·cases h
  ·exact `VT
def Pq.todo{N:Nat}{t:`N}(p:`Hn):`aqW<=50/\`a8 ∉t/\`gK ∉t/\`A8<=50:=by
 let#[n,d,a,b,c,e]:=p;have h1:=rk0 q.1 n (C0 b (Zi0 _));have h2:=e.len;rw[c,`Z] at h1;refine#[`F,λz=>ga0 q.1 n `a71,λz=>Wj0 q.1 n `a71,`F]
def Opens.wl{N:Nat}{u:`h}{w:`N}(o:`qq):`d?<=51*`yS/\`a2K=`yS:=by
 induction o with
 | nil=>exact#[`fg,rfl]
 | cons a b c _ ih =>
  have h1:=b.todo;refine`tp
  ·rw[`Z,`T,`T]
   have:=ih.1;have:=h1.1;lia
  ·rw[`aqp,`ao2,ih.2,List.count_eq_zero.mpr h1.2.1,`T,`mH]
def Opens.pq{N:Nat}{u:`h}{w:`N}(o:`qq){k:Nat}(h:`Hm)(hk:k∈u):∃t,`Hn:=by
 induction o with
 | nil=>cases hk
 | cons a b c _ ih =>
  rcases `aqY with e|hk
  ·rw[← e,h] at a;cases a;exact#[_,b]
  ·exact ih hk
structure Gi(S:RS):Prop where
 few:`yQ
 op:`ca=[]/\`aq1/\`bu=`Gl/\`a9=[]/\`cP∨`aq2/\`fk `aK `ca `aH `bu
 cl:∀k q,`gf->`Lw->Pq `aK q []
 nl:`aqq
 nm:∀n∈`a9,Nm n
 dg:0<=`z1
 l8:`y4
 sp:`aq3∨`apw/\`GT/\∀c∈`lw,`jJ
 ln:`aq4->∃w ws,`aS/\(`fU)
 dv:`z1≠0->∃w ws,`aS/\(`gD)
theorem j70:Gi `eU where
 few:=`aw
 op:=`n #[rfl,rfl,rfl,rfl,rfl]
 cl:=λk q h=>`a72
 nl:=`aw
 nm:=λn h=>`a72
 dg:=`aw
 l8:=`aw
 sp:=`n `ks
 ln:=`aq5
 dv:=`aq5
def Gi.pq{S:RS}(G:`b6){k:Nat}(h:`gf):∃t,Pq `aK q t:=by
 by_cases hk:k∈`aH
 ·rcases G.op with⟨e,_⟩|⟨_,o⟩
  ·rw[e] at h;cases h
  ·exact o.pq h hk
 ·exact#[[],G.cl k q h hk]
def Gi.wl{S:RS}(G:`b6):`a7C/\`li/\`gH<=60/\∀k∈`aH,`t4:=by
 skip;apply `VU
 ·done;rw[e2,e3]
  exact#[`aw,`aw,`aw,λk hk=>by cases hk]
 ·have h1:=o.wl
  have h2:=o.len _ o.un;have h3:=`lm;done;exact#[`F,`F,`F,o.un]
def Gi.ok{S:RS}(G:`b6):Ok S:=by
 have w:=G.wl;have few:=`lm;have nl:=G.nl;refine#[w.2.2.2,few,`tG,`F,`F];apply `aq6;let#[t,p]:=G.pq hk;have:=p.todo.2.2.2;lia
def Opens.top{N:Nat}{u:`h}{w:`ac}{rest:`N}(o:`fk N bg u (`J3))(hf:`eS):∃k us q todo ws,u=`nX/\`Hm/\`a73/\`aR=`Ax/\`a7Y/\`a7Z:=by
 generalize e:`J3=l at o;cases o with
 | nil=>cases e
 | @cons k q us todo ws a b c o =>
  cases `dx with
  | nil=>cases e;exact `aq7
  | cons t todo=>cases e;exact#[k,us,q,`dx,ws,rfl,a,b,rfl,c,o]
def h90{l:`a6}{k:Nat}{f:`t!}(h:j≠k):(`Hf)[j]?=l[j]?:=by
 rw[`jI];cases l[j]? with
 | none=>rfl
 | some x =>
  show `c (`o (k=j) (f x) x)=`du;rw[`_ `a3R]
def Pq.snoc{N:Nat}{w:`ac}{todo:`N}(p:`a73){d:D}(h:Ft N w d):Pq N `a74 `dx:=by
 let#[n,dn,a,b,c,e]:=p;exact#[n,dn++[w],a,b,`dl c `bg,e.snoc h]
def Gi.open'{S:RS}(G:`b6){w:`ac}{rest:`N}(hw:`VV)(hr:`rK):`aq2/\`fk `aK `ca `aH (`J3):=by
 skip;rcases G.op with⟨_,_,e,_⟩|⟨a,o⟩
 ·rw[e] at hw;cases hw;done;exact `G rfl hr
 ·rw[hw] at o;done;exact#[a,o]
def Gi.aft{S T:RS}(G:`b6){M:Nat}(hM:`aK<=M){w:`ac}{rest:`N}(hw:`VV)(hr:`rK)(hf:`eS){d:D}(hd:Ft M w d)
  (e1:`aq8) (e2:T.un=`aH) (e3:`a75):T.begun.length=`aK/\`aq2/\`fk M `BK T.un T.wait/\∀k q,`BK[k]?=`dt->k∉T.un->Pq M q []:=by
 skip;let#[O,o]:=`aq9;let#[k,us,q,todo,ws,hu,hq,p,he,J,o']:=`aq';have eb:`BK=`mI:=by rw[e1,tv0 hu]
 have hk:∀j∈us,j≠k:=λj hj=>`cO (J j hj)
 done;refine#[by rw[eb,`qe],O,?_,?_]
 ·rw[e2,e3,hu,he]
  refine `aa `a76 ((p.mono hM).snoc hd) J ?_;refine(o'.mono hM).same λj hj q' h=>?_
  rw[eb,h90 (hk j hj)];exact h
 ·intro j q' h hj
  rw[e2] at hj;have U:j≠k:=λz=>hj (`fz hu z A4)
  rw[eb,h90 U] at h;exact(G.cl j q' h hj).mono hM
def Gi.held{S T:RS}(G:`b6){w:`ac}{rest:`N}(hw:`VV)(hr:`rK)(hf:`eS){d:D}(hd:Ft `aK w d)
  (e1:`aq8) (e2:T.un=`aH) (e3:`a75) (n1:T.names.length<=60) (n2:∀n∈T.names,Nm n) (d0:T.digits=0) (l0:`gb=0) (s0:T.spelled=[]):Gi T:=by
 let#[a,b,c,d']:=G.aft `bF hw hr hf hd e1 e2 e3;refine#[`k a `lm,`p #[λz=>b (i7.mp (by rw[← a,z];rfl)),`k a c],`k a d',n1,n2,`k d0 (Int.le_refl _),`cH l0,`n #[l0,s0],`a77,λh=>`G d0 h]
def Gi.part{S:RS}(G:`b6){w:`ac}{rest:`N}(hw:`VV)(hv:`gD)(kd n:Nat)(hk:kd<4)(hn:`VW)(h60:`aK<60)(l0:`cP)(s0:`i5):Gi `sA:=by
 have J:`_n=`aK:=ue0 _ _;have U:`fk `VX `J2 `aH `aR/\∀k q,`J2[k]?=`dt->`Lw->Pq `VX q []:=by
  rcases hv with rfl|rfl
  ·skip;apply `VU
   ·rw[e3] at hw
    cases hw;have e:`J2=[]:=by apply `yX;rw[e2];exact e1
    done;rw[e,e2];exact#[`R,λk q h=>by cases h]
   ·rw[hw] at o
    let#[k,us,q,todo,ws,hu,hq,p,_]:=`a78;done;exact `a79
  ·let#[a,b,c,d]:=G.aft (T:=`on) (l6 _) hw `v `v (d:=`z8) (`p (`p #[_,Y1 _,rfl])) rfl rfl `Ho
   have e3:`a3h=`aR:=`ro
   rw[e3] at c;exact#[c,d]
 have eb:`Hp=`Vs:=rfl;have eu:`a7':=by
  show `aqX;rw[J]
 have ew:`_k=`i0++`a8::`aR:=by
  apply `aq!;rw[hw];rfl
 apply `a7!
 have Y:=G.wl.2.2.2;refine#[`cH el,`p #[(λz=>by rw[z] at el;cases el),?_],?_,G.nl,G.nm,Int.le_refl _,?_,`n `tp,`a77,`aq5]
 ·rw[el,eu,ew]
  refine `aa (q:=`Jv) (`a7?) #[n,[],hk,hn,rfl,`R] Y (U.1.same λj hj q h=>?_);rw[eb,`fw `FI];exact h
 ·intro k q h O
  rw[eu] at O;rw[el];rw[eb] at h;have h1:k≠`aK:=λz=>O `Ne
  have h2:=`FI;rw[`Z,J,`d2] at h2;rw[`fw (`cH J)] at h;exact U.2 k q h λz=>O `nr
 ·show `y4
  exact G.l8
 ·exact l0
 ·exact s0
def P30{N:Nat}{u:`h}{w:`N}(o:`qq)(h:`Hq u `VY):`fk N bg `Hr `VZ/\(`Hq `Hr `VY)/\(`Jh).1.head?≠`rr:=by
 induction o with
 | nil=>exact#[`R,h,λz=>by cases z]
 | @cons k q us todo ws a b c o ih =>
  cases `dx with
  | nil =>
   show `fk N bg `aq? (Q4 ws us).1/\_;refine ih λj q' h1 h2=>?_
   by_cases e:j=k
   ·rw[e,a] at h1
    cases h1;exact b
   ·exact h j q' h1 λz=>by apply `Hd;exact e z;exact h2 z
  | cons t todo =>
   have ht:t≠`a8:=`a8a
   have e:`Hs=(t::(`Ax),`nX):=by
    cases t with
    | fin=>exact `VG
    | root=>rfl
    | value=>rfl
    | sign=>rfl
    | name=>rfl
    | cls=>rfl
   show `fk N bg (`Hs).2 (`Hs).1/\(∀k' q,bg[k']?=`dt->k'∉(`Hs).2->`VY)/\(`Hs).1.head?≠`rr;rw[e];exact#[`aa (todo:=t::`dx) a b c o,h,λz=>ht `QR]
def Gi.ends{S:RS}(G:`b6):Gi `oh/\S.ends.wait.head?≠`rr:=by
 skip;rcases G.op with⟨e1,e2,e3,e4,e5⟩|⟨a,o⟩
 ·have:`GF:=by
   unfold RS.ends;rw[e2,e3];show ((`anQ `Gl []):RS)=S;rw[← e2,← e3]
  done;rw[`x];exact#[G,`D_ e3]
 ·let#[x,y,z]:=P30 o G.cl
  by_cases h:`rq=`rr
  ·have h1:`cP:=E7 λz=>by
    let#[w,ws,e,hv]:=`V_;rw[e] at h;cases h;apply `a8b
   have h2:`ll:=E7 λz=>by
    let#[w,ws,e,hv]:=G.dv z;rw[e] at h;cases h;apply `a8b
   done;exact#[#[`lm,`p #[a,x],y,G.nl,G.nm,G.dg,G.l8,G.sp,λz=>`G h1 z,λz=>`G h2 z],z]
  ·have e:`GF:=by
    cases hw:`bu with
    | nil =>
     unfold RS.ends;rw[hw];have:Q4 [] `aH=([],`aH):=`Ni `aH
     rw[`x];show ((`anQ [] `aH):RS)=S;rw[← hw]
    | cons w ws=>exact s60 hw λz=>h (`dl hw z)
   done;rw[e];exact#[G,h]
theorem Gi.next{S:RS}(G:`b6):Gi (`y')/\(`y').wait.head?≠`rr:=Gi.ends (S:=`GO) (`a8c G.op G.sp)
universe Rk
namespace Rk
open DL W Rm StrLaws
open Bt (X5 n6 c7 Y4 M5 R6 V3 S6 b7)
def Tk(m:`a_)(ds:`l)(S:RS):`no->Prop
 | `c S'=>`ara=`hX S'/\Gi S'/\S'.count=`gO
 | `f=>`ara=`kc
def Tk.lift{m m':`a_}{ds':`l}{S:RS}{o:`no}(h:Tk m ds S o)(k:∀r S',`ara=`g4->m' `bf ds'=`g4):Tk m' ds' S o:=by
 cases o with
 | none=>exact k _ _ h
 | some S'=>exact#[k _ _ h.1,h.2]
def pairs_len(n:Nat):(`Jb `auS)=2*n:=by
 induction n with
 | zero=>rfl
 | succ n ih =>
  rw[`da,`gu,`Z,ih];show 2+2*n=_;lia
def mh0(kd n:Nat)(h:`VW):`ao'<=25:=by
 have J:=Zi0 kd
 match kd,h with
 | 0,h=>apply `UM;rw[`gs];lia
 | 1,h=>apply `UM;rw[`gs];lia
 | 2,h =>
  have:`t2:=h;show `GK<=_;rw[`zf];lia
 | k+3,h =>
  have:`t2:=h;show `ao!<=_;rw[`T,`zf];lia
theorem Fts.pairs{N:Nat}:∀(n:Nat) (ws todo:`N) (ds:`l),Fts N ws ds->`Lv=ws++`dx->∀x∈`I_ `cD,`acg x
 | n,[],_,_,`R,_=>λx hx=>by cases hx
 | n,[_],_,_,`aa _ `R,_=>λx hx=>by cases hx
 | 0,`cr,_,_,_,h=>by cases h
 | n+1,a::b::ws,`dx,_,`aa (d:=d) fa (`aa (d:=e) fb f),h=>λx hx=>by
  rw[`da,`gu] at h;have h':`aAt=a::b::(ws++`dx):=h;injection h' with e1 h'
  injection h' with e2 h'
  rcases `Xk with hx|hx
  ·rw[← e1] at fa
   rw[hx];exact fa
  ·exact `arb n ws `dx _ f h' x hx
def Qp0{l:`l}(h:∀x∈l,`a8d):`iM l=`d:=by
 induction l with
 | nil=>rfl
 | cons a l ih =>
  let#[n,_,e]:=h a A4;have h2:=ih `pQ
  rw[e];show (`dN (m9 n)&&`iM l)=`d;rw[h2];rfl
def Pq.names{N:Nat}{t:`N}(p:`Hn):∀x∈R0 q,`a8d:=by
 skip;apply `V0;apply `arc
 apply `qh
 ·done;intro x hx;cases hx
 ·done;intro x hx;cases hx
 ·done;exact `arb n dn t ds f e
 ·done;intro x hx;have hx:x∈`a8e `cD:=hx;cases f with
  | nil=>cases hx
  | @cons w ws d ds a f =>
   have e':`aAu=w::(ws++t):=e;injection e' with e1 e2
   exact `arb n ws t ds f e2 x hx
def Pq.held{N:Nat}{t:`N}(p:Pq N q (`fn::t)):`vV:=by
 have J:=p.names;apply `V0;have hl:=`a8f;have hf:=f.len;rw[e,`Z] at hl;refine#[hk,`a8g,f.trs,f.nrs,Qp0 J]
 ·rw[h0] at e
  have:`Lr∈`Nf:=by
   rw[`a8h,e];exact D4 _ A4
  cases `a8i
 ·rw[h3] at e
  intro hz;rw[hz] at f;cases f;cases e
def Up0{S:RS}(G:`b6){w:`ac}(hw:`aS)(hv:`fU)(h0:`cP)(hs:`i5)(b:Nat):`zg W3 (S.known b eqS):=by
 unfold RS.known
 by_cases hb:`fl<=b
 ·rw[`dY]
  exact Tj0 S b hb
 ·rw[`cz]
  obtain⟨nm,J⟩:∃nm,`GY:=`a8j;have U:=G.nm nm (C8 J);have eg:`anM (`rn - b) []=nm:=`dl `b5 J
  simp only[eg];skip;apply `V1
  apply `He
  let#[Z,o]:=`aq9;let#[k,us,q,todo,a1,hu,hq,p,he,Y,o']:=`aq';done;have eq:`a0L=q:=by rw[hu,`b5];show `ca[k]?.getD _=q;rw[hq];rfl
  rw[eq,hw]
  by_cases hc:(`ff).head?=`c `fn/\eqS `jR `Zi=`d
  ·rw[`EP]
   have O:`qJ:=A3 hc.1;subst O;refine Wh0 S ws hw b `a' nm J k us q hu hq p.held ?_;let#[y,hy,e]:=l4.mp hc.2;cases y with
   | str t =>
    have:`BL=t:=n5 e;rw[← `x] at hy;exact hy
   | _=>cases e
  ·rw[`to]
   refine#[ai0 S G.ok w ws hw b `a' nm J λO=>?_,?_,rfl]
   ·subst O
    refine#[k,us,q,hu,hq,p.held,λhm=>hc `aeq];exact l4.mpr #[_,hm,X0 rfl]
   ·exact `V2 hw hr hf (d:=`uy) (`a8k #[nm,U,rfl]) rfl rfl `Ho G.nl G.nm rfl h0 hs
def Wf0{S:RS}(G:`b6){w:`ac}(hw:`aS)(hv:`fU)(h0:`cP)(hs:`i5)(b:Nat):`zg Y0 `aC0:=by
 apply `a8l
 have nl:=G.nl;unfold RS.number
 by_cases h2:b%2=0
 ·rw[`E0]
  exact(Up0 G hw hv h0 hs `ow).lift λr S' h=>i60 S S' b h2 r h
 ·rw[`V3]
  by_cases h:`anN
  ·rw[`ch]
   exact Sc0 S G.nl hl b `j h
  ·rw[`dF]
   have h1:b/2≠0:=`Mv
   have h8:b/2<=8:=An0 λz=>h `Vy
   have O:`fl≠60:=λz=>h (`p `Vy)
   have J:`Z6=`d:=by
    cases e:`Z6 with
    | true=>rfl
    | false=>exact `G (`p (`p `ard)) h
   have e:=jx0 S `j hl `ow `j h8 J;rw[`a4 (2*`ow+1=b)] at e;refine#[e,#[`lm,?_,G.cl,G.nl,G.nm,G.dg,h8,`p #[?_,`dQ `GT,?_],`a8m,G.dv],rfl]
   ·skip;rcases G.op with⟨_,_,z,_⟩|o
    ·rw[z] at hw;cases hw;done;rcases hv with z|z<;>cases z
    ·done;exact `p o
   ·show `rl<b/2
    rw[hs];show 0<b/2;lia
   ·intro c hc
    have hc:c∈`lw:=hc;rw[hs] at hc;cases hc
def Wm0{S:RS}(G:`b6){w:`ac}(hw:`aS)(hv:`fU)(h0:0<`ds)(b:Nat):`zg U8 `adS:=by
 apply `a8l
 have nl:=G.nl;have l8:=G.l8;let#[a1,Y,Z]:=G.sp.resolve_left λz=>`cO z.1
 apply `V1
 apply `He
 unfold RS.letter
 by_cases h:`Ua
 ·rw[`ch]
  exact Sy0 S b `j hl a1 l8 h
 ·rw[`dF]
  have hb:`ns:=E7 `Mv
  have O:`GU:=by
   cases e:`Jd with
   | true=>rfl
   | false=>exact `G `ard h
  have J:∀c∈`qX,`jJ:=λc hc=>by
   rcases `aom with z|z
   ·exact Z c z
   ·rw[`fa];exact hb
  by_cases he:`Gm
  ·rw[`L he]
   have U:Nm `lJ:=#[`Jw,`Jw,J];refine#[h70 S G.ok `GG b hb `j hl he l8 O,?_,rfl];refine `V2 hw hr hf (d:=`anO) (`a8k `aRt) rfl rfl `Ho ?_ ?_ rfl rfl rfl
   ·show (`s `Gn)<=60
    apply `hJ;lia
   ·intro n hn
    have hn:n∈`Gn:=hn;rcases `d! hn with z|z
    ·exact G.nm n z
    ·rw[`fa];exact U
  ·rw[`_ he]
   refine#[eb0 S b hb `j hl `j l8 O,(`a8c ?_ (`p #[?_,Y,J])),rfl]
   ·exact G.op
   ·show `ab5<`ds
    apply `hJ;lia
def Xn0(kd:Nat):`Zj=(`ad `J4):=by unfold lim;split<;>rfl
def Qw0{S:RS}(G:`b6){w:`ac}(hw:`aS)(hv:`gD)(l0:`cP)(s0:`i5)(kd:Nat)(hk:kd<4)(n:Int)(hn:0<=n):Tk R7 `a6Q S (`a8n):=by
 have few:=`lm;have wl:=G.wl
 by_cases h:`a6P
 ·have e:`a8n=`f:=by unfold RS.part;exact `ch
  rw[e];exact K30 S kd hk n h
 ·obtain⟨m,rfl⟩:∃m:Nat,n=`l':=#[`iW,`F]
  have h1:m<=`J4:=by
   have:=mt `acm h;apply `aV Xn0;lia
  have h2:`yY:=`amf
  rw[X50 S kd m h1 h2];exact#[ns0 S G.ok `GG `j `j kd hk m h1 h2,G.part hw hv kd m hk h1 `j l0 s0,rfl]
def Pc0{S:RS}(G:`b6){w:`ac}(hw:`aS)(hv:`gD)(l0:`cP)(s0:`i5)(n:Int)(hn:0<=n):Tk V8 `FJ S (S.head n):=by
 unfold RS.head
 by_cases h3:n%4=3
 ·rw[`Ue]
  exact(Qw0 G hw hv l0 s0 `a0F `a' (n/4/4) `a').lift λr S' h=>bq0 S S' n hn h3 r h
 ·rw[`_ h3]
  by_cases hr:`um
  ·rw[`a8o]
   exact Xf0 S w ws hw n h3 (`n hr)
  ·have J:=`a8p
   subst J;rw[`a8q];have held:∀d,Ft `aK `b_ d->Gi `oQ:=λd hd=>`V2 hw `v `v hd rfl rfl `Ho G.nl G.nm rfl l0 s0
   by_cases h1:n%4=1
   ·rw[`EF]
    exact`a8r (`n #[h1,rfl]) (`p (`n `ah))
   ·rw[`EG]
    by_cases h2:`a0G
    ·rw[`E0]
     exact#[rq0 S G.ok ws hw n _ `apa (`p (`n #[h2.1,h2.2,hn,rfl])),`cN _ (`p (`p #[_,`b7,rfl])),rfl]
    ·rw[`V3]
     by_cases h4:n=0
     ·rw[`L h4]
      exact`a8r (`p (`p #[h4,rfl])) `c0
     ·rw[`_ h4]
      exact Xf0 S `b_ ws hw n h3 (`p #[h1,h2,h4])
def dd0{S:RS}(G:`b6){w:`ac}(hw:`aS)(hv:`gD)(l0:`cP)(s0:`i5)(b:Nat):`zg T6 `Ub:=by
 have dg:=G.dg;unfold RS.digit
 by_cases hb:`fJ
 ·have e:`are=`b9:=`F
  simp only[`dY,e];exact(Pc0 G hw hv l0 s0 (`sD) `j).lift λr S' h=>ey0 S S' `b9 `Nw r h
 ·have e:`are=`b9%128:=`F
  simp only[`cz,e];have hh:`a8s↔`hv:=`Dl hw #[λz=>A3 z,λz=>`aF z]
  by_cases h:`arf=0∨`a0H (`arf)
  ·rw[`ch]
   refine Qg0 S w ws hw `b9 `j (h.imp id λz y=>z (y.imp hh.mpr λq=>?_));lia
  ·rw[`dF]
   refine#[ck0 S w ws hw `b9 `j (`Mv) ?_,#[`lm,G.op,G.cl,G.nl,G.nm,`dQ (0<=`arf),G.l8,G.sp,G.ln,`a8m],rfl];have:=Decidable.not_not.mp (mt Or.inr h);exact this.imp hh.mp λq=>`F
def takes_all{S:RS}(G:`b6)(hf:`Ht)(b:Nat):`zg b8 `V4:=by
 unfold RS.takes;cases hw:`bu with
 | nil=>exact oy0 S hw b
 | cons w ws =>
  have O:(`um∨`hv∨`V5)->`aq3:=λh=>by
   have l0:`cP:=E7 λz=>by
    let#[w',U,e,hv]:=`V_;rw[hw] at e;cases e;rcases hv with rfl|rfl<;>rcases h with h|h|h<;>cases h
   refine`a8t;apply `V6
   ·exact z.2
   ·rw[l0] at z;apply `V7
  have J:(`fU)->Tk b8 `r1 S `a8u:=λhv=>by
   by_cases h0:`Os
   ·rw[`pN]
    exact`a8v (Wm0 G hw hv h0 b) (`n #[h0,h])
   ·rw[`jm]
    have l0:`cP:=`F
    have s0:`i5:=by
     apply `V6
     ·exact z.2
     ·rw[l0] at z;apply `V7
    exact`a8v (Wf0 G hw hv l0 s0 b) (`p #[l0,h])
  cases w with
  | root =>
   let#[l0,s0]:=O `c0;exact`a8w `c0 `c0
  | value =>
   let#[l0,s0]:=O (`p `c0);exact`a8w `jo `jo
  | sign =>
   let#[l0,s0]:=O (`p `jo);show `zg b8 `anP
   by_cases hb:`BE
   ·rw[`dY]
    exact#[pr0 S _ ws hw b _ (nw0 S G.ok `GG b hb),`V2 hw `v `v (d:=`zV) #[b,hb,rfl] rfl rfl `Ho G.nl G.nm rfl l0 s0,rfl]
   ·rw[`cz]
    exact pr0 S S ws hw b _ (Lq0 S b hb)
  | name=>exact J `c0
  | cls=>exact J `jo
  | fin=>rw[hw] at hf;exact `aq7
universe Rk
namespace Rk
open DL W Rm StrLaws
open Bw (bs hi sg its two kn cnt tx)
def strOfD:D->Str
 | `dL=>s
 | _ => ""
def u00(x:D×D):`uk:=(`Ou x.1,x.2)
def vi0:`d8->Pt
 | (0,ds)=>.text (`a2 (`lW ds))
 | (1,ds)=>.row ds
 | (2,ds)=>`Iv (`AM)
 | (_,ds)=>.rcd (`Ou (ds.headD `y)) (`a8e u00)
theorem mu0{N:Nat}:`V8 (Fts N (`a0C) ds->∃l:`h,ds=`c6 (`u7)/\`bK=n/\∀c∈l,`Vu)
 | 0,_,h=>by cases h;exact`FT [] λc hc=>by cases hc
 | n+1,_,h=>by
  skip;rw[`da] at h;cases h with
  | cons a f =>
   let#[l,e1,e2,e3]:=mu0 n f;let#[c,hc,e]:=a;done;refine#[c::l,`dl e e1,by rw[`T,e2],`m!];apply `m'
   ·exact hc
   ·exact e3 x hx
theorem su0{N:Nat}:`V8 (`a8x->`a8y=ds/\(`s `Jx)=n/\(`I_ λq=>`dU `Xt)=`Lx pr)
 | 0,_,h=>by cases h;exact`Rx rfl
 | n+1,_,h=>by
  skip;rw[`da,`gu] at h;have h:`a8z:=h;cases h with
  | cons a f=>cases f with
   | cons b f =>
    let#[e1,e2,e3]:=su0 n f;let#[l,_,e]:=a;subst e;done;refine`aTL
    ·show `wI (u00 _::(`f9 _).map u00)=_
     rw[`G1,e1];rfl
    ·show (`s (`f9 _))+1=n+1
     rw[e2]
    ·show `cr=`cr
     rw[e3];rfl
def V70{N:Nat}(hk:`y5)(h:`a8A):kn `Hu=q.1/\cnt `Hu=n/\its `Hu=(`o `kO [] q.2)/\`U0=(`Ay).d/\tx `Hu=if `kO then (`lW q.2).map (`apZ) else []:=by
 skip;apply `arc
 apply `qh
 ·let#[l,e1,e2,e3]:=mu0 n h;have e1:ds=`c6 (`u7):=e1;subst e1;have ec:`GW=l:=rt0 l;done;refine#[rfl,?_,rfl,rfl,rfl];show (`s (`a2 (`GW)))=n;rw[ec,← e2];rfl
 ·have hl:`arg=`bN:=`jz;rw[`gs] at hl;done;exact#[rfl,hl.symm,rfl,rfl,rfl]
 ·let#[e1,e2,e3]:=su0 n h;done;refine#[rfl,?_,e1,?_,rfl]
  ·show (`s `AM)=n
   rw[`S];exact e2
  ·show `dU [`km,`apI]=`C [`km,`a8B]
   rw[e3]
 ·have h':`a8C:=h;cases h' with
  | @cons _ _ d ds a f =>
   let#[e1,e2,e3]:=su0 n f;let#[l,_,e]:=a;subst e;done;refine#[rfl,?_,?_,?_,rfl]
   ·show (`s `AM)=n
    rw[`S];exact e2
   ·show `fm `uP::`a8y=m9 l::ds
    rw[e1];rfl
   ·show `dU [`j!,m9 l,`apI]=`C [`j!,`sy,`a8B]
    rw[e3];rfl
def V30{kd:Nat}(h:`ao'=(`s (`qQ kd m))):n=m:=by
 match kd with
 | 0=>have h:(`s `Nf)=(`s (`bB m `AL)):=h;rw[`gs,`gs] at h;exact h
 | 1=>have h:`arg=(`s (`bB m `vW)):=h;rw[`gs,`gs] at h;exact h
 | 2 =>
  have h:`GK=(`Jb `a8D):=h;rw[`zf,`zf] at h;lia
 | k+3 =>
  have h:`ao!=(`s (`KO::(`a8D).flatten)):=h;rw[`T,`T,`zf,`zf] at h;lia
universe Rk
namespace Rk
open DL W Rm StrLaws
open Bw (bs hi sg its two kn cnt tx)
open Km (hb nB nT nW pk lkd ix)
def zs(l:`h):`M:=`c6 `apZ
inductive Ed (bg F:`tY):`h->`N->`l->`aqz
 | nil:Ed bg F [] [] [] []
 | root:bg=[]->Ed bg F [] `Gl `y9 []
 | cons {k:Nat} {q:`d8} {more:`l} {us:`h} {todo ws:`N} {W:`l} {t:`M}:`Hm->F[k]?=`c (q.1,q.2++more)->`aj7=todo.length->`a8 ∉`dx->(`kO->∀w∈`dx,`V5)->`K0 us ws->Ed bg F `rp (`Ax) (`aC2++W) `a8E
def Ed.t0{u:`h}{w:`N}{W:`l}{t:`M}(e:`arh)(h:`cM ∉w):t=[]:=by
 cases e with
 | nil=>rfl
 | root=>rfl
 | @cons k q more us todo ws W t a b c d s e =>
  by_cases hq:`kO
  ·rw[`L hq]
   have:`dx=[]:=by
    cases `dx with
    | nil=>rfl
    | cons x xs =>
     have:=s hq x A4;exact `G (`k `x (D6 _ A4)) h
   rw[`x] at c;rw[List.length_eq_zero_iff.mp c];rfl
  ·rw[`_ hq]
def Ed.same{u:`h}{w:`N}{W:`l}{t:`M}(e:`arh)(h0:bg=[]->bg'=[])(h:∀j∈u,`a7_):Ed bg' F u w W t:=by
 induction e with
 | nil=>exact `R
 | root z=>exact `gK (h0 z)
 | cons a b c d s _ ih=>exact `aa `a70 b c d s (ih `apE)
def X90{a b c d:`N}(ha:`a8 ∉a)(hb:`a8 ∉b)(h:a++`a8::c=b++`a8::d):a=b/\c=d:=by
 induction a generalizing b with
 | nil =>
  cases b with
  | nil=>injection h with _ h;exact`aWG
  | cons x b=>apply `aqA;exact `G `a8F hb
 | cons y a ih =>
  cases b with
  | nil=>apply `aqA;exact `G `a8F ha
  | cons x b =>
   apply `zc
   let#[e1,e2]:=ih (λz=>ha `nr) (λz=>hb `nr) h2;exact#[by rw[h1,e1],e2]
def Pq.signs{N:Nat}{t:`N}(p:`Hn):(`kO->∀w∈t,`V5)/\(q.1≠0->`cM ∉t):=by
 apply `V0;have hf:`a8G:=λn hm=>by
  apply `VR;apply `qn;simp at hm
 refine#[λh w hw=>?_,λh hs=>?_]
 ·rw[h] at e
  have:w∈`Nf:=`fz `a8h e (D4 _ hw)
  exact`a8i
 ·have hm:`AL∈`Ng:=`k e (D4 _ hs)
  generalize q.1=kd at h hm
  match kd with
  | 0=>exact h rfl
  | 1=>cases (`z! hm).2
  | 2=>exact hf n hm
  | k+3 =>
   rcases `KW with z|z
   ·cases z
   ·exact hf n z
def Sg(w:`N):Prop:=∃m r,w=`bB m `cM++r/\`cM ∉r
def Sg.tail{w:`N}(h:Sg w):Sg w.tail:=by
 let#[m,r,e,hr]:=h;cases m with
 | zero =>
  refine#[0,w.tail,rfl,λz=>hr ?_];have e:w=r:=e;rw[← e];exact List.mem_of_mem_tail z
 | succ m=>exact#[m,r,`dl e `da,hr]
def Sg.no{x:`ac}{w:`N}(h:Sg (x::w))(hx:x≠`cM):`cM ∉x::w:=by
 let#[m,r,e,hr]:=h;cases m with
 | zero =>
  have e:x::w=r:=e;rw[e];exact hr
 | succ m=>rw[`da] at e;injection e with e _;exact `G e hx
theorem Sg.of{w:`N}(h:`cM ∉w):Sg w:=#[0,w,rfl,h]
theorem mf0:`a8H `VZ w
 | [],[],_,h=>h
 | [],`cr,_,h=>h
 | `ff,[],x,h=>by
  apply `a8I
  rw[e] at h;exact h
 | `ff,`nX,x,h=>by
  by_cases hw:w=`a8
  ·subst hw
   exact A5 _ (mf0 ws us x h)
  ·have e:Q4 `Nh `rp=(`ff,`nX):=by apply `a8J
   rw[e] at h;exact h
def jk0{w:`ac}(hw:`eS)(ws:`N)(us:`h):Q4 `Nh us=(`ff,us):=by
 cases us with
 | nil=>cases w<;>rfl
 | cons k us=>apply `a8J
theorem Z50:`a8H `Hr u
 | [],[],_,h=>h
 | [],`cr,_,h=>h
 | `ff,[],x,h=>by
  apply `a8I
  rw[e] at h;exact h
 | `ff,`nX,x,h=>by
  by_cases hw:w=`a8
  ·subst hw
   exact A5 _ (Z50 ws us x h)
  ·rw[jk0 hw] at h
   exact h
def Sg.ends{w:`N}{u:`h}(h:Sg w):Sg `VZ:=by
 cases w with
 | nil=>exact .of λz=>by have:=mf0 [] u _ z;cases `x
 | cons x w =>
  by_cases hx:x=`a8
  ·exact .of λz=>h.no (`D_ hx) (mf0 _ u _ z)
  ·rw[jk0 hx];exact h
def Lk0{N:Nat}{u:`h}{w:`N}(o:`qq):∀{W:`l} {t:`M},Sg w->`K0 `Hr `VZ->(`Hq `Hr `ml)->`arh/\`Hq u `ml:=by
 induction o with
 | nil=>exact λ_ e c=>#[e,c]
 | @cons k q us todo ws a b c o ih =>
  intro W t sg e cl;cases `dx with
  | cons x todo =>
   have hx:x≠`a8:=`a8a
   have ee:Q4 (`a8K) `rp=(`a8K,`nX):=jk0 hx _ _;rw[ee] at e cl;exact#[e,cl]
  | nil =>
   have J:`a8L:=λz=>Sg.no (x:=`a8) (w:=ws) sg `v `nr
   have e:`K0 `aq? (Q4 ws us).1:=e;have cl:`Hq `aq? `ml:=cl;let#[e1,c1]:=ih (.of J) e cl;have t0:=e1.t0 J;have hF:`ml:=cl k q a λz=>`cO (c k (Z50 ws us k z))
   subst t0;have r:=Ed.cons (todo:=[]) (more:=[]) a (by rw[hF,`bS]) rfl `aM (λ_ w hw=>by cases hw) e1;refine#[?_,λj q' h1 h2=>c1 j q' h1 λz=>h2 `nr];have z1:(`o `kO [] `ajl)++W=W:=`a8M
   have z2:(if `kO then zs (`lW []) else [])=([]:`M):=`a8M
   rw[z1,z2] at r;exact r
def gn0{S:RS}(G:`b6){w:`ac}(hw:`aS)(hr:`rK)(hf:`eS)(sg:`zh){F:`tY}{d:D}{W:`l}{t:`M}(hbg:∀j∈`aH,∀q,`ko[j]?=`dt->`aAs)(hlen:`ko≠[]->bg'≠[])
  (e:Ed bg' F `aH ws W t):(`V9->t=[]/\`Nk (d::W) [])/\(`V5->∀c,d=m9 [c]->`Nk W (`KV::t)):=by
 skip;let#[a1,o]:=`aq9;let#[k,us,q,todo,J,hu,hq,p,he,Y,o']:=`aq';have eb:`a7E:=tv0 hu d
 have O:bg'[k]?=`c `a74:=hbg k `abU _ `a76;rw[hu,he] at e;have ps:=p.signs;done;generalize hl:`dx++`ack=l at e;generalize hus:`nX=u at e;cases e with
 | nil=>cases hus
 | root=>cases hus
 | @cons k2 q2 more us2 todo2 ws2 W2 t2 a b c dd s e =>
  cases hus;rw[O] at a;cases a;let#[e1,e2]:=X90 (λz=>p.todo.2.1 `nr) dd hl;subst e1 e2;have eF:F[k]?=`c (q.1,q.2++`ari):=by rw[b];show `c (q.1,(`Lq)++more)=_;rw[`bg];rfl
  have e':Ed `ca F us J W2 t2:=`Rp (λz=>`G z (by rw[← List.length_eq_zero_iff];intro z0;have h1:=(`c7 O).1;lia)) λj hj q' h=>by
   have a2:`aoT=`c q'∨True:=`p `jr;have Z:j≠k:=`cO (Y j hj)
   have U:=o'.un j hj;obtain⟨q0,h0⟩:∃q0,`aoT=`c q0:=#[_,C1 U];have:=hbg j (`k hu (A5 _ hj)) q0 (`fz eb (h90 Z) h0);rw[`x] at h;cases h;exact h0
  have r:=Ed.cons (todo:=`Nc) (more:=`ari) hq eF (by rw[`T,`T,c]) (λz=>p.todo.2.1 z) (λh0=>ps.1 h0) e';have ew:`bu=(`Nc)++`ack:=`dl hw he
  rw[hu,ew];refine#[λhs=>?_,λhs x hx=>?_]
  ·have h0:q.1≠0:=λz=>hs (ps.1 z w A4)
   rw[`jm,`jm] at r;exact#[`jm,`Dp (Ed `ca F `rp `a8N (d::`a8O) []) `jm r]
  ·have h0:`kO:=E7 λz=>ps.2 z (`k hs A4)
   rw[`pN,`pN] at r;show Ed `ca F `rp `a8N `a8O (`B!::`a8E);rw[`pN,`pN];have z:zs (`lW (`ari))=`B!::`aC1:=`aF hx
   rw[z] at r;exact r
inductive Go:RS->`h->`apl
 | nil (S:RS):Go S [] S
 | cons {S S1 S2:RS} {b:Nat} {l:`h}:`d3->`V4=`Hv->Go `BN l S2->Go S `vX S2
def pre(S:RS):`M:=`o `cP `Nl (`a8P++zs `lw)
inductive St1 (S:RS) (b:Nat):`apl
 | dig {w:`ac} {ws:`N} (hw:`aS) (hv:`gD) (h8:`gp) (h0:`Nm≠0):St1 S b (`CU `Nm)
 | part {w:`ac} {ws:`N} (hw:`aS) (hv:`gD) (h8:`fJ) (kd n:Nat) (hk:kd<4) (hn:`VW) (h60:`aK<60) (he:`a8Q):St1 S b `sA
 | val {ws:`N} (hw:`GM) (h8:`fJ) (d:D) (hd:`a8R):St1 S b `oQ
 | sign {ws:`N} (hw:`a3J) (hb:`BE):St1 S b (`i3)
 | last {w:`ac} {ws:`N} (hw:`aS) (hv:`fU) (h0:`aq4) (hb:`ns) (hl:`GU) (he:`Gm):St1 S b (`wH)
 | more {w:`ac} {ws:`N} (hw:`aS) (hv:`fU) (h0:`aq4) (hb:`ns):St1 S b `BI
 | known {w:`ac} {ws:`N} (hw:`aS) (hv:`fU) (h0:`cP) (k:Nat) (hb:b=2*k) (hk:k<`fl) (nm:`h) (hnm:`a9[`T?]?=`Je):St1 S b (`o8)
 | new {w:`ac} {ws:`N} (hw:`aS) (hv:`fU) (h0:`cP) (L:Nat) (hb:b=2*L+1) (h1:1<=L) (h8:L<=8):St1 S b `apv
def Y60(n:Int)(h:0<=n):(`ad (`IZ (w00 n)))=n:=by
 unfold w00 Bw.fold;split<;>split<;>lia
def st1{S:RS}(G:`b6)(hf:`Ht){b:Nat}(h:`V4=`Hv):`arj:=by
 have dg:=G.dg;have few:=`lm;unfold RS.takes at h;have dig:∀{w:`ac} {ws:`N},`aS->(`gD)->`Ub=`Hv->`arj:=λ{w ws} hw hv h=>by
  unfold RS.digit at h
  by_cases h8:`fJ
  ·have e:`are=`b9:=`b7
   apply `oE (`L h8) e;apply `apb Int `sD;rw[← hN] at h;have Y:0<=N:=`b7
   unfold RS.head at h
   by_cases h3:N%4=3
   ·rw[`Ue] at h
    have h':=h;unfold RS.part at h'
    by_cases hc:(N/4/4) > (`o (`M6=0) 20 12)∨`M5
    ·rw[`EP] at h';cases h'
    ·obtain⟨n,hn⟩:∃n:Nat,N/4/4=`bv:=#[(N/4/4).toNat,`b7]
     have h1:n<=lim `M6:=by
      have:=`a8S;rw[Xn0,hn] at this;omega
     have h2:`yY:=λz=>hc `KJ
     rw[hn,X50 S _ n h1 h2] at h;cases h;exact .part hw hv h8 _ n `a' h1 `a' `a'
   ·rw[`_ h3] at h
    by_cases hr:`um
    ·rw[`a8o] at h;cases h
    ·have U:=`a8p
     subst U;rw[`a8q] at h
     by_cases h1:N%4=1
     ·rw[`EF] at h
      cases h;refine .val hw h8 _ (`n `aTc);have:=Y60 (N/4) `a';omega
     ·rw[`EG] at h
      by_cases h2:`a6S
      ·rw[`E0] at h
       cases h;exact .val hw h8 _ (`p (`n #[_,`b7,rfl,`b7]))
      ·rw[`V3] at h
       by_cases h4:N=0
       ·rw[`L h4] at h
        cases h;exact .val hw h8 _ (`p (`p #[rfl,`b7]))
       ·rw[`_ h4] at h;cases h
  ·simp only[`_ h8] at h
   split at h
   ·cases h
   ·rename_i hc
    cases h;exact .dig hw hv `a' `a8T
 cases hw:`bu with
 | nil=>rw[hw] at h;cases h
 | cons w ws =>
  rw[hw] at h;have J:(`fU)->`a8u=`Hv->`arj:=λhv h=>by
   by_cases h0:`Os
   ·rw[`pN] at h
    unfold RS.letter at h
    by_cases hc:`Ua
    ·rw[`EP] at h;cases h
    ·rw[`to] at h
     have hb:`ns:=E7 `a8T
     by_cases he:`Gm
     ·rw[`L he] at h
      cases h;refine .last hw hv `a' hb ?_ he;cases e:`Jd with
      | true=>rfl
      | false=>exact `G `ard hc
     ·rw[`_ he] at h
      cases h;exact .more hw hv `a' hb
   ·rw[`jm] at h
    unfold RS.number at h
    by_cases h2:b%2=0
    ·rw[`E0] at h
     unfold RS.known at h
     by_cases hk:`fl<=b/2
     ·rw[`xA] at h;cases h
     ·rw[`Ev] at h
      obtain⟨nm,O⟩:∃nm,`a9[`a8U]?=`Je:=`a8j;have eg:`anM (`a8U) []=nm:=`dl `b5 O
      simp only[eg] at h;split at h
      ·cases h
      ·cases h
       exact .known hw hv `a' `ow `a' `a' nm O
    ·rw[`V3] at h
     split at h
     ·cases h
     ·rename_i hc
      cases h;exact .new hw hv `a' `ow `a' (by have:=`a8S;omega) (An0 λz=>hc `Vy)
  cases w with
  | root=>exact dig hw `c0 h
  | value=>exact dig hw `jo h
  | sign =>
   have h:(`anP)=`Hv:=h
   by_cases hb:`BE
   ·rw[`dY] at h;cases h;exact `cM hw hb
   ·rw[`cz] at h;cases h
  | name=>exact J `c0 h
  | cls=>exact J `jo h
  | fin=>rw[hw] at hf;exact `aq7
def Iw0{d n:Int}(hd:0<=d){b:Nat}(h8:`gp)(hb:`d3)(e:n=d*128+`Yv)(h0:n≠0):hi `iW=`a8V:=by
 rw[Bw.Wx0 `iW `j,`a4 (`iW/128=`acn),`a4 (128+`iW%128=b)]
def Sv0{d:Int}(hd:0<=d){b N:Nat}(h8:`fJ)(e:d*128+`b9=`gl):bs N=`a8V:=by
 unfold bs;rw[`a4 (N/128=`acn),`a4 (N%128=b)]
def str_inj{a b:`h}(h:`CV=`CW):a=b:=by
 have:(`DJ `CV)=(`DJ `CW):=by rw[h]
 exact `x
def Mv0{l:`io}(h:`ab2):(`c6 `a2).Nodup:=by
 refine `apu;exact`a7I λhn e=>hn (str_inj e)
theorem V40[`y2]:∀{l:`a6} {i:Nat} {a:α},`ab2->`tx->`G3=i
 | [],i,a,_,h=>by cases h
 | b::l,0,a,_,h=>by
  cases h;unfold ix;rw[`bp]
 | b::l,i+1,a,hn,h=>by
  have h:`tx:=h;have hb:`i':=λz=>(E1.mp hn).1 (`k z (C8 h))
  unfold ix;rw[`cz,V40 (E1.mp hn).2 h]
def gj0{S:RS}{d:D}{k:Nat}(h:`Lw):`ko[k]?=`Ia:=by
 apply `yX;cases hu:`aH with
 | nil=>rfl
 | cons j us =>
  rw[hu] at h;exact h90 λz=>h `Ne
def Gi.l0{S:RS}(G:`b6){w:`ac}(hw:`aS)(h:w≠`fn/\w≠.cls):`aq3:=by
 have l0:`cP:=E7 λz=>by
  skip;let#[w',J,e,hv]:=`V_;rw[hw] at e;cases e;rcases hv with rfl|rfl
  ·done;exact h.1 rfl
  ·done;exact h.2 rfl
 refine`a8t;apply `V6
 ·exact z.2
 ·rw[l0] at z;apply `V7
theorem Gi.d0{S:RS}(G:`b6){w:`ac}(hw:`aS)(h:`rK/\w≠`b_):`ll:=E7 λz=>by
 skip;let#[w',J,e,hv]:=G.dv z;rw[hw] at e;cases e;rcases hv with rfl|rfl
 ·done;exact h.1 rfl
 ·done;exact h.2 rfl
def p50{S:RS}(h:`cP)(h2:`ll):pre S=[]:=by
 unfold pre;rw[`ch,h2];exact `G9
theorem Py0{names:`io}{x:`h}(h:left `ig `rF x=`d):x∉`ig:=λhm=>by
 have h:=n5 h;rw[`kG] at h;have:x∈`a8W:=M1.mpr #[hm,`k `y1 (Ax0.mpr (List.prefix_refl x))]
 have:=Dj0 `x;have h:(`s `a8W)<1:=h;lia
structure Uq(F:`tY)(ps:`aE)(S:RS)(l:`h):Prop where
 ex:`a8X
def Uq.back{ps:`aE}{S:RS}{l:`h}(G:`b6)(sg:`zh)(u:Uq F ps (`y') l):`a8X:=by
 skip;let#[W,t,e,c,k]:=u.ex;apply `VU
 ·have z:`Go=(`bu,`aH):=`dl e2 e3
  have z1:(`y').un=`aH:=`lj ((`Go).2=_) z
  have z2:(`y').wait=`bu:=`lj ((`Go).1=_) z
  rw[z1,z2] at e;rw[z1] at c;done;exact#[W,t,e,c,k]
 ·let#[x,y]:=Lk0 (F:=F) o sg e c
  done;exact#[W,t,x,y,k]
def Te0(kd n:Nat)(ws:`N)(h:`cM ∉ws):Sg (`_l):=by
 by_cases h0:kd=0
 ·subst h0
  exact#[n,`f8,rfl,λz=>`a8Y]
 ·refine .of `he
  have hf:`a8G:=λn hm=>by
   apply `VR;apply `qn;simp at hm
  apply `VA
  ·match kd,h0 with
   | 0,h0=>exact h0 rfl
   | 1,_=>cases `Hc
   | 2,_=>exact hf n z
   | k+3,_ =>
    apply `Hd
    ·cases z
    ·exact hf n z
  ·exact `a8Y
section
variable{ps:`aE}{S:RS}{l:`h}{b:Nat}
theorem rw0(b:Nat)(l:`h):zs `vX=`a8Z:=rfl
def oj0(G:`b6){w:`ac}(hw:`aS)(hr:`rK)(hf:`eS)(hs:`V9)(sg:`zh){d:D}(e1:`pa=`ko)(e2:`sE=`aH)(e3:`jc=ws)(l0:`a7F)(d0:`aql=0)
  (u:∃W t,`a8_/\(∀k q,`a80)/\`a81)
  (hb':hb ps `kI `mJ d=`a82) (hB:nB `kI d=`uA) (hT:nT `mJ d=`aw!) (hW:∀W,nW ps `kI W d=W):`ark:=by
 apply `arl;rw[e1,e2,e3] at e;have hl:`a7G:=`k e1 (ue0 S d)
 let#[t0,e']:=(gn0 G hw hr hf sg (F:=F) (bg':=`ko) (d:=d) (`ah2) id e).1 hs;refine#[d::W,[],e',λj q h hj=>c j q (`fz e1 (gj0 hj) h) (`k e2 hj),`Ot];cases f with
 | zero=>exact `a83
 | succ f =>
  show _=hb ps _ _ d++pk ps f (nB _ d) (nT _ d) (nW ps _ W d);rw[hb',hB,hT,hW,rw0];have:=k f (by rw[`T] at J;rw[hl];lia);rw[`arm,t0,hl] at this;have this:zs l=pk ps f `kI `aAy W:=`x;rw[← `x,`bg];rfl
def I40(G:`b6)(sg:`zh)(hw:`GM)(h8:`fJ)(d:D)(hd:`a8R)
  (u:∃W t,Ed `ko F `aH ws W t/\`a84 `aAx `mJ):`ark:=by
 skip;apply `V' `v;apply `a85
 have J:∀N:Nat,`sD=`gl->bs N=`a82:=λN e=>`k hp (Sv0 G.dg h8 e)
 have ew:`UK=ws:=`ro
 have u':∃W t,Ed `ko F `ao9 `UK W t/\`a84 (k∉`ao9->`ml) ((`lz).names.map `a2):=by
  rw[ew];exact u
 rcases hd with⟨z,rfl,e⟩|⟨j,hj,rfl,e⟩|⟨rfl,e⟩
 ·done;exact `arn (J _ e) rfl `hh
 ·have hm:j∈`uA:=`mD hj
  done;have O:ix `kI j=j:=V40 Aw0 (by rw[`aR7 hj]);refine `arn ?_ ?_ λW=>?_
  ·show (if `aC3 then bs (4*((`s `uA) - 1 - ix _ `vv)+2) else _)=_
   rw[`b!,`Hw,O,`o7];exact J _ e
  ·show `a86
   rw[`b!,`Hw]
  ·show `a86
   rw[`b!,`Hw]
 ·done;exact `arn (J 0 e) rfl `hh
def M90(hps:`a87)(GF:`a88)(G:`b6)(sg:`zh){w:`ac}(hw:`aS)(hv:`gD)(h8:`fJ)(kd n:Nat)(hk:kd<4)(hn:`VW)(he:`a8Q)
  (u:∃W t,Ed `Hp F `ach `_k W t/\(∀k q,`Hp[k]?=`dt->k∉`ach->`ml)/\`aco `aci `sA (t++pk ps f (`bP `aci) `mJ W)):`ark:=by
 apply `V' `DO;apply `a85
 have J:`_n=`aK:=ue0 _ _;have eb:`Hp=`Vs:=rfl;have eu:`a7':=by
  show `aqX;rw[J]
 have ew:`aqo:=by
  apply `aq!;rw[hw];rfl
 apply `a7!
 have a5:=G.wl.2.2.2;apply `arl;rw[el] at k;rw[eu] at c;rw[eu,ew] at e;have Z:`Hp[`aK]?=`c `Jv:=`a7?
 generalize hl:`_l=ll at e;generalize hus:`Nd=uu at e;skip;cases e with
 | nil=>cases hus
 | root=>cases hus
 | @cons k2 q2 more us2 todo2 ws2 W2 t2 a b' c' dd s e =>
  cases hus;rw[Z] at a;cases a;let#[z1,z2]:=X90 (ga0 kd n) dd hl;subst z1 z2;have hF:F[`aK]?=`c `V!:=b';let#[n',dn,a7,_,ee,ff]:=GF _ _ hF;rw[`bS] at ee;subst ee;have a3:n'=n:=V30 (kd:=kd) (`bR c' ff.len);subst a3;let#[p1,p2,p3,p4,p5]:=V70 (q:=`V!) hk ff;done;have U:`qZ `aK `q_=vi0 `V!:=by rw[hps,`b5,`cX,hF];rfl
  have O:`aK ∉`uA:=λz=>D9 _ (`u1 z)
  have a2:`Nk (lkd `aK::W2) []:=by
   rcases hv with rfl|rfl
   ·skip;apply `VU
    ·rw[e3] at hw
     cases hw;rw[e2] at e;done;rw[e2,e3,e1];cases e with
     | nil=>exact `gK rfl
    ·rw[hw] at o
     let#[k,us,q,todo,a8,hu,hq,p,_]:=`a78;done;exact `a79
   ·exact((gn0 G hw `v `v sg (F:=F) (bg':=(Q3 S kd n').begun) (d:=`z8) (λj hj q h=>by
     rw[eb,`fw `FI];exact h) (λ_ z=>by rw[z] at el;cases el) e).1 `v).2
  refine#[lkd `aK::W2,[],a2,λj q h hj=>?_,λf Y=>?_]
  ·have a1:=`FI
   refine c j q ?_ `he
   ·rw[eb,`fw (`k J a1),gj0 hj]
    exact h
   ·apply `Hd
    ·lia
    ·exact hj z
  ·cases f with
   | zero=>exact `G Y `Dd
   | succ f =>
    show _=hb ps _ _ `t?++pk ps f (nB _ `t?) (nT _ `t?) (nW ps _ W2 `t?);have h1:hb ps `kI `mJ `t?=`B6 (4*n'+kd) (vi0 `V!):=by
     show (`o `aro _ (`B6 (4*cnt `V?+kn `V?) `V?))=_;rw[`b!,`P?,U,p1,p2]
    have h2:nB `kI `t?=`bP `VX:=by
     show (`o `aro _ _)=_;rw[`b!,`P?,`Us]
    have h3:nW ps `kI W2 `t?=(`aAz)++W2:=by
     show (`o `aro _ (its `V?++W2))=_;rw[`b!,`P?,U,p3]
    rw[h1,h2,h3];have a4:`aj7<=25:=`k c' (mh0 kd n' hn)
    have a6:=(`c7 hF).1;have kk:=k f (by
     rw[`T] at Y;rw[`Z];show `a89+W2.length+26*(`wG - `VX)<f;have:`a89<=25:=by split;exact `bw;exact a4
     lia)
    rw[p50 (S:=Q3 S kd n') l0 rfl,`hQ] at kk;rw[Sv0 G.dg h8 he,rw0,hp];show `Nl++`a8Z=[]++_;rw[kk,p5,`hQ];show _=`Nl++`Nj++_++pk ps f _ `mJ _;simp only[`bg];rfl
universe zz
section
variable{ps:`aE}{S:RS}{l:`h}{b:Nat}
def Opens.done{N:Nat}{u:`h}(o:`fk N bg u []):u=[]:=by
 generalize hl:([]:`N)=w at o;cases o with
 | nil=>rfl
 | cons a b c o=>exact `G hl `aM
theorem v70(a c:`h):zs `qr=zs a++zs c:=`aU
def uniq(hps:`a87)(GF:`a88){E:RS}(g:`arp):`mK=F->`ny->`b6->`Ht->`zh->`aqt->Uq F ps S l:=by
 induction g with
 | nil S =>
  intro hF hE G hf sg nd;skip;rcases G.op with⟨_,_,e3,_⟩|⟨_,o⟩
  ·rw[e3] at hE;cases hE
  ·have hu:`aq1:=by
    rw[hE] at o;exact o.done
   have l0:`cP:=E7 λz=>by
    let#[w,ws,e,_]:=`V_;rw[hE] at e;cases e
   have d0:`ll:=E7 λz=>by
    let#[w,ws,e,_]:=G.dv z;rw[hE] at e;cases e
   done;refine#[[],[],`fz hu hE `R,λk q h _=>`bR hF h,`Ot];rw[`arm];cases f with
   | zero=>exact `a83
   | succ f=>rfl
 | @cons S S1 E b l hb ht g ih =>
  intro hF hE G hf sg nd;skip;have G1:Gi S1:=by
   have:=`arq;apply `aV ht;exact this.2.1
  have N:=`arr;have go:Sg `jc->S1.names.Nodup->∃W t,`a8_/\(`acq `a80)/\`a81:=λa2 O=>(ih hF hE N.1 N.2 (Sg.ends a2) O).back G1 a2
  cases `a8' with
  | @dig w ws hw hv h8 h0 =>
   apply `ars;apply `V' `DO;done;apply `art;have:=k f J;rw[← `x,rw0];unfold pre;rw[`L l0,`L (show `cP from l0)];show _=hi `a8!++zs l;rw[Iw0 G.dg h8 hb rfl h0,`bg];rfl
  | @part w ws hw hv h8 kd n hk hn h60 he =>
   have a4:`a8L:=λz=>Sg.no (x:=w) (w:=ws) (`bR hw sg) `DO `nr
   have ew:`aqo:=by
    apply `aq!;rw[hw];rfl
   done;exact M90 hps GF G sg hw hv h8 kd n hk hn he (go (`k ew (Te0 kd n ws a4)) nd)
  | @val ws hw h8 d hd =>
   have ew:`UK=ws:=`ro
   have u:=`aru;rw[ew] at u;done;exact I40 G sg hw h8 d hd u
  | @sign ws hw hbs =>
   have ew:(`i3).wait=ws:=`ro
   have u:=`aru;rw[ew] at u;apply `arl;apply `V' `v;have d0:=G.d0 hw `v;have hl:(`ve `i3)=`aK:=ue0 S _;done;refine#[W,`b9::t,(gn0 G hw `v `v sg (F:=F) (bg':=(`i3).begun) (d:=`zV) (`ah2) id e).2 rfl b rfl,λj q h hj=>c j q (`k (gj0 hj) h) hj,`Ot];have:=k f (`k hl J);rw[p50 (S:=`i3) l0 rfl,hl,`hQ] at this;rw[`arm,rw0,`x];rfl
  | @last w ws hw hv h0 hbs hl he =>
   apply `V1
   have Y:`eS:=`n?
   have hs:`V9:=`n?
   have ew:(`wH).wait=ws:=`ro
   have Z:`a4p:=by apply `hJ;exact he
   have U:`qX ∉`a9:=Py0 (`k Z hl);have O:(`Gn).Nodup:=`Vn #[nd,`a7,λa ha c hc z=>`ajj (`dK hc) (U (z▸ha))];have a1:`wM ∉`uD:=λz=>by
    let#[y,hy,e]:=`de z;rw[str_inj e] at hy;exact U hy
   done;refine oj0 (S1:=`wH) G hw hr Y hs sg (d:=`anO) rfl rfl ew rfl rfl (go `awA O) ?_ rfl ?_ `hh
   ·show (`o `a8? _ (bs (2*`a9a+1)++Bw.sg (`wM)))=_
    rw[`_ a1];unfold pre;rw[`jm,show `a9a=`ds from Z,`bg];congr 1;show zs `lJ=_;rw[v70];rfl
   ·show (`o `a8? _ (`uD++[`wM]))=(`Gn).map `a2
    rw[`_ a1,`aU];rfl
  | @more w ws hw hv h0 hbs =>
   apply `ars;done;apply `art;have:=k f J;rw[← `x,rw0];unfold pre;rw[`jm,`Su `cP h0];show _=`a8P++zs `lJ++zs l;rw[v70,`bg,`bg,`bg];rfl
  | @known w ws hw hv h0 k hbk hk nm hnm =>
   apply `V1
   have Y:`eS:=`n?
   have hs:`V9:=`n?
   apply `Wa;have ew:(`o8).wait=ws:=`ro
   done;have hT:`mJ[`T?]?=`c (`BL):=`dl `cX hnm
   have hm:`arv:=C8 hT;have a3:=V40 (Mv0 nd) hT;have nl:=G.nl;refine oj0 (S1:=`o8) G hw hr Y hs sg (d:=`uy) rfl rfl ew h0 rfl (`aru) ?_ rfl ?_ `hh
   ·show (if `arv then bs (2*((`s `uD) - 1 - ix `mJ (`BL))) else _)=_
    rw[`Hw,a3,p50 h0 d0,`S,`VN (2*(`rn - (`T?))=b),h40 b `a'];rfl
   ·show (`o `arv _ _)=_
    rw[`Hw];rfl
  | @new w ws hw hv h0 L hbL h1 h8 =>
   apply `ars;apply `Wa;have s0:`i5:=by
    apply `V6
    ·exact z.2
    ·rw[h0] at z;apply `V7
   done;apply `art;have:=k f J;rw[← `x,rw0,p50 h0 d0];unfold pre;rw[`_ (`VN (¬L=0))];show _=bs (2*L+1)++zs `lw++zs l;rw[s0,h40 (2*L+1) `a',← hbL];rfl
def Rb0{E:RS}(g:`arw)(hE:`ny)(GE:Gi E):zs l=Km.pak (`Wb) 0:=by
 have hu:E.un=[]:=by
  skip;rcases GE.op with⟨_,e2,_⟩|⟨_,o⟩
  ·done;exact e2
  ·rw[hE] at o
   done;exact o.done
 have GF:`a9b:=`a9c GE.cl hu
 let#[W,t,e,_,k]:=(uniq (ps:=`Wb) rfl GF g rfl hE j70 `v (.of `v) S4).ex;have e:Ed [] `mK [] `Gl W t:=e;generalize hw:[`aq0]=w at e;cases e with
 | nil=>cases hw
 | root =>
  have few:=GE.few;have:=k 100000 (`dQ (1+26*(`Nn - 0)<100000));apply `aV (p50 (S:=`eU) rfl rfl);exact `x
universe zz
universe Rk
namespace Rk
open DL W Rm StrLaws
open Bw (bs hi sg its two kn cnt tx)
open Km (hb nB nT nW pk lkd ix It Wb)
def okr(m:Nat):Nat->`aqz
 | r,[]=>r<=m
 | r,b::l=>r<=m/\`o `gp (okr m `mW l) `Hx
def rl:Nat->`M->Nat
 | r,[]=>r
 | r,b::l=>`o `gp (rl `mW l) (rl 0 l)
theorem S30:∀{r:Nat} {l:`M},`Hy->r<=m
 | _,[],h=>h
 | _,`cr,h=>h.1
theorem ww0:∀{r:Nat} {a c:`M},okr m r `qr↔okr m r a/\okr m (rl r a) c
 | r,[],c=>#[λh=>#[S30 h,h],λh=>h.2]
 | r,b::a,c=>by
  show (r<=m/\`o `gp (okr m `mW `qr) (okr m 0 `qr))↔(r<=m/\`o `gp (okr m `mW a) (okr m 0 a))/\okr m `a9d c
  by_cases h:`gp
  ·simp only[`ch]
   rw[ww0];apply `a9e
  ·simp only[`dF]
   rw[ww0];apply `a9e
theorem y30{k:Nat}:∀{r r':Nat} {l:`M},`Hy->r'<=r+k->okr (m+k) r' l
 | r,r',[],h,hr=>by have h:r<=m:=h;show r'<=m+k;lia
 | r,r',b::l,h,hr=>by
  apply `ajT;refine`arx
  by_cases hb:`gp
  ·rw[`dY] at h2 ⊢
   exact `Hz
  ·rw[`cz] at h2 ⊢
   exact `Hz
theorem X60{r r':Nat}(h:`Hy)(hr:r'<=r):okr m r' l:=y30 (k:=0) h hr
theorem N90{r:Nat}(h:`Hy):rl r l<=m:=S30 (ww0 (c:=[]).mp (`k `bS h)).2
theorem j30{r:Nat}(h:`Hy)(n:Nat):okr m r (`mX n):=(ww0.mp (`k `ary h)).1
theorem cn0(h:`Hx)(n:Nat):okr m 0 (`A9 n):=X60 (ww0.mp (`k (`ary n l) h:okr m 0 (`mX n++`A9 n))).2 `kp
def Xi0(h:`Hx)(i j:Nat)(x:Int):okr (m+`rR) 0 (`mX i++[x]++`Wc):=by
 have h1:=j30 h i;have h2:=cn0 h j;have h3:=N90 h1;rw[`bg];refine `HA #[`arz,?_];show (_<=_/\if 128<=x then okr _ _ (`Wc) else okr _ 0 (`Wc));refine`arx;split
 ·exact `Hz
 ·exact `Hz
def Lp0(h:`Hx)(i j:Nat):okr (m+`rR) 0 (`mX i++`Wc):=by
 have h1:=j30 h i;have h2:=cn0 h j;have h3:=N90 h1;exact `HA #[`arz,`Hz]
def Sz(m:Nat)(l:`M):Prop:=`Hx/\rl 0 l=0
theorem mt0:∀(r:Nat) (a c:`M),rl r `qr=rl (rl r a) c
 | _,[],_=>rfl
 | r,b::a,c=>by
  show (`o `gp (rl `mW `qr) (rl 0 `qr))=rl `a9d c;split
  ·exact mt0 _ a c
  ·exact mt0 _ a c
theorem Sz.app{a c:`M}(h:Sz m a)(h2:Sz m c):Sz m `qr:=#[`HA #[h.1,`k h.2 h2.1],`fz mt0 h.2 h2.2]
theorem Sz.low:∀{l:`M},(∀b∈l,`fJ)->Sz m l
 | [],_=>#[`bw,rfl]
 | b::l,h=>by
  have hb:¬`gp:=`cO (h b A4)
  have:Sz m l:=Sz.low `pQ
  refine#[#[`bw,`k `cz this.1],?_];show (`o `gp _ (rl 0 l))=0;rw[`cz];exact this.2
theorem Sz0:∀(k r:Nat),r<128 ^ k->okr k 0 (hi r)/\rl 0 (hi r)<=k
 | 0,r,h=>by
  have:r=0:=by simp at h;lia
  subst this;rw[`G9];exact#[`fg,`fg]
 | k+1,r,h=>by
  by_cases h0:r=0
  ·subst h0
   rw[`G9];exact#[`bw,`bw]
  ·let#[h1,h2]:=Sz0 k `kF `a9f
   rw[`a6q];have hb:`a9g:=`F
   refine#[`HA #[`arz,#[`F,`sU `dY (_<=k+1)]],?_];rw[mt0];show (if `a9g then rl (rl 0 (hi `kF)+1) [] else _)<=k+1;rw[`dY];show _+1<=k+1;lia
def Gf0{k:Nat}(h:n<128 ^ `d6):Sz k (bs n):=by
 let#[h1,h2]:=Sz0 k `GZ `a9f;have hb:¬`a9h:=`F
 refine#[`HA #[h1,#[h2,`k `cz `bw]],?_];unfold bs;rw[mt0];show (`o `a9h _ (rl 0 []))=0;rw[`cz];rfl
def Db(m:Nat)(d:D):Prop:=∀z:Int,`v7->`KT<`act
def Rv0{S E:RS}{l:`h}(g:`arp):`b6->`Ht->∀r,`Yu<128 ^ r->okr m r `K1->(∀q∈`ca,∀d∈q.2,`ua)->∀q∈`mK,∀d∈q.2,`ua:=by
 induction g with
 | nil S=>exact λ_ _ _ _ _ h=>h
 | @cons S S1 E b l hb ht g ih =>
  intro G hf r hr ok hD;have G1:Gi S1:=by
   have:=`arq;apply `aV ht;exact this.2.1
  have N:=`arr;have dg:=G.dg;obtain⟨Z,ok⟩:r<=m/\`o (`No<=`b9) (okr m `mW `K1) `arA:=ok;have O:`arA:=by
   split at ok
   ·exact X60 ok `kp
   ·exact ok
  have held:∀{T:RS} {d:D},`aq8->`ua->∀q∈`BK,∀d∈q.2,`ua:=λ{T d} e hd q hq x hx=>by
   rw[e] at hq;unfold RS.hold at hq;cases hu:`aH with
   | nil =>
    rw[hu] at hq;exact hD q hq x hx
   | cons k us =>
    rw[hu] at hq;let#[i,J]:=`_o;have J:(`mI)[i]?=`dt:=J;rw[`jI] at J;cases e2:`aqj with
    | none=>rw[e2] at J;cases J
    | some y =>
     rw[e2] at J;have J:`c (if k=i then (y.1,y.2++[d]) else y)=`dt:=J;have hy:=hD y (C8 e2)
     by_cases z:k=i
     ·rw[`L z] at J
      cases J;rcases `XC with hx|hx
      ·exact hy x hx
      ·rw[`dK hx];exact hd
     ·rw[`k8] at J
      cases J;exact hy x hx
  have str:∀s,Db m `fj:=λs z h=>by cases h
  have U:∀j,Db m (link j):=λs z h=>by cases h
  have z1:(`eh).toNat<128 ^ 0:=`aw
  cases `a8' with
  | @dig w ws hw hv h8 h0 =>
   refine ih N.1 N.2 `mW ?_ (by rw[`Gx] at ok;exact ok) hD;show `a8!<128 ^ `mW;rw[`sV];lia
  | @part w ws hw hv h8 kd n hk hn h60 he =>
   refine ih N.1 N.2 0 z1 O λq hq d hd=>?_
   have hq:q∈`Vs:=hq;rcases `d! hq with hq|hq
   ·exact `cN (T:=`on) rfl (U _) q hq d hd
   ·rw[`dK hq] at hd;cases hd
  | @val ws hw h8 d hd =>
   refine `Wd `lz ?_;skip;rcases hd with⟨z,rfl,e⟩|⟨j,_,rfl,_⟩|⟨rfl,_⟩
   ·done;intro z' Y
    cases Y;have hp:128 ^ r*128<=`act:=`bR `sV (Nat.pow_le_pow_right `v `j)
    have a1:`KT<=`B'+1:=`a9i
    lia
   ·done;exact U _
   ·done;intro z h;cases h
  | @sign ws hw hbs=>exact `Wd `i3 `arB
  | @last w ws hw hv h0 hbs hl he=>exact `Wd `wH `arB
  | @more w ws hw hv h0 hbs =>
   apply `Wa;apply `a9j
  | @known w ws hw hv h0 k hbk hk nm hnm=>exact `Wd `o8 `arB
  | @new w ws hw hv h0 L hbL h1 h8 =>
   apply `Wa;apply `a9j
universe Rk
namespace Rk
open DL W Rm StrLaws
open Bw (bs hi sg its two kn cnt tx Vb Gq)
open Km (hb nB nT nW pk lkd ix It Wb)
theorem am0{N:Nat}:`V8 (Fts N (`a0D) ds->∀d∈ds,Ft N `b_ d)
 | 0,_,h=>by cases h;exact λd hd=>by cases hd
 | n+1,_,h=>by
  rw[`da] at h;cases h with
  | cons a f =>
   intro d hd;apply `qm
   ·exact a
   ·exact am0 n f d hd
theorem jd0{N:Nat}:`V8 (`a8x->∀x∈`Jx,(`acg x.1)/\Ft N `b_ x.2/\x.2∈ds)
 | 0,_,h=>by cases h;exact λx hx=>by cases hx
 | n+1,_,h=>by
  rw[`da,`gu] at h;have h:`a8z:=h;cases h with
  | cons a f=>cases f with
   | cons b f =>
    intro x hx;apply `m'
    ·exact#[a,b,`aki]
    ·let#[h1,h2,h3]:=jd0 n f x hx
     exact#[h1,h2,A5 _ (A5 _ h3)]
def cq0{N:Nat}(hk:`y5)(hn:`aq_)(h:`a8A)(hD:∀d∈q.2,`ua):cnt `Hu<=20/\(∀v∈(`Ay).vals,Ft N `b_ v/\Db m v)/\(∀s∈(`Ay).all,`o!)/\(`Ay).vals.length<=12:=by
 have c:=(V70 hk h).2.1;have O:=Zi0 q.1;apply `arc;refine`arx
 apply `qh
 ·exact#[`Ul,`arC,`bw]
 ·have hl:`arg=`bN:=`jz;rw[`gs] at hl;have hn:`t2:=hn;exact#[λv hv=>#[am0 n h v hv,hD v hv],`arC,`dQ (`bN<=12)]
 ·have hb:=jd0 n h;have hn:`t2:=hn;let#[_,e2,_]:=su0 n h;refine`a9k
  ·skip;let#[y,hy,e]:=`de hv
   apply `We;let#[_,h2,h3]:=`acs;done;rw[← e,← e'];exact#[h2,hD _ h3]
  ·skip;have hs:s∈`a9l++[]:=hs
   rw[`bS] at hs;let#[y,hy,e]:=`Gy;apply `We;apply `a9m;done;rw[← e,← e'];show `a9n;rw[e1];show `an1;have:=hl.2.1;lia
  ·show `a9o
   rw[`S,`S];have e2:(`s `Jx)=n:=e2;lia
 ·have h':`a8C:=h;have hn:`t2:=hn;cases h' with
  | @cons _ _ d ds a f =>
   have hb:=jd0 n f;let#[_,e2,_]:=su0 n f;let#[lc,J,ec]:=a;refine`a9k
   ·skip;have hv:v∈`aAB:=hv
    let#[y,hy,e]:=`de hv;apply `We;let#[_,h2,h3]:=`acs;done;rw[← e,← e'];exact#[h2,hD _ (A5 _ h3)]
   ·have hs:s∈`a9l++[`Ou d]:=hs
    rcases `aoF with hs|hs
    ·skip;let#[y,hy,e]:=`Gy
     apply `We;apply `a9m;done;rw[← e,← e'];show `a9n;rw[e1];show `an1;have:=hl.2.1;lia
    ·rw[`dK hs,ec]
     show lc.length<=20;have:=J.2.1;lia
   ·show `a9o
    rw[`S,`S];lia
def Gi.end'{E:RS}(G:Gi E)(hE:`ny):`mK≠[]/\`a9b:=by
 skip;rcases G.op with⟨_,_,e3,_⟩|⟨a,o⟩
 ·rw[hE] at e3;cases e3
 ·rw[hE] at o
  done;exact#[a,`a9c G.cl o.done]
open T in
def Jh0(hm:`a9p){E:RS}(G:Gi E)(hE:`ny)(hD:∀q∈`mK,∀d∈q.2,`ua):Wb (`Wb)/\`Yx `gX=(`Wb).map Pt.d:=by
 let#[O,hq]:=G.end' hE;have few:=`lm;have all:∀q∈`mK,∃n,`aq_/\`y5/\Fts `Nn (`Ng) q.2:=λq h=>by
  let#[k,hk]:=`Bj h;let#[n,dn,a,b,c,f]:=hq k q hk;rw[`bS] at c;exact#[n,b,a,`k c f]
 refine#[#[`tp,`gm,λp hp v hv=>?_],?_]
 ·rw[`S]
  exact `F9 O
 ·rw[`S];exact few
 ·let#[q,J,rfl]:=`de hp
  apply `arD;let#[p1,p2,p3,p4]:=`a9q;refine#[p1,`aAA,p3,p4];let#[z1,z2]:=p2 v hv;rcases z1 with rfl|⟨z,rfl⟩|⟨j,hj,rfl⟩
  ·exact `y
  ·exact `g z (B8 (z2 z rfl) hm)
  ·exact .lk j `j
 ·let#[q,J,rfl]:=`de hp
  apply `arD;let#[_,p2,_]:=`a9q;intro j e;rw[`S];rcases (p2 v hv).1 with rfl|⟨z,rfl⟩|⟨i,U,rfl⟩
  ·cases e
  ·cases e
  ·have:i=j:=k30 e
   lia
 ·rw[`cS]
  refine Q2 λq J=>?_
  apply `arD;exact(V70 a f).2.2.2.1
def U60(hm:`a9p){l:`h}{E:RS}(g:`arw)(hE:`ny)(G:Gi E)(ok:`arA):Km.sn0 [`Nu]=`c (`arE):=by
 have hD:∀q∈`mK,∀d∈q.2,`ua:=Rv0 g j70 `v 0 `v ok λq hq=>by cases hq
 let#[hw,e]:=Jh0 hm G hE hD;have:=(Km.X30 hw).1;rw[← Rb0 g hE G] at this;rw[e];exact `x
universe Rk
namespace Rk
open DL W Rm StrLaws
open Bw (bs sg its two kn cnt tx Vb Gq)
open Km (hb nB nT nW pk lkd It Wb ix)
open K22 (lkv rel)
def U10{p:Pt}(h:`VF):(`s `KZ)=`ap0:=by
 cases p with
 | text w=>exact `K_
 | row vs=>show (`s `a7o)=`dz;rw[`gs]
 | table ps=>show (`s `Oq)=`M2;rw[Sj0,y20]
 | rcd c ps=>show (`s (`KO::`Oq))=`ap4;rw[`T,Sj0,`T,y20]
def pe0{l:`a6}{a:α}{r:`a6}(h:`A9 n=a::r):`A9 `i6=r:=by
 rw[← `aAo,h];rfl
def bx0(S:RS)(k:Nat)(u:`h)(ws:`N)(hu:`g5)(hw:`bu=`f8):`oh=({ S with un:=u,wait:=ws }:RS).ends:=by
 skip;let#[c,b,u',nm,w',dg,l,sp]:=S;have e1:u'=k::u:=hu;have e2:w'=`f8:=hw;subst e1 e2;done;rfl
section
variable{ps:`aE}
theorem Ro0(W:`nw){p:Pt}(hp:p∈ps):∀s:Str,`fm s∈`e_->`t3:=λs hs=>by
 have hv:=(`a9r).vals;have hn:=W.nm p hp;have J:∀qs:`dH,(∀v∈`r4 `iA,Vb v)->`fm s∈`a9s->s∈`arF:=λqs hv h=>by
  let#[q,hq,hm]:=k9.mp h;unfold two at hm;rcases `KW with e|hm
  ·apply `G2
   exact e▸`arG
  ·have:=hv q.2 (`arG)
   rw[← `U5] at this;cases `x
 cases p with
 | text w=>cases hs
 | row vs=>exact `G (hv _ hs) `alD
 | table qs=>exact `a9t
 | rcd c qs =>
  rcases `cF hs with e|hs
  ·apply `G2
   exact hn s (D4 _ (`k e `ap5))
  ·exact `a9t
structure Done(ps:`aE)(pool:`i)(L:`h)(S S':RS)(k:Nat)(u:`h)(ws:`N)(ds:`l)(B B':`h)(T':`i):Prop where
 inv:Inv `bn B' T' S'
 un:S'.un=k::u
 wt:S'.wait=`f8
 bg:S'.begun=`z3 k (λq=>(q.1,q.2++ds.map (lkv `mG)))++(B'.drop `bI).map `acx
open T in
def sim(W:`nw)(L:`h){B B':`h}{T:`i}{b:`M}(h:`nv):∀(S:RS) (k:Nat) (u:`h) (ws:`N) (p:Pt) (pre:`l),`qp->`G7->`VB->(∃M,L=B'++M) ->
  `g5->`Ia=`c (`ga,`X0 (lkv `mG))->p∈ps->`VF->`e_=pre++ds->`bu=`aqR++`f8 ->
  ∃S',`cR `oh b S'.ends/\Done ps `bn L S S' k u ws ds B B' T':=by
 induction h with
 | nil B T =>
  apply `HB;have e:`aqR=[]:=List.drop_eq_nil_of_le (by rw[U10 h0,he,`bS];exact `fg);rw[e] at hw;refine#[S,`Np,I,hu,hw,?_];rw[`x1,`mx,`mx,`bS,modify_id _ `a6M]
 | str h ih =>
  rename_i B T s ds B' T' b;apply `HB;apply `acu `fj;rw[s1] at hw;have hl:`Wf:=by
   have:=`Wg;apply `Wh;lia
  have hs:`t3:=Ro0 W hp s (`g1 he);have c3:`eS:=`a7K (s3 s rfl)
  let#[S1,r,I1,A]:=O30 W I hu hk (`arH) hw s hs (by
   rcases s3 s rfl with z|⟨z,q⟩
   ·exact `gR
   ·exact `p #[z,q `mG])
  apply `arI `M1 hL;refine`a9u (`k (s60 hw c3) `adT);rw[D'.bg,A.bg,xp0];apply `Vv;rfl
 | val hd h ih =>
  rename_i B T d ds B' T' b;apply `HB;apply `acu d;have U:`hv:=s2 λs e=>by rcases hd with rfl|⟨z,rfl⟩<;>cases e
  subst U;rw[s1] at hw;have hl:`Wf:=by
   have:=`Wg;apply `Wh;lia
  apply `arJ;apply `VC;apply `a9v d (by rcases hd with z|z;exact `gR;exact `p `AF);apply `arI [d] `arK;apply `a9w;rw[D'.bg,A.bg,xp0];apply `Vv
 | old hj h ih =>
  rename_i B T j ds B' T' b;apply `HB;apply `a9x;apply `a9y
  subst U;rw[s1] at hw;have hl:`Wf:=by
   have:=`Wg;apply `Wh;lia
  apply `arJ;apply `VC;apply `a9v `j4 (`p (`p #[j,hj,rfl]));apply `arI [`ly] `arK;apply `a9w;rw[D'.bg,A.bg,xp0];apply `Vv
 | new hj h1 h2 i1 i2 =>
  apply `aqB;apply `HB;apply `a9x;apply `a9y
  subst U;rw[s1] at hw;have hw:`bu=`b_::(`zi):=hw;have hl:`Wf:=by
   have:=`Wg;apply `Wh;lia
  have a1:`l7:=al0 (`HC hp `j4 (`g1 he));have Z:=o10 hn hj;have Y:∀x∈`nW,`y7:=λx hx=>by
   apply `t9
   ·exact hB x z
   ·rw[`fa];exact a1
  have b0:`bI<60:=by
   have:=`Vm `aqK Z (Y y hy)
   rw[`o7,`Z,`d2] at this;have:=W.wb.len;lia
  apply `arJ;let#[N1,a4]:=h1.pre;let#[N2,a3]:=h2.pre;have hπ:ix L j=`bI:=by
   rw[hM,a3,a4,`bg,`bg,`bg];exact I80 hj
  have a6:=(`Bi a1).2;have hI:=`HC a6;let#[S1,r,I1,u1,O,w1]:=enter W I hw `jo (λk' u' e=>by
   rw[hu] at e;cases e;exact#[_,hk,`arH]) j a1 b0
  have a8:=tv0 hu (`B9);have a7:k<`a9z:=by
   rw[`qe];exact I.un k `abU
  have a2:`a9z=`bI:=`k `qe `eX
  have c4:B1.drop `bI=j::B1.drop `a6g:=by
   rw[a4,`GS,`bg,`GS];rfl
  obtain⟨S2,r2,I2,u2,w2,c8⟩:∃S2,`a9A/\Inv `bn B1 T1 S2/\S2.un=`aqV/\S2.wait=`a8::(`zi)/\`arL=`a9B:=by
   by_cases ht:`oR=0
   ·have b2:`B7=[]:=by
     cases e:`lB with
     | text _=>rfl
     | row _=>rw[e] at ht;cases ht
     | table _=>rw[e] at ht;cases ht
     | rcd _ _=>rw[e] at ht;cases ht
    rw[`akA] at O w1;rw[b2] at h1;cases h1;refine`a9C;rw[O,a8,`GS];congr 1;show[_]=[`a9D];unfold v30;rw[ht];cases e:`lB with
    | text _=>rfl
    | row _=>rw[e] at ht;cases ht
    | table _=>rw[e] at ht;cases ht
    | rcd _ _=>rw[e] at ht;cases ht
   ·rw[`_ ht] at O w1
    rw[a8] at O;let#[S2,r2,D2]:=i1 S1 `bI `aH (`zi) `lE [] I1 Z Y #[N2++M,by rw[hM,a3,`bg]] u1 (by rw[O,`Dc,a2,`kG];rfl) a6 ht rfl w1;apply `a9E;rw[D2.bg,O,gm0 _ _ _ _ a2.symm,c4,`ag,`bg];congr 1;show (`oR,[]++(`B7).map (lkv `mG))::_=`a9D::_;congr 1;unfold v30;cases e:`lB with
    | text _=>rw[e] at ht;exact `VG
    | row _=>rfl
    | table _=>rfl
    | rcd _ _=>rfl
  obtain⟨S3,J⟩:∃S3:RS,S3={ S2 with un:=`aH,wait:=`zi }:=`ah;have e3:`acw=S3.ends:=`k J (bx0 S2 `bI `aH _ u2 w2)
  have c1:S3.begun.length=B1.length:=`k J I2.len
  have I3:Inv `bn B1 T1 S3:=by
   have c2:=I2.wc;have l2:=I2.wl;have n2:=I2.unl;rw[w2,u2,`t',`T] at c2;rw[w2,`T] at l2;rw[u2,`T] at n2;refine#[c1,I2.few,`k J I2.nms,I2.tnd,I2.tin,`k J I2.d0,`k J I2.l0,`k J I2.s0,`m!,?_,`k J I2.held,?_,?_,`k J I2.th]
   ·rw[J] at hx ⊢
    exact I2.un x (`k u2 (A5 _ hx))
   ·rw[J]
    show `gH<=`arM;lia
   ·rw[J]
    show (`s `zi)<=60*`arM+1;lia
   ·rw[J]
    show `DM `zi=`gH;simp at c2 ⊢;lia
  have b3:S3.begun=`a9B:=`k J c8
  have a5:lkv `mG `j4=`B9:=`dl Km.cj0 hπ
  let#[S',r',D']:=i2 S3 k u ws p (pre++[`ly]) I3 (h1.nodup Z) (h1.range W.wb Y hI) `arK (`k J hu) (by
   rw[b3,`fw a7,pt0 hk,`aU,`GE,a5]) hp h0 `aqw (by
   rw[J,`Z,`d2,pe0 s1])
  refine`a9u ?_
  ·rw[`aC4,`VO,`aqJ]
   refine r.app (r2.app ?_);rw[e3];exact r'
  ·rw[D'.bg,b3,O00 _ _ _ _ a7,xp0,`bg]
   congr 1
   ·congr 1
    funext q
    rw[`ag,a5,`bg];rfl
   ·rw[← `aU]
    congr 1;rw[a3,`GS,List.drop_append_of_le_length (by rw[a4];simp only[`Z];lia)]
universe zz
universe Rk
namespace Rk
open DL W Rm StrLaws
open Bt (X5 n6 c7 Y4 M5 R6 V3 S6 b7)
open Bw (bs sg its two kn cnt tx Vb Gq)
open Km (hb nB nT nW pk lkd It Wb ix)
open K22 (lkv rel)
structure Whl(q:`d8):Prop where
 kd:`y5
 fits:`a4F
 tr:∀d∈q.2,`lg
 nr:`a4G
def Vz0(S:RS)(k:Nat)(q:`d8)(hq:`gf)(h:`mL):`a4H:=by
 have e2:`a4I:=by
  show `aoY;rw[`cX,hq];rfl
 have e1:`a4J:=by
  unfold V0;rw[`b5,hq];rfl
 rw[e1];unfold u30 O5;simp only[wg0,`q,e2];rw[`L #[rfl,vu0 h.tr,h.nr]]
theorem ep0(S:RS):∀(ks:`h) (qs:`tY),`iK=qs.length->(∀(i k:Nat) (q:`d8),ks[i]?=`fG->qs[i]?=`dt->`gf)->`a9F->`YV `B3 (ks.map `Is)=`c (`r4 λq=>`_h)
 | [],[],_,_,_=>rfl
 | [],`cr,h,_,_=>by cases h
 | `cr,[],h,_,_=>by cases h
 | `la,q::qs,h,hat,hw=>by
  have ih:=ep0 S ks qs `i4 (λi k' q' h1 h2=>hat `fp k' q' h1 h2) (`UY hw)
  rw[`ag,`ag];unfold partsOf;rw[Vz0 S k q (hat 0 k q rfl rfl) (hw q A4),ih];rfl
theorem j40:∀(xs:`l),(∀d∈xs,`lg)->∀q∈`DL,tr q.1=`d/\tr q.2=`d
 | [],_,q,hq=>by cases hq
 | [a],_,q,hq=>by cases hq
 | `LR,h,q,hq=>by
  rcases `cF (show q∈`anL from hq) with rfl|hq
  ·exact#[h a A4,h b (`aki)]
  ·exact j40 r (λd hd=>h d (A5 _ (A5 _ hd))) q hq
def ia0(a b:D)(ha:tr a=`d)(hb:tr b=`d):tr (`C [a,b])=`d:=by
 show trs [a,b]=`d;exact vu0 λd hd=>by
  apply `qm
  ·exact ha
  ·rw[`G8];exact hb
def b40(xs:`l)(h:∀d∈xs,`lg):tr `a4u=`d:=by
 show trs _=`d;exact vu0 λd hd=>by
  let#[q,hq,rfl]:=`hH;exact ia0 _ _ (`a9G).1 (`a9G).2
def M80(h:`mL):tr (`U0)=`d:=by
 skip;let#[kd,held]:=q;have ht:=h.tr
 rcases k4 h.kd with rfl|rfl|rfl|rfl
 ·done;exact ia0 _ _ rfl rfl
 ·done;exact ia0 _ _ rfl (show trs `cN=`d from vu0 ht)
 ·done;exact ia0 _ _ rfl (b40 `cN ht)
 ·done;show trs [`fm `zZ,`a4E,`C ((`a4D).map `r2)]=`d;refine vu0 `nu
  skip;apply `qm
  ·done;rfl
  apply `qm
  ·cases `cN with
   | nil=>done;rfl
   | cons a r=>done;exact ht a A4
  ·done;rw[`G8]
   exact b40 _ λd hd=>ht d (x5 hd)
def Mw0(S:RS)(hl:`yQ)(h:∀q∈`ca,`mL)(p:`e):ld0 0 `ru 1 [] `dD `Ow `ee=`c (`arN,`ee):=by
 apply `yL
 unfold ld0;rw[Xw0,`q,zu0,`q,xg0,`q];show `yN (`YV `B3 (`vb))=_;rw[ep0 S `kI `ca (by rw[`o7]) (λi k q h1 h2=>by
  let#[a,b]:=`c7 h1;rw[List.getElem_range] at b;rw[← b];exact h2) h,`q]
 have e:K9 1 [] (λ_=>`c (`rQ `a9H)) `dD noT `Ow (`bB ([`sz]:Ds).length .un)=`c (`t `_p):=by
  refine q50 rfl `oL ?_;have J:∀qs:`tY,`a9F->yx0 `dD noT `Ow [.un] (`r4 `a9H)=`c (`r4 `gX):=by
   intro qs
   induction qs with
   | nil=>exact `hh
   | cons q qs ih =>
    intro hq;have h1:=hq q A4;rw[`ag];unfold yx0;have e1:oA `auT K1 [`apN]=`c (`U0):=by
     rw[`a4K];exact ma0 q.1 h1.kd q.2 h1.fits
    simp only[`bX (gN 0 (`aAD) [.un]=`c [`apN]),`q,noT,e1,ih (`UY hq)];rfl
  exact J `ca h
 rw[e,`q];simp only[];rw[`L (vu0 λd hd=>by let#[q,hq,rfl]:=`hH;exact M80 (h q hq))]
def Qa0{ps:`aE}(W:`nw)(hj:`l7)(π:`hr):Whl (v30 ps π j):=by
 have hp:=`aqM;have ho:=W.ok _ hp;have hI:=`HC hp;have J:=q10 ho;unfold v30;generalize `lB=p at ho hI J;have gen:`VF->(`ga=3->`e_≠[])->Whl (`ga,`aqT `n!):=λh0 h3=>by
  refine#[V90 p,#[`VH (`s (`aqT _)),λz=>`G z h0,λz=>`bl (h3 z)],`nu,nf0 `nu]
  ·let#[x,hx,rfl]:=`hH
   exact(`a9I).1
  ·let#[x,hx,rfl]:=`hH
   exact(`a9I).2
 cases p with
 | text w =>
  have hw:=`a9J;refine#[`dQ (0<4),#[`VH (`s (`aqS _)),λ_ d hd=>?_,λz=>nomatch z],`nu,nf0 `nu]
  ·apply `Hk
   exact`a9K
  ·apply `Hk
   rfl
  ·apply `Hk
   rfl
 | row vs=>apply `a9L
 | table qs=>apply `a9L
 | rcd c qs=>exact gen `hM λ_ z=>nomatch z
def Pg0{ps:`aE}(W:`nw){L:`h}{T:`i}{b1:`M}(h:`a7g)(hp:`a7h):∃S,`cR `eU (`M!) S/\`yP/\`aq1/\`yQ/\(∀q∈`ca,`mL)/\`dU `_p=Bw.web (Km.laid ps L):=by
 skip;have O:=W.wb.len;have hB:∀j∈[0],`l7:=λj hj=>`k (`dK hj) O.1
 have hI:=`HC `a9M;have hr:=h.range W.wb hB hI;apply `VC;have I0:Inv `bn [] [] `eU:=#[rfl,`a7,rfl,S4,`arC,rfl,rfl,rfl,(λk hk=>by cases hk),`aw,(λq hq=>by cases hq),`aw,`aw,λq hq=>by cases hq];let#[S1,r,I1,u1,J,w1]:=enter W I0 (w:=`gK) (ws:=[]) rfl `c0 (λk u e=>by cases e) 0 O.1 `aM;have a1:(start.hold (link ([]:`h).length)).begun=[]:=rfl;rw[a1,`hQ] at J;obtain⟨S2,r2,I2,u2,w2,U⟩:∃S2,`a9A/\Inv `bn L T S2/\S2.un=[0]/\S2.wait=[`a8]/\`arL=L.map `acx:=by
  by_cases ht:kn (`ry)=0
  ·have Z:`M'=[]:=by
    cases e:`ry with
    | text _=>rfl
    | row _=>rw[e] at ht;cases ht
    | table _=>rw[e] at ht;cases ht
    | rcd _ _=>rw[e] at ht;cases ht
   rw[`akA] at J w1;rw[Z] at h;cases h;refine`a9C;rw[J];show[_]=[v30 ps (ix [0]) 0];unfold v30;rw[ht];cases e:`ry with
   | text _=>rfl
   | row _=>rw[e] at ht;cases ht
   | table _=>rw[e] at ht;cases ht
   | rcd _ _=>rw[e] at ht;cases ht
  ·rw[`_ ht] at J w1
   let#[S2,r2,D2]:=sim W L h S1 0 [] [] (`ry) [] I1 `aM hB `a63 u1 (`GJ) `a9M ht rfl w1;apply `a9E;rw[D2.bg,J,hN];show[(kn (`ry),[]++(`M').map (lkv (ix ([0]++N))))]++N.map _=v30 ps (ix ([0]++N)) 0::N.map _;rw[List.singleton_append];congr 1;unfold v30;cases e:`ry with
   | text _=>rw[e] at ht;exact `VG
   | row _=>rfl
   | table _=>rfl
   | rcd _ _=>rfl
 have e2:`acw=`a9N:=`aF (bx0 S2 0 [] [] u2 w2)
 rw[e2] at r2;have Y:`cR `eU (`M!) `a9N:=by
  rw[hp,`VO,`jE];exact Runs.app r r2
 done;refine#[_,Y,rfl,rfl,`Dp (`arM<=60) I2.len I2.few,`tG,?_]
 ·have hq:q∈`arL:=hq
  rw[U] at hq;let#[j,hj,rfl]:=`de hq;exact Qa0 W (hr j hj) _
 show `dU (S2.begun.map `gX)=`dU ((`a6j).map Pt.d);rw[U,`cS,`cS];congr 1;refine `a31
 exact S20 _ _
universe Rk
namespace Rk
open DL W Rm StrLaws
open Bt (b7)
open Bw (bs sg its two kn cnt tx Vb Gq)
open Km (hb nB nT nW pk lkd It Wb ix)
open K22 (lkv rel nd)
mutual
def nob:`dZ
 | `fo=>`Wi
 | `dv=>`Wi
 | `cb=>`m
 | `pW=>`m
 | `pX=>`m
 | _=>`d
def ou0:`vq
 | []=>`d
 | `m5=>nob x&&`Wi
end
mutual
theorem Sf0:∀(x y:D),nob x=`d->nob y=`d->`sa=`d->x=y
 | `y,y,_,h2,h=>by cases y<;>first|rfl|(apply `HD)
 | `EJ,y,_,h2,h=>by
  cases y with
  | int b=>rw[deq] at h;rw[`OF h]
  | bl b=>simp[nob] at h2
  | _=>apply `HD
 | `ja,y,_,h2,h=>by
  cases y with
  | str b=>rw[deq] at h;rw[`OF h]
  | _=>apply `HD
 | `cb,_,h1,_,_=>`arO
 | `pW,_,h1,_,_=>`arO
 | `pX,_,h1,_,_=>`arO
 | `fo,y,h1,h2,h=>by
  cases y with
  | tup ys =>
   rw[deq] at h;rw[nob] at h1 h2;rw[`a9O]
  | _=>apply `HD
 | `dv,y,h1,h2,h=>by
  cases y with
  | lst ys =>
   rw[deq] at h;rw[nob] at h1 h2;rw[`a9O]
  | _=>apply `HD
theorem fk0:∀(xs ys:`l),`Wi=`d->ou0 ys=`d->`RL=`d->xs=ys
 | [],[],_,_,_=>rfl
 | [],`cr,_,_,h=>`a9P
 | `cr,[],_,_,h=>`a9P
 | `m5,y::ys,h1,h2,h=>by
  rw[we0,`bd] at h;rw[ou0,`bd] at h1 h2;rw[Sf0 x y h1.1 h2.1 h.1,fk0 xs ys h1.2 h2.2 h.2]
end
theorem ch0:`aqQ (nob d=`d) (ou0 l=`d)
 | [],_=>by rw[ou0]
 | d::l,h=>by
  rw[ou0,`VE,ch0 `pQ];rfl
theorem e60:∀{l:`l} {n:Nat},(∀d∈l,`tH)->`u0 l n=`d
 | [],_,_=>by rw[`u0]
 | d::l,n,h=>by
  rw[`u0,`VE,e60 `pQ];rfl
structure Sm(d:D)(n:Nat):Prop where
 nb:nob d=`d
 ln:`tH
theorem Sm.lst{l:`l}(h:∀d∈l,Sm d n):Sm (`Tj) `i6:=#[`k nob (ch0 λd hd=>(h d hd).nb),`k lean (e60 λd hd=>(h d hd).ln)]
theorem Sm.int(s:Int)(n:Nat):Sm (`g s) n:=#[`g6 nob,by cases n<;>simp[lean]]
theorem Lr0(l:`M):Sm (`XI) 50:=Sm.lst (n:=49) λd hd=>by
 let#[z,_,rfl]:=`hH;exact `g _ _
def Sm.eq{x y:D}(hx:`Wj)(hy:Sm y 50)[`nb (x=y)]:fc0 x y=`c `aHx:=by
 apply `a9Q;apply `arP
 by_cases h:x=y
 ·rw[`ir,← h,DL.n00 x 50 hx.ln]
 ·rw[`hj]
  cases e:`sa with
  | false=>rfl
  | true=>exact `G (Sf0 x y hx.nb hy.nb e) h
def Sm.ne{x y:D}(hx:`Wj)(hy:Sm y 50)[`nb (x=y)]:f50 x y=`C9 (!`Cj):=by
 show (`a! `Ov (`fC (!`sa)))=_;apply `arP;have:=Sm.eq hx hy;have e:fc0 x y=`aC6:=by
  apply `a9Q;apply `arP
 apply `aV e;injection this with this
 injection this with this
 rw[`x]
universe Rk
namespace L2
open Spec PyProof.Rows
section
variable{k:Nat}{f C:`e}{ds:`K}{E:XK}{m:Str}{p:Pos}{t:TA}
def W80{pins:`au}{σ:St}{H:Hp}{s:`w}{Q:VK}{us:`K}{vs:`V}(F:`SP)(hr:`m7)(hb:`kY)(hd:`kZ)
  (I:`A) (r:`s8) (h:sp `ki H Q `SO):`aIw:=by
 apply `ag_;apply `aIx
 refine `aIy _;skip;cases r with
 | error ex =>
  apply `aU3;done;exact `aU4 I.call' I.fpW
 | ok fl =>
  cases fl with
  | ret u=>done;exact I.after hq
  | next=>done;apply `id
  | brk=>done;apply `id
  | cont=>done;apply `id
def Q00{pl:`ia}(he:`tg)(c:`te)(hm:`PW)(F:`SP)(hr:`m7)(hb:`kY)(hd:`kZ)(ha:`pK)
  (hst:`dn) (hpl:`eE)
  (ht:`H (`aID=(do
   let ov ← `nU
   `m8
   let (f,`ie) ← `pL
   `PX)) Aa) :
  PE X `_? (`bm ta λx H1=>∃a dx fs,`ek/\`Ez/\`Ew/\`aIs `SO):=by
 apply `bh;refine `PY λu s1 hq203=>?_;skip;let#[x,H1,I1,rx,a,dx,fs,ex,ea,l,q]:=hq203;subst ex;apply `pJ;done;apply `PZ;refine `aIE λus s2 hq204=>?_;let#[vs,H2,I2,r,q2]:=hq204;refine `aIF;exact W80 (us:=`bZ::us) (vs:=`bZ::vs) F hr hb hd I2 `aIG q2
def Ua0{pl:`ia}(he:`tg)(c:`te)(hm:`PW)(F:`SP)(hr:`m7)(hb:`kY)(hd:`kZ)
  (ht:`H (`aXP=(do
   let ov ← `nU
   `m8
   let (f,`ie) ← `pL
   `Ti)) Aa) :
  PE X `abx (`bm ta (`aXQ `SO)):=by
 apply `bh;refine `PY λu s1 hq205=>?_;skip;apply `aXR hq205;subst ex;apply `pJ;done;apply `PZ;exact `aXS (W80 (us:=`eW) (vs:=`eW) F hr hb hd (I1.closed cl) `ahZ q)
def Tm0{ae:`J}{k:Nat}{C f:`e}{fd:`e5}{tl:`K}{np cpos pos:Pos}{t:TE}(hm:`alu=`Ac)(ri:∀h:`D,X.K.In h->XC.Ri h C tl f)(cl:`ayX)(hbase:`aVt)
  (F:`k_ `cB X.w X.K `cE `e1 CX0 k f fd `kz (b50 C)) (hb:`z0 X.K fd `kz []) (hr:`ag2) (hcalm:`d4) (hg:`abk) (ha:PE X ae t)
  (hd:`SR)
  (he:`a9R) (hbt:`a9S) :
  PS X `a9T (λ_ σ H=>t σ H λv H1=>∃n:Int,v=`d7/\`yl/\∀dx,`agZ->pj0 X σ (upd H1 dx `w2) C `Lf):=by
 intro pins s σ H D I a2;rw[arm_exec_Raise];simp only[evalOpt,`w9];refine A0 (X2 (To0 (C:=C) (tl:=tl) `hn (I.ok.hd hcalm) (A0 (D0 (wpAny_Call_ofName (s80 I hg hm ?_ hd)) (λv s₃ h₃=>A0 (X2 (A1 h₃))) `s0))));rw[he,hbt];unfold callWith;refine A0 (D5 (Am0 (P7 (thn (`b8 ha _ a2) λu s1 hq206=>?_))));skip;let#[v,H1,I1,r1,n,a1,hn,wish]:=hq206;done;refine Y2 (A0 (X2 ?_));skip;subst a1;let#[tk,rfl]:=r1;let#[nm,q,N,bs,a8,sn,sub,ab,b0,dd,k0,k1,k2,k3,k5,a7,hC]:=(`aVb).obj;let#[hh,g,d,t',os]:=s1;have fl:(`Nq:`af (`I×`J8)).any `cD=`m:=rfl;done;simp only[fl];apply `m_ wpAny_keeperOf_exc hC;refine A0 (XC.Uh0 (ri _ `Ck) (λh' e mk=>?_) (`Bc ((1:Nat)<=`W)));have new:=mk.new;have I2:`a0 H1 `Wk:=`JF (t':=t') mk.keeps;have fp:FpW X `r H1 e:=I1.fpW new (I1.dead new);have Y:=Q70 mk;let#[oe,_,Z,_]:=id Y;have I3:`a0 `a9U `Wk:=I2.track fp Y #[oe,Z] `alw;have O:H1 e=`f:=fp.1;have sp:b50 C `aly `a9U (λv H'=>`wX/\∃dx,`Mn/\`agZ/\H'=`ada H1 `w2) `xL :=
  #[e,n,rfl,j8,hn,λdx n1 n2=>#[rfl,dx,n1,by rw[m7 n1] at n2;exact n2,by rw[M10]]]
 have vals:`bU [V.ref e,V.int n] `Wl:=`aa rfl (`aa `aV2 `R);have bd:=hb `Wk `Wl I3.kIn rfl;rw[`bS] at bd;refine P2 (K0 (`xF _ `gP `Wk _ #[`Wl,[]] `Wl `aly _ `xL (hr.make C _ _) (I3.env0.make C _ _) bd vals sp) `xK);skip;cases r with
 | error ex=>done;exact hq.elim
 | ok fl =>
  cases fl with
  | next=>done;apply `id
  | brk=>done;apply `id
  | cont=>done;apply `id
  | ret u =>
   let#[v,H2,I4,ru,a6,dx,n1,n2,a4]:=I3.after hq;subst a6 a4;obtain rfl:u=`al:=ru;have U:upd (upd H1 e `arQ) dx `w2 e=`c `arQ:=by rw[m7 (B4 n1),j8]
   let#[J,_,_]:=I4.hok e _ U;done;refine#[rfl,A0 (D5 (u7 (A1 #[e,`rs,rfl,cl _ I4.kIn,J,?_])))];skip;have I5:`a0 (upd H1 dx `w2) s':=I4.forget U (`a9V) λb hb=>by
    by_cases z:b=dx
    ·subst z;rw[j8,j8]
    ·rw[m7 z,m7 z,m7 hb]
   let#[a3,a5,g1,g2,g3,g4,g5,g6,g7]:=J;done;exact wish dx n2 `r s' e I5 #[a3,a5,g1,g2,g3,g4,g5,#[`a9V,fp.2],_,g6,`lp]
universe zz
universe L2
namespace DL
open Spec PyProof.Rows L2
inductive DXB where
 | ok (r b':D)|ex (c:Str) (n:`aP) (b':D)
inductive RXB where
 | ok (r:ResB)|ex (c:Str) (n:`aP) (δ:Ds)
abbrev GZB:=Ds->`aB RXB
def Gp0(X:Cx)(H₀:Hp)(B₀:BS)(D:Ends):RXB->Prop
 | .ok r=>N20 X.K `ae `ab D r
 | `ST=>`aVx
def tXB(X:Cx)(H₀:Hp)(B₀:BS)(δ:Ds)(G:GZB):TS:=`Rf `CL Gp0 X
structure PSXB(X:Cx)(st:`a1)(G:GZB):Prop where
 mk::go:`h0 PS st `a9W
structure PSsXB(X:Cx)(st:`cg)(G:GZB):Prop where
 mk::go:`h0 PSs st `a9W
def sw0(G:GZ):GZB:=fun δ=>match G δ with
 | `mM=>`mM
 | `mN=>`mN
 | _=>`f
def Vu0(G:GSB):GZB:=`aVu
def Vn0:GZB:=`aVv
def ux0(G1 G2:GZB):GZB:=fun δ=>match `eY with
 | `mM=>`vn
 | r=>r
def or0(gt:GTX)(Ga Gb:GZ):GZ:=`aZB
def qr0(c:Str)(g:GE):GZ:=fun δ=>`k? λd=>match d with
 | `d7=>`a! `yl (.ex c (`oq) δ)
 | _=>`f
section
variable{c ae:`J}{st:`a1}{as bs:`cg}{Gz Za Zb:GZ}{Gs:GSB}{G1 G2:GZB}{gt:GTX}{g:GE}
open T in
theorem W30(h:PSX X st Gz):PSXB X st (sw0 Gz):=.mk λH₀ B₀ δ pins s σ H D I hq207=>by
 apply `hp hq207
 unfold sw0 at e;split at e
 ·rename_i δ' e1
  cases e;apply `S6
 ·rename_i c n δ' e1
  cases e;apply `S6
 ·cases e
theorem Ic0(h:PSB X st Gs):PSXB X st (Vu0 Gs):=.mk λH₀ B₀ δ pins s σ H D I hq208=>by
 apply `hp hq208
 unfold Vu0 at e;cases e1:Gs δ with
 | none=>rw[e1] at e;cases e
 | some r1 =>
  rw[e1] at e;cases e;apply `S6
theorem eu0:PSsXB X [] Vn0:=.mk λH₀ B₀ δ pins s σ H D I hq209=>by
 apply `hp hq209
 cases e;apply `Rh
theorem n80(h1:PSXB X st G1)(h2:PSsXB X `aR G2):`Ri PSsXB ux0:=.mk λH₀ B₀ δ pins s σ H D I hq210=>by
 skip;apply `hp hq210
 unfold ux0 at e;cases e1:`eY with
 | none=>rw[e1] at e;cases e
 | some r1 =>
  rw[e1] at e;cases r1 with
  | ex c n δ'=>cases e;done;apply `p7
  | ok r1 =>
   cases r1 with
   | nx δ'=>done;apply `alC
   | rt d δ'=>cases e;done;apply `p7
theorem Xy0(hc:PTX X c gt)(ha:PSsX X as Za)(hb:PSsX X bs Zb):PSX X `a9X (or0 gt Za Zb):=.mk λH₀ B₀ δ pins s σ H D I hq211=>by
 apply `ba hq211
 unfold or0 at e1;apply `TI;apply `aZE;cases hq:q.1 with
  | true=>apply `TJ;apply `yH
  | false=>apply `TK;apply `yH
open T in
theorem i90{r:`e}{k:Nat}{np cpos:Pos}(T:IniC `cB X.w X.K `cE `e1 cn r k)(hr:`tD)(hk:k+1<=m)(ha:PD X ae g)(hcalm:`k!)(hg:`aVl)
  (hd:`SR)
  (he:`a9R) (hbt:`a9S) :
  PSX X `a9T (qr0 cn g):=.mk λH₀ B₀ δ pins s σ H D I hq212=>by
 let#[r',en,e1,kk]:=hq212
 unfold qr0 at e1;apply `aY;apply `Tf;split at e1
 ·rename_i n
  split at e1
  ·rename_i hn
   cases e1;let#[C,f,fd,a,ri,F,hb]:=T.ex;refine Tm0 a.mg ri a.cl Pt0 F hb `jD hcalm hg `yx hd he hbt `r s σ H D I #[_,env,e2,`Cy];rw[Z6] at r1;refine#[n,r1,hn,λdx z=>?_];have J:=`amS;exact kk σ _ C `Lf (J.grow (Y9 z)) a.ns #[dx,B,rfl,pb0 J.same z,j8,b1,b2,(`jV).same (Y9 z),λy=>`ym dx y z]
  ·cases e1
 ·cases e1
universe zz
def gq0(K:`z)(j:Nat)(f:`qs):Sp:=λvs H Q E=>∃(B:BS) (ds:`l) (us:`V) (p:`e) (b:D) (r:DXB),`pU/\B p/\vs=`al0/\`tP/\`al1/\`al2/\`KI=`dR/\match r with
 | `HE=>∀v H',`yn->`al4->`auf
 | `zj=>∀C od H',`yn->`al4->`aVB
def EndBX(G:GZB)(δ:Ds)(j:Nat)(p:`e):DXB->Prop
 | .ok r b'=>(`yr δ (`iE `al5))∨(r=`y/\`yr δ `mM)
 | `zj=>`yr δ `mN
def kx0{δ:Ds}{p:`e}{b:D}(e1:`kt=`al')(e2:`kt=`XA):b=b':=by
 rw[e1] at e2;have e8:=A3 e2;injection e8 with e9
 unfold z9 at e9;injection e9 with e10
 exact`aW6
def EndBX.one{G:GZB}{δ:Ds}{p:`e}{r r':DXB}(h:`Nr δ r)(h':`Nr δ r'):r=r':=by
 skip;cases r with
 | ok d b =>
  cases r' with
  | ok d' b' =>
   done;apply `aW7
   ·have e5:=A3 e3
    injection e5 with e5
    injection e5 with e6 e7
    subst e7;rw[e6,`arR]
   ·cases e3
   ·cases e3
   ·have e5:=A3 e3
    injection e5 with e5
    injection e5 with e7
    subst e7;rw[rn,J,`arR]
  | ex c n b' =>
   let#[δ2,e3,e4]:=h';done;rcases h with⟨δ1,e1,e2⟩|⟨rn,δ1,e1,e2⟩<;>rw[e1] at e3<;>cases e3
 | ex c n b =>
  let#[δ1,e1,e2]:=h;cases r' with
  | ok d' b'=>done;rcases h' with⟨δ2,e3,e4⟩|⟨J,δ2,e3,e4⟩<;>rw[e1] at e3<;>cases e3
  | ex c' n' b' =>
   let#[δ2,e3,e4]:=h';rw[e1] at e3;have e5:=A3 e3;done;injection e5 with h1 h2 h3
   subst h1 h2 h3;rw[`arR]
def jm0(n:Nat)(N:`i)(j:Nat)(G:GZB)(b:D)(ds:`l):`aB DXB:=(`aW3 `a9Y)
def Xa0{G:GZB}{b:D}{r:DXB}(h:`a9Z):`nj/\`a9_:=by
 unfold jm0 at h;split at h
 ·rename_i hh
  have e:=A3 h;have:=w8 hh.2;apply `aV e;exact`aW5
 ·cases h
def lx0{G:GZB}{b:D}{r:DXB}(hl:`nj)(h:`a9_):`a9Z:=by
 have hh:`nj/\`a9Y:=#[hl,r,h];unfold jm0;rw[dif_pos hh];exact C7 `c (`aW8)
section
variable{P:`ai}{w:`Q}
open T in
def H80{st:`a1}{k:Nat}{G:GZB}(F:`Fp)(S:`xN)(hjp:`l7)
  (body:`L5 PSsXB `aVD) :
  `sr `d6 ps (gq0 K j (jm0 `aI N j G)):=by
 let#[oc,od,kV,doc,pm,an,cdv,ct,a4,rfl,lk,a1]:=F.ex;refine We0 lk a1 S `aBf (λA outer s H vs Q E hr zQ=>?_)
 ·let#[B,ds,us,p,b,r,_,_,hv,_,hr,_,h,_]:=zQ;apply `aWV
  have:=(Xa0 h).1;lia
 ·let#[B,ds,us,p,b,r,hb,hp,hv,hj,rs,ro,h,q]:=zQ;subst hv
  apply `aWX;have en:=`aWY;have he:=(Xa0 h).2 p;cases r with
  | ok r b' =>
   rcases he with⟨δ',e,e'⟩|⟨rn,δ',e,e'⟩
   ·apply `aWZ
    apply `al8;apply `FX;apply `FY;apply `FZ;apply `aW_
   ·apply `aW0
    apply `aW1;apply `FX;apply `FY;apply `FZ;apply `aW2
  | ex c n b' =>
   let#[δ',e,e']:=he;refine#[_,en,e,fun σ' H' C od' en' nn x pins s1 ea I lie=>?_];refine A0 (I.noted rfl lie λh' I' Y=>?_);let#[B',c1,c2,J,xd]:=xdB en' x;apply `FX;apply `FY;apply `FZ;have xs:XdS H H' od' n:=by
    cases n with
    | none=>trivial
    | some k =>
     let#[dx,B2,q1,q2,q3,_]:=x;let#[a2,U,Z,a3]:=xd;obtain rfl:dx=a2:=`aYl q1
     refine#[dx,q1,?_,q3]
     by_cases z:dx=a
     ·subst z;exact `G hB Z
     ·simpa only [z,`g?] using q2
   refine`aVE Y.mono (q C od' H' (qi0 `Oc) `add nn xs);rcases `aln with y|y
   ·exact `aVF
   ·exact y
universe zz
structure FnTX(P:`ai)(w:`Q)(K:`z)(mg:`a3)(base:`D)(c m:Str)(k:Nat)(ps:`i)(F:`i)(f:`qs):Prop where
 ex:∃C fa fd,`sr k ps (gq0 K 0 f)/\`aYe
def t60(i:Nat)(c:Str)(F:`i)(gA:GA)(f:`qs):`zk:=fun δ=>`ys λb=>if sd0 c F b.1=`d then `ts λds=>`ay' λr=>match r with
 | `HE=>(`HE,`a90)
 | `zj=>(`zj,`a90) else `f
def k20(g:`zk):GZ:=fun δ=>`arS λr=>match r.1 with
 | .ok _ _=>.ok (.nx r.2)
 | `Ly=>`a91
def cz0(g:`zk):GZ:=fun δ=>`arS λr=>match r.1 with
 | .ok d _=>.ok (.rt d)
 | `Ly=>`a91
def tZT(X:Cx)(H₀:Hp)(B₀:BS)(δ:Ds)(g:`zk):TE:=fun σ H Q=>∃r,`CL/\`ax=`dR/\match r.1 with
 | .ok d _=>`aRi X.K d
 | `Ly=>∀H' C od,`iy X.K H' r.2->`Mp->XdX X.K `ae `ab H' σ r.2 od n->`au5
structure PZT(X:Cx)(e:`J)(g:`zk):Prop where
 mk::go:`h0 PE e (tZT X `ae `ab δ g)
section
variable{gA:GA}{m:Str}{F:`i}{g:`zk}
theorem Rw0(i:Nat){pl:`ia}{k:Nat}{f:`qs}(C:`a92)(hr:`yC)(hk:k<=n)(ha:`k7)(hN:`pV)(hv:`yt)(hd:`yu)(hcd:`yv)
  (hst:`dn) (hpl:`eE)
  (ht:`H (`aYg=(do
   let ov ← `F0
   `m8
   let (f,`ie) ← `pL
   `PX)) Aa) :
  PZT X `aby (t60 i c F gA f):=.mk λH₀ B₀ δ pins s σ H Q I hq213=>by
 skip;apply `gz hq213
 unfold t60 at e1;apply `aY;apply `a93;apply `yw;split at e1
 rotate_left
 ·cases e1
 rename_i hfl;let#[d0,hi,a2]:=`nk;apply `S_;cases e3:`al! with
 | none=>apply `cs;cases e1
 | some q =>
 apply `cs;let#[a,U,hB,ro]:=`oH;let#[h1,h2]:=`nl a2;let#[x,ns,as,sos,C',dx,fs,a8,w,a7,Z,a4]:=`amC;have a6:C'=Ca:=`a94
 subst a6;apply `Tw;done;refine`b8 (Q00 (pl:=pl) `Tx cl a3 Fo `jD hb `R (d50 `bt) hst hpl ht) Q (`Ty U (`My w.hd a7) a4);rw[c2];refine`alO;show gq0 X.K 0 f `aYi H1 _ _;rw[`bS];refine#[B,ds,vs,a,bm.1,q,`ym,hB,rfl,`bw,r1,`a95,e3,?_];cases q with
 | ok d b' =>
  cases e1;intro v H' hh Y rv;have O:`yo:=`S8;apply `a96;exact `amD `a97 J
 | ex cn n b' =>
  cases e1;intro Cx od H' hh Y nn xx C3 q;cases q;have O:`yo:=`S8;apply `a96;refine kk H' Cx od `a97 nn ?_;cases n with
  | none=>trivial
  | some n =>
   let#[a1,q1,x1,x2]:=xx;exact#[a1,B,q1,`aWi,x2,b1,b2,J,λz=>`ym a1 z x1]
theorem R80(i:Nat){pl:`ia}{k:Nat}{f:`qs}(C:`a92)(hr:`yC)(hk:k<=n)(hN:`pV)(hv:`yt)(hd:`yu)(hcd:`yv)
  (ht:`H (`aYj=(do
   let ov ← `F0
   `m8
   let (f,`ie) ← `pL
   `Ti)) Aa) :
  PZT X `abz (t60 i c F v8 f):=.mk λH₀ B₀ δ pins s σ H Q I hq214=>by
 skip;apply `gz hq214
 unfold t60 at e1;apply `aY;apply `a93;apply `yw;split at e1
 rotate_left
 ·cases e1
 rename_i hfl;let#[d0,hi,a1]:=`nk;apply `aYk;cases e3:f bm.1 [] with
 | none=>apply `cs;cases e1
 | some q =>
 apply `cs;let#[a,O,hB,ro]:=`oH;let#[h1,h2]:=`nl a1;let#[x,ns,as,sos,C',dx,fs,a7,w,a6,Z,a4]:=`amC;have a2:C'=Ca:=`a94
 subst a2;apply `Tw;done;refine`b8 (Ua0 (pl:=pl) `Tx cl a3 Fo `jD hb `R ht) Q (`Ty O `aYh a4);rw[c2];show gq0 X.K 0 f `eW H _ _;refine#[B,[],[],a,bm.1,q,`yD,hB,rfl,`bw,`k6,h1,e3,?_];cases q with
 | ok d b' =>
  cases e1;intro v H' hh U rv;apply `a98;exact `amD `a99 J
 | ex cn n b' =>
  cases e1;intro Cx od H' hh U nn xx C3 q;cases q;apply `a98;refine kk H' Cx od `a99 nn ?_;cases n with
  | none=>trivial
  | some n =>
   let#[Y,q1,x1,x2]:=xx;exact#[Y,B,q1,pb0 `fY x1,x2,b1,b2,J,λz=>`yD Y z x1]
theorem P70(h:PZT X e g)(hs:`afN):PSX X `afO (k20 g):=.mk λH₀ B₀ δ pins s σ H D I hq215=>by
 skip;apply `ba hq215
 unfold k20 at e1;cases e2:`ax with
 | none=>apply `aj;cases e1
 | some q =>
  apply `aj;let#[q1,q2]:=q;cases q1 with
  | ok d b'=>cases e1;done;exact `R! `ld #[_,en,e2,λv H' ev=>k σ H' ev.s]
  | ex c n b'=>cases e1;done;exact `R! `ld `a9'
theorem Rt0(h:PZT X e g):PSX X `Ps (cz0 g):=.mk λH₀ B₀ δ pins s σ H D I hq216=>by
 skip;apply `ba hq216
 unfold cz0 at e1;cases e2:`ax with
 | none=>apply `aj;cases e1
 | some q =>
  apply `aj;let#[q1,q2]:=q;cases q1 with
  | ok d b' =>
   cases e1;done;refine `ty `ld #[_,en,e2,`awi];apply `yG;exact `aZp
  | ex c n b'=>cases e1;done;exact `ty `ld `a9'
universe zz
def bs0(c0:Str)(i:Nat)(Gb:GZ)(Gh:GS):GS:=fun δ=>match `Cs with
 | `mM=>`eZ
 | `mN=>if c=c0 then (match Gh (δ'.set i (`rS)) with
  | `ay δ''=>`ay (δ''.set i .un)
  | _=>`f) else `f
 | _=>`f
section
variable{c0:Str}{r:`e}{body:`cg}{Gb:GZ}
open T in
theorem Ob0(i:Nat)(T:`abl X.K `cE root r cs rs)(h0:c0∈cs)(hb:∀pn xe,PSsX (`XV pn xe) `ey Gb)(hh:∀e:`e,PSsD (`K2 (X.A.mark (`c `g!))) `aC7 Gh)(hN:`ej)(st:`H (`O9) Aa)
  (hi:`dG) (hx:`H (`IA) Aa) (hg:`ku c0) (hdb:`vo c0) :
  PSD X (.Try `ey `a9! [] [] pos) (bs0 c0 i Gb Gh):=.mk λH₀ B₀ δ pins s σ H D I hq217=>by
 let#[res,en,e,k]:=hq217
 refine wpAny_Try_except ?_;obtain⟨W,hW⟩:∃W:`an,W=λe s₁=>`aD `cI X.A (`EQ e `O) (λ_ s₂=>`aD `cI X.A (`ac5 e `f) (λ_ s₃=>`pB (handleBy e `O `a9!) `afB s₃) `hG s₂) `hG `eD:=`ah
 rw[← hW];have I1:`aVI:=I.toBody;unfold bs0 at e;cases e1:`Cs with
 | none=>rw[e1] at e;cases e
 | some rx =>
  rw[e1] at e;have run:∀D1:Ends,I50 `CM `ae `ab D1 rx->`aD `cI X.A (execs `ey `O) (SP `CM [] D1) W s:=λD1 k1=>(hb (`u5) W).go `ae `ab δ [] s σ H D1 I1 #[rx,en,e1,k1]
  cases rx with
  | ok r1 =>
   cases r1 with
   | nx δ' =>
    cases e;refine `a9? `gc k;cases f with
    | next =>
     let#[σ',H',I',q]:=q;exact tt0 `r s1 σ' H' D I'.ofBody q
    | ret v=>apply `arT;exact `eA
    | brk=>apply `ub;exact `eA
    | cont=>apply `ub;exact `eA
   | rt d=>cases e
   | bk δ'=>cases e
   | ct δ'=>cases e
   | rf d=>cases e
  | ex c m δ' =>
   simp only[] at e;split at e
   ·rename_i hc
    subst hc;split at e
    ·rename_i δ'' e2
     cases e;refine `a9? `nT fun σ' H' C od en' n xx pins' s1 ea I' lie'=>?_
     ·show W (`K3) s1
      rw[hW];have I2:`Xm s1:=I'.ofBody;have a1:gv0 X `r H' s1.heap C od ea:=lie'.mono λb z=>z.ofBody
      refine I2.noted st a1 λh2 I3 J=>?_
      let#[C2,a2]:=T.all c h0;obtain rfl:=M70 a2 n;let#[oe,vs,he,a3,_]:=id J;have I4:Inv (`arU) `r σ' H' (`f_ s1 h2):=I3.toHand rfl;refine wpAny_handleBy_cons (codeAny_handlers_test (s80 I4 hg a2.mg (XC.Yl0 (h:=h2) (a2.cl _ I4.kIn) (a2.cl _ I4.kIn) he a3 ?_) hdb)) (by intro q;cases q);rw[show `OE (`IE::`aVz) `bo by simp];refine codeAny_handlers_suite_as (I4.flown (C:=C) (od:=od) J λh5 I5 a5=>?_);let#[U,a8,Z,O,a4,a6,_,Y,_]:=id a5;have I6:Inv (`arU) `r σ' (upd H' ea (.ext (gl0 ea C od))) (`f_ s1 h5):=I5.track Y #[U,Z,O,λdx z=>a4.trans z,a8,a6] #[U,Z] λg1 g2 #[o,q1,q2,q3] q=>#[o,q o q1,q2,q3]
      refine ng0 (X:=`arU) I6 hN hi `KB (v:=`K3) rfl (λs7 I7=>?_) (`p hx);refine D0 ((hh ea).go `ae `ab (δ'.set i (`alG)) `r s7 _ _ { nx:=fun σ H=>`iy X.K H δ'',rt:=`nT } I7 #[.nx δ'',en'.setEx xx Y.1 n,e2,`JS]) (λf s8 q=>?_) (λ_ _ z=>`eA);cases f with
      | next =>
       let#[σ8,H8,I8,a7]:=q;exact(I8.ofHand I2).goes hN hi hx λs9 I9=>#[_,H8,I9,k _ _ (a7.setSl `SW λ_ _=>`jr)]
      | ret v=>apply `arT;exact `eA
      | brk=>apply `ub;exact `eA
      | cont=>apply `ub;exact `eA
     ·cases f with
      | next=>apply `ub;exact `eA
      | ret v=>apply `arT;exact `eA
      | brk=>apply `ub;exact `eA
      | cont=>apply `ub;exact `eA
    ·cases e
   ·cases e
universe zz
universe DL
namespace Qk
open DL W Rk
open Bt (zf0 W0 vo0 y50 u40 R4 wo0 zs0 vb0 O1 u70 zw0 wu0 M9 tc0 zv0)
section
def uc0:GZB:=(ux0 (sw0 (bg0 (Vc0 `ak) `cL
 (zd0 (or0 (orT (liftT `adW) `arV)
 (zd0 `arW
 r00)
 r00)
 (zd0 `a'a
 (zd0 `a'b
 r00)))))
 Vn0)
def nt0:`i:=[`c_, `IP, "thing"]
def yl0:`qs:=jm0 2 nt0 0 uc0
def t40:GZB:=(ux0 (sw0 (or0 (wb0 `Nt)
 (zd0 `arW
 r00)
 r00))
 (ux0 (Vu0 (S5 `a'c))
 Vn0))
def ql0:`i:=`fT
def xq0:`qs:=jm0 1 ql0 0 t40
def yt0:GZ:=(zd0 `a'd
 (zd0 `a'e
 (zd0 (cz0 (t60 1 `aZ o4 v8 xq0))
 r00)))
def hf0:`i:=[`IP, "reader"]
def K5:`ni:=mkX 1 hf0 yt0
def ko0:GS:=(v9 (Z8 `cL `a'f)
 (v9 (ifD (`hN `aCy `c5)
 (v9 (X6 (o2 (`w4 (`fI `T5 14 o8)) `Oz o8))
 t7)
 t7)
 (v9 (X6 (o2 `T5 `Oz o8))
 t7)))
def kg0:`i:=[`gT, `awF, `mh]
def u60:`U:=mkF 2 kg0 ko0
def pn0:GS:=(v9 `a'g
 (v9 `a'h
 (v9 (Z8 `pj `DB)
 (v9 (ifD `a'i
 (v9 (X6 (o2 `a'j `a'k m8))
 t7)
 t7)
 (v9 (ifD (`hN `go `iP)
 (v9 (X6 (o2 `a'j (K3 `aJ `Oy Q9) m8))
 t7)
 t7)
 (v9 (ifD (`hN `go `Oi)
 (v9 (X6 (o2 `adU `a'k m8))
 t7)
 t7)
 (v9 (ifD (ob (`fI `go 6 eqD))
 (v9 (X6 `adU)
 t7)
 t7)
 (v9 (X6 (oA `n9 xr0))
 t7))))))))
def kf0:`i:=[`mh, `gT, `abM, "_law_byte_here", "_law_kind"]
def wv0:`U:=mkF 2 kf0 pn0
def vp0:GS:=(v9 (Z8 `Oh `kN)
 (v9 (bs0 `fv 2 (zd0 (mq0 `n9 K5)
 r00)
 (v9 (cpX 1 2)
 t7))
 (v9 (ifD (ob (exN 1))
 (v9 (X6 `kN)
 t7)
 t7)
 (v9 (X6 (atG 1 `NG))
 t7))))
def o70:`i:=[`mh, "_law_caught", "e"]
def X3:`U:=mkF 1 o70 vp0
def Wo0:GS:=(v9 (Z8 `Oh (`p' (oA (`eg `aJ `iP) zv0) sn0))
 (v9 (Z8 `cL `ak)
 (v9 (rc0 (ys0 `a'l) `kM
 (v9 (Z8 `cL (oA (`eg `aT (o2 `a'm `arX o8)) wv0))
 t7))
 (v9 (Z8 `pj (o2 (`Ny `a'l) `arX o8))
 (v9 (Z8 `DE (o2 `go `a'n o8))
 (v9 (ifD (z90 (ob (o2 (`p' (K3 `ak Q9 `aBQ) X3) `oP neD)) (ob (o2 (`p' (o2 `ak (`T2 (o2 (`fI `go 4000 j4) `Oz o8)) m8) X3) `a'n neD)))
 (v9 `Wm
 t7)
 t7)
 (v9 (Z8 (gN 6) (oA `d9 xr0))
 (v9 (Z8 (gN 7) (oA `am4 X3))
 (v9 (ifD `a'o
 (v9 `Wm
 t7)
 t7)
 (v9 (ifD (ob (o2 `hg `kN pl0))
 (v9 (X6 (o2 (`p' (oA `d9 (sj0 K5)) sn0) `aT fc0))
 t7)
 t7)
 (v9 (ifD (z90 (ob (wh0 `Rz `hg)) (zp0 (ob `a'p)))
 (v9 `Wm
 t7)
 t7)
 (v9 (ifD (ob (o2 (oA `aAL X3) (yk0 `a'q) (u50 `d)))
 (v9 `Wm
 t7)
 t7)
 (v9 (ifD (`hN `hg `w5)
 (v9 (X6 `at')
 t7)
 t7)
 (v9 (Z8 `ado (K9 1 [4] `a'r `dD noT `arY))
 (v9 (X6 (o2 (`p' (o2 (K3 `aT Q9 (`fu (`mS `hg))) `DA m8) X3) `hg eqD))
 t7)))))))))))))))
def U70:`i:=[`n3, `azp, `mh, `ra, `gT, "_law_cut", "_law_handed", `abM, "_law_tail"]
def lz0:`U:=mkF 1 U70 Wo0
universe zz
universe Qk
namespace Qk
open DL W Rk Rm
open Bt (X5 n6 c7 Y4 M5 R6 V3 S6 b7)
def cu0{G1 G2:GZB}{δ:Ds}{r:`aB RXB}(h:`a's)(k:`RM):`arZ=r:=by unfold ux0;rw[h];exact k
def Oj0{G1 G2:GZB}{δ:Ds}{d:D}(h:`eY=`a't):`arZ=`a't:=`a'u
def ae0{G1 G2:GZB}{δ:Ds}{n:`aP}(h:`a'v):`arZ=`mN:=`a'u
def oh0{G1 G2:GZ}{δ:Ds}{r:`SS}(h:`a's)(k:`RM):`ar_=r:=by unfold zd0;rw[h];exact k
def lk0{G1 G2:GZ}{δ:Ds}{n:`aP}(h:`a'v):`ar_=`mN:=`a'w
def Md0{G1 G2:GZ}{δ:Ds}{d:D}(h:`eY=`DP):`ar_=`DP:=`a'w
def Za0{δ:Ds}(h:`al6):okZ G δ=`mM:=by unfold okZ;rw[h];rfl
def Z40(p:`e)(S:RS)(δ:Ds)(hc:`HF):qr0 `fv `aC' `bH=`c (.ex `fv `adX `bH):=by
 have hn:(`_N).natAbs.log2<1920:=by
  show S.count.log2<1920;have:`gO<2 ^ 1920:=P8 hc `cZ
  by_cases z:`gO=0
  ·rw[z];decide
  ·exact(Nat.log2_lt z).mpr `x
 unfold qr0;rw[show plN `aC9 `bH=`a2p from by unfold plN;rw[M00];rfl,`q];simp only[];rw[`L hn]
def GB1:GZ:=(zd0 (or0 (orT `a'x `arV)
 (zd0 `arW
 r00)
 r00)
 (zd0 `a'a
 (zd0 `a'b
 r00)))
def Yr0(p:`e)(S S1:RS)(s1:Sl)(b:Int)(hb:`it)(t:`I)(ht:`Jc=`c (.bl t,R S1)):orT `a'x `arV `pb=`c (!t,`a'y):=by
 have e1:`M_ `adW `pb=`c (`m,`pb):=by
  unfold DL.liftT zp0;rw[show ob `aC8 `pb=`e9 from b7 (Mf0 b hb)];rfl
 unfold orT;rw[e1,`q];show `aCO=_;rw[`dS];unfold wb0 Q8;rw[G6 (ds:=`oo) `lR ht];rfl
def I20(p:`e)(S S1:RS)(s1:Sl)(b:Int)(hb:`it)(ht:`GP)(hl:`GQ)(hc:`y0) :
  GB1 `pb=`iE (.nx `ar0):=by
 refine oh0 (δ':=`a'y) (by unfold or0;rw[Yr0 p S S1 s1 b hb `d ht];rfl) ?_;refine oh0 (Za0 (Tk0 p S1 _)) (oh0 (δ':=`ar0) (Za0 ?_) rfl);unfold Z3;rw[G6 (S:=`a'z) (ds:=[]) rfl (Zw0 `a'z hl hc)];rfl
def I60(p:`e)(S:RS)(s1:Sl)(b:Int)(hb:`it)(ht:`Vz)(hc:`HF) :
  GB1 `pb=`a'A:=by
 refine lk0 ?_;unfold or0;rw[Yr0 p S S s1 b hb `m ht,`q];show zd0 _ r00 _=_;exact lk0 (Z40 p S _ hc)
def Km0{p:`e}{S:RS}{s1:Sl}{b:Int}{l:`l}(hb:`it)(ht:`GP)(hl:`GQ)(hc:`y0)(s2:Sl) :
  `a'B=`Ns l `ar0:=by
 have e:`a'C:=rfl;show `yN `acy=_;rw[e,`q,I20 p S S1 s1 b hb ht hl hc]
def Ie0{p:`e}{S:RS}{s1:Sl}{b:Int}{l:`l}(hb:`it)(ht:`Vz)(hc:`HF)(s2:Sl) :
  `a'B=`a'A:=by
 have e:`a'C:=rfl;show `yN `acy=_;rw[e,`q,I60 p S s1 b hb ht hc]
inductive Gv:RS->`M->RS->`I->Prop
 | nil (S:RS):Gv S [] S `d
 | tk {S S1 E:RS} {b:Int} {l:`M} {t:`I} (hb:`it) (ht:`GP) (hl:`GQ) (hc:`y0) (hk:`ab1) (h:Gv `BN l E t):Gv S `vX E t
 | no {S:RS} {b:Int} {l:`M} (hb:`it) (ht:`Vz) (hc:`HF):Gv S `vX S `m
def X10{p:`e}{S E:RS}{t:`I}(h:Gv S l E t):∀s2,∃s2',`Ns `Bk `Zl=`a'D (.ok (.nx `a'E)) `a'E:=by
 induction h with
 | nil S=>exact λs2=>`a3O
 | tk hb ht hl hc hk h ih =>
  intro s2;let#[s2',e]:=ih (.sh (`cW));refine#[s2',?_];rw[`ag,Km0 hb ht hl hc s2];exact e
 | no hb ht hc =>
  intro s2;exact#[_,Ie0 hb ht hc s2]
def X80{S E:RS}{t:`I}(h:Gv S l E t):yl0 `bf `wO=`a'D (.ok `y (R E)) (R E):=by
 cases t with
 | true =>
  refine `a'F
  apply `a'G;refine `p #[rfl,`ar1,?_,rfl];show uc0 `adY=_;refine cu0 (δ':=`ar1) ?_ rfl;unfold sw0 bg0;apply `a'H;rw[e];rfl
 | false =>
  refine `a'F
  apply `a'G;refine#[`ar1,?_,rfl];show uc0 `adY=_;refine ae0 ?_;unfold sw0 bg0;apply `a'H;rw[e];rfl
def T80(S:RS)(hw:`yP)(hl:`yQ)(h:∀q∈`ca,`mL):`a'I=`c (.ok (`arN) `bf):=by
 refine lx0 rfl λp=>`n `a'J
 show t40 `ee=_;refine cu0 (δ':=`ee) ?_ (Oj0 ?_)
 ·have t:`a'K=`c (`m,`ee):=by
   unfold wb0 Q8;rw[`UV,hw];rfl
  unfold sw0 or0;rw[t];rfl
 ·unfold Vu0
  rw[show S5 `a'c `ee=`c (.rt (`arN) `ee) from V3 (Mw0 S hl h p)];rfl
def Lm0(S:RS)(hw:`np)(hc:`HF):`a'I=`c (.ex `fv `adX `bf):=by
 refine lx0 rfl λp=>`a'J
 show t40 `ee=_;refine ae0 ?_;have t:`a'K=`c (`d,`ee):=by
  unfold wb0 Q8;rw[`UV,`bE hw];rfl
 unfold sw0 or0;rw[t,`q,`bp];unfold zd0;rw[Z40 p S [] hc]
def Ff0(s0:Sl):DXB->DXB×Ds
 | `HE=>(`HE,`a'L)
 | `zj=>(`zj,`a'L)
def pk0{f:`qs}{gA:GA}{S:RS}{s0:Sl}{r:DXB}(hA:gA `a'M=`nY)(hf:`UE=`dR):t60 1 `aZ o4 gA f `a'M=`c (Ff0 s0 r):=by
 have h:`adL:=`dd
 unfold t60;show `a2O;rw[`ch,hA,`q];show `qc `UE;rw[hf];cases r<;>rfl
def fw0{G:GZ}{r:`SS}(h:G `a'N=r):zd0 `a'd G `avC=r:=by
 refine oh0 (Za0 ?_) h;unfold k00;rw[Ka0];rfl
def Zv0{E:RS}(h:Gv `eU l E `m):`a'O:=by
 have e:`a'P:=by
  refine fw0 (lk0 ?_);unfold k20;rw[`a'Q];rfl
 apply `ar2;apply `ar3
def b70{E:RS}(h:`Wn){G:GZ}{r:`SS}(hG:G `adZ=r):zd0 `a'e G `a'N=r:=by
 refine oh0 (δ':=`adZ) ?_ hG;unfold k20;rw[`a'Q];rfl
def mx0{E:RS}(h:`Wn)(hw:E.wait≠[])(hc:`a'R):`a'O:=by
 have e:`a'P:=by
  refine fw0 (b70 h (lk0 ?_));unfold cz0;rw[`J0 pk0 (Lm0 E hw hc)];rfl
 apply `ar2;apply `ar3
def Tt0{E:RS}(h:`Wn)(hw:`ny)(hl:`Nn<=60)(hq:∀q∈`mK,`mL):K5 `wO=`a'S:=by
 have e:`acA=`iE (.rt (`Nu)):=by
  refine fw0 (b70 h (Md0 ?_));unfold cz0;rw[`J0 pk0 (T80 E hw hl hq)];rfl
 apply `ar2;apply `ar3
def oe0{x:D}{n:Int}(h:K5 [x]=`c (`aAG)):X3 [x]=`Li:=by
 refine `UA;show `a'T;refine `iq `ar4 (`e3 `a'U (`e3 `a'U (`t6)))
 ·unfold bs0 zd0 mq0
  apply `a'V;rfl
 ·apply `v3
  rfl
def Ty0{x d:D}(h:K5 [x]=`SU):X3 [x]=`xs:=by
 refine `UA;show `a'T;refine `iq `ar4 (`e3 `ar4 `gU)
 ·unfold bs0 zd0 mq0
  apply `a'V;rfl
 ·apply `yJ
  exact `t6
universe Qk
namespace Qk
open DL W Rk Rm
def L90{S E:RS}(h:`ar5):Gv S l E `d:=by
 induction h with
 | nil S=>exact `y!
 | cons hb ht hl hc hr th hk ih=>exact .tk hb ht hl hc hk ih
theorem Ut0:∀(l:`h) {S:RS},`b6->`Ht->(∀b∈l,`d3)->`Ji `ar6->∃E t,Gv S `K1 E t/\Gi E/\(`sl->`arp/\`v8=`ar6)/\(t=`m->∃a b r,l=a++b::r/\Gv S (zs a) E `d/\`v8=`gO+`jb/\∀r',Gv S (zs (a++b::r')) E `m)
 | [],S,G,hf,hb,hc=>#[S,`d,`y!,G,λ_=>#[`y!,rfl],λz=>by cases z]
 | b::l,S,G,hf,hb,hc=>by
  skip;have hb0:=hb b A4;have J:`eh<=`b9/\`b9<=255:=`F
  rw[`T] at hc;have tk:=`arq;cases e:`V4 with
  | none =>
   rw[e] at tk;have tk:`a'W=`kc:=tk;done;exact#[S,`m,`a'X,G,`alD,λ_=>#[[],b,l,rfl,`y!,rfl,λr'=>`a'X]]
  | some S1 =>
   rw[e] at tk;obtain⟨t1,G1,k1⟩:`a'W=`auE/\Gi S1/\`ab1:=tk;have N:=`arr;have wl:=G1.wl;have kc:(next S1).count=`vc:=`lj (`Kh+1=_) k1
   let#[E,t,g,GE,h1,h2]:=Ut0 l N.1 N.2 (`Iu hb) (`cH kc);done;refine#[E,t,`ar7 g,GE,`he,`he]
   ·let#[a1,a2]:=h1 z
    exact#[`aa hb0 e a1,by rw[a2,kc,`T];lia]
   ·skip;let#[a,c,r,e1,e2,e3,e4]:=h2 z
    done;exact#[b::a,c,r,`aXV,`ar7 e2,by rw[e3,kc,`T];lia,λr'=>`ar7 (e4 r')]
def Tf0{N:Nat}(p:`VY):`mL:=by
 skip;apply `V0;rw[`bS] at e;subst e;have hl:=`a8f;have hf:=f.len;done;refine#[hk,`a8g,`nu,f.nrs]
 ·rw[h0] at f
  let#[l,e1,_]:=mu0 n f;rw[e1];intro d hd;apply `Hk;exact`a9K
 ·rw[h3] at f
  intro z;rw[z] at f;cases f
 ·have:=f.trs
  exact(show ∀{l:`l},`Vp->∀d∈l,DL.tr d=`d from λ{l} h=>by
   induction l with
   | nil=>exact λd hd=>by cases hd
   | cons a l ih =>
    have h:(DL.tr a&&trs l)=`d:=h;apply `p6;intro d hd;apply `qm
    ·exact h.1
    ·exact ih h.2 d hd) `x d hd
def Mg0(l:`h)(hb:∀b∈l,`d3)(hc:`bK<=90000000):(∃E,`arw/\Gi E/\`ny/\K5 [`arE]=`a'S) ∨
  ∃n:Nat,n<=`bK/\K5 [`arE]=`c (.ex `fv `De)/\(`a'Y=`xs∨`a'Y=`sF)/\(n<`bK->∀r':`h,X3 [`cQ (zs (`mX `i6++r'))]=`sF):=by
 skip;let#[E,t,g,GE,h1,h2]:=Ut0 l j70 `v hb (`dQ (0+`bK<=_));have J:∀{l:`M} {E:RS},Gi E->`Wn->`a'R->X3 `wO=`xs∨X3 `wO=`c (`g `auV):=λ{l E} GE g O=>by
  by_cases hw:`ny
  ·exact `n (Ty0 (Tt0 g hw GE.few λq hq=>by
    apply `aq6;exact `a'Z))
  ·exact `p (oe0 (mx0 g hw O))
 cases t with
 | true =>
  let#[a1,a2]:=h1 rfl;have a2:`v8=`bK:=`sU a2 (0+`bK=_)
  by_cases hw:`ny
  ·done;exact `n #[E,a1,GE,hw,Tt0 g hw GE.few λq hq=>by
    apply `aq6;exact `a'Z]
  ·have u:=mx0 g hw `j
   rw[a2] at u;done;refine `p #[`bK,`fg,u,`all,λz=>`G z `aic];rw[`ap2];exact oe0 u
 | false =>
  let#[a,b,r,e1,e2,e3,e4]:=h2 rfl;have e3:`v8=`jb:=`sU e3 (0+`jb=_)
  have U:`jb<`bK:=by rw[e1,`Z,`T];lia
  have u:=Zv0 g;rw[e3] at u;done;refine `p #[`jb,`F,u,?_,λ_ r'=>?_]
  ·have:`mX `jb=a:=`k e1 List.take_left
   rw[`x];have:=J GE e2 `j;apply `aV e3;exact `x
  ·have:`mX (`jb+1)++r'=a++b::r':=by
    rw[e1,List.take_append,`a'_];have:`jb+1 - `jb=1:=`F
    rw[`x,`bg];rfl
   rw[`x];have:=oe0 (Zv0 (e4 r'));apply `aV e3;exact `x
universe Qk
namespace Ta
open DL W K22
def Rr0(xs:`l)(n:Nat):cutD xs `f `De=`OY:=by
 unfold cutD;show (`rU 0).take (sIx `ar `ar `De - 0)=_;rw[`a3X,Nat.sub_zero];unfold sIx;simp only[];rw[`aoG,`b!]
 by_cases h:n<=`ar
 ·rw[`aoH h]
 ·rw[`aoI,`ap2,`a'_]
def O50(xs:`l)(n:Nat):cutD xs `De `f=`rU n:=by
 unfold cutD;show (`rU (`a'0)).take (`ar - `a'0)=_;unfold sIx;simp only[];rw[`aoG,`b!]
 by_cases h:n<=`ar
 ·rw[`aoH h,`a2a]
 ·rw[`aoI,`x1,`a2c,`a2b]
def c80{g gh:GE}{δ:Ds}{xs:`l}(h1:`a'1)(h2:`a'2):K3 g Q9 (`fu gh) δ=`o' `OY:=by
 unfold K3 someO;rw[h1,h2,← Rr0];rfl
def Xr0{g gh:GE}{δ:Ds}{xs:`l}(h1:`a'1)(h2:`a'2):K3 g (`fu gh) Q9 δ=`c (`t `aeN):=by
 unfold K3 someO;rw[h1,h2,← O50];rfl
universe Ta
namespace Ta
open DL W K22
def add_l{xs ys:`l}(h:`L!):m8 `oj `vz=`ayp:=by
 simp only[m8];rw[`ch]
universe Ta
namespace Rk
open DL W Rm StrLaws
open Bt (b7)
open Bw (bs sg its two kn cnt tx Vb Gq)
open Km (lkd It Wb ix)
open K22 (lkv rel nd)
open Gw (Gd Vk)
def Ky0{p:Pt}(h:p.Ok):`a5p:=by
 cases p with
 | text w=>exact `bw
 | row vs=>exact h.1
 | table qs=>show `a'3;rw[`S];exact `qo h
 | rcd c qs=>show `a'3;rw[`S];exact `qo h.2
def Ou0{v:D}(hn:n<=60)(h:Vk v `bv):Vb v/\Bw.Lk n v:=by
 skip;rcases Uz0 h.ok with rfl|⟨i,rfl⟩|⟨i,rfl,hi⟩
 ·done;exact#[`y,λj e=>nomatch e]
 ·done;refine#[`g i ?_,λj e=>nomatch e]
  have h1:=h.bd i rfl;have h2:(10:Nat) ^ 60<`KU:=`bb
  exact N4 h1 h2
 ·have:=h.lk i rfl
  obtain⟨k,rfl⟩:∃k:Nat,i=`d5:=#[`fA,`F];done;exact#[.lk k `j,Bw.Hj0 `j]
structure Dw(ps:`aE)(pool:`i):Prop where
 len:1<=`aI/\`aoJ
 pl:`aoK<=60
 gd:∀p∈ps,`a2d
def Dw.wf{ps:`aE}(h:`ar8):Wf ps (pool.filter λs=>`os s):=by
 have hl:=`jz;have J:∀p∈ps,∀s∈p.all,`Uo:=λp hp s hs=>by
  have ho:=`ar9;cases p with
  | text w=>cases hs
  | row vs=>cases hs
  | table qs =>
   have hs:s∈`arF++[]:=hs;rw[`bS] at hs;let#[q,hq,rfl]:=`Gy;exact `Wo ho q hq
  | rcd c qs =>
   have hs:s∈`arF++[c]:=hs;rcases `aoF with hs|hs
   ·let#[q,hq,rfl]:=`Gy
    exact `Wo ho.2 q hq
   ·rw[`dK hs];exact ho.1
 refine#[#[`F,`gm,λp hp v hv=>(`a'4).2],C0 (List.length_filter_le _ _) h.pl,λs hs=>(M1.mp hs).2,λp hp=>`ar9,λp hp s hs=>M1.mpr #[(`BO).nms s hs,`a'5]];have ho:=`ar9;refine#[?_,λv hv=>(`a'4).1,λs hs=>C0 (U30 (`a'5)) `j,Ky0 ho];cases p with
 | text w=>exact`a9J
 | row vs=>exact C0 ho.1 `j
 | table qs=>exact C0 (`qo ho) `j
 | rcd c qs=>exact C0 (`qo ho.2) `j
universe Rk
namespace Qk
open DL W Rk Rm
def Od0(c:Int)(h0:0<=c)(y:Int):∃x:Nat,x<=255/\u60 [`jL,`g y]=`c `acB:=by
 skip;obtain⟨es,J⟩:∃es:`M,es=[y+1,128,129,0,2,3,7,255,y - 1,y+4,y+128,97,32,127]:=`ah;have hl:`g9=14:=`GJ
 have e1:Z8 `cL `a'f [`f!,.sh (`g y),.un]=`ay `a'6:=`GJ
 by_cases h:c%2=0
 ·obtain⟨j,hj⟩:∃j:Nat,`cC=c/2%14:=#[(c/2%14).toNat,`F]
  have O:j<14:=`F
  obtain⟨z,hz⟩:∃z,es[j]?=`c z:=#[_,C1 `j];done;refine#[(z%256).toNat,`F,`gC (t8 e1 `gU)];rw[O9 (by
   refine `ar';apply `apU;rw[`ir])]
  apply `qa;rw[o5 (x:=`hC) (y:=`Yw) (by
   rw[`aog `aAH `g (c/2%14),← hj];show atI (es.map `b3) `cC=_;rw[`apO,`b!,`b5,`cX,hz];rfl) rfl]
  show `fb (z%256);congr 2;lia
 ·done;refine#[(c/2%256).toNat,`F,`gC (t8 e1 (`e3 `a'6 `mV))]
  ·rw[W5 (by
    refine `ar';apply `apU;rw[`hj])]
   rfl
  ·show `fb (c/2%256)
   congr 2;lia
structure Bn(m:`h)(k:Nat)(m':`h):Prop where
 by':∀b∈m',`d3
 len:m'.length<=`dP+1
 ok:okr k 0 `Nx->okr (k+`d6) 0 (zs m')
def q00(m:`h)(n:Nat):(zs m).take n=`a'7:=by unfold zs;rw[`a'8]
def lp0(m:`h)(n:Nat):`ar! n=`a'9:=by unfold zs;rw[`aoN]
theorem yz0(m:`h):(`s (zs m))=`dP:=`S _
def jy0(m:`h)(n:Nat):(`ad0).take n=(`a'7).map `b3:=`By `a'8 q00
def Sx0(m:`h)(n:Nat):(`ad0).drop n=(`a'9).map `b3:=`By `aoN lp0
def Mt0(m:`h)(hb:∀b∈m,`d3)(hl:`a'')(c:Int)(h0:0<=c)(k:Nat):∃m',Bn m k m'/\`a'!:=by
 skip;have zz:`aqf:=`aw
 obtain⟨n,hn⟩:∃n:Nat,n=`dP+1:=`ah;obtain⟨a,ha⟩:∃a:Nat,`uO=c/8%`bv:=#[(c/8%`bv).toNat,`cO (E3 (c/8) (`a4 (`bv≠0)))];have a7:a<n:=`cO (L8 (c/8) (`a4 (`eh<n)))
 have a2:`a'?=`Wp:=by rw[`S,yz0]
 obtain⟨y,hy⟩:∃y:Int,(`aAJ)[a]?=`eP:=#[_,C1 (by rw[`Z,yz0];simp;lia)];have a5:0<=`ar?:=Int.ediv_nonneg `j `j;let#[x,hx,ex]:=Od0 (`ar?) a5 y;obtain⟨L,hL⟩:∃L:D,L=`rg:=`ah;have Z:∀s2 s3 s4:Sl,o2 `B0 `cG m8 `a!a=`sF:=λs2 s3 s4=>by
  rw[`aL `Wp `dJ (`lj (`c `a'?=_) a2)];show `fb (`vt+1);congr 2;lia
 have e8:∀s2 s3 s4:Sl,o2 `ak `n_ j4 `a!a=`r9 (c/8):=λ_ _ _=>rfl
 have a3:o2 `aC? `aT ixD `a!b=`c (`g y):=by
  rw[o5 (x:=`t (`a!c `g)) (y:=`qU) (by
   rw[`aog `rg `t (([0]:`M).map `g)];rw[`acC (by rw[`S,yz0];simp;lia),← `aU]) rfl]
  show atI (`a!c `b3) `uO=_;rw[vl0 `j (by rw[`S,`Z,yz0];simp;lia) `y,`b!,`b5,`cX,hy];rfl
 obtain⟨kk,a4⟩:∃kk:Int,kk=c%8:=`ah;have st:∀{G:GS} {r:`zW},G `a!d=r->v9 `a'g (v9 `a'h (v9 (Z8 `pj `DB) G)) `a!e=r:=λ{G r} hG=>by
  refine `yO `a!b (V7 (d:=`qU) (by rw[`a!f,`a!g,ha]));refine t8 (δ':=[`Df,`f!,`wC,.sh `acB,.un]) (V7 (d:=`avD) (by
   rw[Z1 (ds:=[`g (`ar?),`g y]) (`kE (`k `a!f `a!h) a3)];exact ex)) ?_
  refine `qb `Yy (`aF a4) hG
 obtain⟨δ,hδ⟩:∃δ:Ds,δ=`a!d:=`ah;have g0:`a!i=`a!j:=`lh
 have g2:`MS=`c (`qU):=`lh
 have a6:o2 `aT `cG m8 δ=`c (`g (`ad (a+1))):=`lh
 have gx:U7 `mU δ=`c (`cQ (zs [x])):=`lh
 have tk:K3 `aJ Q9 `Oy δ=`c (`cQ (zs (`Dg))):=by rw[`Wq g0 g2,jy0]
 have d0:K3 `aJ `Oy Q9 δ=`c (`cQ (zs (`A' a))):=by rw[Ta.Xr0 g0 g2,Sx0]
 have d1:K3 `aJ `aDa Q9 δ=`c (`cQ (zs (`Wr))):=by rw[Ta.Xr0 g0 a6,Sx0]
 have U:∀{g h:GE} {p q:`h},`ax=`o' `a!k->h δ=`c (`cQ (zs q))->`rT+q.length<=14000000->o2 g h m8 δ=`c (`cQ (zs (p++q))):=λ{g h p q} h1 h2 h3=>by
  rw[o5 h1 h2,`a!l,← `aU,v70]
 have b1:`a!m<=`dP:=`abQ
 have b2:(`s (`A' a))=`dP - a:=Do0;have b0:(`s `Wr)=`dP - `vu:=Do0;have a8:`a!m=min a `dP:=`dT;have byt:∀p:`h,(∀b∈p,b∈m∨b=x)->∀b∈p,`d3:=λp h b O=>by
  rcases h b O with z|z
  ·exact hb b z
  ·lia
 have J:∀(v:Int) (f:`br) (t:`I),f `Nv (`g v)=`c (.bl t)->ob (`fI `go v f) δ=`c t:=λv f t h=>by
  refine `ar';rw[`aL `Yy (`g v) (`lh)];exact h
 have a1:ltD `Nv (`nE)=`c (`hU (kk<4)):=rfl;have Y:∀v:Int,eqD `Nv (`g v)=`c (`hU (kk=v)):=λv=>rfl
 have fin:∀{m':`h},pn0 `a!e=`c (.rt `aAI)->`a'!:=λ{m'} h=>U5 rfl h
 have sub:∀{p:`h} (n:Nat),(∀b∈`_q n,b∈p)/\∀b∈p.drop n,b∈p:=λ{p} n=>#[λb h=>x4 h,λb h=>x5 h]
 by_cases h4:kk<4
 ·done;refine#[`a!n++`Wr,`asa,`HG]
  ·apply `asb
   ·apply `VA
    ·exact `asc
    ·exact `p `TP
   ·exact `a!o
  ·rw[`Z,`Z,`d2];lia
  ·have:=Xi0 ok a `vu `B!
   rw[q00,lp0] at this;rw[v70,v70];exact `x
  ·rw[← hδ]
   refine d8 ?_;rw[O9 (J 4 ltD `d (`jG a1 h4))];exact d8 (V2 (U `a!p d1 `M0))
 ·have f4:∀Ga:GS,ifD `a'i Ga t7 δ=`wm:=λGa=>`aF (W5 (J 4 ltD `m (by rw[a1,`bE h4])))
  have fe:∀(v:Int) (Ga:GS),kk≠v->ifD (ob (`fI `go v eqD)) Ga t7 δ=`wm:=λv Ga h=>`aF (W5 (J v eqD `m (by rw[Y,`hj])))
  by_cases h5:kk=4
  ·done;refine#[`a!n++`A' a,`asa,`HG]
   ·apply `asb
    ·apply `VA
     ·exact `asc
     ·exact `p `TP
    ·exact `n ((sub a).2 b z)
   ·rw[`Z,`Z,`d2];lia
   ·have:=Xi0 ok a a `B!
    rw[q00,lp0] at this;rw[v70,v70];exact `x
   ·rw[← hδ]
    refine t8 `a!q `gU;rw[O9 (J 4 eqD `d (`jG Y h5))];exact d8 (V2 (U `a!p d0 `M0))
  ·by_cases h6:kk=5
   ·done;refine#[`Dg++`Wr,`asa,`HG]
    ·apply `asb
     ·exact `asc
     ·exact `a!o
    ·rw[`Z];lia
    ·have:=Lp0 ok a `vu
     rw[q00,lp0] at this;rw[v70];exact `x
    ·rw[← hδ]
     refine `asd `gU;rw[O9 (J 5 eqD `d (`jG Y h6))];exact d8 (V2 (U tk d1 `j))
   ·by_cases h7:kk=6
    ·done;refine#[`Dg,#[byt _ λb O=>`n (`awB b O),`F,λok=>?_],`HG]
     ·have:=y30 (k:=k+1) (j30 ok a) `kp
      apply `aV q00;exact `x
     ·rw[← hδ]
      refine `asd (t8 `a!r `gU);rw[O9 (J 6 eqD `d (`jG Y h7))];exact d8 (V2 tk)
    ·done;refine#[m,#[hb,`F,λok=>y30 ok `kp],`HG]
     rw[← hδ];refine `asd (t8 `a!r (t8 (fe 6 _ h7) `mV));rw[`lk [`rg] g0];rfl
universe Qk
namespace Qk
open DL W Rk Rm
open Bw (bs hi sg its two kn cnt tx)
open Km (hb nB nT nW pk lkd ix It Wb)
def Lo(d:D):Prop:=(∀s,d=`dL->∀c∈`f7,c<128)/\∀z:Int,`v7->`KT<2 ^ 250
theorem lh0(h:n<`ase):Sz 42 (bs n):=Gf0 (B8 h `cZ)
theorem N50{s:Str}(h:∀c∈`f7,c<128):∀b∈sg s,`fJ:=λb hb=>by
 let#[c,hc,rfl]:=`asf;have:=h c hc;lia
def Hb0{ps:`aE}(hw:`iu)(ht:∀p∈ps,∀b∈tx p,`fJ){B:`h}{T:`i}(hB:`Ws `bI)(hT:`Ws `gb){d:D}(hd:`mf)(lo:Lo d):Sz 42 (`oM):=by
 skip;have sm:`kH (n<=100000000000->n<`ase):=λn h=>`a4!
 apply `G6
 ·done;show Sz 42 (`G5)
  split
  ·exact `acD
  ·exact`a!s (.low (N50 (lo.1 s rfl)))
 ·done;exact lh0 (sm 0 `j)
 ·done;show Sz 42 (bs (4*`IZ x+1))
  have h1:=lo.2 x rfl;have h2:`IZ x<=2*x.natAbs:=`a9i
  have e:8*`apY+8<`ase:=`bb
  refine lh0 ?_;generalize `a5Q=w at e ⊢;generalize `apY=v at e h1;lia
 ·done;show Sz 42 (if `asg then bs (4*(`adQ - ix B `vv)+2) else `B6 (4*cnt `Wt+kn `Wt) `Wt)
  rw[`b!];let#[_,w2]:=`_m;have hc:=(`Vj).cnt;have hk:=Bw.Vr0 `lE;split
  ·exact `acD
  ·exact`a!s (.low (ht _ w2))
theorem Ov0{ps:`aE}(hw:`iu)(ht:∀p∈ps,∀b∈tx p,`fJ)(hi:∀p∈ps,∀d∈`e_,Lo d):∀(f:Nat) (B:`h) (T:`i) (W:`l),`Ws (`bI+f)->`Ws (`gb+f)->(∀d∈W,`ash)->Sz 42 (`aqh)
 | 0,_,_,_,_,_,_=>.low λb hb=>by cases hb
 | f+1,_,_,[],_,_,_=>.low λb hb=>by cases hb
 | f+1,B,T,d::W,hB,hT,hW=>by
  let#[hd,lo]:=hW d A4;have J:∀d∈W,`ash:=`Iu hW
  show Sz 42 (`a5Z);refine(Hb0 hw ht `j `j hd lo).app (Ov0 hw ht hi f _ _ _ ?_ ?_ ?_)
  ·skip;apply `G6
   ·done;show `asi;lia
   ·done;show `asi;lia
   ·done;show `asi;lia
   ·done;show (`s (`o `asg B (B++[`vv])))+f<=_
    split
    ·lia
    ·apply `hJ;lia
  ·skip;apply `G6
   ·done;show (`s `Vk)+f<=_
    split
    ·lia
    ·apply `hJ;lia
   ·done;show `asj;lia
   ·done;show `asj;lia
   ·done;show `asj;lia
  ·skip;apply `G6
   ·done;exact J
   ·done;exact J
   ·done;exact J
   ·done;show ∀d∈(`o `asg W (its `Wt++W)),`ash
    rw[`b!];let#[_,w2]:=`_m;split
    ·exact J
    ·intro x hx
     apply `t9
     ·exact#[`y8 w2 x z,hi _ w2 x z]
     ·exact J x z
def Vp0{S E:RS}(h:`ar5):∀b∈l,`it:=by
 induction h with
 | nil S=>intro b hb;cases hb
 | cons hb ht hl hc hr th hk ih =>
  intro x hx;apply `m'
  ·exact hb
  ·exact ih x hx
def Hg0(h:∀b∈l,`it):zs (`c6 `ask)=l/\∀b∈`c6 `ask,`d3:=by
 refine#[?_,`hK]
 ·unfold zs
  rw[`cS]
  conv=>rhs;rw[← List.map_id l]
  refine Q2 `hK
  have:=h b hb;show (`ad b.toNat)=b;lia
 ·let#[x,hx,rfl]:=`asf
  have:=h x hx;lia
universe Qk
namespace Qk
open DL W Rk Rm
open Bw (bs hi sg its two kn cnt tx)
open Km (hb nB nT nW pk lkd ix It Wb)
open Gw (Vk Gd)
def Ju0{v:D}{n:Int}(h:Vk v n):Lo v:=by
 refine#[λs e=>?_,λz e=>N4 (h.bd z e) `cZ];have ok:=h.ok;rw[e] at ok;cases ok
def Xm0{s:Str}(h:`Uo):Lo `fj:=by
 refine#[λt e c hc=>?_,λz e=>by cases e];cases e;exact`a!t Y7 (gi0 h).2.2
theorem Um0{qs:`dH}(h1:∀q∈qs,`os q.1=`d)(h2:∀v∈`r4 `iA,Lo v):∀d∈`a9s,Lo d:=λd hd=>by
 let#[q,hq,hm]:=k9.mp hd;unfold two at hm;apply `ap3
 ·exact Xm0 (h1 q hq)
 ·rw[`U5]
  exact h2 _ (`arG)
def T70{p:Pt}{n:Int}(g:Gd p n `bn):(∀d∈`e_,Lo d)/\∀b∈tx p,`fJ:=by
 have hv:∀v∈`Gs,Lo v:=λv h=>Ju0 (g.vk v h)
 have ok:=g.ok;cases p with
 | text w=>exact#[(λd hd=>by cases hd),N50 λc hc=>`a!t M4 (oc0 ok).2]
 | row vs=>exact`asl hv
 | table qs=>exact`asl (Um0 (λq hq=>`Wo ok q hq) hv)
 | rcd c qs =>
  refine`asl `nu;apply `qm
  ·exact Xm0 ok.1
  ·exact Um0 (λq hq=>`Wo ok.2 q hq) hv d hd
structure Fs(ps:`aE)(m:`h)(S:RS):Prop where
 ne:m≠[]
 by':∀b∈m,`d3
 len:`a!u
 pk:sn0 [`nQ]=`a!j
 rn:`cR `eU `Nx S
 wt:`yP
 few:`yQ
 wh:∀q∈`ca,`mL
 ok:`a!v
def Gq0(n:Nat):bs n≠[]:=by unfold bs;simp
def J40{ps:`aE}(h:`ar8):∃m S,`asm:=by
 skip;have W:=h.wf;let#[L,T,b1,hh,hp,hn,hL,hc,N,hN]:=Ok0 W.wb;let#[S,r,h1,h2,h3,h4,h5]:=Pg0 W hh hp;let#[e1,e2]:=Hg0 (Vp0 r);have pl:=(Km.X30 W.wb);done;refine#[(`M!).map `ask,S,#[`he,e2,`k `S pl.2,`k e1 pl.1,`k e1 r,h1,h3,h4,?_]]
 ·rw[List.map_eq_nil_iff,hp,`VO,`jE] at z
  have z1:=(Dp0.mp (Dp0.mp z).1).1;exact Gq0 _ z1
 ·rw[e1]
  refine(Ov0 W.wb (λp hp=>(T70 (`BO)).2) (λp hp=>(T70 (`BO)).1) 100000 [] [] `y9 `aM `aM `nu).1;rw[`G8];exact#[`tI #[0,rfl,W.wb.len.1],#[λs e=>`a!w,λz e=>`a!w]]
theorem jr0{S:RS}:∀{a b:`M},`cR S `MK S'->∃S1,`cR S a S1/\`cR S1 b S'
 | [],b,h=>#[S,`y!,h]
 | x::a,b,h=>by
  cases h with
  | cons hb ht hl hc hr th hk =>
   let#[S1,h1,h2]:=jr0 hr;exact#[S1,`apm h1,h2]
def jw0{S:RS}(h:`cR S l S'):S'.count=`ar6:=by
 induction h with
 | nil S=>rfl
 | cons hb ht hl hc hr th hk ih =>
  rw[ih,`T];show _+1+_=_;rw[hk];lia
def Mq0{ps:`aE}{m:`h}{S:RS}(F:`asm)(c:Nat)(hc:c<`dP):X3 [`cQ (zs (`I0 c))]=`c `aCP:=by
 have hl:=`mQ;have r:=F.rn;rw[← `ary c `Nx] at r;let#[S1,r1,r2]:=jr0 r;have k1:=jw0 r1;have k1:`Kh=c:=by
  rw[k1,`dT,yz0];show 0+min c `dP=c;lia
 have hw:`jc≠[]:=λz=>by
  have hd:`ar! c≠[]:=λq=>by
   have:=`aUS;rw[`kB,yz0] at this;simp at this;lia
  cases e:`ar! c with
  | nil=>exact hd e
  | cons b l =>
   rw[e] at r2;cases r2 with
   | cons hb ht hl hc hr th hk =>
    rw[oy0 S1 z b] at ht;cases ht
 rw[q00] at r1;have:=oe0 (mx0 (L90 r1) hw `j);apply `aV k1;exact `x
def Mi0{S E:RS}(h:`ar5){b:Int}{r:`M}{E':RS}{t:`I}(g:Gv E (b::r) E' t):Gv S (l++b::r) E' t:=by
 induction h with
 | nil S=>exact g
 | cons hb ht hl hc hr th hk ih=>exact .tk hb ht hl hc hk (ih g)
def Pp0{ps:`aE}{m:`h}{S:RS}(F:`asm)(b:Nat)(hb:`d3):X3 [`cQ (zs (m++[b]))]=`c (`Wp):=by
 have hl:=`mQ;have k:=jw0 F.rn;have k:`gO=`dP:=by rw[k,yz0];show 0+`dP=_;lia
 have g:Gv `eU (zs m++`Nj) S `m:=Mi0 F.rn (.no `j (oy0 S F.wt b) `j);have:=oe0 (Zv0 g);apply `aV k;rw[v70];exact `x
universe Qk
namespace Qk
open DL W Rk Rm
open Bt (W0 zv0)
def Lv0(n:Int)(h0:0<=n)(h:n<1000):iv0 `FJ=`Sh:=by
 show (`o (`xu<=n/\n<`jY) `Sh `f)=_;rw[`L `Nw]
def Kc0(c:Int)(h0:0<=c)(δ:Ds)(hδ:zc0 1 [4] δ=`a!x)(h4:gv 4 δ=`Nz):∃t:`h,(∀b∈t,`d3)/\`aqW<=9/\K9 1 [4] `a'r `dD noT `arY δ=`c (`cQ (zs t)):=by
 have zz:`IO:=`aw
 obtain⟨n,hn⟩:∃n:Int,n=c/16%9:=`ah;have a1:0<=n/\n<9:=`F
 obtain⟨f,hf⟩:∃f:`hr,f=λ(k:Nat)=>`a!y:=`ah
 refine#[`Se f,`hK,`a2T,?_]
 ·let#[k,_,rfl]:=`asf
  rw[hf];show (`uX (_%256))<=255;lia
 ·have e1:ys0 `aDd δ=`Sh:=by
   show (z7 `aDc v8 δ).bind iv0=_;rw[`aW (d:=`d7) (ds:=[]) (`dl (`aL (`g (c/16)) (`g 9) (`aF (`aL `jL (`g 16) h4))) hn) rfl,`q];exact Lv0 n `j `j
  have O:yx0 `dD noT `arY `a!x `JP=`c (`Se `a!z):=by
   refine aj0 (`a!z) λk hk=>#[[`a!A,`f!],rfl,rfl,?_]
   have Z:k<9:=`F
   have U:`sG<=64:=by
    have:k*k<=8*8:=`a2X `j `j;lia
   have Y:`eh<=`sG:=Int.mul_nonneg `j `j;rw[o5 (x:=`g (c/(`sG+5))) (y:=`Yw) (by
    rw[o5 (x:=`jL) (y:=`g (`sG+5)) rfl (by
     rw[o5 (x:=`g (`sG)) (y:=`g 5) (by
      rw[`aL `lI `lI rfl];exact Gw.rv0 _ _ `Nw) rfl]
     rfl)]
    exact `a!h) rfl]
   show `fb (c/(`sG+5)%256);rw[hf];congr 2;show _=(`ad `a!y);lia
  show `yN (ys0 _ δ)=_;rw[e1,`q,hδ];have J:`aR6<=`W:=`GA
  rw[`L J,O];show `a!B=`a!B;unfold zs;rw[`cS,`cS];rfl
def MOD:GE:=`arX
def Hy0(δ:Ds):MOD δ=`c (`a!C):=`dd
def S70(ns:`M)(j:Nat):∃c:Int,0<=c/\`a!D (`jN) `uV:=by
 let#[z,hz]:=Gw.W10 ns `cC `j;have hz:W0 [`jN,`gN]=`Uf:=hz;refine#[z%`aAK,`F,fun δ g h1 h2=>?_];rw[o5 (x:=`hC) (y:=`a!C) (`k (Z1 (`kE h1 h2)) hz) (Hy0 δ)];exact `a1Q
open Classical in
def Hm0{x:D}(h:`Wj):fc0 x x=`hb:=by rw[Sm.eq h h,`y1]
open Classical in
def Hu0{x:D}(h:`Wj):f50 x x=`tq:=`dl (Sm.ne h h) `y1
abbrev BL(m:`h):D:=`rg
def LB:GS:=(v9 (Z8 `cL (oA (`eg `aT (o2 `a'm MOD o8)) wv0)) t7)
def Lg0(ns:`M)(s1 s4 s5 s6 s7 s8:Sl)(m:`h)(hb:∀b∈m,`d3)(hl:`a!u)(ok:`a!v):∃(p:`h) (s3:Sl),(∀b∈p,`d3)/\`rT<=11000003/\okr 343 0 (zs p)/\zg0 `kM LB `asn (`Dh `nz .un)=`ay (`Dh `sH s3):=by
 skip;have one:∀(j k:Nat) (s3:Sl) (m:`h),(∀b∈m,`d3)->`a''->∃m',Bn m k m'/\∀ds:`l,zg0 `kM LB (`gN::ds) (`Dh `nz s3)=zg0 `kM LB ds `a!E:=λj k s3 m hb hl=>by
  let#[c,hc,ec]:=S70 ns j;let#[m',B,e]:=Mt0 m hb hl c hc k;refine#[m',B,λds=>?_];refine ab0 (δ1:=(`Dh `nz `vr)) rfl ?_;refine t8 (δ':=`a!E) (V7 (d:=BL m') ?_) rfl;rw[Z1 (ds:=[BL m,`jL]) (`kE rfl (ec _ `nM rfl rfl))];exact e
 let#[m1,B1,e1]:=one 0 42 .un m hb `j;have l1:=B1.len;let#[m2,B2,e2]:=one 1 85 (.sh (`Vf)) m1 B1.by' `j;have l2:=B2.len;let#[m3,B3,e3]:=one 2 171 (.sh (`a!F)) m2 B2.by' `j;have l3:=B3.len;done;refine#[m3,.sh (`a!G),B3.by',`F,B3.ok (B2.ok (B1.ok ok)),?_];have z:(`asn:`l)=[`Vf,`a!F,`a!G]:=rfl;rw[z,e1,e2,e3];rfl
def Pq0(ns:`M)(hl:`f'<=63):`a!H:=by
 skip;have zz:`aqf:=`aw
 let#[ps,pool,h1,a4,b1,a5,U]:=Bt.Iv0 ns `j 4 `j;have U:zv0 [`jN,`nE]=`c (`nQ):=U;have D1:`ar8:=#[#[h1,a4],`F,a5];let#[m,S,F]:=J40 D1;have c1:=`mQ;have b3:1<=`dP:=`F9 F.ne;let#[p,s3,pb,pl,a7,Z]:=Lg0 ns (`nz) .un .un .un .un .un m F.by' `mQ F.ok;let#[c,hc,ec]:=S70 ns 3;apply `apb D `jN;done;rw[← hN] at U Z ⊢;have ec:`a!D N (`g (`ad 3)):=fun δ g h=>ec δ g (by rw[h,hN])
 obtain⟨J,a3⟩:∃J:Nat,`I1=c%`vt:=#[(c%`vt).toNat,`cO (E3 c (`a4 (`vt≠0)))];have b0:J<`dP:=`cO (L8 c (`a4 (`eh<`dP)))
 have O:∀{g:GE} {δ:Ds} {q:`h},`ax=`c (BL q)->`a4?=`c (`o9 q.length):=λ{g δ q} h=>by
  rw[Z1 `a5b];show `fb (`ad (`s ((zs q).map `b3)));rw[`S,yz0]
 refine `UA;show Wo0 (`aso .un .un)=_;refine t8 (δ':=(`aso `nz .un)) (V7 (d:=BL m) (by
  rw[`lk [`nQ] (`k (`c9 [N,`nE]) U)];exact F.pk)) ?_
 refine `iq (`aso `nz `nz) ?_;refine t8 (sr0 (items:=`asn) `fr Z) ?_;refine `yO [`asp,`nz,`sH,s3,`f!,.un,.un,.un,.un] (V7 (d:=`jL) (ec _ `g0 rfl rfl));refine t8 (δ':=`a!I) (V7 (d:=`g `I1) (by
  rw[`h3 `jL `Wp (O (q:=m) rfl),a3];exact `a!g)) ?_
 skip;obtain⟨δ5,h5⟩:∃δ5:Ds,δ5=`a!I:=`ah;done;rw[← h5];have a1:∀{g h:GE} {δ:Ds} {i:Int},`anW->h δ=`BF->ob (o2 g h neD) δ=`bY:=λ{g h δ i} a b=>`mg (by
  rw[o5 a b];show `y_ (!`ap (i=i));rw[`y1];rfl)
 refine t8 (δ':=δ5) (by
  rw[W5 (by
   unfold z90;rw[a1 (i:=`I1) (by
    rw[`lk [BL (`I0 J)] (by rw[`Wq (xs:=`Xu `g) (n:=J) `HH `HH,jy0])];exact Mq0 F J b0) `HH,`q,`dS]
   refine a1 (i:=`vt) ?_ (O (q:=m) `HH);obtain⟨b,hb⟩:∃b:Nat,`b9=`asq:=#[(`asq).toNat,`F];rw[Z1 (ds:=[BL (m++[b])]) (`aW (by
    rw[o5 (x:=BL m) (y:=BL [b]) `HH (by rw[h5];show `GC [`g (`asq)];rw[← hb];rfl),`acC (by rw[`S,`S,yz0,yz0,`d2];lia),← `aU,← v70]) rfl)]
   exact Pp0 F b `j)]
  rfl) ?_
 rw[h5];refine `iq (`Di `sH .un) ?_;skip;have ip:=Lr0 (zs p);have same:∀(s7:Sl) (Ga:GS),ifD `a'o Ga t7 `a!J=`ay `a!J:=λs7 Ga=>by
  rw[W5 (`mg (by
   rw[`aL (BL p) (BL p) rfl];exact Hu0 ip))]
  rfl
 rcases Mg0 p pb `j with⟨E,g,GE,hw,hu⟩|⟨n,hn,hu,a2,Y⟩
 ·done;refine t8 (δ':=(`Di `sH `rx)) (V7 (d:=`y) (by
   apply `asr;exact Ty0 hu)) ?_
  refine t8 (same _ _) `gU;apply `yJ;apply `qa;rw[o5 (x:=BL p) (y:=BL p) (by
   rw[Z1 (ds:=[`Nu]) (`aW (by
    apply `asr;unfold sj0;rw[hu]) rfl)]
   exact U60 (m:=343) `cZ g hw GE a7) rfl]
  exact Hm0 ip
 ·done;refine t8 (δ':=`a!K) (V7 (d:=`eQ) (by
   apply `asr;exact oe0 hu)) ?_
  skip;obtain⟨δ,hδ⟩:∃δ:Ds,δ=`a!K:=`ah;done;refine t8 (same _ _) ?_;rw[← hδ];have g7:gv 7 δ=`sF:=`lh
  have g2:`MS=`c (BL p):=`lh
  refine t8 (δ':=δ) (by
   rw[W5 (`mg (`aF (`aL `eQ `y g7)))];rfl) ?_
  have a8:leD `qA `qB=`hb:=`lj (`eJ (`eh<=`bv)) `jH
  have a6:leD `qB (`g `ad1)=`hb:=`lj (`eJ (`bv<=`ad1)) `jH
  refine t8 (δ':=δ) (by
   rw[W5 (by
    unfold z90;rw[show ob (wh0 `Rz `hg) δ=`bY from `mg (by unfold wh0;rw[g7];rfl),`q,`dS];unfold zp0;rw[show ob `a'p δ=`e9 from `mg (by
     unfold vm0;simp only[`bX (gc `qA δ=`c `qA),g7,O g2,`q,a8,a6];rfl)]
    rfl)]
   rfl) ?_
  refine t8 (δ':=δ) (by
   rw[W5 (`mg (by
    have e1:`a!L=`xs∨`a!L=`sF:=by
     rw[`lk [BL (`_q n)] (by rw[`Wq g2 g7,jy0])];exact a2
    have e2:yk0 `a'q δ=`c (`C `aDg):=vk0 (`kE rfl g7) `Ux;rcases e1 with e1|e1
    ·rw[o5 e1 e2]
     rfl
    ·rw[o5 e1 e2]
     show `y_ (xor `d `a!M);have:`a!M=`d:=l4.mpr #[`eQ,`a7,`xz rfl];rw[`x];rfl))]
   rfl) ?_
  by_cases hnl:n=`rT
  ·refine d8 ?_
   rw[O9 (`mg (by
    rw[`a!N];apply `a!O;rw[`jH]))]
   exact `t6
  ·refine t8 (δ':=δ) (by
    rw[W5 (`mg (by
     rw[`a!N];apply `a!O;rw[`hs]))]
    rfl) ?_
   let#[t,tb,tl,te]:=Kc0 c hc δ (`lh) (`lh);refine t8 (V7 te) `mV;rw[hδ];have b2:(`s `ass)<=`rT:=`abQ
   rw[o5 (x:=`eQ) (y:=`eQ) (by
    rw[Z1 (ds:=[BL (`ass++t)]) (`aW (by
     rw[`aL (BL (`ass)) (BL t) (by rw[`Wq (xs:=`a!k) (n:=n+1) rfl rfl,jy0]),`a!l,← `aU,← v70]) rfl)]
    exact Y `j t) rfl]
   show `eJ (`bv=`bv);rw[`y1]
universe Qk
namespace Qk
open L2 DL Rk
open Bt (zf0 W0 vo0 y50 u40 R4 wo0 zs0 vb0 O1 u70 zw0 wu0 M9 tc0 zv0)
def top(i:Nat):`a1:=PySem.Challenge.pw_graphpack_k30_whole_each_web_has_one_pac.main.body.getD i `ast
def b_bool:`sq `x5 `x5:=`bb
def b_int:`sq `jk `jk:=`bb
def b_list:`aSt:=`bb
def b_ord:`q9 "ord"=`c `aHJ:=`bb
def b_str:`sq `jp `jp:=`bb
def b_tuple:`aY!:=`bb
def b_zip:`q9 `j3=`c `FP:=`bb
structure Txt(mg:`a3):Prop where
 b_bool:mg `x5=`f
 b_enumerate:mg `o_=`f
 b_int:mg `jk=`f
 b_isinstance:mg `x6=`f
 b_len:mg `vQ=`f
 b_list:mg `fX=`f
 b_ord:mg "ord"=`f
 b_range:mg `vw=`f
 b_reversed:mg `ov=`f
 b_str:mg `jp=`f
 b_tuple:mg `er=`f
 b_zip:mg `j3=`f
 c_BASE:`qt "BASE" `g 128
 c_MOST_NAMES:`qt `a!P `g 60
 c_MOST_NAME_SIGNS:`qt `a!Q `g 8
 c_MOST_PARTS:`qt `a!R `g 60
 c_MOST_VALUES:`qt `a!S `g 12
 c_MOST_WORD_SIGNS:`qt `a!T `g 20
 c_NAME_SIGNS:`qt `a!U `u `B_
 c_WORD_SIGNS:`qt `a!V `u `B2
def meth(i k:Nat):`a1:=match top i with
 | `a!W=>body.getD k `ast
 | s=>s
def ini(i:Nat):`a1:=match top i with
 | `a!W=>body.getD 0 `ast
 | s=>s
theorem dm0:`aN `kz `kz `a!X:=#[rfl,rfl,rfl,`bb,rfl,`bb,`bb]
theorem fsc{P:`i}(a:`aIK)(b:`aIL)(c:`aIM)(d:`aIN)(e:`Pj/\(∀x∈P,`afb)/\∀y∈`P_,`aIO):`aN N P sc:=#[a,b,c,e.1,d,e.2.1,e.2.2]
theorem cok(a:`aLc)(b:`aLg)(c:(∀y∈`g7,`aLd)/\(∀y∈`g7,`aLe)/\(∀y∈`g7,`aLf)/\N'.Nodup/\∀k∈`bP `wk,`aLh):`tE:=#[a,c.1,c.2.1,c.2.2.1,c.2.2.2.1,b,c.2.2.2.2]
section
variable{P:`ai}{w:`Q}
theorem v40:`aN y00 `hd (t6 `asu):=`az
theorem ix0(F:`as `NB `NB `asu)(T:`av)  : `am 1 `hd (spN K U0) :=
 okN (k:=0) (G:=zz0) F v40 (λcdv A outer s H E hr=>(v6 (un0 1 (ym0 (v5 (Z0 `aG `qu) u5)) v40.nd)
   (v6 (`a!Y `aG)
   (v6 (l20 100000 M0 (`OC `bi)
   (v6 (T7 (md0 1 (d9 `qu (Z0 `bi `qu))))
   (v6 (`a!Y `bi)
   u9)))
   (v6 (Uy0 (kz0 `xa `asv `aO))
   u9))))) `nA
theorem Tc0:`aN s50 `hd (t6 `asw):=`az
theorem Sw0(F:`as `Wu `Wu `asw)(T:`av)  : `am 1 `hd (spD K v90) :=
 okD (k:=0) (G:=tq0) F Tc0 (λcdv A outer s H E hr=>(v6 (X7 (`uc `aG v7)
   (v6 (Z4 (z40 (Q6 `ad2 `aG) v7))
   u9)
   u9)
   (v6 (Z4 (Q6 v7 `aG))
   u9))) `dI
theorem Y80:`aN il0 `hd (t6 `asx):=`az
theorem Yg0(F:`as `Wv `Wv `asx)(T:`av)  : `am 1 `hd (spD K rr0) :=
 okD (k:=0) (G:=gc0) F Y80 (λcdv A outer s H E hr=>(v6 (X7 `zl
   (v6 (Z4 (z40 (wp0 `AN) v7))
   u9)
   u9)
   (v6 (Z4 `AN)
   u9))) `dI
theorem Ye0:`aN jo0 `p! (t6 `asy):=`az
theorem Yk0(F:`as `Ww `Ww `asy)(T:`av)  : `am 1 `p! (spD K vr0) :=
 okD (k:=0) (G:=iy0) F Ye0 (λcdv A outer s H E hr=>(v6 (Z4 (co0 (qs0 L80 b_int `OA T.b_int `aG) (iw0 (Io0 (`a!Z `aG)))))
   u9)) `dI
theorem dx0:`Wx J2 `Wy:=`az
theorem dh0(F:`as `Wz `Wz `Wy)(T:`av)  : `am 1 `el (spN K vc0) :=
 okN (k:=0) (G:=mo0) F dx0 (λcdv A outer s H E hr=>(v6 (X7 (`zm `zn `zn)
   (v6 (ze0 `sY)
   u9)
   u9)
   (v6 (ze0 (ct0 (sc:=t6 `Wy) (N:=J2) (N':=[`Z3]) (n:=1) (caps:=[]) `nB `v `a!_ (`zo [`Z3]) `HI (`gV `n7)))
   u9))) `nA
theorem Vq0:`aN ew0 `p! (t6 `asz):=`az
theorem Va0(F:`as `WA `WA `asz)(T:`av)(C_is_whole:`hc `Ww `p! vr0):`am 2 `p! (spD K w80) :=
 okD (k:=1) (G:=d40) F Vq0 (λcdv A outer s H E hr=>(v6 (Z4 (co0 (O8 C_is_whole hr `v `op) (iw0 (Pe0 jp0 l60 jp0 l60 v7 `aG v7))))
   u9)) `dI
theorem ip0:`aN e20 `acG (t6 `asA):=`az
theorem Vd0(F:`as `NM `NM `asA)(T:`av)  : `am 1 `acG (spD K vf0) :=
 okD (k:=0) (G:=e40) F ip0 (λcdv A outer s H E hr=>(v6 (rz0 M0 rfl (Yv0 `aO) (m5 2 ip0.nd)
   (v6 (X7 (o9 W4 Z7 (`a!0 `eT) `aG)
   (v6 (Z4 `bi)
   u9)
   u9)
   u9))
   (v6 (Z4 u20)
   u9))) `dI
theorem Zb0:`aN kh0 `T3 (t6 `asB):=`az
theorem Zd0(F:`as `WB `WB `asB)(T:`av)  : `am 1 `T3 (spD K wt0) :=
 okD (k:=0) (G:=kr0) F Zb0 (λcdv A outer s H E hr=>(v6 (X7 `ud
   (v6 (Z4 `a!1)
   u9)
   u9)
   (v6 (Z4 (zh0 T.c_MOST_VALUES))
   u9))) `dI
theorem iu0:`aN o30 `T4 (t6 `asC):=`az
theorem h50(F:`as `WC `WC `asC)(T:`av)  : `am 1 `T4 (spD K vq0) :=
 okD (k:=0) (G:=px0) F iu0 (λcdv A outer s H E hr=>(v6 (X7 `ud
   (v6 `a!2
   u9)
   u9)
   (v6 (X7 `ud
   (v6 `a!2
   u9)
   u9)
   (v6 (X7 `ud
   (v6 (Z4 `a!3)
   u9)
   u9)
   (v6 (Z4 (d9 (w50 `DQ) `a!3))
   u9))))) `dI
theorem ac0:`aN kk0 `NL (t6 `asD):=`az
theorem bn0(F:`as `NK `NK `asD)(T:`av)(C_made_pairs:`hc `WD `T7 vj0):`am 2 `NL (spD K K1) :=
 okD (k:=1) (G:=kn0) F ac0 (λcdv A outer s H E hr=>(v6 (X7 `ud
   (v6 (Z4 (xv0 (`em j9 (Xu0 j9 `fK))))
   u9)
   u9)
   (v6 (X7 `ud
   (v6 (Z4 (xv0 (`em j9 (`asE `fK))))
   u9)
   u9)
   (v6 (X7 `ud
   (v6 (Z4 (xv0 (`em j9 (O8 `a!4 hr `v `fK))))
   u9)
   u9)
   (v6 (Z4 (`WE (`em `WF (`eK `a!4 (v5 (M7 `aO `ad3 M3) u5)))))
   u9))))) `dI
theorem dg0:`aN m30 `T7 (t6 `asF):=`az
theorem dk0(F:`as `WD `WD `asF)(T:`av)  : `am 1 `T7 (spD K vj0) :=
 okD (k:=0) (G:=l90) F dg0 (λcdv A outer s H E hr=>(v6 (Z4 (Ui0 gs0 Tb0 `DS T.b_zip `DR b_zip (`em `a!5 `a!5)))
   u9)) `dI
theorem rj0:`aN m80 `acH (t6 `WG):=`az
theorem Vf0(F:`as `NN `NN `WG)(T:`av)  : `am 1 `acH (spD K yv0) :=
 okD (k:=0) (G:=eh0) F rj0 (λcdv A outer s H E hr=>(v6 (Y6 v7 (m5 3 rj0.nd))
   (v6 (rz0 M0 rfl (yq0 `qv (v5 (z40 `aO `HJ) u5)) (m5 4 rj0.nd)
   (v6 (Y6 (Q6 `uI (G4 `hz `a!6)) (m5 3 rj0.nd))
   u9))
   (v6 (Z4 (sk0 pg0 sq0 (G4 `hz (v5 (gh0 (sc:=t6 `WG) (N:=m80) (N':=`a!7) (n:=1) (caps:=[1,2]) `nB `v (Z90 `aG) (`zo `a!7) (`gV (Nr0 (`asG (o9 W4 Z7 `NF `aO) (zx0 (P50 PySem.F.slot_str_startswith PySem.F.type_str_startswith Uf0 Ul0 U00 `aG `eT))))) (`gV `aG)) u5)) `uI))
   u9)))) `dI
theorem q30:`aN if0 [`i7] (t6 `asH):=`az
theorem Ki0(F:`as `WH `WH `asH)(T:`av)(C_held_items:`Dj `WI `el J3)(C_is_new:`a!8)(C_item_bytes:FnN P w K mg `ao `WJ 3 `asI zl0):`am 4 [`i7] (spN K sn0) :=
 okN (k:=3) (G:=ju0) F q30 (λcdv A outer s H E hr=>(v6 (un0 1 `sY `HK)
   (v6 (un0 2 db0 `HK)
   (v6 (un0 3 db0 `HK)
   (v6 (un0 4 (ym0 (v5 (`WE `sK) u5)) `HK)
   (v6 (l20 100000 M0 (`OC (a90 `asJ))
   (v6 (wi0 (Jo0 4) (ir0 (m5 5 `HK)))
   (v6 (T7 (ad0 1 (PDF.pd (Qn0 (q80 C_item_bytes hr `v (v5 `aG (v5 `sI (v5 `bi `pn))))))))
   (v6 (X7 (`a!9 `sI)
   (v6 (T7 (H70 3 `sI (a90 (`ad5 `pn))))
   u9)
   (v6 (X7 (zx0 (M50 (`eK C_is_new (v5 `sI `eT))))
   (v6 (wi0 (W9 (a90 (`ad5 `eT))) (lj0 2 `lM `a!'))
   (v6 (T7 (ad0 4 (PDF.pd (kz0 `xa `asv (`HL C_held_items (V1 `aG `a!'))))))
   u9))
   u9)
   u9))
   u9))))
   (v6 (kv0 1)
   u9))))))) `nA
theorem Se0:`aN to0 `kJ (t6 `asK):=`az
theorem T40(F:`as `NA `NA `asK)(T:`av)  : `am 1 `kJ (spD K zi0) :=
 okD (k:=0) (G:=ow0) F Se0 (λcdv A outer s H E hr=>(v6 (Z4 (co0 `a!! (iw0 (Mb0 `lM `n7 `aO))))
   u9)) `dI
theorem nq0:`aN t80 `asI (t6 `asL):=`az
theorem dj0(F:`as `WJ `WJ `asL)(T:`av)(C_is_new:`a!8)(C_known_head:`NJ `WK `kJ zo0)(C_name_bytes:FnN P w K mg `ao `WL 2 `Gg xn0)(C_number_bytes:`a!?)(C_part_number:`hc `WM `el z60)(C_text_bytes:FnN P w K mg `ao `WN 2 `el zk0):`am 3 `asI (spN K zl0) :=
 okN (k:=2) (G:=uy0) F nq0 (λcdv A outer s H E hr=>(v6 (X7 (`a!9 `aO)
   (v6 (`WO C_name_bytes (v5 `aO `pn))
   u9)
   u9)
   (v6 (X7 (zx0 (`asM C_is_new))
   (v6 (Y6 (V1 `aG `WF) (m5 4 nq0.nd))
   (v6 (ze0 (W00 (`HL `WP (`HM (O8 C_part_number hr `v `ad4))) (so0 C_text_bytes hr `v `ad4)))
   u9))
   u9)
   (v6 (`WO `WP (v5 (`asM C_known_head) u5))
   u9)))) `nA
theorem do0:`aN t50 `Gg (t6 `asN):=`az
theorem dz0(F:`as `WL `WL `asN)(T:`av)(C_number_bytes:`a!?)(C_sign_bytes:`a?a):`am 2 `Gg (spN K xn0) :=
 okN (k:=1) (G:=tg0) F do0 (λcdv A outer s H E hr=>(v6 (X7 (Lf0 `lM `aG `aO)
   (v6 (`WO `WP (v5 (Q6 v7 (`a?b `aG)) u5))
   u9)
   u9)
   (v6 (ze0 (W00 (`HL `WP (`HM `NF)) (so0 `a?c hr `v `op)))
   u9))) `nA
theorem de0:`aN y80 `wP (t6 `WQ):=`az
theorem c00(F:`as `NC `NC `WQ)(T:`av)  : `am 1 `wP (spN K P0) :=
 okN (k:=0) (G:=xm0) F de0 (λcdv A outer s H E hr=>(v6 (ze0 (ct0 (sc:=t6 `WQ) (N:=y80) (N':=[`o5]) (n:=1) (caps:=[]) `nB `v (Yv0 `aG) (`zo [`o5]) `HI (`gV (`a!0 `op))))
   u9)) `nA
theorem fe0:`Wx yn0 `asO:=`az
theorem gk0(F:`as `WM `WM `asO)(T:`av)(K_KINDS:`asP):`am 1 `el (spD K z60) :=
 okD (k:=0) (G:=yo0) F fe0 (λcdv A outer s H E hr=>(v6 (Z4 (d9 (Q6 v7 (G4 `hz (v5 `aDh u5))) (Kg0 K_KINDS `asQ)))
   u9)) `dI
theorem dr0:`Wx xx0 `asR:=`az
theorem di0(F:`as `WN `WN `asR)(T:`av)(C_sign_bytes:`a?a):`am 2 `el (spN K zk0) :=
 okN (k:=1) (G:=xo0) F dr0 (λcdv A outer s H E hr=>(v6 (X7 `zn
   (v6 (`WO `a?c `asQ)
   u9)
   u9)
   (v6 (ze0 `sY)
   u9))) `nA
theorem dp0:`aN th0 `kJ (t6 `asS):=`az
theorem dn0(F:`as `WK `WK `asS)(T:`av)(C_folded:`hc `Wu `hd v90):`am 2 `kJ (spD K zo0) :=
 okD (k:=1) (G:=t00) F dp0 (λcdv A outer s H E hr=>(v6 (X7 (`ad? `aG)
   (v6 (Z4 v7)
   u9)
   u9)
   (v6 (X7 (zx0 `a!!)
   (v6 (Z4 (`HM (`a?b `n7)))
   u9)
   u9)
   (v6 (Z4 (`HM (O8 C_folded hr `v `op)))
   u9)))) `dI
theorem re0:`Wx w40 `asT:=`az
theorem du0(F:`as `WI `WI `asT)(T:`av)  : `am 1 `el (spN K J3) :=
 okN (k:=0) (G:=w70) F re0 (λcdv A outer s H E hr=>(v6 (X7 `zn
   (v6 (ze0 `sY)
   u9)
   u9)
   (v6 (X7 `zn
   (v6 (ze0 (Q20 `xa `ad6 `n7))
   u9)
   u9)
   (v6 (un0 1 `sY re0.nd)
   (v6 (X7 `zn
   (v6 (T7 (md0 1 `n7))
   u9)
   u9)
   (v6 (rz0 M0 rfl `a!_ (m5 2 re0.nd)
   (v6 (T7 (ad0 1 `a?d))
   u9))
   (v6 (kv0 1)
   u9))))))) `nA
theorem kl0:`aN hf0 `HN (t6 `asU):=`az
theorem Yf0(F:`as `HO `HO `asU)(T:`av)(M_Reader:`a?e P)(C_Reader_give:`a?f P)(C_Reader_web:`a?g P):`sr 8 `HN (spX K K5) :=
 okX (k:=7) (G:=yt0) F kl0 (λcdv A outer s H E hr=>(yr0 (ar0 (Tq0 1 kl0.nd M_Reader hr `v))
   (yr0 (P70 (Rw0 1 C_Reader_give hr `v `op))
   (yr0 (Rt0 (R80 1 C_Reader_web hr `v))
   uf0))))
theorem ic0:`aN xl0 `wR (t6 `asV):=`az
theorem i70(F:`as `NE `NE `asV)(T:`av)  : `am 1 `wR (spD K W0) :=
 okD (k:=0) (G:=zf0) F ic0 (λcdv A outer s H E hr=>(v6 (X7 (`uc `aO `NF)
   (v6 (Z4 (V1 `aG `aO))
   u9)
   u9)
   (v6 (Z4 v7)
   u9))) `dI
theorem q90:`aN pm0 `nC (t6 `asW):=`az
theorem cr0(F:`as `BP `BP `asW)(T:`av)  : `am 1 `nC (spB K 0 R4) :=
 okB (k:=0) (G:=u40) F q90 (λcdv A outer s H E hr=>(u6 (`ht `zp 1 q90.nd)
   (u6 (Z9 (wi0 (W9 `HP) (Q50 0 `lM j9)))
   (u6 (`ht `zp 2 q90.nd)
   (u6 (O6 (`uc `aO `HJ)
   (u6 (`ln (Z0 (V1 `bi `aO) `WR))
   o7)
   o7)
   (u6 (`ln (Z0 (Q6 (d9 (d9 (Z0 (V1 `bi (Z0 `aO `HJ)) v7) (Q6 (Q6 v7 `aO) `aO)) v7) v7) v7))
   o7)))))) `en
theorem M8:`aN qq0 `asX (t6 `asY):=`az
theorem dw0(F:`as `WS `WS `asY)(T:`av)  : `am 1 `asX (spN K y50) :=
 okN (k:=0) (G:=vo0) F M8 (λcdv A outer s H E hr=>(v6 (Y6 j9 (m5 2 `sJ))
   (v6 (Y6 j9 `a?h)
   (v6 (rz0 M0 rfl (yq0 `qv `sK) (m5 4 `sJ)
   (v6 (Y6 (d9 `uI (`asZ (Y5 `aG (d9 (Q6 `mY `mY) v7)))) `a?h)
   u9))
   (v6 (Y6 `ND (m5 5 `sJ))
   (v6 (un0 6 `sY `sJ)
   (v6 (rz0 M0 rfl (yq0 `qv `fK) (m5 7 `sJ)
   (v6 (Y6 (`asZ (d9 `aG `iv)) `a?i)
   (v6 (Y6 (d9 `WT (`asZ (d9 `AN (Y5 `iv v7)))) `a?i)
   (v6 (X7 `zl
   (v6 (`a?j `a?k)
   u9)
   (v6 (X7 `zl
   (v6 (`a?j (Q7 (Z0 `iv v7)))
   u9)
   (v6 (T7 (md0 6 (M7 `WT M3 (Q7 (d9 v7 (v60 Sg0 Jg0 T.b_int b_int (v5 (sk0 p90 sm0 `iv v7) u5)))))))
   u9))
   u9))
   u9))))
   (v6 (kv0 6)
   u9)))))))) `nA
theorem f60:`aN rb0 `Gc (t6 `as_):=`az
theorem ft0(F:`as `WU `WU `as_)(T:`av)  : `am 1 `Gc (spD K zs0) :=
 okD (k:=0) (G:=wo0) F f60 (λcdv A outer s H E hr=>(v6 (X7 (zx0 `aO)
   (v6 (`a?l `aG)
   u9)
   u9)
   (v6 (X7 `zl
   (v6 `a?m
   u9)
   u9)
   (v6 (X7 `zl
   (v6 `a?m
   u9)
   u9)
   (v6 (`a?l `AN)
   u9))))) `dI
theorem ny0:`aN t70 `nC (t6 `as0):=`az
theorem dy0(F:`as `HQ `HQ `as0)(T:`av)(C__law_next:`as1)(C__law_number:`hc `WU `Gc zs0):`am 2 `nC (spB K 0 O1) :=
 okB (k:=1) (G:=vb0) F ny0 (λcdv A outer s H E hr=>(u6 (`as2 1 ny0.nd)
   (u6 (O6 `qw
   (u6 (Y8 (W9 u20))
   o7)
   o7)
   (u6 (O6 (`uc `Xr v7)
   (u6 (`ln (`eK C__law_number (`em `j1 `zp)))
   o7)
   o7)
   (u6 (`ln (xv0 (`em j9 (Z0 `j1 `zp))))
   o7))))) `en
theorem qt0:`aN s90 `WV (t6 `WW):=`az
theorem Zn0(F:`as `WX `WX `WW)(T:`av)(C__law_next:`as1):`am 2 `WV (spB K 0 zw0) :=
 okB (k:=1) (G:=u70) F qt0 (λcdv A outer s H E hr=>(u6 (`ht j9 2 qt0.nd)
   (u6 (`as2 3 qt0.nd)
   (u6 (`ln (Xu0 j9 (v5 (gh0 (sc:=t6 `WW) (N:=s90) (N':=`a?n) (n:=1) (caps:=[2,3]) `nB `v (yq0 `qv `fK) (`zo `a?n) `HI (`gV (V1 `aO (Z0 (d9 (Y5 `bi (d9 `aG v7)) (Q6 `aG `aG)) v7)))) u5)))
   o7)))) `en
theorem zn0:`aN xb0 `nC (`as3):=`az
theorem bw0(F:`as `HR `HR `_s)(T:`av)(C__law_next:`as1)(C__law_value:`_r `HQ 2 O1)(C__law_word:`a?o P):`am 3 `nC (spB K 0 M9) :=
 okB (k:=2) (G:=wu0) F zn0 (λcdv A outer s H E hr=>(u6 (`as2 1 `wQ)
   (u6 (Z9 (Y6 `Dk `a?p))
   (u6 (Z9 (X7 (oi0 (zx0 `zp))
   (v6 (Y6 (V1 (w50 (v5 `Dk (v5 `Dk `a?q))) `Dk) `a?p)
   u9)
   u9))
   (u6 (O6 `qw
   (u6 (Y8 (Is0 j9 (tp0 0 C__law_word `ad7 hr `v (pab 0 `a?q))))
   o7)
   o7)
   (u6 (Z9 (Q30 0 0 3 rfl `wQ (sc:=`as3) (N:=xb0) (N':=`ad8) (n:=1) (caps:=[0]) `nB `v (yq0 `qv `eT) `a?r (`gV (`a?s C__law_value))))
   (u6 (O6 `qw
   (u6 (`ln (xv0 (`em j9 (`asE `pn))))
   o7)
   o7)
   (u6 (`ht `zp 4 `wQ)
   (u6 (`ht (d9 v7 (Z0 `j1 (z40 `asJ v7))) 5 `wQ)
   (u6 (`ht (`asE (v5 (gh0 (sc:=`as3) (N:=xb0) (N':=`a?t) (n:=2) (caps:=[1,4,5]) `nB `v (Qk0 T.b_enumerate `pn) (`gV (Pu0 0 1 (`bb:(`a?t:`i).Nodup) `v)) `HI (`gV (xv0 (v5 (V1 `uI (Z0 (d9 `K5 (Q6 `aG `mY)) (G4 `hz `pn))) `fK)))) u5)) 6 `wQ)
   (u6 (O6 `qw
   (u6 (`ln (`WE `as4))
   o7)
   o7)
   (u6 (`ln (`WE (v5 (V1 `mY (Z0 `j1 `asJ)) `as4)))
   o7)))))))))))) `en
theorem po0:`aN rl0 `as5 (t6 `WY):=`az
theorem Ya0(F:`as `WZ `WZ `WY)(T:`av)(C__law_cell_at:`a?u)(C__law_names:`Dj `WS `asX y50)(C__law_part:`_r `HR 3 M9):`am 4 `as5 (spD K zv0) :=
 okD (k:=3) (G:=tc0) F po0 (λcdv A outer s H E hr=>(v6 (Y6 (`eK `as6 (v5 `aG `fK)) (m5 2 po0.nd))
   (v6 (un0 3 (Uo0 (j00 j9 v7 (j00 j9 (d9 (M7 `aG (Q7 `HP) M3) (w50 `eT)) (j00 j9 (sk0 W4 Z7 `as7 v7) Kb0)))) po0.nd)
   (v6 (`as8 (d9 v7 `a?v))
   (v6 (X7 (zx0 (vn0 3 `lM j9))
   (v6 (`as8 (d9 v7 `as7))
   u9)
   u9)
   (v6 (`as8 (so0 C__law_names hr `v (`em (Z0 `K5 `WR) (V1 (w50 `a?w) `as7))))
   (v6 (O10 (Uk0 wq0 h00 `DS `DR (Nv0 3 0 rfl (sc:=t6 `WY) (N:=rl0) (N':=`ad8) (n:=1) (caps:=[3]) `nB `v (yq0 `qv (v5 (vn0 3 `lM j9) u5)) `a?r (`gV (`a?s C__law_part)))))
   u9))))))) `dI
theorem m60:`aN kg0 `as9 (t6 `as'):=`az
theorem Z20(F:`as `W_ `W_ `as')(T:`av)  : `am 1 `as9 (spD K u60) :=
 okD (k:=0) (G:=ko0) F m60 (λcdv A outer s H E hr=>(v6 (Y6 (w50 (`HS `HP (`HS v7 (`HS v7 (`HS v7 (v5 (z40 `aO v7) (v5 `HP (`HS `HP `a?w)))))))) (m5 2 m60.nd))
   (v6 (X7 `zl
   (v6 (Z4 (Z0 (V1 `bi `ND) v7))
   u9)
   u9)
   (v6 (Z4 `ND)
   u9)))) `dI
theorem uw0:`aN kf0 `as! (t6 `as?):=`az
theorem Zr0(F:`as `W0 `W0 `as?)(T:`av)(C__law_byte:`hc `W_ `as9 u60):`am 2 `as! (spD K wv0) :=
 okD (k:=1) (G:=pn0) F uw0 (λcdv A outer s H E hr=>(v6 (Y6 (Z0 `j1 `a?x) (m5 2 uw0.nd))
   (v6 (Y6 (`eK C__law_byte (`em (Y5 `j1 `a?x) (V1 (d9 `aG (w50 `sK)) `bi))) (m5 3 uw0.nd))
   (v6 (Y6 `Xr (m5 4 uw0.nd))
   (v6 (X7 (`uc `mY v7)
   (v6 (Z4 (d9 `a?y `a?z))
   u9)
   u9)
   (v6 (X7 `ata
   (v6 (Z4 (d9 `a?y (M7 `aG `aDi M3)))
   u9)
   u9)
   (v6 (X7 `ata
   (v6 (Z4 (d9 `ad9 `a?z))
   u9)
   u9)
   (v6 (X7 `ata
   (v6 (Z4 `ad9)
   u9)
   u9)
   (v6 (Z4 (v60 tf0 fv0 `xa `ad6 `op))
   u9))))))))) `dI
theorem v20:`aN o70 [`mh] (t6 `atb):=`az
theorem i10(F:`as `W1 `W1 `atb)(T:`av)(XT:`abl K mg `atc rr `NG [])(X_unpacked:`a?A P)(AT:∀c∈`a?B,`alJ):`am 9 [`mh] (spD K X3) :=
 okD (k:=8) (G:=vp0) F v20 (λcdv A outer s H E hr=>(v6 (Y6 u20 (m5 1 v20.nd))
   (v6 (Ob0 2 XT `v (λpn xe=>(yr0 (Uv0 X_unpacked hr `v `op)
   uf0))
   (λea=>(v6 (Ng0 1 2 v20.nd)
   u9)) v20.nd)
   (v6 (X7 (My0 1)
   (v6 (Z4 u20)
   u9)
   u9)
   (v6 (Z4 (Gn0 1 AT))
   u9))))) `dI
theorem u80:`aN U70 [`n3] (t6 `sL):=`az
theorem J90(F:`as `pc `pc `sL)(T:`av)(C__law_bent:`NJ `W0 `as! wv0)(C__law_cell_at:`a?u)(C__law_refused:FnD P w K mg `ao `W1 9 [`mh] X3)(C__law_web:FnD P w K mg `ao `WZ 4 `as5 zv0)(C_pack:FnN P w K mg `ao `WH 4 [`i7] sn0)(C_unpacked:FnD P w K mg `ao `HO 8 `HN (sj0 K5)):`am 10 [`n3] `a?C :=
 okD (k:=9) (G:=Wo0) F u80 (λcdv A outer s H E hr=>(v6 (`HT (`HL C_pack (`eK C__law_web (v5 `aG `sK))) 1)
   (v6 (Y6 `aO `a?D)
   (v6 (rz0 M0 rfl (yq0 `qv `sK) (m5 3 `NH)
   (v6 (Y6 (`eK C__law_bent (`em `bi (Z0 (`eK `as6 (v5 `aG `pn)) `WR))) `a?D)
   u9))
   (v6 (`HT (Z0 (`eK `as6 (v5 `aG `sK)) `WR) 4)
   (v6 (`HT (Z0 `mY (G4 `hz `fK)) 5)
   (v6 (X7 (`zm (o9 Nc0 Us0 (`eK `HU (v5 (M7 `aO M3 `a?k) u5)) `sI) (o9 Nc0 Us0 (`eK `HU (v5 (d9 `aO (w50 `a?E)) u5)) (G4 `hz `fK)))
   (v6 `HV
   u9)
   u9)
   (v6 (`HT `a?d 6)
   (v6 (`HT (O8 `HU hr `v `as4) 7)
   (v6 (X7 (o9 (J20 `ah1) Nj0 (z8 6) `bi)
   (v6 `HV
   u9)
   u9)
   (v6 (X7 (`ad? `iv)
   (v6 (Z4 (sk0 (Jm0 `ah1) Lh0 (`HL C_pack (O8 C_unpacked hr `v `eT)) `bi))
   u9)
   u9)
   (v6 (X7 (`zm (zx0 (`a!Z `iv)) (oi0 (Rp0 jp0 l60 jp0 l60 v7 `iv `HJ)))
   (v6 `HV
   u9)
   u9)
   (v6 (X7 (o9 cs0 (ec0 `d) (`eK `HU (v5 (M7 `bi M3 (Q7 `iv)) u5)) (xv0 (`em u20 `iv)))
   (v6 `HV
   u9)
   u9)
   (v6 (X7 (o9 W4 Z7 `iv `HJ)
   (v6 `HV
   u9)
   u9)
   (v6 (Qf0 8 `NH (sc:=t6 `sL) (N:=U70) (N':=`a?F) (n:=1) (caps:=[4]) `nB `v (yq0 `qv `a?E) (`zo `a?F) `HI (`gV (Z0 (Y5 `aO (d9 (Q6 `aG `aG) v7)) v7)))
   (v6 (Z4 (sk0 W4 Z7 (`eK `HU (v5 (d9 (M7 `bi M3 (Q7 (d9 `iv v7))) `WT) u5)) `iv))
   u9)))))))))))))))) `dI
theorem la0:`HW rf0 `zq:=`az
theorem mz0(F:`as `e0 `atd `zq)(T:`av)(CN_Reader:`fc):`am 1 `fT (spB K 0 z50) :=
 okB (k:=0) (G:=rg0) F la0 (λcdv A outer s H E hr=>(u6 `ate
   (u6 `atf
   (u6 `atf
   (u6 `atf
   (u6 (Z9 (p00 0 (ym0 `DQ) `qI))
   (u6 `ate
   (u6 `ate
   (u6 (Z9 (oz0 0 j9 `qI))
   o7))))))))) `en
theorem og0:`aN nt0 `W2 (t6 `zr):=`az
theorem fs0(F:`as `HX `atg `zr)(T:`av)(CN_Reader:`fc)(C_Reader_end_parts:`NI P `zs J8)(C_Reader_takes:`HY `zt 6 b8)(C_is_byte:`NJ `WA `p! w80)(I_NoPack:`a?G):`sr 7 `W2 (gq0 K 0 yl0) :=
 H80 (k:=6) (G:=uc0) F og0 `v (λcdv A outer s H E hr=>(n80 (W30 (Mp0 PassesOwn.leaving rfl (Z90 `aO) (m5 2 og0.nd)
   (yr0 (Xy0 (`a?H (oi0 (zx0 (O8 C_is_byte hr `v `eT))) (`gE lo0 C_Reader_takes `eT))
   (yr0 `a?I
   uf0)
   uf0)
   (yr0 (ar0 (Qv0 0 v7 `qI))
   (yr0 (ar0 (T7 (pd0 0 C_Reader_end_parts hr `v)))
   uf0)))))
   eu0))
theorem io0:`HW od0 `zu:=`az
theorem ih0(F:`as `wS `ath `zu)(T:`av)(CN_Reader:`fc):`am 1 `fT (spB K 0 S8) :=
 okB (k:=0) (G:=ty0) F io0 (λcdv A outer s H E hr=>(u6 (`ln (sk0 W4 Z7 `mZ v7))
   o7)) `en
theorem dv0:`HW ql0 `ue:=`az
theorem dt0(F:`as `i7 `ati `ue)(T:`av)(CN_Reader:`fc)(C_Reader_whole:`a?J)(C_made_part:`a?K)(I_NoPack:`a?G):`sr 3 `fT (gq0 K 0 xq0) :=
 H80 (k:=2) (G:=t40) F dv0 `v (λcdv A outer s H E hr=>(n80 (W30 (Xy0 (fr0 `a?L)
   (yr0 `a?I
   uf0)
   uf0))
   (n80 (Ic0 (Y8 (Pj0 0 `DS `DR (sc:=t6 `ue) (N:=ql0) (N':=`el) (n:=1) (caps:=[]) `nB `v `f0 (`zo `el) (`gV (`eK `a?M (v5 `n7 `asQ))))))
   eu0)))
theorem p70:`HZ o90 `zv:=`az
theorem ij0(F:`as `zt `atj `zv)(T:`av)(CN_Reader:`fc)(C_Reader_takes_digit:`HY `zw 4 T6)(C_Reader_takes_letter:`HY `zx 2 U8)(C_Reader_takes_name_number:`HY `zy 5 Y0)(C_Reader_takes_sign:`HY `zz 2 O3)(C_Reader_whole:`a?J):`am 6 `nD (spB K 0 b8) :=
 okB (k:=5) (G:=zy0) F p70 (λcdv A outer s H E hr=>(u6 (fo0 `a?L
   (u6 `eo
   o7)
   o7)
   (u6 (`ht `ad! 2 p70.nd)
   (u6 (O6 (`zm `atk `atk)
   (u6 (`gE Y8 C_Reader_takes_digit `fK)
   o7)
   o7)
   (u6 (O6 `atk
   (u6 (`gE Y8 C_Reader_takes_sign `fK)
   o7)
   o7)
   (u6 (O6 (`OC `mO)
   (u6 (`gE Y8 C_Reader_takes_letter `fK)
   o7)
   o7)
   (u6 (`gE Y8 C_Reader_takes_name_number `fK)
   o7))))))) `en
theorem ui0:`HZ t10 `zA:=`az
theorem py0(F:`as `zw `atl `zA)(T:`av)(CN_Reader:`fc)(C_Reader_goes_on:`a?N P)(C_Reader_takes_head:`a?O P):`am 4 `nD (spB K 0 T6) :=
 okB (k:=3) (G:=z10) F ui0 (λcdv A outer s H E hr=>(u6 (`ht (d9 (Q6 `mO `qu) (Z0 `aO `qu)) 2 ui0.nd)
   (u6 (O6 (`uc `aO `qu)
   (u6 (`gE Y8 C_Reader_takes_head `eT)
   o7)
   o7)
   (u6 (fo0 (`a?H `a?P (`gE lo0 C_Reader_goes_on `eT))
   (u6 `eo
   o7)
   o7)
   (u6 `a?Q
   (u6 `eo
   o7)))))) `en
theorem ka0:`aN qo0 `Gh (t6 `zB):=`az
theorem kc0(F:`as `H_ `atm `zB)(T:`av)(CN_Reader:`fc):`am 1 `Gh (spB K 0 J7) :=
 okB (k:=0) (G:=ug0) F ka0 (λcdv A outer s H E hr=>(u6 (`ln (Gc0 (sk0 W4 Z7 `ad! j9) (iw0 (sk0 jp0 l60 (Q6 `aO `qu) (`HM (Q6 v7 `a!1))))))
   o7)) `en
theorem uz0:`aN tl0 `W3 (t6 `zC):=`az
theorem ov0(F:`as `H0 `atn `zC)(T:`av)(CN_Reader:`fc)(K_KINDS:`asP)(C_Reader_hold:`H1)(C_Reader_takes_part:`a?R P)(C_unfolded:`hc `Wv `hd rr0):`am 3 `W3 (spB K 0 V8) :=
 okB (k:=2) (G:=J0) F uz0 (λcdv A outer s H E hr=>(u6 (`ht `j1 2 uz0.nd)
   (u6 (O6 `qw
   (u6 (`gE Y8 C_Reader_takes_part (`em (It0 K_KINDS `a?v) `K5))
   o7)
   o7)
   (u6 (O6 `ato
   (u6 `eo
   o7)
   o7)
   (u6 (O6 `qw
   (u6 (Z9 (`gE T7 `xb (v5 (O8 C_unfolded hr `v `eT) u5)))
   o7)
   (u6 (O6 (`asG `qw (`uc `bi `mZ))
   (u6 (Z9 (`gE T7 `xb (v5 (xv0 (`em j9 (z40 (z40 `mZ v7) `bi))) u5)))
   o7)
   (u6 (O6 (`z? `aO)
   (u6 (Z9 (`gE T7 `xb (v5 u20 u5)))
   o7)
   (u6 `eo
   o7))
   o7))
   o7))
   (u6 `eo
   o7)))))) `en
theorem tb0:`aN ti0 `W4 (t6 `zD):=`az
theorem oo0(F:`as `H2 `atp `zD)(T:`av)(CN_Reader:`fc)(C_Reader_hold:`H1)(C_most_held:`hc `WB `T3 wt0)(C_wanted_items:`hc `WC `T4 vq0):`am 2 `W4 (spB K 0 R7) :=
 okB (k:=1) (G:=yd0) F tb0 (λcdv A outer s H E hr=>(u6 (O6 (`zm (o9 p90 sm0 `bi (O8 C_most_held hr `v `fK)) (o9 W4 Z7 `mZ (zh0 T.c_MOST_PARTS)))
   (u6 `eo
   o7)
   o7)
   (u6 (Z9 (`gE T7 `xb (v5 (xv0 (`em j9 `mZ)) u5)))
   (ag0 0 3 `v (Wr0 0 3 tb0.nd `aO) (jn0 0 3 `f0) (jn0 0 3 `f0)
   (u6 (Z9 (T7 (fa0 `f0 j9)))
   (u6 (Z9 (T7 (Mk0 `f0 (PDF.pd (kz0 `xa `asv (`asM C_wanted_items))))))
   (u6 `eo
   o7))))))) `en
theorem gt0:`aN no0 `Gi (t6 `zE):=`az
theorem fh0(F:`as `H3 `atq `zE)(T:`av)(CN_Reader:`fc):`am 1 `Gi (spB K 0 W6) :=
 okB (k:=0) (G:=ra0) F gt0 (λcdv A outer s H E hr=>(u6 (O6 `a?S
   (u6 (Z9 (T7 (fa0 (rn0 `ad' v7) `aO)))
   o7)
   o7)
   (u6 (Z9 (ky0 `f0))
   (u6 `a?T
   o7)))) `en
theorem m00:`HW se0 `zF:=`az
theorem nz0(F:`as `zs `atr `zF)(T:`av)(CN_Reader:`fc):`am 1 `fT (spB K 0 J8) :=
 okB (k:=0) (G:=va0) F m00 (λcdv A outer s H E hr=>(u6 (Z9 (l20 100000 M0 (`asG `a?S `ato)
   (v6 (ky0 `f0)
   (v6 (ky0 `f0)
   u9))))
   o7)) `en
theorem ta0:`HZ tm0 `zG:=`az
theorem nn0(F:`as `zz `ats `zG)(T:`av)(C_Reader_hold:`H1)(C_sign_of:`a?U):`am 2 `nD (spB K 0 O3) :=
 okB (k:=1) (G:=yg0) F ta0 (λcdv A outer s H E hr=>(u6 (`ht (`eK C_sign_of (`em `aO (f80 T.c_WORD_SIGNS))) 2 ta0.nd)
   (u6 (O6 `a?V
   (u6 `eo
   o7)
   o7)
   (u6 `a?W
   (u6 `eo
   o7))))) `en
theorem w90:`HZ wr0 `zH:=`az
theorem sh0(F:`as `zy `att `zH)(T:`av)(CN_Reader:`fc)(C_Reader_takes_known_name:`a?X P)(C_is_left:`a?Y):`am 5 `nD (spB K 0 Y0) :=
 okB (k:=4) (G:=S9) F w90 (λcdv A outer s H E hr=>(u6 (O6 `qw
   (u6 (`gE Y8 C_Reader_takes_known_name (v5 `j1 u5))
   o7)
   o7)
   (u6 (`ht `j1 2 w90.nd)
   (u6 (O6 (`atu (si0 `a?P (si0 (o9 p90 sm0 `bi (zh0 T.c_MOST_NAME_SIGNS)) (tu0 (o9 W4 Z7 `mZ (zh0 T.c_MOST_NAMES))))))
   (u6 `eo
   o7)
   o7)
   (u6 (O6 (`a?Z (v5 `bi `DQ))
   (u6 `eo
   o7)
   o7)
   (u6 `a?Q
   (u6 `eo
   o7))))))) `en
theorem wn0:`aN v00 `W5 (t6 `zI):=`az
theorem rd0(F:`as `H4 `atv `zI)(T:`av)(CN_Reader:`fc)(C_Reader_hold:`H1)(C_Reader_names_here:`a?_ P):`am 4 `W5 (spB K 0 W3) :=
 okB (k:=3) (G:=O7) F wn0 (λcdv A outer s H E hr=>(u6 (O6 (o9 Ga0 H20 `aO `mZ)
   (u6 `eo
   o7)
   o7)
   (u6 (`ht (yw0 (rn0 `f0 (z40 (z40 `mZ v7) `aO)) `aDj) 2 wn0.nd)
   (u6 (fo0 (PWX.pt (Mr0 (af0 `ato) (Oi0 (O70 R70 (ec0 `m) `bi (pd0 0 C_Reader_names_here hr `v)))))
   (u6 `eo
   o7)
   o7)
   (u6 `a?W
   (u6 `eo
   o7)))))) `en
theorem t30:`HW tj0 `zJ:=`az
theorem na0(F:`as `H5 `atw `zJ)(T:`av)(CN_Reader:`fc)(C_made_part:`a?K)(C_pair_names:`Dj `Wz `el vc0):`am 3 `fT (spB K 0 O4) :=
 okB (k:=2) (G:=yf0) F t30 (λcdv A outer s H E hr=>(Wy0 0 1 t30.nd `ad' (q80 C_pair_names hr `v (v5 (`eK `a?M (`em `WF `WF)) u5)))) `en
theorem u10:`HZ up0 `zK:=`az
theorem ps0(F:`as `zx `atx `zK)(T:`av)(CN_Reader:`fc)(C_Reader_hold:`H1)(C_is_left:`a?Y)(C_sign_of:`a?U):`am 2 `nD (spB K 0 U8) :=
 okB (k:=1) (G:=N6) F u10 (λcdv A outer s H E hr=>(u6 (`ht (`eK C_sign_of (v5 `aO `a!6)) 2 u10.nd)
   (u6 (O6 (`zm `a?V (`a?Z (`em `mO (d9 `mO `bi))))
   (u6 `eo
   o7)
   o7)
   (u6 (`OB (d9 `mO `bi))
   (u6 (O6 (o9 W4 Z7 (G4 `hz `a?0) `mO)
   (u6 (Z9 (T7 (fa0 `f0 `mO)))
   (u6 (Z9 (`gE T7 `xb `a?0))
   (u6 `a?T
   (u6 (`OB j9)
   o7))))
   o7)
   (u6 `eo
   o7)))))) `en
universe zz
theorem us1:`W6 1 (∃a,us=[a])
 | [a],_=>#[a,rfl]
theorem us2:`W6 2 (∃a b,us=[a,b])
 | [a,b],_=>#[a,b,rfl]
theorem us3:`W6 3 (∃a b c,us=[a,b,c])
 | [a,b,c],_=>#[a,b,c,rfl]
theorem us4:`W6 4 (∃a b c d,us=[a,b,c,d])
 | [a,b,c,d],_=>#[a,b,c,d,rfl]
def Hd(K:`z)(x:Str)(st:`a1):Prop:=∃f fd,`a?1/\`aty
theorem R8{st:`a1}{f:`e}{osl:`kP}{kV:`B}(a:`aty)(l:`P4 `a?2)(c:`dA K cdv x=`d)(k:`PP):Hd K x st:=#[f,_,z20 l c k,a]
section
variable(P9:`ai)(w9:`Q)(b9:`D){h:`D}{st:`a1}{f:`e}{m:`U}(X9:`hi)(G9:`DX)(F9:`a?1)(a9:`aty)
include X9 G9 F9 a9
theorem cD1(o:`atz)(hl:`aI=1)(b:`a?3):`atA:=`a?4
theorem cD2(o:`atz)(hl:`aI=2)(b:`a?5):`atA:=`a?6
theorem cD3(o:`atz)(hl:`aI=3)(b:∀(kV doc pm:`B) (an:`bq) (cdv ct u v w:`B),`NO #[[u,v,w],[]] [u,v,w]):`atA:=(`NP (by let#[u,v,w,rfl]:=us3 `NQ;exact b _ _ _ _ _ _ _ _ _))
theorem cN1(o:`atB)(hl:`aI=1)(b:`a?3):`atC:=`a?4
theorem cN2(o:`atB)(hl:`aI=2)(b:`a?5):`atC:=`a?6
theorem cN4(o:`atB)(hl:`aI=4)(b:∀(kV doc pm:`B) (an:`bq) (cdv ct u v w y:`B),`NO #[[u,v,w,y],[]] [u,v,w,y]):`atC:=(`NP (by let#[u,v,w,y,rfl]:=us4 `NQ;exact b _ _ _ _ _ _ _ _ _ _))
universe zz
def all_mk{l:`ah_}{w:`Q}{h:`D}(X:`hi)(G:`DX)(hfa:mg `pc=`JM)
  {f33 f34 f35 f36 f37 f38 f39 f40 f41 f42 f43 f44 f45 f46 f47 f48 f49:`e}
  {od33 an33 od34 an34 od35 an35 od36 an36 od37 an37 od38 an38 od39 an39 od40 an40 od41 an41 od42 an42 od43 an43 od44 an44 od45 an45 od46 an46 od47 an47 od48 an48 od49 an49:`bq} {sl33 sl34 sl35 sl36 sl37 sl38 sl39 sl40 sl41 sl42 sl43 sl44 sl45 sl46 sl47 sl48 sl49:`kP} {oc33 kV33 dc33 pm33 cd33 ct33 oc34 kV34 dc34 pm34 cd34 ct34 oc35 kV35 dc35 pm35 cd35 ct35 oc36 kV36 dc36 pm36 cd36 ct36 oc37 kV37 dc37 pm37 cd37 ct37 oc38 kV38 dc38 pm38 cd38 ct38 oc39 kV39 dc39 pm39 cd39 ct39 oc40 kV40 dc40 pm40 cd40 ct40 oc41 kV41 dc41 pm41 cd41 ct41 oc42 kV42 dc42 pm42 cd42 ct42 oc43 kV43 dc43 pm43 cd43 ct43 oc44 kV44 dc44 pm44 cd44 ct44 oc45 kV45 dc45 pm45 cd45 ct45 oc46 kV46 dc46 pm46 cd46 ct46 oc47 kV47 dc47 pm47 cd47 ct47 oc48 kV48 dc48 pm48 cd48 ct48 oc49 kV49 dc49 pm49 cd49 ct49:`B}
  {t_BASE t_MOST_NAMES t_MOST_NAME_SIGNS t_MOST_PARTS t_MOST_VALUES t_MOST_WORD_SIGNS t_NAME_SIGNS t_WORD_SIGNS:Tok}
  {cT_Reader:`e} (aT_Reader:`iw `aZ `a?7) (bT_Reader:Vo0 K `d0 o4=`d)
  (h0:Hd K `NB `asu)
  (h1:Hd K `Wu `asw)
  (h2:Hd K `Wv `asx)
  (h3:Hd K `Ww `asy)
  (h4:Hd K `Wz `Wy)
  (h5:Hd K `WA `asz)
  (h6:Hd K `NM `asA)
  (h7:Hd K `WB `asB)
  (h8:Hd K `WC `asC)
  (h9:Hd K `NK `asD)
  (h10:Hd K `WD `asF)
  (h11:Hd K `NN `WG)
  (h12:Hd K `WH `asH)
  (h13:Hd K `NA `asK)
  (h14:Hd K `WJ `asL)
  (h15:Hd K `WL `asN)
  (h16:Hd K `NC `WQ)
  (h17:Hd K `WM `asO)
  (h18:Hd K `WN `asR)
  (h19:Hd K `WK `asS)
  (h20:Hd K `WI `asT)
  (h21:Hd K `HO `asU)
  (h22:Hd K `NE `asV)
  (h23:Hd K `BP `asW)
  (h24:Hd K `WS `asY)
  (h25:Hd K `WU `as_)
  (h26:Hd K `HQ `as0)
  (h27:Hd K `WX `WW)
  (h28:Hd K `HR `_s)
  (h29:Hd K `WZ `WY)
  (h30:Hd K `W_ `as')
  (h31:Hd K `W0 `as?)
  (h32:Hd K `W1 `atb)
  (a33:`iw `pc (`X f33)) (l33:`bW f33=`c #[oc33,od33,`dp (`a?8),sl33]) (c33:`dA K cd33 `pc=`d) (k33:`ep f33)
  (a34:`fd `e0 f34) (l34:`bW f34=`c #[oc34,od34,`dp (`dC `e0 `atd (U4 `zq) (X4 `zq) (t6 `zq) `al kV34 dc34 pm34 an34 cd34 ct34),sl34]) (c34:`dA K cd34 `atd=`d) (k34:`ep f34) (i34:`fe f34)
  (a35:`fd `HX f35) (l35:`bW f35=`c #[oc35,od35,`dp (`dC `HX `atg (U4 `zr) (X4 `zr) (t6 `zr) `al kV35 dc35 pm35 an35 cd35 ct35),sl35]) (c35:`dA K cd35 `atg=`d) (k35:`ep f35) (i35:`fe f35)
  (a36:`fd `wS f36) (l36:`bW f36=`c #[oc36,od36,`dp (`dC `wS `ath (U4 `zu) (X4 `zu) (t6 `zu) `al kV36 dc36 pm36 an36 cd36 ct36),sl36]) (c36:`dA K cd36 `ath=`d) (k36:`ep f36) (i36:`fe f36)
  (a37:`fd `i7 f37) (l37:`bW f37=`c #[oc37,od37,`dp (`dC `i7 `ati (U4 `ue) (X4 `ue) (t6 `ue) `al kV37 dc37 pm37 an37 cd37 ct37),sl37]) (c37:`dA K cd37 `ati=`d) (k37:`ep f37) (i37:`fe f37)
  (a38:`fd `zt f38) (l38:`bW f38=`c #[oc38,od38,`dp (`dC `zt `atj (U4 `zv) (X4 `zv) (t6 `zv) `al kV38 dc38 pm38 an38 cd38 ct38),sl38]) (c38:`dA K cd38 `atj=`d) (k38:`ep f38) (i38:`fe f38)
  (a39:`fd `zw f39) (l39:`bW f39=`c #[oc39,od39,`dp (`dC `zw `atl (U4 `zA) (X4 `zA) (t6 `zA) `al kV39 dc39 pm39 an39 cd39 ct39),sl39]) (c39:`dA K cd39 `atl=`d) (k39:`ep f39) (i39:`fe f39)
  (a40:`fd `H_ f40) (l40:`bW f40=`c #[oc40,od40,`dp (`dC `H_ `atm (U4 `zB) (X4 `zB) (t6 `zB) `al kV40 dc40 pm40 an40 cd40 ct40),sl40]) (c40:`dA K cd40 `atm=`d) (k40:`ep f40) (i40:`fe f40)
  (a41:`fd `H0 f41) (l41:`bW f41=`c #[oc41,od41,`dp (`dC `H0 `atn (U4 `zC) (X4 `zC) (t6 `zC) `al kV41 dc41 pm41 an41 cd41 ct41),sl41]) (c41:`dA K cd41 `atn=`d) (k41:`ep f41) (i41:`fe f41)
  (a42:`fd `H2 f42) (l42:`bW f42=`c #[oc42,od42,`dp (`dC `H2 `atp (U4 `zD) (X4 `zD) (t6 `zD) `al kV42 dc42 pm42 an42 cd42 ct42),sl42]) (c42:`dA K cd42 `atp=`d) (k42:`ep f42) (i42:`fe f42)
  (a43:`fd `H3 f43) (l43:`bW f43=`c #[oc43,od43,`dp (`dC `H3 `atq (U4 `zE) (X4 `zE) (t6 `zE) `al kV43 dc43 pm43 an43 cd43 ct43),sl43]) (c43:`dA K cd43 `atq=`d) (k43:`ep f43) (i43:`fe f43)
  (a44:`fd `zs f44) (l44:`bW f44=`c #[oc44,od44,`dp (`dC `zs `atr (U4 `zF) (X4 `zF) (t6 `zF) `al kV44 dc44 pm44 an44 cd44 ct44),sl44]) (c44:`dA K cd44 `atr=`d) (k44:`ep f44) (i44:`fe f44)
  (a45:`fd `zz f45) (l45:`bW f45=`c #[oc45,od45,`dp (`dC `zz `ats (U4 `zG) (X4 `zG) (t6 `zG) `al kV45 dc45 pm45 an45 cd45 ct45),sl45]) (c45:`dA K cd45 `ats=`d) (k45:`ep f45) (i45:`fe f45)
  (a46:`fd `zy f46) (l46:`bW f46=`c #[oc46,od46,`dp (`dC `zy `att (U4 `zH) (X4 `zH) (t6 `zH) `al kV46 dc46 pm46 an46 cd46 ct46),sl46]) (c46:`dA K cd46 `att=`d) (k46:`ep f46) (i46:`fe f46)
  (a47:`fd `H4 f47) (l47:`bW f47=`c #[oc47,od47,`dp (`dC `H4 `atv (U4 `zI) (X4 `zI) (t6 `zI) `al kV47 dc47 pm47 an47 cd47 ct47),sl47]) (c47:`dA K cd47 `atv=`d) (k47:`ep f47) (i47:`fe f47)
  (a48:`fd `H5 f48) (l48:`bW f48=`c #[oc48,od48,`dp (`dC `H5 `atw (U4 `zJ) (X4 `zJ) (t6 `zJ) `al kV48 dc48 pm48 an48 cd48 ct48),sl48]) (c48:`dA K cd48 `atw=`d) (k48:`ep f48) (i48:`fe f48)
  (a49:`fd `zx f49) (l49:`bW f49=`c #[oc49,od49,`dp (`dC `zx `atx (U4 `zK) (X4 `zK) (t6 `zK) `al kV49 dc49 pm49 an49 cd49 ct49),sl49]) (c49:`dA K cd49 `atx=`d) (k49:`ep f49) (i49:`fe f49)
  (z_bool:`ix `x5)
  (z_enumerate:`ix `o_)
  (z_int:`ix `jk)
  (z_isinstance:`ix `x6)
  (z_len:`ix `vQ)
  (z_list:`ix `fX)
  (z_ord:`ix "ord")
  (z_range:`ix `vw)
  (z_reversed:`ix `ov)
  (z_str:`ix `jp)
  (z_tuple:`ix `er)
  (z_zip:`ix `j3)
  (y_BASE:`iw "BASE" (`g 128 t_BASE))
  (y_MOST_NAMES:`iw `a!P (`g 60 t_MOST_NAMES))
  (y_MOST_NAME_SIGNS:`iw `a!Q (`g 8 t_MOST_NAME_SIGNS))
  (y_MOST_PARTS:`iw `a!R (`g 60 t_MOST_PARTS))
  (y_MOST_VALUES:`iw `a!S (`g 12 t_MOST_VALUES))
  (y_MOST_WORD_SIGNS:`iw `a!T (`g 20 t_MOST_WORD_SIGNS))
  (y_NAME_SIGNS:`iw `a!U (`u `B_ t_NAME_SIGNS))
  (y_WORD_SIGNS:`iw `a!V (`u `B2 t_WORD_SIGNS))
  {cI_NoPack fI_NoPack:`e} {odI_NoPack anI_NoPack:`bq} {slI_NoPack:`kP} {ocI_NoPack kVI_NoPack dcI_NoPack pmI_NoPack cdI_NoPack ctI_NoPack:`B}
  (aI_NoPack:`iw `fv (`X cI_NoPack)) (bI_NoPack:`r5 K (`X cI_NoPack) `e0=`c (`c (`X `W7)))
  (lI_NoPack:`bW `W7=`c #[ocI_NoPack,odI_NoPack,`dp (`dC `e0 `a?9 (U4 `acE) (X4 `acE) `a!X `al kVI_NoPack dcI_NoPack pmI_NoPack anI_NoPack cdI_NoPack ctI_NoPack),slI_NoPack]) (gI_NoPack:`dA K cdI_NoPack `a?9=`d) (kI_NoPack:`ep `W7) (iI_NoPack:XC.Zc0 K `atc `fv `W7=`d)
  {kA_KINDS:`e} {kn_KINDS:Nat} {ks_KINDS:`kP} {kt_KINDS_0 kt_KINDS_1 kt_KINDS_2 kt_KINDS_3:Tok}
  (kN_KINDS:`iw "KINDS" (`X kA_KINDS)) (kL_KINDS:`bW kA_KINDS=`c #[`ft,`f,`mi ⟨`u `Il kt_KINDS_0,`u "row" kt_KINDS_1,`u `Ig kt_KINDS_2,`u `zZ kt_KINDS_3⟩ kn_KINDS,ks_KINDS])
  (xt:XC.Pr0 K `atc `NG []=`d)
  : ∃fd:`e5,(∀(s:`w) (v:`B),`Kv s fd #[[v],[]] [(`n3,v)])/\∀base:`D,`ae?->`O8->`k_ `ci w K mg `ao CX0 10 fa fd [`n3] `a?C:=by
 skip;have e:=hfa.symm.trans (C5 X G a33);cases e;have T:`av:=#[E4 X G z_bool,E4 X G z_enumerate,E4 X G z_int,E4 X G z_isinstance,E4 X G z_len,E4 X G z_list,E4 X G z_ord,E4 X G z_range,E4 X G z_reversed,E4 X G z_str,E4 X G z_tuple,E4 X G z_zip,(`qx y_BASE),(`qx y_MOST_NAMES),(`qx y_MOST_NAME_SIGNS),(`qx y_MOST_PARTS),(`qx y_MOST_VALUES),(`qx y_MOST_WORD_SIGNS),(`qx y_NAME_SIGNS),(`qx y_WORD_SIGNS)];have o1:`asP:=#[_,_,_,_,C5 X G kN_KINDS,kL_KINDS,rfl,rfl,rfl,(`Bc (4<=`W)),`aa `ah (`aa `ah (`aa `ah (`aa `ah (`R))))];let#[rr,XT]:=XC.tab_of X G xt;let#[f0,g0,F0,a0]:=h0;let#[f1,g1,F1,a1]:=h1;let#[f2,g2,F2,a2]:=h2;let#[f3,g3,F3,a3]:=h3;let#[f4,g4,F4,a4]:=h4;let#[f5,g5,F5,a5]:=h5;let#[f6,g6,F6,a6]:=h6;let#[f7,g7,F7,a7]:=h7;let#[f8,g8,F8,a8]:=h8;let#[f9,g9,F9,a9]:=h9;let#[f10,g10,u0,w6]:=h10;let#[I6,H6,q6,y7]:=h11;let#[I1,g12,t3,y1]:=h12;let#[f13,g13,s0,H4]:=h13;let#[f14,L0,w0,w4]:=h14;let#[S2,H7,r4,H3]:=h15;let#[H8,g16,s4,w5]:=h16;let#[I3,I5,u1,B1]:=h17;let#[f18,I0,r3,w2]:=h18;let#[f19,I7,s3,z1]:=h19;let#[f20,S0,v4,z2]:=h20;let#[w3,I8,q4,z0]:=h21;let#[f22,g22,r0,C2]:=h22;let#[y2,I2,q3,y5]:=h23;let#[I9,S3,q7,B2]:=h24;let#[f25,I4,r2,y3]:=h25;let#[z6,g26,q2,x7]:=h26;let#[w7,N2,q5,H5]:=h27;let#[B3,N0,q1,D2]:=h28;let#[L1,g29,u3,z3]:=h29;let#[W2,N1,t2,z4]:=h30;let#[f31,g31,s7,C3]:=h31;let#[f32,H9,r6,D1]:=h32;have z5:=z20 (x := `pc) (st:=`sL) l33 c33 k33;have q8:=z20 (x := `e0) (st:=`zq) l34 c34 k34;have t4:=z20 (x := `HX) (st:=`zr) l35 c35 k35;have w1:=z20 (x := `wS) (st:=`zu) l36 c36 k36;have q9:=z20 (x := `i7) (st:=`ue) l37 c37 k37;have v1:=z20 (x := `zt) (st:=`zv) l38 c38 k38;have v2:=z20 (x := `zw) (st:=`zA) l39 c39 k39;have u2:=z20 (x := `H_) (st:=`zB) l40 c40 k40;have r5:=z20 (x := `H0) (st:=`zC) l41 c41 k41;have s9:=z20 (x := `H2) (st:=`zD) l42 c42 k42;have r1:=z20 (x := `H3) (st:=`zE) l43 c43 k43;have s5:=z20 (x := `zs) (st:=`zF) l44 c44 k44;have s2:=z20 (x := `zz) (st:=`zG) l45 c45 k45;have s8:=z20 (x := `zy) (st:=`zH) l46 c46 k46;have r7:=z20 (x := `H4) (st:=`zI) l47 c47 k47;have s6:=z20 (x := `H5) (st:=`zJ) l48 c48 k48;have t1:=z20 (x := `zx) (st:=`zK) l49 c49 k49;have J:`fc:=Lx0 `eq `avE;done;refine#[`a?8,λs v=>.of_eq rfl,λbase _ _=>?_];have e7:=z20 (x := `e0) (st:=ini 8) lI_NoPack gI_NoPack kI_NoPack;have m2:`aAM `ci:=Qu0 XT `v iI_NoPack e7 dm0 (e7.binds (ps:=`kz) λ_ _ _ _ _ _ us hl=>match us,hl with|[_,_],_=>rfl) λC cl ec rc hm cdv A outer s H E=>Sh0 hm rc cl ec `v
 have AT:∀c∈`a?B,`alJ := λc hc=>by
  apply `ak7;rcases hc with rfl
  ·exact at_of XT `v iI_NoPack
 have b2:=`zL F0 a0 (ix0 F0 T);have p9:=`qy F1 a1 (Sw0 F1 T);have p4:=`qy F2 a2 (Yg0 F2 T);have p3:=`qy F3 a3 (Yk0 F3 T);have k3:=`zL F4 a4 (dh0 F4 T);have e6:=`lo F6 a6 (Vd0 F6 T);have n8:=`qy F7 a7 (Zd0 F7 T);have e4:=`lo F8 a8 (h50 F8 T);have j2:=`qy u0 w6 (dk0 u0 T);have e8:=cD3 `ci w `ao X G q6 y7 (Vf0 q6 T) rfl `uf;have k5:=`lo s0 H4 (T40 s0 T);have d2:=`zL s4 w5 (c00 s4 T);have e9:=`qy u1 B1 (gk0 u1 T o1);have k0:=`zL v4 z2 (du0 v4 T);have b1:=`lo r0 C2 (i70 r0 T);have Z:`atD `BP 1 R4:=#[y2,_,cr0 q3 T ,C5 X G y5,q3.kp,`atE q3.binds];have l8:=cN2 `ci w `ao X G q7 B2 (dw0 q7 T) rfl `uf;have i0:=`lo r2 y3 (ft0 r2 T);have n1:=`lo t2 z4 (Z20 t2 T);have p8:`a?e `ci:=#[#[`d0,f34,_,mz0 q8 T J,`eq,#[(`Xb).2.2.1,a34,i34,(`Xb).2.2.2],`H6 q8.binds,C5 X G `eq]];have b0:`NI `ci `wS S8:=#[#[`d0,f36,_,ih0 w1 T J,`eq,`fV,#[a36,i36,k36],`H6 w1.binds,`aw]];have e0:`a?N `ci:=#[#[`d0,f40,_,kc0 u2 T J,`eq,`fV,#[a40,i40,k40],u2.binds (ps:=`Gh) `ug,`aw]];have O:`auH `ci:=#[#[`d0,f43,_,fh0 r1 T J,`eq,`fV,#[a43,i43,k43],r1.binds (ps:=`Gi) `ug,`aw]];have d1:`NI `ci `zs J8:=#[#[`d0,f44,_,nz0 s5 T J,`eq,`fV,#[a44,i44,k44],`H6 s5.binds,`aw]];have p7:=`qy F5 a5 (Va0 F5 T p3);have d3:=`lo F9 a9 (bn0 F9 T j2);have m6:=cN2 `ci w `ao X G r4 H3 (dz0 r4 T b2 d2) rfl `uf;have l3:=`zL r3 w2 (di0 r3 T d2);have m1:=`lo s3 z1 (dn0 s3 T p9);have m0:`atD `HQ 2 O1:=#[z6,_,dy0 q2 T Z i0,C5 X G x7,q2.kp,`atE q2.binds];have n4:`a?o `ci:=#[w7,_,Zn0 q5 T Z,C5 X G H5,q5.kp,q5.binds (ps:=`WV) `ug];have n0:=`lo s7 C3 (Zr0 s7 T n1);have c3:`a?R `ci:=#[#[`d0,f42,_,oo0 s9 T J O n8 e4,`eq,`fV,#[a42,i42,k42],s9.binds (ps:=`W4) λ_ _ _ _ _ _ us hl=>by let#[_,_,_,rfl]:=us3 hl;rfl,`aw]];have c2:`H7 `zz 2 O3:=#[#[`d0,f45,_,nn0 s2 T O e6,`eq,`fV,#[a45,i45,k45],`H8 s2.binds,`aw]];have b3:`H7 `zx 2 U8:=#[#[`d0,f49,_,ps0 t1 T J O e8 e6,`eq,`fV,#[a49,i49,k49],`H8 t1.binds,`aw]];have k4:=cN4 `ci w `ao X G w0 w4 (dj0 w0 T k5 m1 m6 b2 e9 l3) rfl `uf;have n7:`atD `HR 3 M9:=#[B3,_,bw0 q1 T Z m0 n4,C5 X G D2,q1.kp,`atE q1.binds];have m3:`a?g `ci:=#[#[`d0,f37,_,dt0 q9 T J b0 d3 m2,`eq,`fV,#[a37,i37,k37],`H6 q9.binds,`aw]];have c4:`a?O `ci:=#[#[`d0,f41,_,ov0 r5 T J o1 O c3 p4,`eq,`fV,#[a41,i41,k41],r5.binds (ps:=`W3) `ug,`aw]];have c8:`a?_ `ci:=#[#[`d0,f48,_,na0 s6 T J d3 k3,`eq,`fV,#[a48,i48,k48],`H6 s6.binds,`aw]];have q0:=`zL t3 y1 (Ki0 t3 T k0 k5 k4);have p1:=`lo u3 z3 (Ya0 u3 T b1 l8 n7);have c1:`H7 `zw 4 T6:=#[#[`d0,f39,_,py0 v2 T J e0 c4,`eq,`fV,#[a39,i39,k39],`H8 v2.binds,`aw]];have Y:`a?X `ci:=#[#[`d0,f47,_,rd0 r7 T J O c8,`eq,`fV,#[a47,i47,k47],r7.binds (ps:=`W5) `ug,`aw]];have U:`H7 `zy 5 Y0:=#[#[`d0,f46,_,sh0 s8 T J Y e8,`eq,`fV,#[a46,i46,k46],`H8 s8.binds,`aw]];have e5:`H7 `zt 6 b8:=#[#[`d0,f38,_,ij0 v1 T J c1 b3 U c2 b0,`eq,`fV,#[a38,i38,k38],`H8 v1.binds,`aw]];have j1:`a?f `ci:=#[#[`d0,f35,_,fs0 t4 T J d1 e5 p7 m2,`eq,`fV,#[a35,i35,k35],t4.binds (ps:=`W2) `ug,`aw]];have e1:`a?A `ci:=#[#[w3,_,Yf0 q4 T p8 j1 m3,C5 X G z0,q4.kp,q4.binds (ps:=`HN) `atF]];have p6:=e1.plain;have e3:=`qy r6 D1 (i10 r6 T XT e1 AT);exact J90 z5 T n0 b1 e3 p1 q0 p6
theorem bj0:∀ns:`M,Rps K H B `an0 `Bt
 | []=>by rw[`mx,`mx,d7]
 | `p9=>by
  rw[`ag,`ag,j7];exact`k0 `IT (bj0 ns)
def Ur0{ns:`M}(hK:`alQ)(hS:`ahW)(hm:`a!H):spD K lz0 `eW H `ahX `uY:=by
 refine#[`IN,[`jN],`lu,`aYb,?_,hm,λv H' _ r=>`av4];rw[j7];refine`E8 _ ?_;rw[S7];exact#[a,`nI V.int,rfl,script_at hK hS,bj0 ns]
universe Qk
open PySem.W PyProof.Rows
end
set_option maxRecDepth 100000 in
theorem PySem.Challenge.cw_graphpack_k30_whole_each_web_has_one_pac_holds : PySem.Challenge.rw_graphpack_k30_whole_each_web_has_one_pac.Holds := by
 w_on;o_law;k_head;(case hw=>w_witness2)
 k_fill
 refine DL.P00 (l:=PySem.Challenge.rw_graphpack_k30_whole_each_web_has_one_pac) (n:=63) (k:=10) (x := "_law_script") (CX:=L2.CX0) (sp:=λK=>DL.spD K Qk.lz0) rfl (by decide) rfl ⟨rfl,by decide,by decide⟩ (λw h Y=>W.kIn_of Y) ?F ?S ?C
 case F =>
  intro w mg fa h KX G hmg;refine' Qk.all_mk KX G hmg ?aT_Reader ?bT_Reader ?h0 ?h1 ?h2 ?h3 ?h4 ?h5 ?h6 ?h7 ?h8 ?h9 ?h10 ?h11 ?h12 ?h13 ?h14 ?h15 ?h16 ?h17 ?h18 ?h19 ?h20 ?h21 ?h22 ?h23 ?h24 ?h25 ?h26 ?h27 ?h28 ?h29 ?h30 ?h31 ?h32 ?a33 ?l33 ?c33 ?k33 ?a34 ?l34 ?c34 ?k34 ?i34 ?a35 ?l35 ?c35 ?k35 ?i35 ?a36 ?l36 ?c36 ?k36 ?i36 ?a37 ?l37 ?c37 ?k37 ?i37 ?a38 ?l38 ?c38 ?k38 ?i38 ?a39 ?l39 ?c39 ?k39 ?i39 ?a40 ?l40 ?c40 ?k40 ?i40 ?a41 ?l41 ?c41 ?k41 ?i41 ?a42 ?l42 ?c42 ?k42 ?i42 ?a43 ?l43 ?c43 ?k43 ?i43 ?a44 ?l44 ?c44 ?k44 ?i44 ?a45 ?l45 ?c45 ?k45 ?i45 ?a46 ?l46 ?c46 ?k46 ?i46 ?a47 ?l47 ?c47 ?k47 ?i47 ?a48 ?l48 ?c48 ?k48 ?i48 ?a49 ?l49 ?c49 ?k49 ?i49 ?z_bool ?z_enumerate ?z_int ?z_isinstance ?z_len ?z_list ?z_ord ?z_range ?z_reversed ?z_str ?z_tuple ?z_zip ?y_BASE ?y_MOST_NAMES ?y_MOST_NAME_SIGNS ?y_MOST_PARTS ?y_MOST_VALUES ?y_MOST_WORD_SIGNS ?y_NAME_SIGNS ?y_WORD_SIGNS ?aI_NoPack ?bI_NoPack ?lI_NoPack ?gI_NoPack ?kI_NoPack ?iI_NoPack ?kN_KINDS ?kL_KINDS ?xt
  (case aT_Reader=>k_is)
  (case bT_Reader=>kernel_rfl)
  (case h0=>exact Qk.R8 (by k_is) (by k_is) (by k_is) (by k_is))
  (case h1=>exact Qk.R8 (by k_is) (by k_is) (by k_is) (by k_is))
  (case h2=>exact Qk.R8 (by k_is) (by k_is) (by k_is) (by k_is))
  (case h3=>exact Qk.R8 (by k_is) (by k_is) (by k_is) (by k_is))
  (case h4=>exact Qk.R8 (by k_is) (by k_is) (by k_is) (by k_is))
  (case h5=>exact Qk.R8 (by k_is) (by k_is) (by k_is) (by k_is))
  (case h6=>exact Qk.R8 (by k_is) (by k_is) (by k_is) (by k_is))
  (case h7=>exact Qk.R8 (by k_is) (by k_is) (by k_is) (by k_is))
  (case h8=>exact Qk.R8 (by k_is) (by k_is) (by k_is) (by k_is))
  (case h9=>exact Qk.R8 (by k_is) (by k_is) (by k_is) (by k_is))
  (case h10=>exact Qk.R8 (by k_is) (by k_is) (by k_is) (by k_is))
  (case h11=>exact Qk.R8 (by k_is) (by k_is) (by k_is) (by k_is))
  (case h12=>exact Qk.R8 (by k_is) (by k_is) (by k_is) (by k_is))
  (case h13=>exact Qk.R8 (by k_is) (by k_is) (by k_is) (by k_is))
  (case h14=>exact Qk.R8 (by k_is) (by k_is) (by k_is) (by k_is))
  (case h15=>exact Qk.R8 (by k_is) (by k_is) (by k_is) (by k_is))
  (case h16=>exact Qk.R8 (by k_is) (by k_is) (by k_is) (by k_is))
  (case h17=>exact Qk.R8 (by k_is) (by k_is) (by k_is) (by k_is))
  (case h18=>exact Qk.R8 (by k_is) (by k_is) (by k_is) (by k_is))
  (case h19=>exact Qk.R8 (by k_is) (by k_is) (by k_is) (by k_is))
  (case h20=>exact Qk.R8 (by k_is) (by k_is) (by k_is) (by k_is))
  (case h21=>exact Qk.R8 (by k_is) (by k_is) (by k_is) (by k_is))
  (case h22=>exact Qk.R8 (by k_is) (by k_is) (by k_is) (by k_is))
  (case h23=>exact Qk.R8 (by k_is) (by k_is) (by k_is) (by k_is))
  (case h24=>exact Qk.R8 (by k_is) (by k_is) (by k_is) (by k_is))
  (case h25=>exact Qk.R8 (by k_is) (by k_is) (by k_is) (by k_is))
  (case h26=>exact Qk.R8 (by k_is) (by k_is) (by k_is) (by k_is))
  (case h27=>exact Qk.R8 (by k_is) (by k_is) (by k_is) (by k_is))
  (case h28=>exact Qk.R8 (by k_is) (by k_is) (by k_is) (by k_is))
  (case h29=>exact Qk.R8 (by k_is) (by k_is) (by k_is) (by k_is))
  (case h30=>exact Qk.R8 (by k_is) (by k_is) (by k_is) (by k_is))
  (case h31=>exact Qk.R8 (by k_is) (by k_is) (by k_is) (by k_is))
  (case h32=>exact Qk.R8 (by k_is) (by k_is) (by k_is) (by k_is))
  (case a33=>k_is)
  (case l33=>k_is)
  (case c33=>k_is)
  (case k33=>k_is)
  (case a34=>k_is)
  (case l34=>k_is)
  (case c34=>k_is)
  (case k34=>k_is)
  (case i34=>k_is)
  (case a35=>k_is)
  (case l35=>k_is)
  (case c35=>k_is)
  (case k35=>k_is)
  (case i35=>k_is)
  (case a36=>k_is)
  (case l36=>k_is)
  (case c36=>k_is)
  (case k36=>k_is)
  (case i36=>k_is)
  (case a37=>k_is)
  (case l37=>k_is)
  (case c37=>k_is)
  (case k37=>k_is)
  (case i37=>k_is)
  (case a38=>k_is)
  (case l38=>k_is)
  (case c38=>k_is)
  (case k38=>k_is)
  (case i38=>k_is)
  (case a39=>k_is)
  (case l39=>k_is)
  (case c39=>k_is)
  (case k39=>k_is)
  (case i39=>k_is)
  (case a40=>k_is)
  (case l40=>k_is)
  (case c40=>k_is)
  (case k40=>k_is)
  (case i40=>k_is)
  (case a41=>k_is)
  (case l41=>k_is)
  (case c41=>k_is)
  (case k41=>k_is)
  (case i41=>k_is)
  (case a42=>k_is)
  (case l42=>k_is)
  (case c42=>k_is)
  (case k42=>k_is)
  (case i42=>k_is)
  (case a43=>k_is)
  (case l43=>k_is)
  (case c43=>k_is)
  (case k43=>k_is)
  (case i43=>k_is)
  (case a44=>k_is)
  (case l44=>k_is)
  (case c44=>k_is)
  (case k44=>k_is)
  (case i44=>k_is)
  (case a45=>k_is)
  (case l45=>k_is)
  (case c45=>k_is)
  (case k45=>k_is)
  (case i45=>k_is)
  (case a46=>k_is)
  (case l46=>k_is)
  (case c46=>k_is)
  (case k46=>k_is)
  (case i46=>k_is)
  (case a47=>k_is)
  (case l47=>k_is)
  (case c47=>k_is)
  (case k47=>k_is)
  (case i47=>k_is)
  (case a48=>k_is)
  (case l48=>k_is)
  (case c48=>k_is)
  (case k48=>k_is)
  (case i48=>k_is)
  (case a49=>k_is)
  (case l49=>k_is)
  (case c49=>k_is)
  (case k49=>k_is)
  (case i49=>k_is)
  (case z_bool=>k_is)
  (case z_enumerate=>k_is)
  (case z_int=>k_is)
  (case z_isinstance=>k_is)
  (case z_len=>k_is)
  (case z_list=>k_is)
  (case z_ord=>k_is)
  (case z_range=>k_is)
  (case z_reversed=>k_is)
  (case z_str=>k_is)
  (case z_tuple=>k_is)
  (case z_zip=>k_is)
  (case y_BASE=>k_is)
  (case y_MOST_NAMES=>k_is)
  (case y_MOST_NAME_SIGNS=>k_is)
  (case y_MOST_PARTS=>k_is)
  (case y_MOST_VALUES=>k_is)
  (case y_MOST_WORD_SIGNS=>k_is)
  (case y_NAME_SIGNS=>k_is)
  (case y_WORD_SIGNS=>k_is)
  (case aI_NoPack=>k_is)
  (case bI_NoPack=>k_is)
  (case lI_NoPack=>k_is)
  (case gI_NoPack=>k_is)
  (case kI_NoPack=>k_is)
  (case iI_NoPack=>kernel_rfl)
  (case kN_KINDS=>k_is)
  (case kL_KINDS=>k_is)
  (case xt=>kernel_rfl)
 case S=>exact λw H a ns hl hS=>Qk.Ur0 (by kernel_rfl) hS (Qk.Pq0 ns hl)
 case C=>exact λ_ _ _ _ z=>z
#print axioms PySem.Challenge.cw_graphpack_k30_whole_each_web_has_one_pac_holds
