import PyProof.Rows.All
import Wide.All
import OpenK.AllK
import Wide.FinOn
import Lean
import PySem.Challenge.RW_graphpack_k29_first_byte_that_fits_no_pa
set_option maxHeartbeats 0
set_option compiler.extract_closed false
theorem cQ{P:Prop}(h:∀G:Prop,(P->G)->G):P:=h P id
theorem Zc0(h:True:=by rfl):True:=h
def Aa:=Zc0._auto_1
theorem Zc1(h:True:=by decide):True:=h
def Ab:=Zc1._auto_1
theorem Zc2(h:True:=by first|exact Or.inl rfl|exact Or.inr (Or.inl rfl)|exact Or.inr (Or.inr rfl)):True:=h
def Ac:=Zc2._auto_1
theorem Zc3(h:True:=by intro _;rfl):True:=h
def Ad:=Zc3._auto_1
theorem Zc4(h:True:=by first|exact .inl rfl|exact .inr rfl|assumption):True:=h
def Ae:=Zc4._auto_1
theorem Zc5(h:True:=by first|exact Or.inl rfl|exact Or.inr rfl):True:=h
def Af:=Zc5._auto_1
theorem Zc6(h:True:=by exact λ_ _=>rfl):True:=h
def Ag:=Zc6._auto_1
theorem Zc7(h:True:=by with_unfolding_all rfl):True:=h
def Ah:=Zc7._auto_1
theorem Zc8(h:True:=by first|exact fd0 _|with_unfolding_all rfl):True:=h
def Ai:=Zc8._auto_1
theorem Zc9(h:True:=by exact λz=>nomatch z):True:=h
def Aj:=Zc9._auto_1
theorem Zc10(h:True:=by first|exact nobehind _ (by decide) (by decide)|rfl):True:=h
def Ak:=Zc10._auto_1
theorem Zc11(h:True:=by first|rfl|with_unfolding_all rfl):True:=h
def Al:=Zc11._auto_1
theorem Zc12(h:True:=by exact Or.inl rfl):True:=h
def Am:=Zc12._auto_1
theorem Zc13(h:True:=by intros;with_unfolding_all rfl):True:=h
def An:=Zc13._auto_1
set_option bootstrap.genMatcherCode false
set_option genSizeOf false
set_option compiler.postponeCompile true
set_option compiler.extract_closed false
set_option linter.all false
set_option tactic.hygienic false
set_option genInjectivity false
set_option linter.all false
def xa:="abcdefghijklmnopqrstuvwxyzABCDEFGHIJKLMNOPQRSTUVWXYZ_0123456789'!?".toList
open Lean Parser in
def xi(s:List Char):Nat:=match s.map λc=>xa.idxOf c with
|[a]=>a
|[a,b]=>53+a*66+b
|[a,b,c]=>3551+(a*66+b)*66+c
|_=>0
open Lean Parser in
def xr:Nat→Syntax→Syntax
|0,s=>s
|n+1,s=>if s.getKind==``Term.anonymousCtor then .node .none ``Tactic.rcasesPat.tuple #[mkAtom "⟨",mkNullNode (s[1].getArgs.map λx=>if x.isAtom then x else .node .none ``Tactic.rcasesPatLo #[.node .none ``Tactic.rcasesPatMed #[mkNullNode #[xr n x]],mkNullNode]),mkAtom "⟩"] else
 if s.getKind==``Term.hole then .node .none ``Tactic.rcasesPat.ignore #[mkAtom "_"] else .node .none ``Tactic.rcasesPat.one #[s]
open Lean Parser in
def xq(t:Array Syntax)(o:List (Name×Syntax))(f:Syntax→Syntax)(s:Syntax):Syntax:=match s with
 |.node _ k a=>if k==``Command.open&&(o.lookup s[1][0][0].getId).isSome then (o.lookup s[1][0][0].getId).getD s else if k==``Tactic.skip then (f (t.getD 0 s))[1][1][0][0][0] else if k==``Tactic.done then (f (t.getD 1 s))[1][1][0][0][0] else
  if k==``Tactic.apply&&s[1].getKind==``Term.paren&&s[1][1].getKind==``Term.byTactic then s[1][1][1][0][0][0] else if k==``Term.quotedName then f (t.getD (xi s[0][0].getAtomVal.toList.tail) s) else
  if k==``Term.app&&s[0].getKind==``Term.fun&&(s[0][1][0][0].getId==`ζ||s[0][1][0][0].getId==`ϑ) then let b:=s[1].getArgs;let v:=s[0][1][0].getArgs.map Syntax.getId;s[0][1][3].rewriteBottomUp λx=>match v.idxOf? x.getId with|some i=>b.getD i x|none=>x else
  if k==``Tactic.delta then .node .none ``Tactic.unfold (a.setIfInBounds 0 (mkAtom "unfold")) else if k==``Tactic.Conv.delta then .node .none ``Tactic.Conv.unfold (a.setIfInBounds 0 (mkAtom "unfold")) else
  if k==`«term#[_,]» then .node .none ``Term.anonymousCtor (a.setIfInBounds 0 (mkAtom "⟨")|>.setIfInBounds 2 (mkAtom "⟩")) else
  if k==``Term.anonymousCtor then .node .none `«term#[_,]» (a.setIfInBounds 0 (mkAtom "#[")|>.setIfInBounds 2 (mkAtom "]")) else
  if k==``Tactic.tacticLet__ then let p:=s[2][0];if p[0].getKind==``Term.anonymousCtor then .node .none ``Tactic.obtain #[mkAtom "obtain",mkNullNode #[.node .none ``Tactic.rcasesPatMed #[mkNullNode #[xr 99 p[0]]]],mkNullNode,mkNullNode #[mkAtom ":=",mkNullNode #[p[4]]]] else .node .none k a else
  if k==``Command.declaration then let d:=s[1];.node .none k (if d.getKind==``Command.definition then if (d[3][1].getKind==``Term.byTactic||d[3][1].getKind==``Term.paren)&&s[0][4].getArgs.isEmpty then a.setIfInBounds 1 (.node .none ``Command.theorem #[mkAtom "theorem",d[1],.node .none ``Command.declSig #[d[2][0],d[2][1][0]],d[3]]) else a.modify 0 λm=>m.setArg 4 (mkNullNode #[.node .none ``Command.noncomputable #[mkAtom "noncomputable"]]) else a) else .node .none k a
 |.atom _ v=>.atom .none v
 |.ident _ r v p=>.ident .none r v p
 |s=>s
open Lean in
def xp(t:Array Syntax)(o:List (Name×Syntax)):Nat→Syntax→Syntax
|0,s=>s
|n+1,s=>s.rewriteBottomUp (xq t o (xp t o n))
def xw(s:List Char):Nat:=s.foldl (λn c=>n*66+xa.idxOf c) 0
set_option hygiene false
open Lean Parser in
local macro_rules
|`(command|mutual $cs* end)=>do
 let l:=(cs.getD 0 default).raw[1]
 if l[1][0].getId != `T then Macro.throwUnsupported
 let t:=l[3][1][1].getSepArgs
 let o←`(command|set_option tactic.hygienic true)
 let u1←`(command|open Spec PyProof.Rows L2)
 let v1←`(command|open Spec PyProof.Rows)
 let a1←`(command|set_option backward.match.sparseCases true)
 let b1←`(command|set_option backward.match.sparseCases false)
 let x1←`(command|namespace DL)
 let y1←`(command|namespace L2)
 let o:=[(`T,o.raw),(`U,u1.raw),(`V,v1.raw),(`A,a1.raw),(`B,b1.raw),(`X,mkNullNode #[x1.raw,u1.raw]),(`Y,mkNullNode #[y1.raw,v1.raw])]
 let z:=((cs.getD 1 default).raw[1][3][1].isStrLit?.getD "").toList
 let e←(List.range (z.length/11)).mapM λi=>`(command|noncomputable def $(mkIdent (.str `PySem.W.Fast s!"tw{xw ((z.drop (11*i)).take 11)}")):ident:=0)
 return mkNullNode (((cs.drop 2).map λc=>let c:=xp t o 99 c.raw
  if c.getKind==``Command.omit then .node .none ``Command.end #[mkAtom "end",if c[1][0].getId==`z then mkNullNode else mkNullNode #[c[1][0],mkNullNode]] else c)++(e.map (·.raw)).toArray)
mutual
def T:=[(by refine cQ λGQ kQ=>?_),(by refine kQ ?_),some,Addr,none,true,.int,Option.bind_some,`aa Str,`aa Nat,`aa D,false,.inl,(`E),λζ ξ=>by rw[ζ];exact ξ,.inr,nilB,.str,.lst,pins,(`aV),Shared,λζ ξ χ=>`oo ζ ξ χ,.non,W.Frag,λζ=>(ζ).length,Value,Bool,`br H s,Heap,by lia,this,autoParam,.tup,if_pos,absurd,Expr,λζ=>(by with_reducible exact ζ),World,`aa `A,`k->`cD,X.env,if_neg,sizeLine,`aa V,List.length_map,.ref,(gv 1),List.length_append,decide,#[_,rfl],s.heap.objs.size,.nil,List,λζ ξ χ=>Fun K ζ ξ χ fa fd,(by rw[e2] at e1),Txt mg,λζ=>by rw[ζ];rfl,λζ=>`c (.nx ζ),`aa `aw,fsc rfl rfl rfl rfl `c7,.cons,Program,λζ=>`c (`X (ζ)),B₀,(gv 0),List.length_cons,FnScope,`A->`ej,λζ ξ χ=>n6 (x:=ζ) (y:=ξ) χ rfl,decide_eq_true,H₀,0,g δ,List.map_cons,Want,xs.length,s.heap,`aa (`aAz),rest,`aa Int,(`bh (Y0 ?_)),λζ=>λcdv A outer s H E hr=>have S:=ζ;by apply `bpC,(gv 2),strOf,`c o,Option,`aH Int,D->`k->`aab,`aa `d,`G (`aAA) Ab,λζ=>((ζ:Nat):Int),wpAny,Stmt,base,List.map_append,decide_eq_false,ps.length,λζ=>(by rw[ζ] at this),(by let#[B,b1,b2,env]:=en.ex),by decide,(n:Int),`c d,.none,`cE H H',`I rfl,λζ=>show ζ from rfl,S.begun.length,Str->`gV,`hV H δ,λζ=>(by let#[r,en,e1,k]:=ζ),λζ=>`c (`ds (`X ζ))=_,λζ=>.ow (v5 p ζ),S.un,`BV `A,D->Ds->`aH Ds,`U a,as.zip sos,(`bO),λζ ξ=>`oo ζ (`c ξ) `e,`aa `aO,by apply `KS,"Reader",λζ=>`op ζ,items,(by intro pins s σ H Q I h),λζ=>`op ζ,λζ=>by exact ζ,.type,cons_of,(`eU),r.length,`aa α,(R S),`aH `d,λζ=>`aac ζ ?_,λζ ξ=>Inv X `t σ ζ ξ,`g i,held,`c `l,`oq ds,λζ=>N6 (ds:=ζ) rfl,D->`BW,0,List.getD_eq_getElem?_getD,λζ=>by apply `dX ζ,`aa `K,`c u,(ha B δ),String,(gc (`eV)),List.replicate,Paired,(`cq::δ),List.range,`c r,λζ ξ χ=>(`op (m9 (δ':=ζ) ξ χ)),Gi S,λζ ξ χ=>ζ `hU w `aP X G ξ (λF=>χ) rfl `aAB,by simp,.Name,(`gW),`c v,.sh `vP,l.length,D.int,Vals,pure,eval,δ[i]?,λζ ξ χ=>ζ `t s σ H ξ I χ,False,d::ds,I.hok,λζ=>(by let#[d,en,h,k]:=ζ),its.toArray,.dct,
Bool.and_eq_true,.builtin,B9 _,List.size_toArray,λζ ξ=>by rw[ζ,ξ];rfl,S.names,(`aAC),Int.toNat_natCast,λζ=>(`op (ζ ?_ ?_)),(by rw[e3] at e1),`Q z,S.wait,(gc `KT),(`a'),A5.mp,B4.mp,λζ=>by rw[ζ];lia,caps,Around,.bl _,`ja K H δ,`r _,(`aAD),(`bi `bpD),.ow `aAE,(gN 2),D.str,ns.length,λζ ξ=>by rw[← ζ];exact ξ,(k:Int),`r x,X.mg,ds.length,`jb d,`I h,λζ ξ=>m5 (δ':=ζ) ?_ ξ,PD X a ga,`aH D,Same,X.prog,(j:Int),flat,S.begun,.sh d,s.toks,λζ ξ=>`aN `dt A ζ Q E ξ,(gN 0),(`kB).bind,z.elim,λζ=>show ζ by lia,λζ ξ=>z7 ζ (z7 ξ v6),Frag,λζ ξ=>fun σ H Q=>ζ σ H ξ,List.append_nil,PD X b gb,"self","at",(k+1),l.map,(gc (`or)),(`em),λζ=>fun σ H Q=>ζ,Scope,`g _,PD X e g,`G (`mk) Aa,λϑ ϕ ϖ=>`ec ϑ ϕ (spD K ϖ),`aa Pt,(`bc),`c x,"_law_book",`H ds,r.mono,items.length,outer,(z7 `aE v6),name,H b=`e,λζ ξ=>`aN `ek X.A ζ ξ `hW s,ga δ,λϑ=>`g (`aM ϑ),X.N.Nodup,`G (`aAF) Ab,(`KU rx),`G (`aad=`vQ::`vR) Aa,List.getElem?_map,Ds->`cD,(by rw[e1,e2] at h),0,λζ ξ=>xb0 (by rw[ζ,ξ]),λϑ ϕ ϖ=>(by show (`ba ϑ (ϕ ϖ))=_),cT_Reader,D.bl,(`aaf),(`ml),bdS e1,SubO,(`eW::r),gb δ,`c `f,w.length,h.objs.size,(`aae),`aa (`j),`f8[u]?=`dY,S.length,RelV,X.calm=`f,held.length,.bool,(`a!),`aH V,λϑ ϕ=>`w ϑ (`c ϕ) `e,λζ ξ=>`aN _ _ ζ _ _ ξ,`Q h,Cl h C tl,Unit->`ej,D->`B,Gr H H' B B',`G (`KV) Ac,List.zip_cons_cons,(`bh `aAC),`cd=`mm,λϑ=>(by simpa using ϑ),`c q,by kernel_rfl,`c c,`vT rfl,.fin,`s xs,b.un,(z9 hr),ys.length,`Q `u,λζ=>by show ζ;lia,[`BY],B8.mp,λζ=>by have:=ζ;lia,G1 δ,λζ ξ χ=>by rw[ζ,ξ];exact χ,`bV xs us,[`a'],λζ ξ χ=>`kA P w K mg `aP CX0 ζ fa fd ξ χ,`dF=0,[`cq],λζ=>λx y H Q=>ζ,λζ=>`c (`bU ζ),List.reverse_cons,`aag K H,`v->Prop,(`BX `cF X.w),δ.set,by omega,.sh `vW,(`vV),scope,(n8 1),closed,s.heap.get?,`s ds,bootBuiltins,`g n,A6 e,(`dZ),[`cV],`g 0,(i+1),λb hb=>?_,body,`c `aah,`s _,s₁,"__init__",call,`aa v80,x=`a',(z7 `V v6),(gN 3),Model,`aa Env,`mn `aai,`Q hb,λζ=>(by let#[r,en,e1,kk]:=ζ),(K6 `aAG),kd<4,
`I z,`U C,`g 1,lo p b,"tuple",.value,B6.mp,.sh `vX,gA δ,Value.ref,Nat×`k,`g `cG,(gv 4),λζ=>`r (`aF ζ),(`KW),X.base,List.length_singleton,"NoPack",#[h,g,d,t,os],(`bs),b.want,List.getElem?_append_left,ym0 e1,meth,root,vs.length,ns[k]?,λζ=>by simp[ζ],PSsB,(`aAH),`Q q,List.replicate_succ,λζ ξ=>`bpE (ζ) (λ_=>ξ),λζ ξ=>.mk λB δ=>ζ ξ,`G (`jc) Aa,(hb B δ),(by simp only[`h] at e1),`Q e,`aaj+1<`os,ym0 h,Nat.zero_add,ClsN K `bd d9,(b:Int),H' b,.sh `vU,I.kIn,.Attribute,Opens,λζ ξ=>by rw[ζ,ξ];lia,(n8 0),someO,h.elim,as.length,"end",(by delta closed),λζ=>(by let#[x,H1,I1,r1,q1]:=ζ),q.to,FuncData,bdS h,at'.sl,List.length_take,Ends,(`aAJ),`ot ds xs,.sign,λζ ξ χ=>n6 (x:=ζ) (y:=ξ) rfl χ,λζ ξ χ=>FnD P w K mg `aP ζ 1 ξ χ,False.elim,HOk P w H h,`dG y u,`G (∀x,foldedSetIterable `kC `P x=`bW x) Ad,(by let#[t',rfl]:=ry),`G (`aAK) Aa,`I hb,`d->Prop,(by simp only[`h] at h),Decidable,`BZ `aak `vQ,List.map_map,`c `KX,`cd=`KY,λζ=>`B_ K `f9 ζ=`gX,b.qs,mainGlobals,en.same,h.get?,.name,λζ ξ=>{ ζ with heap:=ξ },"value",(·.1),.sh (`ov),w=`eY,`r s,S.hold,(gc (`ou)),b<=255,X.env.locals,.bl b,`g `aW,I.loc,CloseOk,K.In h,S.names.length,`jd s1,gx δ,List.mem_singleton.mp,λζ=>λcl s H ex=>ζ,items.size,b.qs.length,(`KZ),G δ,D.lst,value,λζ=>`el i (.ow ζ),.Assign,`c (r,R S'),λζ ξ χ=>o2 ζ (gc (`g ξ)) χ,`dG v u,`c k,G.nl,`ow<=100,λζ ξ=>ob (o2 ζ ξ eqD),`I q,λ_=>rfl,PE X e te,λζ ξ=>#[_,_,rfl,ζ,ξ],List.lookup_cons,λζ=>(by exact `p (`p ζ)),`G (X.fn y=`f∨`aal y=`kE) Ae,`aam d,λζ=>(by let#[r,en,e,k]:=ζ),`I e,Rel S b,λζ ξ χ=>okD (k:=0) (G:=ζ) F ξ (χ) `rK,`aH `A,A3 _,`c `e,.sh (`mo),`c y,`U p,"list",A.in1,(`B0),m.length,λζ ξ=>`vS ζ ξ [] pos,at'.same,I.list,I.free,`g z,`H xs,gt δ,X.stack,lean,(λb ds r b' h=>wq0 h),`g `cv,pre.length,"_law_cell",NodeOk,D.nx,`K0 kd n,`je=`aG,λζ ξ=>`G (`jf ζ `P=ξ) Aa,hbase,[`cq,`gY,.un],(`vZ),λζ=>.ow (`s ζ),C6 _ rfl,(`rL),`vY=`aG,List.mem_cons,λζ ξ=>`aN ζ A ξ Q E s,K.lookup,
scope.names,(`aAI),λζ ξ=>#[ζ,H,I,rfl,ξ],H p=`e,(`aAL),[`cV, `cW],`aH ResB,[`eW,s],[`B1],(by with_reducible assumption),`aa (Key×V),True,`aa (`K1),`aa (Str×V),CmpOp,2 ^ 62,(by intro pins s σ H x y v u Q I rx ry h),List.flatten_cons,#[?_,?_],Ds->`v_,`G (X.N[j]?=`gZ) Aa,`G (`aAM) Af,`Q `a?,(by let#[xs,rfl,rx]:=u80 f4),(by have O:=`rM),λζ ξ=>`B_ K `f9 ζ=`c (`c ξ),λζ ξ χ=>ζ `hU w `aP `v0 `aap ξ (λF=>χ) rfl `aAB,l.prog,λζ ξ=>Env K ζ B σ ξ,X.xe,(gv 3),(c:Int),(`g_),λζ ξ=>{ s with heap:=ζ,toks:=ξ },List.getElem?_set_ne,λζ ξ=>OpR X (`K2 ζ) ξ,.bl `f,.ins,I.bare,`m z,ks.length,ObjOk,λζ=>k _ H `ox ζ,(`rN),flats,p::ls,`g j,(`rO),s.heap.push,(`B2),h'.get?,todo,0,opened,λζ=>(`l,`bX ζ `P),T.b_len,λζ ξ=>{ cls:=ζ,data:=ξ },List.getElem?_eq_getElem,[`cq,`en,.un],first,0,`f' s1,es.length,"length",CallR,0,`c b,λζ=>`G (Gl X ζ) Aa,`aAN=`rP,next',i.toNat,λζ=>(ζ).toArray,(`mp),(yl0 hp),k _ _ `du e,`dG x u,h.nd,`K3=`d_,Nat.sub_self,[`cq,`en,`rQ],(`d0),`aH RS,(`B3),λζ=>o2 ζ `bF w50,`c `K4,λζ=>o2 ζ `bF Z7,λa z=>?_,λz=>?_,λζ=>λD σ H=>ζ,(gN 4),λζ ξ χ=>(`op (A0 (ζ ξ χ ?_))),λϑ=>`cL (ϑ) `e',`aR h,(by intro pins s σ H D I h),Sem `B,List.lookup,args,(`bi `bpF),List.getElem?_replicate,Ds->`rR,λζ=>`B4 (`X (ζ)),(by let#[v,e,r]:=h),(by let#[v,rfl,r1]:=t50 r),(hr.mono hk),λζ=>(by rw[ζ] at r ⊢),λζ=>ζ _ _ p hu,λζ=>ζ _ _ `eo hu,`c (.ex c n δ'),(by replace e1:=`dv),λζ=>xo0 rfl (ζ),`aR `n,`ar h,(`aAO dp),λζ ξ χ=>`kF ζ `as `al ξ σ χ,λζ=>Rp K H B ζ v,Gl X x,env.same,`f! a,starEach,`oy s2,Hp->Prop,"begun",`aa Key,Room,w=`f?,.root,List.length_nil,λζ=>X5 0 `kG ζ,b.parts,(z7 `am v6),I.len,(gc (`oz)),qual,keys,vals,I.pin,get_set,.seq,(gc (`v2)),X.fs,"name",(`aAQ),(`cw),(m:Int),assign,`c `v1,(`jg),hline,λζ=>Z3 (O6 `cr ζ),λζ ξ=>xx0 0 `bd d9 ζ ξ,b.qs.set,`K6=`B5,G.nm,hidx,its.toArray.size,bm.1,(`B7 h.go),0<=i,λζ ξ=>(`bG ζ ξ).flatten,Y0 rfl,made,`c (`mq,R S),List.length_drop,∀a,`oA->B a,
∀a,B a->`oA∨`aAP,`BV GenState,(`mr),λζ ξ=>`aN _ `g1 ζ _ _ ξ,`c `rS,at'.bad,D.tup,"word",`ar z,(0:Int),w≠`d1,O.w.openOk,(`oB `v3),(z7 `hX v6),`BV (`gV),Result->`ej,`oC=`eU,PE X a ta,(`KU r),(I.ok.hd hc),(t90 I q `a?),A.handled=`e,List.length_replicate,V->`ms,pl.isList,(`rT),"str",List.append_assoc,#[_,q],λζ=>(by exact `p (`m ζ)),Ds->`B6,λζ=>ii λi j=>ζ,`au=`aX,RpO K H B d a,λϑ ϕ ϖ=>`ec ϑ ϕ (spN K ϖ),`cH d=`f,`kH `aah,λζ ξ=>yi0 (by rw[ζ,ξ]),`cI[k]?=`dY,`eZ hd,D->GSB,FnOk,dpN i δ,iter,(`au).bind,`c .local,EnvS,(o4 0),λζ=>`c (.ok ζ),`r (`v4),.sh (`K7),if_false,cpos,.free,.cls,.own,.ret,pool,bkD b2,.Subscript,tt0 `bY,.sh `B',(`d2),λζ=>λb o e=>ζ,(`ga s h'),setN,pairsOf,by rw[O8],`c a,(`K_),S.count,A2 ?_,pd `v6,start,HT.sIx,.sh (`v7),(`oB `v5),(unG w70 `bF),(`bZ he _ h),(by rw[w90]),(`aAR),at'.dp,λζ ξ χ=>`G (`aan ζ ξ χ `P=`aao) Aa,(`B9),`c `v8,G `B8,(vs++dvs),Gr.less,e.all,B1.mpr,.sh (`kI),n%4=3,λζ=>`g (ζ:Int),"_law_number_here",St->`jh,(`bP x pos),"int",typeLookup,δ[j]?,Option.map_some,`r a,k.toNat,`B! b,`K9=`B?,List.length_reverse,[`cq,`kJ,`Ca],λζ ξ=>`bk ζ (`bk ξ rfl),`aR z,[`gb, `ji],(gv 5),λp hp=>?_,λζ=>(by simp only[ζ,`kK]),(by apply `Cb (C5 hx ?_) hc),j∈B,(gc (`v9)),λζ ξ=>(`op (A0 (ζ ξ ?_))),λζ ξ=>A0 (ζ (A0 (ξ))),`aa (`jj×V),α->β->Prop,`aa β,`Q C0,(by intro X hP hw hK hc i pins s σ H E I hf st hg),(by subst hP hw hK),`dG x v,(by intro pins s σ H xs us Q I r h),`Cc X.K fd ps ds,`bV dvs ds,List.all_cons,λζ=>`c (`g (ζ)),signs,`b4 ks ds,λζ=>∀{ds:`k} {xs:`S},ζ,PDA X `g2 gA,PID X tg `kC gi,`rU (PGD `rV tg idx f),λζ ξ=>PD X ζ (o2 ga gb ξ),`mn `K',`mn (`mt `kL (`oD)),`G (`dH) Aa,`K! κ,λζ=>`p (`p (`p ζ)),λζ ξ χ=>(by refine#[ζ,ξ,rfl,χ,?_]),`aAT H,(go δ).bind,(t70 d).bind,(by exact`bpG),`aa (`K?),λζ ξ=>wl0 (by rw[ζ,ξ]),λζ ξ=>yu0 (by rw[ζ,ξ]),λζ ξ=>N6 (ds:=ζ) (`bk ξ rfl),`aa (`cD),λζ ξ=>u9 ζ (u9 ξ `q),λζ=>exI 0 `Cd λc=>`X (c = ζ),`d3=`Ce,[.un,`aAU],(`Cf),
(`bi (cok rfl rfl `c7)),X.N[i]?=`c8,`m rfl,w::ws,λζ=>`G ((ζ).any `gc=`l) Aa,`g `fv,`U e,.bl `l,`U `Z,`S->`La,backTo,List.getElem?_append_right,(n8 2),(`bP x p),as++[L],`r `cW,S.digits,vk0 b,(gc (`Cg)),I.os,I.cell,λζ=>λv1 H1 s1 r1=>ζ,`g k,kvs.length,leans,`aF n,`c (`rW),`bj `g0,(`bk rfl rfl),(gc (`r `aaq)),(gc (`g 8)),q.kind,`s es,`s (cs.map `g),`s `aAV,λζ=>o2 ζ `ce eqD,I.tuple,`m q,[`c9],True.intro,`bj `eX,(`bj T),t10 kvs k,(`v'),pos.line,"digits",inst S,s∈T,isRoot,prog,(`v!),(`Lb),`c (`rX),δ.length,s1.heap.objs.size,f2 b hb,`c [],`I hl,PSsD,(`aAX),r2.length,(v50 N j p b ds),b≠a,[`aAW],"class",λζ ξ=>[ζ,`e_,ξ,.un,.un,.un,.un],"web",.call,s20 ds,s1.free,λζ ξ χ=>ζ ξ B δ χ σ H Q,its p,(`Ch `wb),I.ok.kind,λζ ξ=>ζ `t s1 σ H1 ξ I1 q1,λζ=>#[ζ,H,`wc,`Y,q],`c `kM,`Lc d,(`wd),λζ ξ χ=>∀H₀ B₀ δ,ζ X ξ χ,`aa (V×V),trivial,Value.type,`aa κ,Value.none,if_true,`Lg=n,`mu `bQ,λζ=>ifD _ _ _ ζ=_,[`cq,`gY,`aar],`rY=[],(`aAS),(`Ld),0<`dF,λζ=>show ζ from r,Drawn,F1.mpr,`aa (`d×`dw),(by by_cases hb:b=a),`br H' s',`oF=`e,`G (`aAY) Ab,#[rfl,rfl],`jk k X.A,`Le apos.atName,List.any_cons,λϑ=>`uS λd=>ϑ,(by let#[xs,e,r]:=h),`bH F l m,`Lf d,λζ=>(by let#[t,en,h,k]:=ζ),(by intro H B x y dx dy d Q hb rx ry h k),k::ks,λζ=>`c (`s (ζ)),PX X e gx,ZipApart z TI TO i1 i2 l1 l2,`G (`aAZ) Ab,λζ ξ=>`oo ζ ξ `e,s50 eb,nrf d=`f,(by let#[c1,c2]:=O.w.back),λζ ξ χ=>m9 (δ':=ζ) (ξ) χ,(`aas `Lh),`ar `n,λζ=>`H (`v9::ζ),λϑ=>`af (`a6 (R ϑ)::δ),`oG∨`ge,`jl∨w=`kN,0,λζ ξ χ=>m5 (yn0 (d:=ζ) ξ) χ,λζ ξ=>m5 (δ':=ζ) rfl ξ,(`aA_),`aa LP,c<=255,`g3+1,(o9 `mv j5),(by let#[f,fd,F9,a9]:=h9),λϑ ϕ ϖ=>if ϑ then ϕ else ϖ,λϑ=>by refine ϑ,λζ=>Rps K H B ζ xs,`g 3,cLine,λζ ξ=>`Li K H B as ζ ξ,`g 2,`g c,n.length,(`aau),s1.trans,`g 4,`al a,λζ=>T5 0 `bd ζ `kG,o.cls,`jf [] `P,codeAny,`cx x,w=`jm,`g `we,`g b,`wf `wg,inc b,`wh=`aG,holding,λ_ _=>`b_,`c ds,apos,`e1 C,`r (`rZ kd),k::us,`r z,"names",ns.map,NB (H a),
List.length_zip,"_law_script","_law_k",`r_=sc,.sh (`oH),Bw.web ps,as++new,"_law_some",`c `cf,"count",.fields,.sh `r1,A9 _ e,`bX o `P,(`gf),S.spelled.length,`gg (`Lj),`s (`aA0),`D->Prop,`c `r0,s₁.heap,A.units,(`e0).bind,(`g4 `mw `g2),.ex c n,[`eW,`fx,.un,.un],λζ=>`mt pos (ζ),`r `Lk,`c (`kO a),.frz,[`oI],(np:Int),`r y,items.drop,(`c'),"zip",hfew,λζ=>yo0 (ob ζ),λζ=>o2 `aE ζ c7,λζ=>O9 (xa0 ζ),.sh `wi,j.toNat,T.length,(Bw.small `n),S.wait.head?,`dI/2,λζ=>by rw[ζ];simp,(`wj),(0,[]),[`v7],`c (.rf d),`aA1 `cs,X.s₀.heap.objs.size,(`h_ h' t'),λζ=>.bl (`X (ζ)),e.bad,`U l,`wk hi,r1.length,λζ=>`c (.ow ζ),List.map_nil,(`aA4),(`aA3),`c (.rt d),(gc (`Cj)),(j+1),W.findIn,(`b0),KV kvs vs,(`oK),o.data,(g i j),`fw=`e,(`oJ),h1.get?,`aav=`c8,s'.heap,λϑ=>`hr `ek (ϑ),getItem,(`Lm),its.length,(`aaw [#[tg,`kC,ifs,0]]),λζ ξ=>∃a xs,`Ln/\ζ/\ξ,en.b0,um0 ks q,(n+1),.done,"enumerate",λϑ=>∃a sub,ϑ,h.len,`c! g,(`mx),"sign",`c l,`aA2 `Ll,DL.liftT,[`cq,`gY,`aA5],λζ=>`c (`s ((ζ).map `g)),`wl<=20,G.few,[`cq,s1,`en],2*k+1,(`Ci),(`Lo),λζ=>#[ζ,?_,rfl],"law",(gc `x),r'.length,λζ ξ=>`vS ζ ξ [] `kL,(gN 1),(gc (`g 5)),"spelled",(`Ck `gh),(`K8),λζ ξ=>F5 ζ `fy ξ e `r2 fin,(gc (`my)),(J7 `Lp `wm),λζ ξ=>`oE `dt A ζ R ξ,λζ=>`ds (`X (ζ)),"__getattribute__",`gV->`ej,λζ=>∀b o,`oL->ζ,K.In `ay,λζ=>by rw[ζ];decide,(`wn),λζ ξ=>R (.ok (`kP ζ)) ξ,`p x,λζ ξ=>`J (C1 ζ ξ) `aA6,`h0 (B0 hj),SqT K H a xs,rv.length,rawInt,(by let#[f0,f1,f2,f3,f4,f5]:=hf it `a?),(`aax),λζ=>#[_,rfl,ζ],Bool.eq_iff_iff,`h1 op r,(by obtain rfl:u=`r3:=rx),PA X `g2 t,`oM [ov] (`Lq ov m pl),r.get,λζ=>#[ζ,?_,rfl],(`oN),`e0=`oO,List.nil_append,λζ ξ=>pp0 ζ `t s σ H D I ξ,λζ=>∀n:Nat,ζ,hq.to,(by intro H B xs ds d Q hb r h k),`Lr `aak,`jk m X.A,λζ ξ=>fun δ=>ζ λr=>ξ,`cy=n,`h0 n1,(by rw[`b5] at h),(`bi `bpH),`G (`aA7) Aa,List.getElem?_cons_succ,`G (Vis `r_ y) Ac,`G ((y==`aA8)=`l) Ab,λζ=>ζ _ _ _ _ ro,pr0 ns d,PN X i e g,PN X i o go,["thing"],`aa (`e2),
λϑ ϕ=>`ae (`kw ϑ (`aR ϕ)),λζ=>(ζ).bind _,λζ=>T5 0 `bd ζ `kG `bI,λζ ξ=>`s ((ζ).map ξ),(`aas (`wp 2000)),0,(`bi `bpI),lo0 S kd n,λζ=>`c (`h2,R ζ),λζ ξ=>`bk (d:=ζ) ξ rfl,0<=b/\`gi,λζ ξ=>by show ζ;rw[ξ],Gw.ka0 _ _ `u,D->`k->`aH DXB,`aH LB,λζ ξ=>.lf (λz=>ζ) ξ,[`gd,.sh (BL t)],λϑ ϕ=>`ec 1 ϑ (spB K 0 ϕ),λζ=>#[_,C7 X G ζ],(λds d h=>vc0 h),`Z+1,`g5 s1,`s [],bkD b,`c (`wq),.sh `Cl,`aH `B,(`mq),`p rfl,λζ=>∀cl s H ex,ζ,(xi0 X `ep cl N' s H ex),`h3 C dx fs,.ow d,S.spelled,kindS,X.env.scope,(`bR),(`wr),(λz=>nomatch z),`e1 a,`r5 `cX,λζ=>bk ζ cs sm m `kQ,I.freeC,(zm0 v6),`aF l,`a6 (`r4),b.names,"byte",`Lt s2,code N k,λζ=>(ζ).map toS,λζ=>λv σ H Q=>ζ,`g `ws,`aH `K,hs.2,λζ ξ χ=>`J (show ζ from ξ) χ,(o5 st),`aF w,`mz*128,(`oQ::tl).contains,.BoolOp,`c e,λζ=>λb o hb e=>ζ,λζ=>`c (`H (ζ)),Pd.get,.sh (`oR),(`oS),q.classed,(`Cm),assignEach,`aaA x=`d_,`c dx,"__class__",ps.zip,vs.toArray,scope.names.lookup,λζ=>.sh (`g ζ),"kind",(`oB `ji),(by simp only[`an,`jn]),A0 ?_,`Ls=`aG,X.outer,`c n,(`cJ),t σ H Q,(`wc),s.TypeIs,λζ=>`G ((ζ==`aay)=`l) Ab,λζ=>(ζ).isSome=`f,hplain,en.grow,λζ=>o2 ζ `ce gtD,.sh `wu,`c `d1,(`jo `aaz),`jp=0,(`mA),`c (`wv,`kR),fT p b `vU .un,[`c9, `wy],(K7 `d4 `Lp b7),(`wt `ce),I.hok.fresh,S.wait.length,S.begun.map,"reversed",λζ ξ=>Env X.K ζ B σ ξ,(`oB `oU),beq_iff_eq,xs.drop,`ax<=`R,b≠`gj,σ.length,(`gk),hf b hb,I.laid,`g6 hq,owL i δ,List.not_mem_nil,or_false,Noted,`gn H a sub,(`er H a sub),[`r9,`e_],`s (`aA9 `r),c∈xq0,nmF N w a k,It `aS d,m.drop,yv0.mp,bindArgs,.function,Sum.inl,λz=>z,(`Cn hb),as.map `e1,λϑ=>`ij `mX (`jy ϑ),(oA `jq ys0),(gc `aA'),λζ ξ=>Inv ζ ξ σ H s,`Lu a,λζ=>`bpL a ζ b pos,us.length,`aa (Str×`A),slice,λζ ξ=>EP X `t σ Q ζ ξ,(`BX P w),z.symm,DL.Ds,`c (`Co),¬B a,`r c,λζ=>fun σ' H' en'=>ζ,Sl.un,λζ=>(ζ).map `wg,(`aA!),b≠p,n.toNat,Bool.false_xor,h'.objs.size,Obj.mapSeq,(`Lv),(`oT),Cls K C,λζ ξ χ=>`ww (ζ) b1 b2 ξ χ,(`LA).bind,`Cp `aAE,
(q90 S kd),`r (`Lw),[`gl],ps.flatMap two,(F8 _),Whl q,`Q c1,λζ=>`I #[rfl,ζ],λζ ξ=>(by cases ζ<;>first|rfl|exact ξ),tm0 kd n `bt,R.has,h p hp,(R0 `d4 `eq b7),`U c,λζ=>o2 `V ζ yt0,(`jo `mB),(gc (`Cq)),λζ=>λxs H Q=>ζ,ht.typeIs,(`U D),Pd.imp,λζ ξ χ=>W6 ζ ξ `bpK hr `u χ,λζ=>#[B,b1,b2,ζ],`a6 (R S'),λζ ξ χ=>z8 (op:=ζ) ξ χ ?_ ?_,OsState,Fin->`ej,List.all_eq_true,nsIn K `f9 c,λζ ξ=>(by simp only[ζ,ξ] at e),λ_ _ x=>x,`aH HO,`aa (`aA?),λζ=>∀b u,`Lx->ζ,λζ ξ=>#[ζ,`mC,`h4,`aBa,`gm,`mD,`g7,`r6,ξ,`b1,`jr],`G (`aaB∨`Ly) Ae,`bV vs us,λζ=>λ_ _ _ H _ I h=>ζ,(`aaC op),λζ ξ=>(`op (ζ (thn `Lz ξ))),λζ ξ=>M1 hp (thn ζ ξ),λζ ξ χ=>`aN `ek X.A ζ ξ `hW χ,(`h_ h' tk),PE X b tb,`m e,Cls X.K C,PE X o ta,List.length,#[_,ho,rfl],V->`aI->`aI->`La,s3.heap.objs.size,i<`ax,(`kS a b pos),`aa (Str×`d),Bool.false_eq_true,`aBb X.N,λx hx=>?_,λζ=>fun δ=>`kD ζ,`cy<=`R,`c `wx,`c?<=`R,.fn ks ds,`aa `dw,as.Nodup,r.live,∀v H',`aZ->`aBc,(`aBd).mpr,(by let#[x,r,rfl,h1,h2]:=h),`b4 _ _,(by let#[a,ys,rfl,q,rr]:=r1),`aBb N,`I hf,Around.under_plainId,λζ ξ χ=>`kA P w K mg `aP `aBe ζ fa fd ξ χ,(by let#[_,_,_,z]:=q),`B! c,j<=`cy,λζ=>∃δ',ζ/\`bpM,(`Cs B δ),env.bad,(ob `aaD),(v10 `r7),S.begun.modify k `aBf,a::b::r,`r (`r8),.bl sm,cs≠[],λζ ξ=>ifB ζ (u9 ξ `q) `q,(`bh `aBg),`I `n,`a7=k::u,`cd≠[],λζ ξ=>m5 (δ':=ζ) ξ `LB,λζ ξ=>m5 (δ':=ζ) ξ ?_,cnt p<=20,(`ae `aat),(by rcases `cg hd with rfl|hd),Wb ps,c∈vp0,bg[k]?=`dY,`fA N bg u w,w≠`jm,λζ ξ=>Tk ζ `Ct S (ξ),qs.length,λζ ξ=>plN ζ `dx=`c (ξ),aft qs un,`I c2,`Q c2,λζ ξ χ=>U9 (vi0 (K8 (d:=ζ) rfl) (ξ χ)),(`K5),(fD p b c n s),(`be `bpN),`r'=`oV `aF,R.parts,R.lf0,λζ ξ=>.rf (λz=>ζ) ξ,λζ=>λcl s H ex=>u0 0 (`aaE ζ),λϑ ϕ=>`ec 2 ϑ (spB K 0 ϕ),(W8 `aaF),λϑ ϕ=>`bN cD1 ϑ (ϕ F T),(`gl),(`l,`aaG),`jf es `P,.Call,λζ=>b8 (M8 (K8 ζ)),(`wz),by assumption,(`oI),(`g8),`es b,fB p b c,`aH (`k),aT_Reader,(`g9),`g 128,"unended",`aF pre,"waiting",(kb B),
`s l,.cell,`r "",`U z,`rY++[b],.sh a,.ow (BL t),`cK+1,`LC _,∀a,B a->`oW,(L:Int),ps.map,(·.2),`f! b,(`e3),`s ys,env.at,s.length,CN_Reader,`bj `wA,Option.map,λζ=>(ζ:Nat)<=`R,`c `bl,`r `Cv,(a:Int),λζ=>o2 `am ζ ixD,(`Cu),.bl t,EnvV.mk',(`et),"_law_byte_here",`g `hY,"function",(kt T),w00 q,Pd.len,putN,gi δ,λζ=>Ds->`aH (ζ),(i:Int),λϑ=>ϑ `as `al δ,.sh (`sd),attributeBase,[`wz],`s vs,ks.zip,next S1,b.amid,σ.set,rv.same,X.pn++`t,q.2.length,"NoWay","isinstance",`bA hb,.func,`U b,λ_ _ _=>`b_,σ[j]?,H a=`aG,`LD s3,.deep,(`h5),λζ=>(by let#[c,so,rfl,f1,f2,f4]:=ζ),.sh (`mF),.sh (`LE),pd `wB,`s (`aBh `r),2 ^ 64,`wf `gc,n/4%4,Pd.app,(`a1:Int),`r vo0,(z7 `e4 v6),`cG*`cG,.sh `x,.Tuple,kindOf,`eu x,G2 δ',`B! a,(`r?),λζ=>o2 `am ζ c7,`k->`B,`r `Cw,B.length,E3.mp,m.take a,PWD.pt,`e5 (`sa),S.wait.tail,A9 _ q,(`aBj),(b/2),(`wC),`h6=`ax,λϑ ϕ ϖ=>`c0 (∃B δ,`nn ϑ ϕ ϖ),λζ=>∀h:`D,`go->ζ,λv2 H2 s2 r2=>?_,`bV xs its,`mG<=`R,(a==`LF)=`l,λ_ _ _ q=>q,λζ ξ=>HOk `cF X.w ζ ξ,.Expr,(us++ds),W.codeIn,sliceBounds,"len",f d δ,λζ ξ=>by rw[← ζ,ξ],g `LG,SeqAt.EqAt,`mE ?_,at'.w.hd,en.mutB,at'.w.len,λζ=>#[q,en,e2,ζ],`aBk `Cx,S.un.length,`aBi `Ll,`cI++[`LH],`r `LI,[`aBl,`s q.2],`gp - 1,(`g x),hb ps B T d,(rr0 N c n),(gc (`g 10)),b.left,`r w,`g `LJ,`sb (wo0 `bt),(λds d h=>qm0 h),"_law_many",(gc `K4),Q v H',(by rw[`bpO]),(`Cy),128*n,`U L,"range",B++[j],λζ ξ=>{ ζ with names:=ξ },"BaseException.__getattribute__",cd.mro,λb o e n hb hx=>?_,(`g i t),λζ=>H a=`c (ζ),λζ ξ=>st ps ζ B T W ξ,λζ=>(zs ζ).map `bU,`aBm `bU,e.own,(by rw[`oX,← hl,`aaH]),λζ=>o2 ζ `js f9,(gc (`LK)),c.obj,`b6 "object.__class__",(`aBn),`c p.2,λζ=>St->Hp->(ζ)->Prop,(`U it),(hi - lo).toNat,(`aM 0),`c (`LL),λζ=>(ζ).map `gc,`aBo `jt `ep `Z f cd,`aaI<=`R,caps.length,`r #[⟨c⟩],.dK `Cz,(`aaJ s),λζ ξ=>∀B δ,ζ X e ξ,`sc (∃B d δ,`aBp X.K),en.fr,gh δ,`h8 `CA,Str.ofString,Rps.snoc,x.length,`c so.ho,(`gq).bad,(gv δ).bind,λζ ξ=>ζ B δ `t s σ H Q I ξ,
(gc (`CB)),λζ=>{ S with digits:=ζ },(`aaK),Sl.sh,(`b7),(r:Int),nB B d,D8.mpr,gP δ,`CC `ju `jv dpos,`aa `B,i≠j,λζ ξ=>oA (z7 ζ v6) ξ,λζ=>{ b with qs:=ζ },m*128+c%128,c<128,[`cq,s1,`cJ],(`g y),[`aaL],t30.nd,[`oY, `oZ],(top 78),`r b,(gN 5),(.xd [(`cW,`ev)]),(z7 `ce v6),λζ=>`wE 0 `kG ζ,λϑ ϕ=>`g4 (`bP ϑ p) [ϕ],v=`x,λζ ξ=>λz=>ζ (z▸ξ),λx c e=>?_,env.free,λζ=>xw0 vv0 [ζ],Option.bind,λζ ξ χ=>`aaM (i:=ζ) (j:=ξ) χ rfl `u,λζ=>ifB ζ RF `q,.bl k,en.mut,`wD `aBq,λζ=>o2 `aE ζ ixD,(gc (`g 7)),λζ=>o2 `js ζ yr0,λζ ξ χ=>xy0 (b:=ζ) (ds:=ξ) rfl rfl χ,λζ=>(`op (ζ ?_ ?_ ?_)),T.b_isinstance,T.b_range,`aa (`se),by apply `aBr;kernel_rfl,h.Ns `f9 mg,beq_self_eq_true,oe.data=`CD,b≠x,λ_=>`e,sizeLine_eq,λζ ξ χ=>(`sf ζ ξ).trans χ,(by repeat (any_goals (first|assumption|wp_step))),`aa (κ×`A),λζ ξ χ=>ζ (show ξ from χ),H a=`e,frs `g!,PassesOwn `ek X.A `P `hW,`A->`aaN,λζ ξ=>λx H1=>ζ σ H1 ξ,λϑ ϕ=>`cS ϑ λx H1=>ϕ,λζ ξ=>ζ λ_ _ _ _ _ _ _ q=>ξ q,`sg `CE hs C0,NoAttr K C f,`CF `e6,λϑ ϕ ϖ=>`br (upd H ϑ ϕ) ϖ,PA X es t,`LM CX f sp,l20 CX X E,ws.toArray,λϑ=>`as8 `hw H ϑ,xs=[],λϑ ϕ=>`ir X ϑ (`ue ϕ),n<=`R,λζ=>(ζ).get? b=`aG,`ao N ps `sh,names,`Q hc,λζ=>fun δ=>`aaO ζ,(`wF).bind,`wG `aI,[`et],∀a,B' a->B a,List.cons_append,h.at',`LN hl,λϑ ϕ=>by apply `b2 ϑ;cases h;exact ϕ,(by apply `b2 h),(`be `bpP),Op2 X.K r f,PDA X es gA,λj hj=>?_,PDF X e g,`rU (PD `rV elt ge),`ab x `jt st,"bool",.fn _ _,`G (`o_) Aa,`G (X.N=N) Aa,(hN▸ok),KT H kvs xs,.dK [],Y4 `F,(`CG e2 e3),`g? d n=`f,`mH ds n=`f,(by delta lean at l),λζ=>ζ p `eo hu,λζ=>ζ _ `eo hu,uy0 0 n,(by by_cases e:k=q),(by simp only at h),st.hTI,`aa (`aaP),(`aaQ),`g `wH,`h' ds=`f,n.natAbs.log2<1920,`kH (.rt d),[`LO],But p H H',But a H H',(A4 q),(`kT).bind,en.setN,(by delta qr0 at h),r.1=c,`jk n X.A,(by rcases `aaR with q|q),tr d=`f,`s rs,`aaS=`CH,(by let#[B,c1,c2,env,rv]:=ev.ex),λζ=>(by rwa [Y4 ζ] at this),liftT,λϑ=>`JH (`jK ϑ xl0),
[1,2],λζ=>yp0 (vw0 ζ),.table ps,λϑ ϕ=>`w ϑ `e (`c ϕ),`ae hδ,λϑ=>`eg (ϑ:Int)=_,λζ=>(ζ).trans rfl,(`aBs),λϑ ϕ=>`aq ϑ (`g ϕ) rfl,λζ=>`wo _ (ζ)=_,k<`a1,(rh0 S),g `bI,Want.fin,(by rw[`bpQ]),λζ ξ χ=>xo0 rfl (m5 (δ':=ζ) (by show ifD _ _ _ ξ=_;apply `aBt;rfl) χ),(by delta DL.liftT),(by delta v90 xm0),λζ=>m9 (U9 ζ) h,λζ=>`h' (ζ)=`f,λζ=>`c (`h2,ζ),[`cq,`en,`o0],`dF<=8,v40 rfl `aaU,q.1<4,(r/128),(`aM (128+r%128)),λϑ ϕ=>`aq (`g ϑ) `eV ϕ,λζ ξ χ=>v40 rfl (m5 (δ':=ζ) ξ χ),p.vals,λd hd=>?_,`wp 16000000,[`cq,`gY,`o0],Fts n ws ds,(by let#[c,_,rfl]:=h),.ex c n b',`wG (DXB×Ds),Str->`aI->`cD,RQ K H B q vs ls,λζ ξ=>PSAs X i j ζ ξ,D->GE,(`o2),(`aBu),(as++`h!),λζ ξ χ=>`wE 0 `kG ζ ξ `dx=`c χ,`I c1,xo0 rfl ?_,λϑ ϕ=>ob ϑ `vE=`ak ϕ,`c (`mq,`rO),nm b u q x,¬`LP,0<`a1,λζ ξ χ=>∃t,mg ζ=`c (ξ χ t),λζ ξ χ=>okB (k:=0) (G:=ζ) F ξ (χ) `ha,λζ ξ χ=>T7 (T9 ζ (u0 ξ χ)),(o9 `eq j5),λϑ ϕ=>`ec 3 ϑ (spB K 0 ϕ),[`o3],λϑ ϕ=>`bN cD2 ϑ (ϕ F T),Array,D->`cD,model,"part",λζ ξ=>`G (ζ=ξ::`oD) Aa,W.nsIn,e::es,"number",O9 ?_,λ_=>`b_,λϑ=>`c (.bl ϑ),`c (`o4),`aH Res,λζ=>`wI ζ,(xw0 N ds),K5 nm,(`hb),sub.lookup,`c so,.sh (`LQ),λζ ξ=>(by (with_reducible refine ζ;rw[ξ])),Binds,[`aa', `aa!, `aa?, `aba, `abb, `abc, `abd, `abe, `wU, `e9],u::un,`LR b,`r `oU,λζ=>{ s with toks:=ζ },by apply `aBv,`g 36,λζ=>o2 `V ζ c7,(`ev),`m ks,Gr.own,.nx δ,Sl.ow,`r `o5,.Constant,ha.go,[`mo],`H [`my,`e3],(`si),"record",λw=>`cs (zi0 w),`gg d,(`aaV),(`LT),`g 60,.Dict,`o6 vs,`l=`f,λζ=>`LU K ζ=`f,λζ ξ=>by rw[ζ,ξ] at e1,`c i,λϑ=>(by with_reducible refine ϑ),xs.size,`r (zi0 w),behindInMarks,binaryOp,B b/\¬`al b,λζ ξ χ=>V6 X s H B n ζ ξ χ,λn=>`cs (`mI),(`U W),"ValueError",λζ=>by apply `CI ζ,I.base.there,.Return,V->`La,xs=[`g_],λζ ξ=>by let#[a,as,sos,at']:=ζ ξ,yv0.mpr,"told",S.ends,q.count,[`cV, `r!],vs.map,`r `LW,`wf pr,.dK kvs,(`ew),names.map,(gc (`r "parts")),n/4/4,List.zip,(u20 P w),(`gp:Int),
(gc (`r "left")),I.base.keep,I.base.slot,`jw p hp,IsPart,`c `kV,Value.bool,(by delta Rp at h ⊢),sos.length,(`aBw),(`CU (`sm) pos),λζ ξ=>Rps K ζ B ds ξ,`jx h2,IsPair,min `CJ `LX,uk0 dk,other,`H (`cw::ns),λζ=>`G (`wK o ζ `P `aaW=`o9) Aa,λϑ=>`gA (`a86 ϑ),(`c `LZ),"size",(`Ck `js),.sh `o',fR p b c n,xj0 `ia `wL,`c w,.sh (`wM),T.b_tuple,b_tuple,λζ=>by show ζ;decide,V.str,Want.name,W.fnOf,(`CK),RawAt,sc.names.lookup,Pd.get',λζ ξ=>{ ζ with count:=ξ+1 },`aBx f1 f2,(`h?),λζ ξ=>sa0 f gt ge ζ ξ,fold z,Sum.inr,[`cq,s1,s2],q.names,(R E),(1:Int),E1.mpr,(`aaY).flatten,λζ=>`h7 P w H h a ζ,(xs++ys),(`aBy),NameKind.cell,(n,k),`c δ',λ_ _ z=>z,λζ=>∀(k:Nat) C dx fs,ζ=`mJ->k=0,Pd.set,`CL op b=`l,λζ=>λv H' s r=>ζ,Loc `r_ x,λζ=>`jf [ζ] `P,λζ ξ=>(by cases ζ<;>simp[ξ] at h),O.extBut,`cg h,s.heap.FunFrames,`Cc K fd ps [],env.mutB,(`L_),r.2.1,.List [] lp,at'.w.all,Gr.but,bdS e,`wN (`L0),`o!+1,nameS.cps.toList,`r (`mI),`cY `aBz,λϑ=>show ϑ from `dZ,(`wO),λζ ξ χ=>`aaX ζ `as `al ξ σ χ i j dp,λu=>`KZ,n%4=2,`wP=`l,(`aaZ),λζ ξ=>[a,c,ζ,ξ,.un,.un,.un],λζ ξ=>[`v?,`gd,`wa,s3,.sh ζ,ξ,.un],λϑ=>`Ew (BL ϑ) .un,(`aa_ x),K5 [c],(o2 `am `cZ f9),λζ=>o2 `aBB ζ eqD,λζ=>hb ps B T ζ,F a b,"0123456789abcdefghijklmnopqrstuvwxyz",`hc+k,`ib `aa0,X.env.kindOf x,λζ ξ=>`aBA `mK (`jy ζ ξ),s.cps.toList,(`L1),M7 `ct,`aA 0 `f8,`g `L2,`g `L3,`jp+1,tm0 q.1 n q.2,(K5 x),λζ ξ=>`bpR #[ζ,ξ,rfl],(`c `aW),H l=`e,λζ ξ=>Q ζ (upd H l ξ),(plN `aBC),b≠e,s.gens,`mD x c e,(`wQ i `r0),λζ=>`aBD ζ `ay h',ok.kind,b∉`jA,`br H `kX,(b,o),λζ ξ=>OpR X (`CM ζ) ξ,F.run,#[us,[]],λr s' hq=>?_,I1.kIn,IsTup,(`aBE),forIn,(`aBF).names.lookup x,λϑ ϕ ϖ=>`aXY ϑ (`w `Oz ϕ ϖ),Gb δ,SqL' K H B a xs,Rp K H B d x,λζ=>ζ X.K B δ g,`c (`aa1),λζ ξ χ=>`kF K `as `al ζ ξ χ,w.oth,`w `CN `e (H1 b),¬B b,(`aa2),p1.isList,`aa3 ?_,λζ ξ=>ζ `cF X.w X.K `cx `e7 ξ k ps f,λϑ=>`gA (`s ϑ),O.grow,(by delta lean at h),`CO d x u,(`mK),`wR s1,
λζ ξ=>ZSt ζ z TI TO i1 i2 l1 l2 S xs ys ξ,(oy0 H l),A4 `F,λζ=>∀b o,ζ->`aa4,s.heap.update,`LY=`aG,λϑ ϕ ϖ=>`o (Y4 (xh0 ϑ ϕ)) ϖ,`ja X.K H δ,(`aa5 (`wS) W),hb.go,EnvV K `as `al H σ δ d v,λd=>d,`bX `L4 `P,λζ=>`kY i k ζ δ,H1 a=`mJ,`L? m=`e,w.opAt,nm++[f],λζ=>o2 `V `jz ζ,(o2 `V `mN f9),parts,(`L5 `aa6 `aBG),`r5 k',`aa7 `CP,q.2++[d],λζ=>om0 (es:=ζ) rfl,u.length,(`o?),`sj+b%128," 0123456789abcdefghijklmnopqrstuvwxyz",(`bk rfl `mL),`fB `W `e8,(z7 g v6),[p.d],.sh (Pt.rcd c ps).d,(`z (kt T)),nW ps B W d,`a1=60,(`o?).begun,λϑ ϕ=>(ϑ).lift λr S' h=>ϕ,λζ ξ=>qc0 `cr GB1 ζ ξ,isBool,(plN (`jo `mM)),(gc (`aa8)),λζ ξ χ=>vl0 ζ ξ χ leD leD,(u+1),`aA9 `cs,[`cw],(`aBH:Int),`aBI `wT,`gp<60,bkD b',.sh (`pa),L3.mp,(`d5:Int),λζ ξ χ=>FnN P w K mg `aP ζ 1 ξ χ,(R3 `aa9 j6),(n8 3),`kW `o8,(`aBJ),`r "refused",δ.map flS,`sk `CQ,putAt,(gc (`L9)),(gc (`abg)),c%2=0,λζ ξ=>by rw[ζ];exact ξ,(`ch hi).1,T.obj,U.extBut,`g p,λζ ξ=>m9 (δ':=ζ) ?_ ξ,λζ=>`H (ζ `abf),`kZ xs,λζ=>`g (ζ - 1),λζ ξ=>K6 (zt0 0 ζ ξ),λζ ξ=>by rw[ζ,`aR ξ],λζ=>∃σ' H',`L6/\ζ,(eqU x),(`L7),λζ ξ=>λp hp=>k _ _ ζ ξ,λζ=>λv H' s' r=>ζ,λζ=>show ζ from ru,(te0 `L8 `am),λζ=>o2 `gh ζ yr0,ResB.nx,S.letter,λζ=>ζ `d4 ?_ ?_,`aS<=20,(`a2)->`pb,`M->`pb,λζ=>`aN M A ζ Q E `e',(`bj `CR),checkBuiltinCall,(`CS (C5 O ?_)),(`b6 `wV),λc hc=>?_,A0 `L',o.slots,`aR e,`ai r ih,.ext φ,`o (Y4 `abh) q,b∉ex,λζ ξ=>Un fs ex H ζ h ξ,λζ=>λb xs q=>ζ,`K6=`pc,b∉ch,(by let#[o',e1]:=`CT b o e hx),(by have e:b=it:=`wW),λζ ξ χ=>`h7 `cF X.w ζ h' ξ χ,Q () s',`B->`jh,PT X a tA,(`sl .And (`abi) pos),(`sl .And `aBK pos),(`sl .Or (`abi) pos),(`sl .Or `aBK pos),(`abj .Not a pos),`c `e!,I.kept,`Le pos,`oM `aBL (`L! ov iv v),release `aBL [],(`bZ ho _ h),λζ=>C8 (C1 ζ hb),λh' eb=>#[rfl,`aBM (`sn (eb b o hb e))],(by intro pins s σ H R I h),(`bi `bpS),(`bZ hi _ h),V->`CV,.NotIn,W.isFn K `e6=`f,G0.mpr,`I hk,λζ=>by rw[ζ,Y7],`jk k A,(`Ma),
λζ=>`aBN=`c #[oc,od,`wX ζ,osl],(by try apply `bpT),eq_of_beq,(`aBO),y=`wY,λζ=>ζ K x y H Q,λζ=>∃p ys,`CW/\ζ,(`ci `b8),IntsAre vs ns,(`wZ),jx0 `pd H,`pe+1<`os,x.cps.size,(by rcases `abk with rfl|hx),noteFrame,λζ ξ=>A0 (C9 ζ (ξ) `aBP),`w_=`pc,s2.heap.objs.size,Nat.add_sub_cancel_left,by subst O;rfl,`H _,λζ=>fun δ=>`aBQ ζ,λζ=>fun δ=>`pf ζ,D->`v_,`aH Sl,`bA hj,(A4 z),∀o,`w0->H' a=`aG,`p ks,v=`bs,λζ=>∀{d:D} {v:V},ζ,(by let#[x,r,e,h1,h2]:=h),#[x,rfl,h1],λζ ξ=>Rps K H B ζ (ξ),λζ ξ=>#[ζ,[],rfl,ξ,`k_],`Mb n,(RpL.toO rfl h),l[i]?=`k0,SlR K H B o s,`aBR `Mc,(o2 ga gb f),λζ=>tD K B δ ζ,λζ ξ=>PTD X ζ (ob ξ),PTD X a gt,PD X `pg `Md,λζ ξ χ=>ks0 (E:=E0) F ζ hg hm ξ hb `_ k20 χ hdb he hpl,PGD X tg idx f,PTD X c gt,i<`c?,L2.PI.imp,λζ=>(by let#[items,en,e1,k]:=ζ),(by let#[x,t,rfl,r1,r2]:=r),List.drop_length,(by exact`bpU),`rU (PFD `rV ifs gt),(λcl s H ex pins s' σ H v u Q I r #[B,d,δ,h]=>hg cl s _ ex B d δ `t s' σ H v u Q I r h),hf ds d h,λζ ξ=>Op2 K (rI0 ζ) ξ,λζ ξ χ=>`vS (`fz ζ ξ `oP) χ [] `kL,(`gr).map,List.nodup_append,(by by_cases e:p.1=k),o.isSome,ks.map kV,H b=`so (k.map kV),H a=`abl,`mG<`R,(ie0 ry),`aa (TE×TE),λζ=>λb u n e=>ζ,`bY=`aBS,(by rw[`h0 n2] at h4),`Q hf,λζ=>`G (`wK `k1 ζ `P `aBT=`abm) Aa,`Me [e],λζ=>`g? ζ 50=`f,λ_=>?_,`Mf `ay f,`LY=`c oa,`Mg l1 xs,`Mg l2 ys,(`aBU),λζ=>by rw[ζ] at r ⊢;exact r,(`w1),(by rcases z with z|z),(`bh `bpV),`k->`aH DX,`c (`ph),c∈cs,(by rename_i c n hδ),`sp `abn hδ,λζ ξ=>#[ζ,rfl,rfl,ξ],`c (`w2 sub),(by delta L2.opened),(by delta L2.closed),`mu `n,(by let#[a,h1,hB,rl]:=O.at e'),(by let#[rfl,U]:=pb0.mp rl),(by have less:=nf0 c1 hB),(by let#[bm,eb,e1]:=`dv),λz=>h `w3,b∉as,(by rw[`bpW]),(`CG e2 `h),(`be `bpX),(by let#[xs,rfl,hl,rx]:=or0 f4),(by rename_i es hnode),(`CX `Mh e5),(yh0 `Mi),(by apply `w4 (`Mj r1 e6 `Mk)),ClsN X.K c F,`G (f∈F) Ab,(by let#[q1,q2]:=hc.ok C hC),`h' es=`f,decide_eq_true_iff,`c `h9,λζ ξ=>Hc ζ=`c (`w2 ξ),u70 hb,`gs q,
`gs z,λζ=>`CY (`Ml `aBq ζ),λζ=>by rw[ζ] at h ⊢;exact h,List.any_eq_true,(by rw[`av,`av,W5]),PTX X a gt,(by let#[q,e2,e1]:=`dv),(`CG hq `a_),(`CG hq `d6),List.filterMap_cons_some,λζ=>o2 `Mm ζ f9,(ob `aBV),[`hd, "_law_small"],(sy0 1 `r7),(tupI `aBW),(go0 1),[`jB, `CZ],λζ=>zm0 (z7 ζ v6),λζ=>Z3 (T8 (ζ)),.row vs,vn0 w u,`c `abo,[`r9,`w5,`Mn],`a6 `jC,xo0 rfl `ic,wl0 `abp,`ar h1,`vT ?_,uy0 0 `aW,wl0 `ex,`g `abq,List.length_range,List.getElem?_modify,`C_=S,(`aBX),`a1::`a7,λζ=>∀(b u:`k) (δ:Ds),ζ,(`a6 (N0 b u)::δ),`a1≠60,[`cq,`sq,`bS,.un],(`bi `aBY),(`bh `bpY),`c `KT,[`gY,s1,`Mo],`gp<=100,b∈xq0,{ S with spelled:=w,names:=`abr },Held q,(`aM (n%128)),n<`Mp,`wp 1000000,`wf Pt.d,(`z (kb B)),.sh `jD,λζ=>ζ<=11000000,ih `abs,Ft n w d,T.begun,n<=`Mq,(`Mr),vn0 (t::(`Ms)) `sr,.ok d b',`Mt `k2,(λdp _=>`c dp),`g `abt,`r `e?,kb0 `d3,`s (`aA1 `r),`aA u qs,(`Ld).set,`mO=3/\`ss=`l,`C0<q.size,`I c,`Q c,[`eW,.un],[`eW,s,`w6],`Mu<`R,t20 `pi=_,(`ct:Int),(fT p b `vU s),xj0 `ia [d],Op bg qs us ws,`b9 `abu hw,λζ ξ=>.lt ζ (.rt ξ .no),`sj+`aBZ,λϑ ϕ=>F7 ϑ (`cP (`j7<ϕ)),[`Mv,`aB_,`aB0,.un],λζ=>∃m:`j,`bpZ/\ζ,λϑ=>`qo (zs ϑ),fin (st ?_),(`gt p10),λζ ξ=>`ao ζ `ey (o5 ξ),λζ ξ χ=>FnT P w K mg `aP `bd ζ ξ `C1 d9 χ,λζ ξ=>`ao ζ `C1 (o5 ξ),`Mw `abv `Mx xl0,(by decide +kernel),(`ez),λζ=>by let#[t,rfl]:=ζ,Vis `r_ x,`U f,(`mP),w::`aA,M7 `aB1,`bP x px,wanted,κ×V,compareOp,as[k]?,(`h2),fV p b n,σ[i]?,`g N,`U x,sos[k]?,`pj `oD,DecidableEq,Str×D,Hp->VK->Prop,uu0 n `cj δ,λζ=>RpL K H B ζ a,v20 b,standAt,λζ=>RpG K H B ζ a,`cy+1,`wp 1000,RpNs,link `a1,"text",(`My),`U t,v=`a',`rY++[c],(W3 0),getMethod,λζ=>(`mt `kL (ζ)).all `aB2&&`aB3,`id b,r1.same,λζ=>SqL K H ζ xs,`abw _,`aF `rY,H b=`bC,`aal x=`kE,(`bZ ha _ h),gk δ,(`aBg),I.tok,(`jg).trans,`g `jE,sysModules,(frz δ),(kd,[]),"table",(x:Int),`g 12,`c `e6,λζ ξ χ=>`kA `cF X.w X.K `cx `e7 ζ k ξ fd ps χ,List.getElem?_set_self,`bP y px,b.left > 0,`g (N/4),λζ=>fS p ζ c w s,`e5 [b],
by rw[zk0],W.keepIn,.sh (`xb),"row",ys.size,`es a,(`aAW),`p z,`C2 `wg,`Mz S,(`mO:Int),(`C0:Int),(`LO),λζ ξ=>[`kJ,s1,`LV,`o7,s4,`wJ,ζ,`kU,ξ],`abU s',`dJ `f,isTup,`r `aB4,(`k3),setItem,fs.lookup,`m h,λζ=>`he K H B as ζ so,(`bA hl),(oA gA f),λζ=>`abx (ζ:`bB).length,λζ ξ=>IsZ ζ z TI TO a ξ,s.heap.IsList,env.atN,(ho.go B δ),O.w.nodeK,hnode,λϑ ϕ=>`w? ϑ (`ai ϕ `_),(`xl `cZ),.sh (`mQ),.sh (`aby),2 ^ 2600,lim kd,`abz _ hw,`ie++`MB,λζ=>ζ<=100000000,q.names.length,.sh (`mR),λζ ξ χ=>FnT P w K mg `aP `bd ζ 1 ξ d9 χ,[`cV, `MC],xg0 S,nodes,(`U fa),`d1::ws,"item",`b4 `st ds,`H ys,(B3 _ hx),`bW `e,(xu0 st),λζ=>{ S with spelled:=ζ },λζ ξ=>Fun K ζ ξ st f fd,λζ=>lj0 X `t ζ b,(`aB5),[x,y],aft `f8 `d3,E.count,AllBare,(plN (wf0 0 `k8 `k9)),`abA j,λζ=>ζ b o e n hb hx,.Compare,`S->`jh,`aa DL.D,`c `bf,r.same,(`aB6),uk0 d,`jx h1,"list_reverseiterator",its.size,(`aaG),c≠z,`U r::XC.bmV,(`MD),"append",λζ=>λ_ _ _ _=>ζ,cs.length,λζ ξ=>ζ (ds:=[]) rfl ξ,F.length,(2*`wl+1),`kS o e pos,.sh (`abB),.sh (`w8),.sh (`abC),`H (`C4),(j:Int).toNat,Byt d,"some",(gc (`pk)),Sem `A,Want.value,(`C5),λζ=>λx hx=>ζ x `MF,A.deeper,I.base.free,"dict",(k+1+n),sIx `gu 0 lo,-(`w9),[.un,.un],"object.__setattr__",λζ=>putK kvs k ζ,s2.trans,(`w7),1<=c/2/\c/2<=8,λi H2 g2 hi=>?_,H b=`pl,(`b6 id),(`abD ([]:`N).toArray),(`ME),S.begun.getD,(`mS `aE),4*cnt p+kn p,"_law_begun",isL d=`l,z/300,typeOf,`c oe,fs.length,`abE=`aG,λζ=>B5 (C1 `C6 ζ),I.ok.above,λϑ=>`lb ϑ `e `m0,λζ ξ χ=>`G (`bp0 ζ ξ χ `P=`aao) Aa,λζ ξ=>`G (`bp1 ζ ξ `P=`MG) Aa,λζ ξ=>`G ((`su ζ `P).map `wg=[`jF ξ `P]) Aa,sp vs H Q E,r.append,(`abF),`mT hq,`c `MA,callerA,BindsTo,cl.lookup,N.length,`c (`pm o `kV),(SlR K H B),k H' s,`o `abG hi,λζ ξ=>∀(cdv:`A) (A:`ck) (outer:`bp2) (s:`v) (H:Hp) (E:XK),`bp3->ζ ξ `MH G,`bP Tn p2,(`m hx),S4.mp,(`U I),.ex c n _,L2.closed,us.take,f b ds,λζ ξ=>∀C dx fs,ζ=`rW->ξ,ns.set,λζ ξ χ=>#[ζ,a,ns,as,sos,env,ξ,at',χ],(`abH),(n+k),keys.length,
l.filterMap,`gp=60,`w (kd=0) 20 12,yj0 `bo `pn,`a0 ((`abI: Str)=zi0 `jm),`C7 `aB7,(`hc:Int),λϑ=>[`a6 (R ϑ),`gY,`aA5],(`MI `v!),(`c 2),(`k4),Bw.Z90,vn0 ws us,(`mU),λζ=>lo p { b with want:=ζ },(`w!),z/156,`po - 1,t=`f,(a+1),ys.take k++[o],[`d2],[`Lk, `LW, `LI, `Cw],λζ ξ χ=>FnB P w K mg `aP ζ ξ `mV 0 χ,"_law_next","_law_size","_law_after",λζ ξ=>wb0 (i:=ζ) ξ hv hd hcd,V.int,(`sw),pyNext,(gc (`C3)),(plN (`jo `C8)),λζ=>∀x c,`sv->c≠ζ,#[hh,gg,dd,tt,oo],isTrue,"__setattr__",λζ ξ χ=>ot0 ζ P w K mg `aP ξ `jt `sh χ cdv A `da s H E,λζ=>λvs H1 s1 r1=>ζ,H p.1,`abJ n,cd.ns,atI xs i,`aB8 x,X.env.scope.kind,atKey,[e,f],SeqAt.RcNeAt,yl0 hl,X.hand,subscripted,w.take,(`C9),(y:Int),pool.getD,λζ=>`bp4 λ_ _ _ _ _ _ us h=>ζ,(h.trans hl),Value.str,(`pp),O.w.hd,(`g 255),[`Cu,`k4],.tail,`r `sx tk,(`bj `abK),(`dJ b),oe.cls,vs[1]?,SubOk,k b u q,its.toList,`MK H,`g (i+j),Str.empty,`br H s',getAttr,(`sy us),(`k5 N vs),(`U sl),`k6 `ax 0 lo,2 ^ 63,[`oT],(by simp only[`b8]<;>lia),H l=`Df,(`abD `sz),(`aBE).In,base.Ns `f9 mg,`ct<=n,`sA y,.next,(`g').bind,ge δ',gt δ',SqT' K H B a xs,`C' ns xs,`Dl H vs,f ds=`aX,`hf σ H,λϑ=>`nw PSs st ϑ,λζ ξ=>ζ `as `al δ `t s σ H D I ξ,`pq `eA,λζ ξ=>`w? (p20 (N:=N) ζ) ξ,rr.length,um0 ks k,a80 i δ,λζ=>.bl (xor neg ζ),`ax+`d5<=`R,List.find?_cons,valueAt,tupleKind `C!,ee0 `b1 e,bl0 `b1 e,(`o e `mW),dd.typeIs,(`wY),λζ ξ=>ζ X.K `as `al δ ξ,λζ=>wa0 ζ vj0 hs,(`abL),(`abD ⟨⟩),`oL->`sG,λζ=>`G (ζ ≠`aB9) Ab,(t,HO.tup `ML)::tw0 as (us.zip ws),`H `MM,(`aB' hp),Q () `kX,·.setIfInBounds,y.length,(`U Wc),(`abM),`c `Cl,dx≠e,H dx=`e,`B_ X.K `f9 c=`rP,(`bP x p0),en.same.trans,OpenOk,(λa=>`w (a=p) `e (H a)),n70 nk,`s `ab9,(vs++[]),#[q1,q2],ns++[`rN],(`mX),rv.mono,(`ig H3 `dK),[s0,`w5,`Mn],`sB (z/4%4),z/4%5,(`k2:Int),xg0 S k,λζ=>`s (ζ).dropLast,await,`g `xa,(p60 p S _),.sh (Pt.table ps).d,.ow `h9,λζ ξ=>(ζ).resolve_left ξ,List.range',(`p s),λζ ξ=>mn0 p S _ ζ ws hw ξ,[(`ih ae)],EndBX,
λζ=>`c (.ex `e9 `bp5 ζ),ls.length,(`p q),(`w'),xs++[`g_],b.sum,`mO=0,`acj q,(`MN).1,λϑ ϕ ϖ=>`a0 (gc (ϑ) ϕ=`c (ϖ)),`gv::`d3,`cY `cs,`c `gw,`g (-1),fits c,`abN=`dY,(`hg).drop `dI,(X2 z),`aF x,vs.getD j `x,λζ=>[`Mv,`aB_,`aB0,.ow ζ],.ow `ia,(`abO),[`cq,`k7,.un],(xm0 `aB!),(`c (`MO:Int)),(`abP),(M4 `fC j6),"is_new","number_bytes","sign_bytes",[`cV, `Ng],"_law_signs","_law_cell_at","_law_byte","_law_is_root","_law_left_free","_law_named","WebError","_law_refusal",[`aco],"unpacked",[`Ng],λζ ξ χ=>IniC ζ w K mg `aP ξ χ 1,λζ ξ χ=>FnD P w K mg `aP ζ 2 ξ χ,"made_part",[`sC, "held"],"sign_of","is_left",I1.kept,`abQ `bQ,λζ=>(by with_reducible apply `aB?;rw[ζ]),(by apply `sE;lia),sos.set k so',(`wt `bF),(`aCa),(`fD `aE),(gc (`r `aCf)),I.closed c,(ws0 0 `sD),`g `C?,λζ=>ur0 0 1 ζ dp,(ob `aCc),(oA `db ys0),W.length,(gc (`r "sum")),(gc (`r "amid")),(gc (`aCe)),(plN (`jo `Da)),isInt,∃t,u=`abR i t,`bA h1,λζ ξ=>ζ `t s2 ξ H2 _ I2 q2,λζ=>by subst O;exact ζ,λζ=>λp H' hp s' r'=>ζ,kvs.map,#[a,rfl,hb,r],Pd.impI,en'.same,q2 f hf,(z/(`cG+1)+`xd),λζ=>o2 `am ζ eqD,λζ=>{ S with length:=ζ },(wd0 rfl),λζ=>ζ `as `al δ dp,(oA `aCb vf0),λζ=>O6 `cr (o2 `aE ζ Z7),`ar c2,λζ=>M5 `ii (o9 ζ j5),r x y H Q,(k,v),`MP s'.gens,target,d=`x,(p50 h1).elim,u=`r3,λζ=>D6 hz rfl (x:=ζ) rfl ?_,PySem.Str,g.objs.size,`U ea,(hv.go B δ),`kB=`c ns,(gv 7),(gv 8),(oA `xc ys0),λζ=>o2 `MQ ζ eqD,`aR `c_,`g `mz,b<128,(`MR),[`cq,`gY,`xe],(`Ck `mN),(`aCd),`aR c2,`ct - 1 - c/2,S.length > 0,λζ=>ζ `eo hr `u ?_,λζ ξ χ=>t6 (op:=ζ) ξ χ ?_ ?_,T.b_list,ForInStep.yield,I1.laid,`aH α,bmV.contains `mY=b,(by (apply `bp6)),Bool.or_false,(`CS (C5 hC ?_)),(`sF),`I `u,#[rfl,?_],1<vs.size,`r `dc tk,dx≠x,`ib `abS,y.cls=`wn,(`BX P W),(`r x t),#[_,rfl,r],xs.take n,`oC=`mX,o.dict=`e,λζ ξ χ=>H ζ=`c (`pm ξ (`kO χ)),`c (`ij `mK `aCg),∃o,`hh,`c _,∀b xs,`aCh->`fw=`jG,∀b u,`abT,Un.kept,`g!=`P::`sH,λζ=>∀b o,`aCi->ζ,I.ok.bs b o e,`Z<=a,(U b o e hx),(`MS `Db),
(by let#[sl,e1]:=`MS `Dc),(by let#[e,n,ne,nf,d]:=`Dd),I.step,s.drawn,(`eB),λζ=>λb o _ _ hc e _=>ζ,N.Nodup,`LN hiσ,Q vs H',PT X e t,λϑ ϕ=>`aN M A ϑ ϕ E s,λϑ ϕ=>`UT PE ϑ (tC ϕ),λζ=>λx H1=>∃c,`bp7/\ζ,λζ ξ=>thn ζ λv s1 h1=>thn h1 ξ,c=`f,(by intro wh pins s σ H Q I h),Array.length_toList,Nat->`pb,It->`jh,λζ ξ=>Turn P w K tg ζ [it] it (λi h=>ξ),p.isList,λζ ξ=>fun σ H R=>ζ σ H ξ,`hi [a] [`abV],λζ=>(by let#[vs,H1,I1,r1,q1]:=ζ),λζ ξ=>`aCj/\W i ζ ξ H',r xs H Q,Int->Int->V,Operator,(tOp r ta tb),0<j/\`aCk,(by rcases q with q|q),`h1 op' r',`G (lastMarks `aCl [b,c]=`l) Ah,(`MT a `aCl [b,c] pos),W.hasDictIn K C=`f,`ci `an,[(f,v)],`Q hk,(by exact`bp8),H a=`mJ,`aCm=`gX,λζ ξ=>`aN `dt A ζ (ξ) E s,A.depth,`aCn us,λϑ ϕ=>`dN (`aRj (ϑ::ϕ)) s,λζ=>`xf ζ x1 pos,λϑ=>`cS t λvs H1=>ϑ,Meth X.K C m f,`abW (`pj `aad),λζ=>a8 (pl:=pl) (thn `k' ζ) ht,(`bh `bp9),sc.names,Str->`aH `aCo,(by intro m nd h1 h2 hk),λζ ξ=>ζ `xg `bp' m ξ=_,λ_=>`f,`fa `aCp,`xh=`aCq,`w (v<0) (v+`aW).toNat (min v.toNat n),Nat.min_eq_left,(`aM `aCr),s.heap.IsSliceOf sl vl vu `aY,`De vl lo,`De vu hi,(`CH),λζ=>λx lo hi H Q=>ζ,Subscript_,(by intro pins s σ H x v vl vu lo hi sl Q I rx hs pl pu h),r1.append r2,`aH Nat,`c j,`I h1,`Q h1,`g a,(`bi `bp!),xs.all o00=`f,(by let#[u,rfl,rx]:=`abX),Builtin.List.listTooLong,(by intro pins s σ H x vs v us Q I rx rv h),l.most=`sI,#[t,rfl],H b≠`e,`Dg `f,`aa_ `jt,λζ ξ χ=>`kA P w K mg `aP CX0 ζ f fd ξ χ,`cE H1 H2,(`h_ h' `wb),v=`cw,`I hc,Nat->Nat->`MU,by rw[← hs3],λζ=>by have:=ζ;subst O;exact `F,Nat×`MV,`c `sJ,(`dy).bind,`c `pr,(`el i `sJ),`k->`v_,(`z `b0),u6 G1 G2 δ,`au=`dz,`au=`bu,`wF=`MW,xs.getD,g _ _ n h,by apply `Dh;exact h,(by let#[a,xs,e,q,r]:=h),by delta Rp;rfl,by conv=>lhs;delta Rp,(by let#[y,t,rfl,h1,h2]:=h),(by cases d<;>try exact `fE),`MX s,by apply `abY;exact h,`fF=`Di,(RpG.toO rfl h),od=`sw,h.same,(`bi `bp?),∀σ H Q,t' σ H Q->`sK,λζ ξ χ=>ζ X (`Cr ξ j pos) χ,`h8 `Dj,`h8 `MY,
`G (j40 b) Ag,λζ ξ=>#[ζ,en,e1,`aa3 ξ],FnR X.K r f,`cE `as H,λζ ξ χ=>λD σ H=>∃r,ζ/\`bqa/\ξ χ `as `al D r,je0 (i:=i) hN hi hx hf,(`bi `bqb),λζ ξ=>ζ X `abZ (ξ G1 G2),(`bi `bqc),λζ ξ=>PSD X `Dk (ζ ξ),λζ ξ=>ζ X `ab_ (ξ gt Ga Gb),(hc B δ),(by exact`bqd),λζ=>PSs X `eC (ζ),a4 b q,`c? - `eA,(by rw[`bqe]),`ik hlt,(`bi `bqf),k H `ox,en.bad,λζ=>by rw[← ζ];rfl,λζ ξ=>by rw[ζ] at z;exact ξ,λϑ ϕ=>Y4 (λz=>ϑ (`o z ϕ)),(`bh `bqg),λK d=>by cases d<;>kernel_rfl,Rp X.K H B d x,(by cases `bqh),(`s (xs++zs)),λζ=>gy0 (g':=ζ) `bqi,`h8 ?_,S3.mp h,λζ=>(by let#[a,xs,rfl,q,r]:=ζ),λϑ ϕ=>FnR K (`ue ϑ) ϕ,PDA X [e] gA,(by let#[fa,fd,F,hm,kp,hb]:=C),(`gr).bind,(`MZ).bind,qn0 ds,`g? x 50=`f,`xi=r,(kvs.any `ab0),(`mZ),λz=>e (h1.trans z),Rd H a (.dT kvs),(by cases `bqj),(l7 hu),(f10 `b1 eb),(O.val k).isSome_eq,h _ `sL,PE X o td,(by let#[b,e,U,r]:=h),(by rcases `M_ with⟨rfl,_,_⟩|⟨_,h⟩),#[_,hi],#[_,h],(by rcases z with z|rfl),(by rcases `M_ with⟨rfl,_,_⟩|⟨n1,h1⟩),(by rcases `Dm with⟨rfl,_,_⟩|⟨n2,h2⟩),`J rfl n3,λζ=>(by simp only[`h,ζ] at hq),[`K_],λζ=>`aCs/\`aCt/\`a3/\ζ,λϑ ϕ ϖ=>PX X (`Iu `k1 ϑ ϕ) ϖ,λϑ ϕ=>`s5 (upd H1 a ϑ) (ϕ),"extend",(by let#[B,b1,b2,env,rv]:=en.ex),λζ ξ=>pa0 ζ hs `t s σ H D I ξ,Rps X.K H B ds xs,V6 X s H B' m e y w,dxs.length,Int.zero_add,(`ch h).1,λζ ξ=>λd=>match d with|ζ=>ξ|_=>`x,λζ=>wa0 ζ vj0 he,D->`O,[`ev],(`bj `M0),(hT 0 _ st),Builtin.List.listSameRef,updateSeq,(`M1:Int) - 1,Heap.size_push,(`aaV).map `aCu,(by let#[x,r',rfl,h1,h2]:=r),`G (an0 b) Ag,qp0 e3 r2,k v H2 `jH rv,(`aCv r2),(sz0 rr).2 hl,`oM [v,ov] `M2,`cH e=`f,(`be `bqk),(by cases e<;>simp[`cH] at he<;>simp only[w90,xn0,zk0,w40] at ru<;>subst ru<;>rfl),`Dn `ay TI `ab1 `ab2,`aCw i1 l1 k1,`aCw i2 l2 k2,(∀c o,`M3->`aCx),(`bh `bql),`cL (`aCy) s,`sM `m_ `ps,λζ ξ=>ζ λo e=>hk _ o (B5 ξ) e,st.hl1,st.hl2,`Do<=`R,λζ=>B5 (C1 hb ζ),hG.above,`gs hb,(H 0 `u),(by let#[u,q,r]:=h),nd.keep,nd.slot,
λc od H'=>∀C,c=`eU->`aCz,`LM (CXE `cF X.w) f sp,`sN cn,`aH RX,.ex c n δ,(`M4),(`wQ i o),(λd z=>nomatch z),`ab3 h a o C od,findObj K C od f=`c (`eY v),(by rw[e2,`h] at h),(by let#[ds,e2,e1]:=`dv),"setdefault",(`Dp).bind,(by cases o<;>exact λz=>nomatch z),`sO `xj,#[_,e],`Dq b _ q `r2 `r2,c.root,(`bi `bqm),`c `aCA,`gx=`eD,#[λb o n e=>hh b o n (s1 b o e),λb o xs n e=>`ab4 b o xs (hh.nf b o xs n e)],(`bZ h _ q),by delta RpN at h;delta Rp;exact h,`ab5=`f,by delta Rp at h;delta RpN;exact h,k<`Di,b∈as,`c (`Dr,mk),DL.setN i k n' δ,`c `M5,`sO `kB,λζ ξ χ=>#[d,a,ns,as,sos,ζ,ξ,at',χ],(by have O:=`bqn),(`aCB (`ab6 `xk hn)),`Ds `M6,(by let#[d,e2,e1]:=`dv),λζ ξ=>nc0 F6 c6 c9 p90 ζ ξ `hj `pt `jI hs `sP,(`be `bqo),`ab7 s2,λζ ξ=>ζ b1 b2 env ξ at' f1 f2 nk `aCC (d:=`x) (v:=`x) `k!,`abW (`K'),(by let#[ns,e3,e1]:=e1),(by let#[#[n0,rest],w0,e0]:=`fb),(by let#[#[c',fs,ds],w1,e1]:=ym0 e0),mc0 w0,(by cases `bqp),(by try dsimp only at e1),(`CX `Mh e3),(`M7 rfl),(by exact`bqq),O.w.backS,(by let#[c1,c2]:=w.back),(yh0 `k?),λζ ξ χ=>#[`a',ζ,a,`a!,`bqr,a,dx,fs,rfl,ξ,χ,a,`a!,c1,?_],`Dt ms,PD X ke gk,`fa hk',kk _ _ ?_,`Q n,(by by_cases hb:b∈`mx),O b hb,(`s (es++[dp])),cs0 `la,`lb e `Du `m0,(`CX `Mh q2),`ab8 ns ps,d5 (A4 ec),`rU (PX `rV elt gx),`sQ s1,`aa (D×D),this.symm,c.other,(`aCD),List.filterMap_cons_none,t60 its l u c,(yp0 `ce),λζ=>K6 (Y9 (vw0 ζ)),(`pu `aCE),(O6 `cr (o2 `aCF `aCG ixD)),(ob `aCH),(T8 (rs0 1 (oA `db ss0))),(ob (`sR `aE)),(T8 (sg0 1 (o2 `jz (o2 `aE `jz f9) Z7))),(O6 `cr (`pv `jz)),[`cV, `m1],[`sC],λζ ξ=>yp0 (o2 ζ ξ Z7),[`sC, `Dv],(`xl `gh),(`jJ `Dw),λζ ξ=>Z3 (qh0 0 `bd ζ ξ),["held"],(ob `aCI),λϑ=>K6 (`jK `eK ϑ),.text _,S.head,D->`xm,vn0 `cd `a7,(`M8:Int),`c `vX,10 ^ 60,`pw `ex,Vk v m,`aF sep,[`px,`ab',`e_],`dA<=100,(`bi `bqs),(`ci cl),z/52%3,λζ ξ=>ws0 0 ζ `bI=`c (ξ),`cd=[],`a1<=60,List.getElem?_set,`ab! _ _,List.map_singleton,List.dropLast_concat,λζ ξ=>(by rw[ζ,`h,ξ,`h,td0,`h,wc0,`h]),λζ=>m9 (U9 ζ) rfl,f `bo ds,
`H [`oR,M7 (`a1+5)],(by rcases k4 hk with rfl|rfl|rfl|rfl),λζ ξ=>m5 (δ':=ζ) `ab? ξ,[.sh (`xn),`bS],(`aca `aCJ),λζ=>`m2::`eE::`eE::`eE::ζ::_,(by show `bqt),[`aCK,`kJ,`Ca],λζ ξ=>m9 (U9 (δ':=ζ) ?_) ξ,[`cq,`rQ],wj0 `bo `pn,λζ=>`c (`ds ζ)=_,`g (`sj+b),(`bi `aCL),[`cq,`en,`acb],`M9 uj0 (jy0 S),th0 `il=_,(by rcases hv with rfl|rfl<;>rfl),λϑ=>`aq `wz ϑ rfl,(`ow:Int),(`M':Int),`c `vP,`o!<`dF,`acc=`f,v60 `hk=_,λζ=>`c (`gy (ζ))=_,[.sh (`xn),.sh (`aCM)],λζ=>`ds (xor `l (ζ)),(n/128),D->Prop,(`bh `aA_),`cg q,k∈ks,ix ks k,List.mem_map,by injection e,`w `m3 (bs `aCN) (bs `M!++sg s),(`abA `py),(`m `cG),kb_mem B j,(`acd:Int),`pz<=100000,[`Dx,`aCO],ln0 _ `pA,(by show `bqu),(`xo:Int),(`ace `sS),λζ=>[a,b,c,.ow ζ,e,`Dx],λζ=>`c (`aaT ζ),`gs hd,[`cq,`sq,`rQ,.un],h.resolve_left,(`aCP),(`Cy).begun,Pq N q t,(`xp h).2,hf n h,Pq N q [],G.held,#[`E,`E],`pB≠`sT,(by rcases G.sp with z|z),#[h',g,d,t',os],[`mp,`g n tk],(v90 (xm0 (`jK `db yj0))),p30 ?_,`e::q,λζ ξ=>`Li K H' B' as ζ ξ,b∉`h!,(G1 dp),[`M?],`c ts,λζ=>`c (.rt `x ζ),[`hd, `aCQ],k30 0 `sU,λζ=>(nz0 0 `aCR `mM ζ) dp,(wg0 (xd0 `acf (ob `aCS)) (xd0 `acg (ob `aCT))),(Z3 `ach),(`jJ `aCU),jf0 (u:=0) h,λζ ξ=>(ζ).bind λe=>(ξ).map `aci,1<`mO/\`aCV,λϑ=>`bpB xb0 ϑ `ZO,λϑ=>`bpB yi0 ϑ `ZP,U6 rfl `ack,(yn0 ?_),`c b',[`eW,`bS,.un],(U9 ?_),{ q with classed:=`f },`ar c,`aR c,(`Dy),`sV/\¬`m4 n,λζ=>`c (match ζ with|`aCW=>`bqv|`e=>`aCX),fD p b c n .un,vt `sW n,[`wr],`ct<=100,va0 `hl=_,`r (`acl),[s0,`fx,`o7,`Na],(`aM (k+1)),`e? ≠`fG,`Dz=`sX,ux0 (`sY),`acm b,a::wo0 r,(by have hk:kd=0∨`aCY:=`E),`dI<n,`pC<n,λζ ξ χ=>show (ζ+`aCZ)/2=ξ by show χ;lia,(show `d3=`oS by rw[R.un,hu]),Ot x x',(R.ub G),(by have hh:`pB=`DA:=`ae hw),by rw[O];rcases hv with rfl|rfl<;>decide +kernel,np=13∨np=53,`ci oj0,[`acn,`e_,`bS,`DB,.un,.un,.un],[`acn,`e_,`bS,`DB,`Nb,`Nc,.sh (`Nd)],List.map_drop,(`abA `Ne),`Nf∨d∈la0,`xq++[x],λζ=>B7 (g9 ζ) `u,(c/10),(ini 16),(ini 17),"folded","unfolded","is_whole",
λζ ξ=>`ao ζ `d8 (o5 ξ),(top 28),"pair_names","is_byte",λζ ξ χ=>okD (k:=1) (G:=ζ) F ξ (χ) `rK,"most_held","wanted_items","made_pairs",(top 36),"pack","held_items","item_bytes","known_head","name_bytes","part_number","text_bytes",(top 43),"_law_names","_law_number","_law_value",λζ ξ χ=>okB (k:=1) (G:=ζ) F ξ (χ) `ha,(top 55),"_law_word","_law_part",(top 57),"_law_web","_law_bent","_law_names_told","_law_made",λζ ξ=>`xr (O7 ζ (W7 (N5 (S5 ξ)))),(lh0 `d4 b7 (bi0 `Lp) b7),"_law_value_taken",λζ ξ=>`ao ζ `sZ (o5 ξ),(top 69),"_law_digit",(j4 `s_ `aC_),(top 71),"_law_name_number",λζ ξ χ=>okB (k:=2) (G:=ζ) F ξ (χ) `ha,"_law_sign","_law_takes",λζ ξ χ=>FnB P w K mg `aP ζ ξ `sZ 0 χ,"_law_judged","_law_asked",(`fc 37 5),`aS=1,`aS=2,(`aa_ q),λϑ ϕ=>`bN cN1 ϑ (ϕ F T),λ_ _ _ _ _ _ us hl=>by let#[_,rfl]:=us1 hl;rfl,o20 `aap,`aH (D×D),λϑ ϕ=>U6 rfl λp=>#[ϑ,ϕ,rfl],`jf `g2 `P,h B δ,`BX `m5 w,λζ ξ=>RpW ζ ξ B ns a as sos,(.nx δ'),`pj `vR,X.A.units,`jf [e] `P,X.env.scope.names.lookup,λζ=>RpN K H B as ζ v,swapsWith,`bW `l,bT_Reader,"want",.sh `lc,λζ=>by have z:ζ:=`aV,yu0 `ex,`abw H,xs[i]?,λζ=>`aC0 elt ζ `ep pos,by simp;lia,("__debug__" : Str),(`bqw),X.env.cells.lookup,X.fn x=`f,λζ=>`MT a [ζ] [b] pos,(o2 `s0 `Nh eqD),λϑ=>(`bc:(ϑ:`i).Nodup),(X3 y40),`bX e `P,Nat.min_self,z.length,Gr.same,put S k d,"signs",Bt.v70,`A->`Ni,(`au).map,`d×HO,`DE (2<=`R),`d9 hb,`cj[k]?,Res.nx,(wd0 ?_),`wN xs,(`o9),PartAt,`bG n [`DG,`Nj],pre++[c],λζ=>`DH x ζ `bqy `MH `sh `aY kV doc pm an cdv ct,W.emptyDict,.ow ds,ys.map `DF,λϑ=>λv H1 s1 r1=>ϑ,`hp->`sG,X.body,`hm (`aC1),S.names.map,`r `fG,(U5 `eq j6),"NoText","NoPlace","NoValue","TooMany","NoMake","NoBase","NoRow","NoName",λq=>`aEj,`g 256,(xh0 q hn),b::`aA,.UnaryOp,`cg hx,`c `Nk,`bX `k1 `P,en.all,(.rt d δ'),(`bqz),(`dF:Int),`b'++[w],`Nl h,(`jp:Int),R.want,"hold",Same.refl,λϑ=>`X (ϑ+`b_e+`b_f<30),`e5 [c],λζ ξ=>by show `xt=ζ;rw[ξ];rfl,λζ=>`bqB ζ (.row []),`e5 [x],`g `acq,
λϑ=>`ij `mK (`jy ϑ),`bqA b,`s1 `bQ,rs.length,sos++[`acp []],"root",pre.isPrefixOf,"BaseException",xs++[v],`Nn b o e n hx,`f8[k]?,`g kk,`oV `bU,I1.hok.fresh,Value.int,(`ij (`bj `No) (.dict ⟨⟩)),`wh=`bC->`aC3,λζ=>Inv X `t σ' H' ζ,(`l,`aC4),λζ=>`aC5 pos f `im ζ `bqC,vals1 r,(by delta RpN at h ⊢),(st::`aA),(.If c as bs pos),λkv=>`X (`aC6),(`U i1),(`U i2),InstAt,s1.nf,qg0 ds,O.w.node,rx.same,partsOf,(`aC2),.sh (`r S),Gw.oq0,(by apply `aBt;rfl),λζ=>(ζ).flatten.length,.sh `DI,left `b' `dF `m6,ix B j,λζ=>[`acr,ζ,`aC8,`aCO,.un],(`bqD),(`bqE),(`bqF),λes=>`B0,wantOf,λp=>?_,`aF [],λζ=>fT p ζ `vU `bqG,`a6 (`r5 `Np),"_law_e",SubO.lst,(st:Int),.sh (`o1),sIx `gu `gu hi,λζ=>`c (`c (`b6 ζ)),.ext (`DJ e C `e),`s `bt,NameKind.free,(q.size:Int),.tbl ps,Rps.mono,`Nr<j/\j<`w9,`r6 x c e,λζ=>tb0 `cM ζ 1 `Ns `bf `jC,(`bqH),(`bqI),"_law_there","_law_left","_law_name","beginning",λ_ _ q=>q,λζ ξ=>ζ pos `t s σ H _ I ξ,`acs - `Nq,(`aEm),`m (`aC9),"object",`bW `xv,`kN cd,oe.dict,λζ=>#[_,ζ,rfl,_,rfl,rfl],`pm ob u,(λ_ q=>q),(`acJ),λζ ξ=>by subst z;rw[ζ] at mu;exact ξ,`c (`pm o u),`DK x=`ld,b∈X.ex,x=`bs,`act `Nt,(`CM .Add),xs.dropLast,d.name,#[[u],[]],Sum Int Str,Rp.mono,(`io).same s2,(q.mono g2).to,`M7 `LT,mg x=`NX/\`CF `MA/\`Eb,(b6 ..),`Nu v,λζ ξ=>ζ ξ s u w (deq d e),λj=>`aDY,SeqAt.RcAt,qu0 ds es,v.length,`A->Prop,DGet.k,(`bqJ),A.frames,env::`da,λζ=>Lie ok ζ C od e,(`bqK),`aC! b ps e,`c (`acu),λζ ξ=>XdX ζ `as `al H σ δ od ξ,XC.Tab,`bP c' pc,`bP y pc,us.drop,`c (r,b'),mkB n N j G b ds,`b4 ks vs,(`Od d e2 `xQ),r.2.2,λζ=>`DL ζ (i:=0) rfl,at'.w.own,at'.w.ins,λϑ ϕ=>`rc `PF (`w `b_m ϑ ϕ),"pair",[`f?,`eY],left `b' `xw [],`g (i*j),(`bJ n).map,(`bqL),`s (`xX),`s (`aa7 `aB7),(`s2:Int),`s3 `aC?,S.part,zi0 `eY,L - `hc,.sh (`acv),2 ^ 2500,ix T s,`J rfl h,E.wait,gc (`g 37),b.un.reverse.map,`jL u (`DM q `C0),Or.inl,¬(`Nx),`bt++[d],S1.wait,z/4%21,λζ=>Bo `k5 b0 0 l E b' ζ k,(BL m),(top 56),`MJ x x,Rp K H' B d v,(s:Int),I.turned,c≠i1,
c≠i2,(`DN),`c o',L2.start,`bP y p3,k==`acw,Value.builtin,`eU::tl,fs.map `gc,xs.map,λb o e hx=>?_,I.base.frzs,λζ=>`aN `ek X.A ζ Q E s,`aDa C `Z,H b=`aG,`bW `f,en.same.nf,L2.atI,backToKw,(`bqx),`vS (`bP `s4 p2) [e] [] pos2,λζ=>kv0 (q:=q) (v:=ζ) hl,`vS (`bP x2 p2) `g2 [] pos2,λc=>[c],(gc `DO),`g `acx,λζ=>{ b with want:= ζ },#[`Ny,λi H2 x H3 g2 y hi=>?_,`Ny],(`B7 h1.go),`s `xx,S.number,(`e':`v).TypeIs,.head _,λζ ξ=>ζ (g:=g) (d:=d) (t:=ξ) (os:=os),(`Ch t'),"ValueError.__new__",X _ _ ho,`fd::cs,`dJ `l,"ValueError.__init__",`c cd,findIn,λϑ ϕ=>`cL (ϑ `qE `dc ϕ) s,L2.SubO,h.Ns1 dx mA,∀f,RelO (`L? f) (mA f),entryOfKey,b=a∨`Nz,`c (`acy),`c ob,(`acB),X.env.globals,`aa L2.V,`hs a=`aG,`M1<=`R,`ax<=i,h.IsListIter,λb hb=>(`ta).1,[`m'],#[_,`hn,rfl,rfl],(`acK ha h),`g (i/j),`X (x=y),mA `dc,W.plainGet,s30 f v fs,λϑ=>`de (`eH ϑ us) `hu,(`z (us++ds))=`aS,(`bqM),I2.kIn,b∈([]:`aK),λζ=>A0 (m:=`aDb _) (K0 ζ O),(`bqN),"__getitem__",`c `NA,-`aW<=i,xs[j]?,x=`g_,eqV y x,`Lu p,`g `d5,`g `aaI,x=`pN,s₁.heap.get?,`pD q,Params,(λv _=>v=`h2),N'[n+k]?,(`w_).join,env.cells.lookup,`c `pE,λζ ξ=>∃m',m'<m/\W `eA m' ζ ξ,s2.toks,ob ga δ,`DP `m7 `bf,`xy/\`bv,Rp K H' B' d v,q.mono g,`acz g r,λζ=>∀(k:Nat) a,`aDc->ζ[k]?=`k0,`s fs,`oV `r,RpD K H B ns a,`pm ob `kV,(`bqO),(`bqP),b2 a z,s.free,λζ ξ=>ζ ξ `as `al δ G D σ H,(b1 a z),it.yld,(`bqQ),(ms0 _),λζ=>(by let#[#[cls,dd,data,sl],ho,hc,n,hd]:=ζ),`s5 H δ,λvs H2 s2 r2=>?_,(`aDd)∨(`acA),(kV k),h _ ?_,e.at hi,λb z=>?_,(`c `hZ),∃(i:Nat) (d:D),`bY=`m8/\`jM,#[z,q],λa z=>z.1,(`gq).mut,(`ab7 s1),`xz tDT X.K gt,`H `aDe,"__length_hint__",Builtin.List.listExtendWith,(F4 _ _ (B0 hb)).trans,xs.reverse,si0 ks ds q,(`bqR),xs[k1]?,List.forIn_cons,`aav=`e,·.push,(`e1 `dB),`ib `NB,tw0 as ps,Prod.fst,`c `NC,k=`f,λζ=>LieT ok ζ C od e,Obj.mapFields,Gl X cn,.ok (`Co),λ_ z=>`h5,(`D3),`xA `aDf,XC.av0,2 ^ 20,um0 pr.1 q,q.symm.trans,(re0 l),(A4 z).symm,ds.drop,λζ=>`b4 `bqS (ui0 ks ds q ζ),`gn H' a sub,(`bqT),
`ip<`R,(unL ns).bind,(fa0 p.1).bind,`r c',(`bqW),(`bqX),`c! g l,λζ=>by rw[ζ];apply `fH;rw[`a_],by rw[vm0],(`bqY),trs ds,`jd sm,(`bqZ),(`bq_),ev.same,(`B7 `Cs),(`bq0),(ns++[`mP]),r.2.1.length<1000,(`bq1),λb ob q=>`xu,"_law_at",(`bq2),`ND (S.un.headD 0) `pF,b∈vp0,(`gg `aDg),`c (`ov),b.length,mdN _ _ _ _ `u `u `u,[`gd,.sh `rS],`acC `acD,λζ=>unG w70 `bF ζ=`bq3,`s (`aBk `aDh),λϑ=>`aq (`s (wd ϑ)) `gl rfl,λζ=>ct0 ζ `a? `a? n hn,(wd ws).reverse,(U9 rfl),(ob `NE),λζ=>u50 `cr SB `aC7 ζ,`c (.ct δ'),`c (.bk δ'),(ls0 p S _),(kd,`bt),M7 (k+5),(`DQ:Int),(`aM `NF),λζ=>(`bq4 ζ).flatMap two,(`DR s:v80),W.reverse,`d7 (`pz<=_),`acE<n,λn hn=>`d' (`jN n hn).2.1,S1.count,gN 2 `vW `DS,(`bq5),ts.map V.bl,`gB `ng e pos,(`bq6),b.begun,(`aDj),λζ ξ=>show TOP ζ=ξ from `bq7,b.un.length,vt b n,`X (`aDk),(`bJ 128).map,`e? = `fG,λζ=>by rw[ζ];apply `KS,n - `dI,λζ=>(∀x∈`DT,x∈ζ)/\`bq8,wo0 (r++[d]),G.ln z,(`bq9),(`aDl),gv 2 δ,us0 `pG,[`k7,.ow `DU],t.length,(t++[x]),λζ ξ=>[`v?,`gd,ζ,ξ,.un,.un,.un],"give",[`hd, `acF],[`c9, `NG, `acG],λζ ξ χ=>FnB P w K mg `aP ζ 2 ξ 0 χ,[`c9, `acH],"whole",[`r!, `aaL],[`oU, `iq, `acI],λζ=>#[f,fd,o F9,`aDm,`aDn,ζ],fI_NoWay,fI_NoPack,s1.toks,λζ ξ=>ζ ξ vr0 `t s σ H D I `aDp,`mE #[y,`io,e2,`xB],`sQ s',setFlight,uh0 ks q,λζ=>λcl s H ex pins s' σ H Q I #[B,δ,h]=>ζ,(`brd),`m #[rfl,xs,`acN],(`brx),(`bry),(`brA),(`brE),(`brD),(`brQ),Txt.startswith,λζ ξ=>upd (upd ζ e `acM) dx ξ,(`brg),(`brm),(`brs),(`bru),Bt.rw0 _ _ `u,(`brw),(`brk),(`brC),(`brF),(`brG),(`brN),S.names.getD,λζ=>by cases ζ<;>rfl,(`bq'),λϑ ϕ=>`b_v (v:=v) (o:=ϑ) ϕ,λζ=>F.len _ _ _ _ ζ,`bA h2,λζ ξ=>`kF X.K ζ `al H' σ' ξ,`bq! e,O.length,λj ds b h1 h2=>?_,λζ=>by first|exact ζ|rfl,D.l2i1,λb u q=>?_,oth c _ z,λζ ξ=>fy0 (v:=ζ) hg hm ξ hd,(`brb),λζ=>λb hb=>`brc id ζ,so'.ho,λζ ξ=>`he X.K H2 B as ζ ξ,λζ ξ=>o50 ζ `t s σ H De I ξ,at'.w.nd,`DW #[o3,d6],`bG `m9 .un,`ig H1 `dK,(.ow b'),(`brj),(`brn),(`brp),(`brv),
(`aCJ).flatten,(`brB),(`brI),(`brK),(`z `pI),(`brL),`ar c1,`NI%`po,(n8 4),(`brP),(`brR),c.look,λζ ξ=>ql0 I hg hm hv ζ hn ξ,(`aDo==0&&`DV==1&&(`acL)==`gu)=`f,O.same,`o (Y b n) h,`le=`pH/\`NH,λϑ=>`w `aC6 (kv.1,ϑ) kv,λj k a ds es h1 h2 h3 h4=>?_,t10 `Cz q,s1 _ _ hx,(`bq?),λζ ξ=>λb xs e=>ζ b ξ `aDq,λb ps e=>?_,(`bra),H p=`abl,(`bre),`cH dk=`f,(`brf),(`brh),(`bri),(`brl),(`bro),(`brq),(`brr),(`brt),λζ=>fnN 0 `s6 ζ s90,[`cJ,.ow `jC],nh0 `bd d9 `bo=`f,N/4<`xa,`cH `lc=`f,(`brz),(`brH),(`brJ),tr0 gt G n δ',(`brM),(`brO),(`DX).drop,[`oZ, `c9],hr.units,λζ=>u5 j7 zo0 `DC `DD ζ,(u0 _ S.nd),(o6 `l),PySem.Env,λζ ξ=>`jk k (`Nm (`aBo `jt ζ `Z ξ cdv)),δ'[j]?,`c (`a6 b'),(`Nv s3),operate,P.zip vs,`bj `acO,Row h tl,List.contains_cons,typeLookup_eq,`B->`ej,isSubtype,λζ=>(ζ: Str)∈rf0,"getset_descriptor",c.hasT `c7,Builtin.«object.__getattribute__»,getAttrBy,λζ=>(by with_reducible apply ζ c hx hc),(`CS (C5 U ?_)),`NJ `mY=`acP,`c #[`aBj,_,`acQ,sl],sl.toList,(by rename_i dd cd sl ho),(by rename_i k0 k1 k2 k3 n k5 hs),(by simp only[`b5,`s7,Bool.not_eq_true'] at e),`c (`U r),Ri h C tl f,`f! e=`NK,`acR=od,[`mp,v],(by repeat apply `brS),`aH Obj,`eU::`aBn,(`brT),(`brU),`c `Z,isSubtype_type,(by let#[hh,gg,dd,tt,oo]:=s),(by have z1:`aDr `e6 `wA:= #[_,e,c]),(by injection e with e1 _),Paired.length,(`s8 n),(`acS `hn),λζ=>`s9/\∃(its:`N) (n:Nat),`xC/\ζ,H dx=`pl,`NL<=1000,`xD/\`xE/\`aDs a,`DY o,∀a b,`aDt,`c (`acT),`dB<=a,λζ ξ=>(ζ).stay (ξ) `acU `acV `xF,(x b u e).stay,Mut (H x),e=x∨H e=`aDu,∃u,`id e=`bC,`c (`kO y),`acW r mu,`c (`aDv),(by rcases hc with rfl|hc),∃sl,`Ls=`c { o with slots:=sl },∃o',`aDw,∀b o u,H b=`acX->`fw=`acX,k b ob q,λϑ=>λb u q n _=>`o ϑ n,λζ=>λb ps q=>#[⟨⟩,by rw[ζ,q];simp],(upd H x o),K.In `aP,builtinsNs,Str->`B,`aDx∨`acY,b∉X.ex,`aa (`dL),B3 _ hb,I.stkSub,(`acZ∨`pJ<=b)/\`s'/\`aDy,`xG H' h',∀b o,`NM->`s',λi x v e1 e2 e3=>?_,`br H `pK,k b o (λz=>hc (`aDz)) e,λ_ _ e=>e,λb u e=>?_,∀b u,`aDA,
σ'.length=`s!,(by let#[m,hn,hl]:=id `gm),λj y v' e1 e2 e3=>?_,`bA `jr,(`sf b (`NN `NO)).trans,#[u',r',?_],I.ok.has,(`sf b (`NN (I.ok.cab x c Y hc))).trans,s'.os=s.os,V->`jh,(`brV),#[v,H,I,r,h],wpAny_Name,λζ=>pd0 I hg hm ζ hd,(by intro pins s σ H Q I hw),(`brX),`G (∀whole,`aDB=(do let v ← whole;`Le e.pos;`oM [v] (truthy v))) Ad,(`brY),(`brZ),(by let#[c,rfl,q1]:=q1),`c `s?,r.inj r',(by let#[σ',H',I,q]:=h),(by exact`br_),{ D with nx:=u D },(by let#[σ',H',I',q]:=q),λϑ=>`iP (te σ H ϑ),`NP e,(`xH e pos),λζ ξ=>thn ζ λv s1 #[x,H1,I1,r1,q1]=>ξ,(by intro pins s σ H vs us Q I r h),`su es `P,(B5 `C6),PE X o to,(`br0),`oM [v] `aaW,`NQ [tg] e `m0,`NR [tg] e,`NS [tg] tg,(`br1),(`br2),`MK H',λx c e z=>?_,λp hp z=>?_,tn i `ay,J.go i H,(`br3),`br H' s2,J.yld i H x H',J.stop i H,λζ=>λi H x H'=>H'=H/\ζ,`g (lo+i),(by let#[o,e,c,d]:=st),(by exact`br4),(by let#[xs,x,hq,hx]:=hg),(by let#[u,hu,ru]:=rv.get hx),(`br5),(by let#[o,e,c,d]:=id O),λζ=>λ_ _ _ _ _ st h=>ζ st h,(`aDC).objs.size,`bA q,PI X tg `kC wi,(`br6),I7.unpinned,λζ ξ=>T.keep _ _ _ ζ λb hb o e=>ξ,(f v u),Int->Int->Prop,λζ=>∃i j,`ac_/\y=`h?/\ζ,λζ=>∀(i j:Int) (t u:Tok) (s:`v) (Q:`ap) (E:`ap),ζ,0<=j/\j<=1000000/\`aDD<`w9,λζ ξ=>`X (ζ i=ξ j)=(i==j),λi j=>`pL (i<j),λi j=>`aDE,λi j=>`pL (j<i),λi j=>`aDF,(`br7),(by apply `fI z9),thn `aDG λu s2 z9=>?_,(by let#[y,H2,I2,r2,q2]:=z9),(by let#[z,H3,I3,r3,k,e,q3]:=z9),(by let#[u,rfl,t,rfl]:=`abX),`c od,ObjM `ay x dx C mA,(by let#[od,J,hl]:=I.look),`aDH=`ac0,`aDI=`f,(by rw[`br8]),e.trans,by simp at h,`L? f=`bR,I.write,`bX e env,(`br9),PE X `gz tv,Around.under,Code.isFrame,(`br'),∀vs H Q E,`NT->`aDJ,`aDK A,e.frames,H1 dx=`e,(by have r2:`bV `lf `xI:=`NU hd),(`bh `br!),`jk `cX X.A,`e1 `ho::us,vs[i]?=`bR,`mu `aCp,`xJ K cdv `jt=`f,(`br?),`ir X `mY r,ws.length,(`bsa),Nat.le_total,Builtin.Slice.slicePlaces,λζ ξ=>A0 (D6 U O (x:=ζ) rfl ξ),Nat.le_trans,(`aDL),(`KU r1),(`ga s3 (s3.heap.push (`aDM `aY))),tail_any,
λζ ξ=>#[`mr,_,`tb (t':=`cK) (o:=ζ) `aDN `bQ ?_,rfl,ξ],q _ `NV,IsTupN.new _ _,xs≠[],`H `DZ,λζ=>OpR X `ac1 (ζ X.K),`I h0,`Q h0,IxR X r,(by intro value slice pins s σ H x y v u Q I rx ry h hs),(`KU ry),(by let#[j,h1,h2,h3,h4,h5]:=bz0 he),A40.lookup,(`bsb),(by let#[its,r,pl,hz]:=`NW),λζ ξ=>by rw[`b8,← ζ];exact ξ,P7 `n,`xK lo hi `e n,(`bsc),(`bsd),(`bse),(`bsf),o00 x=`f,`cg hu,(by rcases hq with hq|hq),(`b6 `xL),(`aDO `tc),(`aDO `NW),`d5<=`R,`id `Z,h'.push,`c (.dT kvs),`NJ `NA=`bW (`bj "method_descriptor"),MtR X id r,`Ds `dc,(`bsg),(`z `B0),acc++its,(`bsh),(by let#[u,rfl,ru]:=rv.one),(by let#[z,its,n,r,hl,e]:=I.lstM hH),#[_,e,rfl],(`s `ac2),OpenLaw,d.params.defaults=[],mg `ac3=`NX,s₁.heap.Ns,`jk k `NY,∀(s:`v) (u:`A),`NZ s fd `ac4 [(x,u)],SqL K H a `D_,(`bsi),λb o e=>?_,W.OpenLaw,λζ ξ χ=>`bsj _ ζ ξ _ _ _ χ _ _ _,x.cps[i]?,N'.length,Str×`aCo,`N_ y=`d_,x.2=`kM->∃c,`N_ x.1=`d_,λ(n,k)=>`w `aDP (n,`D0) `D1,Nat->`ej,W i m ys H2,newList [],h₁.get? b=`aG,(x,`kM),(`m!).2.1,`m hb,`aa (`ac5),λ_=>`m?,u50 f G `bf δ,λζ=>`bG (`N0 - ζ) .un,`c (`aDQ),`ak (i=j),sIx `ax 0 lo,`xM=`D2,by simp[hp],`xM=`c δ1,`d!=`eD,by delta u6;rw[h],`I h2,.dT `Cz,`bv->Rps K H' B' ds xs,xs++[x],s _ _ e,(by let#[xs,e,l,r]:=h),`c! (`lg l),ts.length,RpNs.mono,by apply `abY;exact `ac6 g h,`bH G l m,so=`d2,λζ=>`he K H' B' ζ n so,(by delta NodeOk at h ⊢),`c! g `D3,`D4 `K9,λζ=>mi0 (λ_ _ r=>ζ) h.all,(λ_ _ z=>nomatch z),(by exact`bsk),(by let#[x,ns,e,r]:=h),∀o xs,H a≠`N1,(by rcases h with⟨d',q,r⟩|⟨ks,vs,q,ts,xs,q1,e,q2,r⟩|⟨x,ns,e,r⟩),`aI->Prop,XcR K H B c n a,m[i]?=`it,l.set i a,`bH `N2 σ δ,λζ ξ=>#[`D5 ζ i `lh,`pM,ξ],(upd H p o),Rp K H B dx x,(`ac7).bad,fun σ H Q h=>bp0 hf h,`G (`D6) Ai,#[_,en,e,`D7 #[t,`aDR,`N3]],(`be `bsl),k _ H' s (`xN h xn0),(by simp only[`h,`na] at h),(by simp only[`h,`Q hl] at h),`m Y7,(`io).bad,∀a,`oA->NB (`as a),`as p=`e,PSD X st G,e.same.trans,`G (`D8) Af,Gr H₁ H B B,λζ=>PID X tg e (ζ g),(`be `bsm),
(by let#[a,xs,rfl,q,rs]:=r),(by exact`bsn),(by let#[x',e4,r']:=rs.get (i:=i) (d:=_) (C4 hi)),y xs `ac8,(by exact`bso),#[xs,`ac8,`N4],(by let#[B,b1,b2,en]:=e.ex),λζ=>∃H₀ B₀ δ,ζ,#[_,`M7 K2],(`aBd).mp w0,`aDS (qz0 h1).elim,(`aaJ s2),`xz tD X.K ge,(`bsp),λζ ξ=>ζ hc hsc ξ `jO hi hg ht he hs,(by split at h<;>cases h),`N5 `nb `aDT,`kF K H B H `aDU `B8,(by let#[a,xs,rfl,hq,_]:=r),`cx `wV=`e,`iu `wV,`D9 `N6,λϑ ϕ=>PD X (`g4 `b_w ϑ) ϕ,λζ ξ χ=>ia0 ζ (cl0 (C:=ξ) (g':=χ) `ac9) ha hb,p2.isList,O.toArray,`m `fJ,`p `fJ,`abx [e].length,λζ=>∃(fa:`d) (fd:`fK),ζ/\`ac',(`td).bind,qu0 xs ys,Nat->`B,`mH xs n,#[hl,?_],cutD xs lo hi,(`Ch `aDV),`d9 hx,λζ=>`bsr ζ ho hd `ac!,List.mem_singleton,Bool.false_or,Option.isSome_map,Rd H a `Nk,upd H a (.dK (`ac?)),(by rcases g with⟨kvs,k,e,ey,l⟩|⟨kvs,k,b,e,ey,eb,l⟩),dd.mapOf,DGet H a y o,`aa (Key×`A),(by have hl:`aDW<=`R:=`d' (nd0 kvs k v)),PE X i ty,λζ=>λpins s σ H Q I h=>ζ,(`bss),λkv=>(kV kv.1,kv.2),RpG.mono,ih `nc,`pM b z,(by have g:`bst:=`bsu),en.same.free hp,`bsv s,(by apply `D' d `cH),(by let#[B',c1,c2,O]:=en.frz),xs.isEmpty,its.toArray.isEmpty,(by let#[a,O,hb,xs,hx,rx]:=`pO),`m #[rfl,xs,`m `N7],rx.length,(`bi `bsw),`su `aDX `P,(`bsx),by delta deq;simp,by delta qu0;simp,λζ=>by simp only[ζ];lia,List.range_succ_eq_map,`dG y w,`ada `xP A,λζ ξ=>ζ (e:=`adb) p p' hu ξ,`adc A s _ _ (`add),(by have s1:`jP=`cy:=by rw[`b8,← `ade,`bm]),(by have s2:`bsy:=`bsz),λζ ξ=>ζ (e:=`adb) p p' `bsA hu ξ,`pe+n<`os,(by let#[a,xs,rfl,q1,r1]:=rx),`N8 hn.symm,`d? `pP `nd hz,(`ac7).same s3,D8.mp hk,W1 λk _=>?_,(`jg).free,λζ ξ χ=>ζ ξ hg hm hv χ hn hdb he hpl,trees ds,tree d=`f,Nat->`adf,∀i s,St i s->`sM `N9 `M0,its.reverse,by simp[hh],(`ib _).objs.size,`adg hp,DGet.t hp hb,pr.1.length,`gA (`b4 (`m (`aDZ)) `adh),`Mf h' `f,`Dn h' `Z x y,(`bsB),(`bsC),Z.extBut,λζ ξ=>ζ _ _ c3 (`D! _ _ c1 ξ),#[_,hz,rfl],lo<=z/\lo<=TO/\lo<=i1/\lo<=i2,`fF=`Do,(`h_ h tk),A0 (L9 ?_),"tuple.__new__",#[[`mX,`v'],[]],
oy0 H l b,List.nodup_cons,(by rcases `D? with rfl|h),`o (O c `aD_) q,`fF=(`z (xs.zip ys)),H t=`e,(by split at h<;>try cases h),k b o hc e,(by simp only[`hq,`te,`tf] at hc),(by let#[#[old,he],h1]:=st),(s1.mono g2).to,(`bsD),λv H3 s3 r3=>?_,Tbk ok h e v,`adi=`c (`adj),`Ea `aP (`adj),env.frame=`c L,∀b,`Z<=b->ok b,`tg ok (`aD0) `ay h',(`bsE),`adk `ay,`hr M `adl,λζ=>λh' nd le=>h h' ζ le,nd.there,`vY=`e,FpW X `t H b,z.2.2.2.1,ac0 X `t H `ay C od e,(by let#[more,q]:=`adm),(by let#[e,n,r]:=`Dd),I1.free,(`sf b `aD1).trans,strLen_append,`cx cn,`act "type.__getattribute__",RawAt.stay,[`mp,`ev],H e=`adn,(`bsF),`ado K n,(`bi `bsG),`c (`N'),`sN c,(cl _ `fy),n5.mp hc,`adp K mg `fd r cs rs,`adp X.K `cx `fd r cs rs,`D9 `adq,(by let#[C2,a2]:=`aD2),(`bj Tn),`D9 `adr,∀d,s≠`rX,(`bsH),.ex c m,(by let#[_,_,_,_,_,z]:=q),(by split at e<;>cases e),(by let#[#[h1,h2],h3]:=e),`ae h,∃C,`iv/\ErrG K C `cW,List.range'_succ,#[ds,env,e2,`aD3],`mZ=`e,V90 K=`f,(by rcases (all _ (re0 lc)).1 with z|z),H c=`pl,`N! H a sub c,SubO.no_tup,λζ ξ=>(by obtain⟨_,all⟩:(`aD4)/\∀p∈ζ,`bsI:=ξ),λζ=>fun σ H=>∃sub,`th/\ζ σ `ti,(by let#[σ',H',I,sub,c,k]:=h),(by exact`bsJ),`N? j++`g_::`ads j,`Dl H us,RpG K H B b p,`Oa=`adt,RpG K H' B b' p,∀p,EndB G `ne j p r b',(by let#[B',c1,c2,O,rv]:=ev.ex),`adu=`adt,`c (`a6 b),D×(D->D),`pQ (`adv),(.ow (`Dr)),#[_,_,rfl,rfl],f `jQ ds,(by let#[a,O,hB,ro]:=`pO),λζ ξ=>(by have U:`bsK:=`Ec hi O ζ (h2 H' B q.2 ξ)),(`bsL),I'.closed,by delta RpN at h;exact h,by delta RpN;exact h,λz=>h `Ed,`ik hk,λζ=>`he K ζ B as n' so',`Ob so' (k=0),(`Oc k n'),(`ch h2).1,(`bsM),λζ=>(by let#[d,ad,ns,as,sos,en,h,at',k]:=ζ),(by let#[dx,e1,h]:=`fL),PD X e g1,(`bsN),λζ=>wk0 ζ `t s σ H Q I `adw,(`bsO),(`be `bsP),(unL p.2).bind,`c (c,f,e),qr0 `Ee `adx f,PD X `gz gv,`lb `gz (`c (`aD5)) `m0,λζ ξ=>PSD X `bsQ (ζ i c f ξ),(by let#[dv,e2,e1]:=e1),(by let#[so,Z,nk]:=`ady O.w.all),`g (n1+n2),λζ ξ χ=>pa0 (wk0 ζ) hsw `t s σ H ξ I χ,sos[0]?=`mJ,k70 hfl h1 a6,
λζ ξ=>kk v H' (`ww ζ b1 b2 ξ rv),`aam dp,[ke,`Ef],(by have hH:`aD6:=at'.w.at'),upd H1 L `h9,(`H `aD7),`cE H H3,(by rcases `aD8 with q|q),(z▸hx),`o (`fa (`ch `xR).1) `xR,(`ch q1).1,k=`fF,(`aD9 `Oe),`nf->Hc b=`pl,But a H Hc,(by rcases `adz b q with w|w),`J w n,a5 b hb n,(by exact`bsR),`adA k C dx fs q2,λϑ ϕ ϖ=>`Ec ϑ `fM but ((`rl ϕ).2 _ _ _ ϖ),λζ ξ=>`xS b1 b2 ζ `fM but ξ,`ct=`fF,`o `xT (`wD `Eg),λζ ξ=>PS X ζ (λD σ H=>∃H₀ B₀ δ dp δ',`aD'/\ny0 i ξ dp δ=`D2/\`bsS),(by apply `aD! pt),qk0 ns d,(by let#[d,q1,e1]:=`dv),(by let#[ns,q2,e1]:=`dv),λp H2 hp s2 ro=>?_,`aC0 elt `aD? `ep lpos,`xz tDT X.K noT,(`bsT),λζ ξ=>tb0 f gx `Of `m7 ζ ξ,(`Eh hB s2),λζ ξ=>#[λx o n e=>ζ,λx o xs n e=>ξ],(`xU `aEa),`C2 `gc,`b9 `pR O8,(`bsU),(`aEb hr.go),(by let#[a,e1,e]:=`Ei),λϑ=>#[B,a,en,e1,`mE ϑ],λζ=>#[v1,_,rfl,`bsV,ζ],`G (`aEc) Aa,`G (`Og=vals.length) Aa,`G (`aEd) Aj,`G (`Og<=15) Ab,(`aEb h.go),λζ ξ χ=>h2 `pS _ _ _ #[ps,ζ hp,ξ,χ],`h6=(`z `L0),qo0 [] (`Ej)=`Ej,(by have:`bsW:=B30 `n),`C2 (λv:V×V=>v.2),`adB (Ga r.2) (Gb r.2),λζ=>.mk λH₀ B₀ δ=>ζ `jR,PTX X c gt,(`bh `bsX),λζ=>λb o e1 e2=>ζ b o e1 (no b e2),a6 b hb n,nm.length,(`bsY),λζ ξ χ=>`bsZ (ζ).1 (ξ).2.1 (χ).2.2,`xK lo hi st `ax,`Oh (xs[·]?),λζ ξ χ=>∀p,ζ->Q `hZ (upd ξ p χ),(`bs_),(`bs0),"abcdefghijklmnopqrstuvwxyz 0123456789",(`bs1),(`bs2),λζ=>oA (z7 `am ζ) yz0,(`bs3),(`bs4),(`bs5),(`bs6),[`BY, "items", `adC],mkN 1 sw0 r00,(`bs7),(`bs8),(`bs9),mkF 1 n80 on0,(`bs'),(`bs!),(`bs?),[`B1, "out", "rest"],mkN 1 tl0 ti0,(`bta),mkN 1 tp0 sm0,(`btb),mkF 1 s60 s70,(`btc),mkN 1 sv0 sp0,(`btd),(`bte),(`btf),(`btg),(`bth),(`bti),(`btj),(`btk),(`btl),λζ=>Z3 (bw0 0 `bd ζ `ce),λζ=>Z3 (ef0 0 `bd ζ `r7),(`btm),(`btn),(`bto),(`btp),(`btq),(`btr),(`bts),`X (`jS),.text w,.rcd _ ps,(`jT n `adD),λζ ξ=>ζ=0∨¬(`aEe∨ξ*128<=`btt),(a,b)::`kZ r,b/2=0∨b/2 > 8∨`Oi∨`adE=`l,b∉xq0∨`acc=`l,`Ek=`dF,`b'++[`v!],λζ ξ=>{ S with wait:=ζ,un:=ξ },`gr=`c (d,δ'),
`p `cW,`p "cells",`p "small",n6 h1 h2,yr0 `e! `DO=`c (`adF),k<1000000,(U9 `ex),(`aEf+3*k*k),`I h3,[`mR,`mF],(`btu),10 ^ 12,λj=>`jU,`ar h0,`aR h0,`aR h1,λζ=>`aac `tj (m9 `btv ζ),`ar q0,`aR q0,(λv hv=>by cases hv),by simp[hl],p.length,λζ=>(ζ: Str).cps.toList,`adG at',[`r9,`bS,`ab',`e_],rw0 _ _ `n,`e5 [cg `adH],Z00 _ `n `n,m5 ?_ rfl,app _ _ ?_,λζ ξ χ=>mm0 (d:=ζ) (l:=`e) (h:=`c ξ) rfl rfl χ,c∈`El,V10 _ `n `n,`d9 hc,(t:Int),λζ=>O _ (λs0=>ix s0 ζ _ q rfl) `n `n,`Q `n,`aEg `n,List.drop_of_length_le,λζ=>`m2::`adI::`btw::`adJ::ζ,`c (M7 1),`c (M7 2),(`z `xV),(`xW:Int),`gp<=1000,(`L1).set,List.length_modify,λϑ ϕ=>(`w ((ϑ)=[]) `e (`Y! ϕ))=_,λζ=>(ζ).reverse.map `Cx,λζ=>qh0 0 `bd ζ g `bI,(`adL)[k]?=_,[`cq,`cJ],`c `DI,`li d80,List.count_cons_self,{ rh0 S with un:=u },(`z `xY),List.range_succ,[`cq,`sq,s2,s3],`k->`k,`ae O,(`z (wd w)),[`oR,`gl],[.sh (`xZ),`bS],`g (`Oj),λϑ ϕ ϖ=>`A' (`ba ϑ (D.non,`kY 0 ϕ (ϖ) _)),`adM kd `aW,(`o?).wait,wm0 `bo [`K7],(by show `btx),(by rw[`bty]),orG ga gb δ,(by show `btz),`X (n=0),`Ok=`gC,λζ ξ=>fc0 S ζ ws hw b p _ _ ξ,(by rw[`Ol,`a0 ((`gb: Str)=`adN),nq0,nq0]),(`DM S `k2),(by conv=>lhs;delta u50),`btA a,[s0,s1,s2,`aEh,`w6],Nat.pow_succ,.sh (`s (`Om)),(`aM (36 ^ (`adO))),`we - `On,[.sh (`Em),`o0,`lj],`X (`ow=L),(`Oo `Op),`bw [`mo,`aEi],pg0 b _ _ Un0 `u,we0 `bo `Ct,(`z `v!),`xK (`c 0) `e `Oq n,`xK (`c 1) `e `Oq n,D8.mp hj,codes (`En),λϑ=>`pw (rj0 ϑ `ayb),[.sh (`xZ),`adP],λζ ξ χ=>by delta wg0;rw[`Eo (ob `aaD ζ=`bu),`Eo (ob `aCH ξ=χ)];rfl,`jV (2,`bt),`jV (3,`bt),[`cq,.un],.sh (`H `x_),sx0 `n `pT `x,`b'[`x0 - b]?=`c nm,xp0 `bo `Ct,(by rw[`btB]),(by show `btC),o.length,(128:Int),(`aas `btD),z.natAbs<`adQ,`wl<=`R,(`wl:Int),λϑ=>`Bq [ϑ] `vq `R1,B50.mp hd,(by rcases `cg hm with rfl|hm),(`btE),`K! α,`aS<=60,`H [_,`h?],`py∈B,λζ ξ χ=>bs (4*(4*cnt ζ+kn ξ)+3)++tx χ,`aR `nc,(`adR:Int),(`pz:Int),`xo<=60,(by rcases hd with⟨s,rfl,hs⟩|rfl|⟨x,rfl,hx⟩|⟨j,rfl,hj⟩),(`ace `xe),(`ace (.sh `x1)),
hw.it _ w2,[a,b,c,`aEk,e,`Dx],(o++`x2),λζ=>`Os (bv0 ζ rfl),pk ps f B T W,[lkd 0],λϑ ϕ ϖ=>`oh [`acr,`QE,ϑ,ϕ,.un,.un] ϖ,.ow `aEl,`Ok=`jW,n<=lim q.1,(∀j∈us,j<k),(`xp hl).2,`cI≠[],λh=>`adS,`J rfl hf,(`Ot).2,m `bo ds,(by let#[n,dn,hk,hn,e,f]:=p),`bG n Want.sign,D4 _ A7,`sj+`fv%128,`adT=[],E.begun,dc0 e2 e4,pm0 G1 G2 δ,ug0 G1 G2 δ,(`btF),(`btG),[`a6 (R `Ep),s1,`en],`au=`Df,G `x3=`pU,`c (`wv),`aX::q,(`btH),`cg hb,λq=>n `Ou,(as++bs),`Eq K H δ,(G2 dp),(by let#[B,a,ns,as,sos,v,b1,b2,env,at',hj,rv]:=pt.ex),(`btI),λζ ξ χ=>∀(k:Nat) c so,ζ->ξ[k]?=`B?->χ,W80 i ms δ,Z b hb n,.dK (`wN zs),(gd0 ds).map,Nat.not_lt.mpr,(λ_=>Xz0),(`btJ),(`btK),(`btL),(`btM),(`btN),(`btO),(`btP),(`btQ),(`btR),(`btS),(`btT),(`btU),(`btV),(`btW),(`btX),(`btY),(atG 0 `aEn),[`p "parts",`p "pile",`aEo,`p `aaq,`p "sum",`p "amid",`p "left",`p `ji],`g `x5,`aEp `Er,qs[k]?=`dY,`c (`tk),(`btZ),(`z `Ld),wg0 g g' δ,xd0 g g' δ,`Ov w,(gc (`x6)),`adV `Er,(`iw b),[`bS,`kU],(jb0 hq).1,{ q with count:=n },b.un.head?.bind λu=>`aEr λq=>`adW,`d3=[],`aEs∨(`Es/\`aEt),`lk/\(¬`m4 n∨`jp=60),`au=`c (`X P),`ar (`adX z),`ll `aEu,λϑ=>`ae (`kw ϑ `b_s),λζ ξ=>show zt0 0 v6 wi0 (ζ)=_ from ξ,`e? = `nh,x∈`DT,fN p b' x,λζ ξ=>{ b with sum:=ζ,amid:=ξ },c=128/\`Et,(by have rf:∀δ,`aEv:=fun δ=>`d0),`I c3,`Q c3,bkD `sW,λζ ξ χ=>(match ζ with|`aCW=>`bt_|`e=>(`bt0,ξ))=χ,(`z (`aEw λn=>`aEx)),(`z `si),`hc<=100,[.sh (`Em),`lj,`kU],lf ns pre k,(by rw[no0,`h,ty0,`h,l80 (wc0 2)]),`ct<=c/2,(`aEy),`adY∨`aEz=`l,`c (`x7),(`pI)[`ct - 1 - c/2],`c `B',List.mem_append,λϑ ϕ=>`af [s0,`fx,.sh (`e5 ϑ),ϕ],[s0,`fx,`o7,s3],`w `tl [c] [],c∉xq0∨lf ns `Eu k=`l,(`bt1),sign_is,`LR (c60 b w k),fT p b d .un,(by simp only[`hq,`te,`tf] at h),(`bh `bt2),`e? ≠`gb,`acm `aEA,(by rcases hk with rfl|rfl|rfl|rfl),`dI%2=0,tm0 kd n (`adZ),Z60 hk h,(by rcases hw with z|z<;>rw[e] at z<;>cases z),`sb (wo0 r),[toS d],S1.length,vn0 `ad_ S1.un,#[_,_,rfl],Xw0 h3 h4 hv d,`c S1,Gi.len0,λz=>`E,R.root hw,`C9<=lim `Ow,
(go _ `n),(`bt4),λζ ξ=>[`kJ,`bS,`LV,ζ,ξ,.un,.un,.un,.un],(`xd+3),λk=>`aF (`tm),nm.getD `ix "",PoolL np `kQ,(`d7 (2<=`R)),(by show `bt5),(`ni `r9 `bS),(`ad0).toNat,λζ ξ=>λp=>#[ζ,head p _ _ (O p _ _ _ ξ),rfl],`Ox%(`Oy),`g `po,[`mR,`aEB],10 ^ 30+57,(by exact λb hb=>nomatch hb),`tn/\Lo d,[s0,.ow (`kR),`px,`cJ],en `pW l,l.getD k `x,λζ ξ=>`c (`oo `Oz ζ ξ),Bt.Y0 ?_,List.map_take,Nat.le_succ_of_le,(`g3:Int),Ta.add_l,`to `OA,byt _ λb U=>?_,(by rcases `d9 U with z|z),(by rcases `d9 z with z|z),`m (`aEC b z),aq0 m a `OA x (E5 a),aq0 m a a x (A3 a),λζ ξ=>O ζ eqD `f (by rw[Z,`ar ξ]),λζ=>m5 `aED (m5 `bt6 ζ),[`a6 `DU,`k7,O],[`k7,.un],λζ ξ=>aa0 (r:=ζ) (Zb0 ξ) rfl,`ad1 `f,[.sh x,`xe,.un],[`k7,.ow (bkD b0),.un,.un],b'.want = `fG,`c `ad2,`bG n 23,λζ ξ=>lu0 (xs:=ζ) (i:=ξ) rfl `bp_ rfl,λϑ ϕ=>#[ϑ,`aV,`aV,`ayN `b_h ϕ],[103]++m1,by simp only[`W,`e8];lia,(`Ev `wa `e_),(`Ew `pE .un),.sh `kV,`OB++ys.drop k,`bt8 j,(`Ex m0),`bw `OC,(`bt9),(top 3),λζ ξ χ=>okN (k:=0) (G:=ζ) F ξ (χ) `x9,(top 4),(top 5),(top 27),(zn0 j6),(top 30),(top 31),(top 32),(top 33),(top 34),(top 35),(top 39),[`nj, `MC, `ji, `CZ],(top 40),(top 41),λϑ ϕ ϖ=>FnN P w K mg `aP ϑ 2 ϕ ϖ,(top 42),λζ ξ χ=>okN (k:=1) (G:=ζ) F ξ (χ) `x9,(top 44),Vi0 K mg "KINDS" `OD,(top 45),(top 46),(top 47),(top 48),(top 50),(top 51),[`lm, `x'],(top 52),(top 53),(top 54),`OE `OF 1 wh0,[`c9, `OG],o5 `ad3,(`bt'),λζ ξ=>W8 (X3 (zh0 (o9 b7 (o9 ζ ξ)))),[`oY, `aEF],(`bt!),(`bt?),(top 62),[`o3, `hd],(top 63),(top 64),(top 65),(top 66),(top 67),λζ=>T7 (X8 (X3 ζ) `aEG),[`c9, `lm],(top 68),`OE `OH 1 wi0,(top 70),(top 72),(top 73),(top 74),λζ ξ χ=>okB (k:=3) (G:=ζ) F ξ (χ) `ha,(top 75),(top 76),(top 77),(`fc 37 0),(`fc 37 1),"end_parts","takes",(`fc 37 2),(`fc 37 6),"takes_digit","takes_letter","takes_name_number","takes_sign",λϑ ϕ=>`ec ϑ `C1 (spB K 0 ϕ),(`fc 37 7),"goes_on","takes_head",[`cV, `B1],(`fc 37 8),(`fc 37 9),"takes_part",[`cV, `sC, `Dv],(`fc 37 10),(`fc 37 11),
(`fc 37 12),(`fc 37 13),(`fc 37 14),"takes_known_name",[`cV, `aEH],(`fc 37 15),"names_here",(`fc 37 16),(`fc 37 17),(`bua),Hd K x st,`aEI spD,`aEJ `Ey,`aEK FnD,(by exact`bub),`aEL `Ey,(by exact`buc),`aEI spN,`aEK FnN,∀{f fd},`ad4->`aEM,FnB P9 w9 K mg b9 x n ps 0 m,∀{f fd},`aEN->`aEM,`G (x∉Fl) Ab,FnT P9 w9 K mg b9 c x n ps Fl m,(by let#[f,fd,F9,a9,i9,k9]:=h9),λζ=>#[#[C,f,fd,o F9,aT,`bud,`bue,ζ,hm]],λ_ _ _ _ _ _ us hl=>by let#[_,_,rfl]:=us2 hl;rfl,`d×Obj,(x==`aay)=`l,(by intros;rfl),b8 ?_,K6 `aEO,(v5 p `bo),(x==`aA8)=`l,(Y9 `x!),fN p b x,EP X `t σ Q,u40 n `cj σ,`buf=`f,upd H a o,Loc `r_ y,`B_ K `f9 c,(λ_=>`q),`as a=`e,`r5 k,`OI i hN,`ig H `dK,λζ=>AtN K ζ B σ δ i a ns as sos,.sh (vD q),(`oV `g),`bP y py,`bA h,x ≠`aB9,(y==`aay)=`l,wd0 `buh,`aBm `g,b.names.map,S.un.reverse.map,`ci `T,λa=>`aEP,.sh (`LS),(D9 _),X.N[i]?=`gZ,("__classdict__" : Str),q.names.map,(`r `gb),`el i (`rX),`jj×`aEQ,I.base,λζ=>CompOk sc `ep ζ N' n `cj,`ad5->`x?,hW _ _ _ _,(CXE P w),λp=>(p.1,p.2++[d]),O9 `bug,pool.map,(`bJ `a1).map,`bj "type",S.wait.reverse.map,`r (`rZ q.1),(zs m).map,`U r::bmV,envOfC,λζ=>tDG ζ idx f B d δ v σ H Q,(`tp rx),(by rw[typeLookup_type,`bui]),by apply `ya;rfl,(by rw[`buj]),λx=>B x∨x∈`h!,(`aEU hv),by rw[xn0],O.w.opAt,`oV `OJ,λc=>`Ez,λϑ ϕ=>`c { cls:=ϑ,dict:=`e,data:=ϕ,slots:=⟨⟩ },(`yr `V),(`buk),Heap.SameBut,K w.params,relabel `ep `P,.sh (`xs),(c/2:Nat),(`aET).drop,sos++[`acp xs],(a::`abi),[v,ov,iv],λζ=>`ad7 (t':=`cK) ζ f0 f1 f3 f4 f5,`hs f,g90 xs lo hi,λ_ _ h'=>h'.elim,(`df).bind,List.getElem?_eq_none,`c (.ow d0),(`abm),`bj `ps,(`mS `EA),(`bul),`pD hw,O9 `bum,(`aM (c%128)),.sh (`aEB),.sh (`g f),(3+2*u),(λx=>!x.1),(`aeo `kL `aep).all (λx=>x.1.isSome),"classed",as.map V.ref,by rw[w40],λn=>`Em,env.kindOf,"__name__",Gr.fresh,(`buo),(`bh `bx7),sos'++nso,(`bun),(`EB `cZ),wf0 0 `sU `k9,`r `ji,"abcdefghijklmnopqrstuvwxyz0123456789",`jy `b3 n,H b=`jG,X.base.get? b=`aG,(∀b∈fp,`p2),j<1073741824,[op,op'],`pX K `bl f,
λζ=>`aEV (`b6 `aEW #[`eU::ζ,kw]),NameKind,(`bup),`c `mY,sIx n 0 lo,(`jY),(`jZ),λp=>`w (p.1=q) v p.2,λζ=>by let#[p,xs,rfl,_,hp,hl,rr]:=ζ,s.heap.IsListIter,`ad8->`ad9->`aEX->`aEY,`OL `m_,k80 X σ H' C od,(.rt r δ'),λζ=>by let#[k',c,so,rfl,f1,f2,f3,f4]:=ζ,(λ_ _ _ z=>nomatch z),op0 i `KX δ,(`buq),(`bur),(`bus),(o2 `s0 `OM eqD),(`but),`bG n [`DG,`eY],`a6 (R `yb),b8 `buu,`s `pY,(`aEZ),.sh `Nw,`p `w3,"_law_tail",(λ_=>`kG),(`sR `V),(o2 `aE `ON geD),(`buv),`Mu=`C0,`c b'',(`mq,`Gg),kd=1∨kd=2∨kd=3,[d].length,fun δ d h=>N8 h,.ListComp,`C7 `r,nm.map `r,`Ls=`bC,`bX a `P,callWith,kv.1=k,(`cY `aI4),.sh `Or,`m `ad',`aa Keyword,I.base.tbls,λp=>`gy p.2,W.instObj,Builtin.Tuple.tupleExact,`K3=`k0,`Nr<i/\i<`w9,[p.1,p.2],XC.Cl h C tl,(K5 [b]),λw=>`CK,o.map `g,M7 `aE_,`m4 (`yc+k),`aE0+`aE1,C7 X9 G9 a9,F9.kp,(`aM `Nq),#[_,en,e1,k],(`aFf b xs e),(`OP:`v).TypeIs,λζ=>∃vs,`pZ/\`buw `C! ζ vs,`ED->G a b,`c `aE2,`pm ob u',`Ls=`ad!,`DK x=`kE,(`aE3)/\∀p∈`wS,p.1≠b,by simp[z],`aE4->`aC3,`OQ e `P whole,`ib `aE5,i.natAbs,`pL (i<=j),`pL (j<=i),(`bux),`pX K `bl `OR,W.makesIn K C,`fe=`aS,λζ=>Env0 P w K mg `aP ζ `da s H,`buy _ _,λϑ=>`ij `b_k (`o6 ⟨vl,vu,ϑ⟩),(`agU),λζ=>by let#[its,r',pl,hz]:=ζ,(`buz),`g (i%j),by rw[xn0] at r;exact r,λζ=>λi j a ds es h1 _ _ _=>ζ,(`OS CX0 N fa).nox,(`ad? N vs),`cK+knd.draws k,(`z `ac?),[`aE6,`aea],deq (`aER) (`aES),uh0 pr.1 q,(`buA),(`adj).filterMap `aE7,(up b o e),T.all c hc,`OT ?_,∃o,`FA,`fz `k1 f pos',H a=`c `aE8,[v1,`yd],`adz b hb,(`mx).zip,`Eq X.K H δ,λζ=>(by let#[en,B,a,ns,as,sos,v,b1,b2,env,at',hj,rv]:=ζ),[`buC],λv H' ev=>?_,λζ=>by let#[trs,h1,h2]:=ζ δ,keys.all `aE9=`f,`ju≠[],`pB=`aJu,c%2147483647,Nat.min_eq_right,.sh `buD,`r `EE,`H [q.1,q.2],.ow `Nw,(`buE),.ext (`DJ e C `OK),[`e9, `wU],`p `oU,un.reverse.map,{ b with un:=[],want:= `fG },`f8[u]?.map,(`buF),`jp<=n/4,(n/4:Nat),RF δ=`c (.rt `rS δ),ns.filter,`aE'&&`OV,`aF `buG,lf ns [] (c/2),(`iw `p_),`g `ad6,(sub a).1,(f4 _),[129,75],"_law_start",
(U8 `d4 `Lp b7),"behind",λϑ=>∀{f fd},`ad4->`aE! (ϑ K m),λζ=>∀(kV doc pm:`A) (an:`bp) (cdv ct u:`A),`tq ζ `ac4=`buH,λζ=>ζ P9 w9 K mg b9 x n ps m,λζ=>∀(kV doc pm:`A) (an:`bp) (cdv ct u v:`A),`tq ζ `buI=`bW (`sy [u,v]),`aE! (spB K 0 m),`MJ x q,(`buL),B a∨a=p,`d×`A,ds.getD j `x,es.getD j `x,`K0 q.1 n,λζ=>by rcases ζ with rfl|rfl<;>decide,A.under,"type.__call__",`es c=`aG,`id c=`aG,2*`buN,(4+2*u),z/1000,`cG*`acq,(`kO x),`OO b,`vY=`bC,(`ij (`bj `ye) (`o6 ⟨`g lo t,`g hi u,`g 1 v⟩)),`bP x p2,(·.frame),(`w2 `dK),(·.isSome),`X (`ow=`EF),λζ=>`kA P9 w9 K mg b9 CX0 n f fd ps ζ,`EC `wu,(o++`aE?),(`buP),"object.__getattribute__",(`buJ),PySem.Within,I.base.tups,(`bCE),#[`eb,[]],l.row.toRowW,`fw=`aG,`aeb&&env.scope.kind==`tr,spos.line,λζ=>λv H' s' r'=>ζ v H' s' r',SubO.ins,B a/\a≠p,(`buM),λζ=>st ps `aFa (`yf) T ζ (`sS),`buO<=M,.bl `aFb,(z7 `jz v6),(`yg q ns'),#[m%4,m/4,0,[],`l],(`buQ),`g `buK,#[q,hq],.JoinedStr,.FormattedValue,#[_,en,e1,`tM #[r,en',e,k]],λH' O=>?_,lookupAlong,(`kP `bl),`aec `yh==`aec `aFc,onTheHeap,`yi==`aed,!cd.hasDel,nsOkIn K `OW,`aHX (`aHY X hok),Heap.MadeExcOf h h' e `bl `aA,#[h',g,d,t,os],clsIn K C,cd.hasDict,(`ts a:Key),(`DR a:Key),`c `aFd,`aFe mA (`aee),o.ExactDict,`p0=.dict es ep,`aef `gc,(p.1=a∨`OU=`pl),TabOk H h a (qOf ps),Y4 (hm b _ q `tt),(jx0 h H).get? b,`OU=`e,List.filterMap_cons,I.ok.stk,s.heap.IsCell c v,λζ=>#[ζ,`yj,`Nn,`aeg,`aFf,`aeh,`aC!],z.sameBut hs (cne y c e),t D σ H,`p0=`jy its n,k it `a? o e,I.list_inj,s.heap.IsTuple a `b3,`Ru (t':=`ahY) `Gn,Nat->`ln,(`buS),Int->Int,`aei (f `yk (`g j u)),`g `p1,`g (i - j),`g (i ^ `py),`r (i++j),W.lookIn `dc od,(`EG).push (`aej),al0 `b1 e,s30 f y fs,I.ok.mod.kin,`LU K `bl,λζ=>upd (upd ζ dx `aE2) x `aFg,E1.mp nd,cellsFrom,λζ=>ot0 CX P w K mg `aP N `jt `ep f ζ A `da s H E,sIx n n hi,`wH+`jE*1,(items.toList.drop (`Nq)).take (`acL),`k6 `ax `ax hi,(`buT),`c `ix,(i+n).toNat,ixN `ax i,SqT K H p xs,SqL X.K H p ys,SqT X.K H p ys,`b1 p _ hk,`bG k xs,
λζ=>`oE ζ `NY (`nk `MA `aFh) `buU `eF,λζ=>ζ q loose XP YP `aFi d [] `buV,`aek->`aFj,caps.map,`w ((`aFk&&`OY==`ld)=`f) `D0 k,s2.heap.push `NB,(`m!).2.2.2.2.1,`OZ==`tr,`EH==`ld,PG `rV tg g,PF `rV ifs tt,PE `rV elt te,as.2.2.2.1,λζ=>`G (`aan ζ `Du `aFl `P=`ael) Aa,`c `buW,`aH DL.D,(·.length),sep.length,`af δ2,Rd H a `kV,`yl (dOb ks xs)/\dLn ks=`ax/\`bv,`nl=`e,`ct=`ax,(`buX),λH' s'=>?_,Hh b=H1 b,λζ=>`aem b o xs (`ab4 b o xs ζ),i<=`c?,RpO K H' `pS d p,λL hL=>?_,(`buY),`aFm q,`jP+O.toArray.size,`aen xs i,SqL K H p ys,SqT K H p ys,(ds++es),ds.dropLast,`cH x=`f,`O_ xs k,∃q,`id a=`dY,`mt `kL (`jf `O0 `P),λj k b ds es h1 h2 h3 h4=>?_,ro.plain,(`buZ),Bool.and_false,`O1 A s _ _ `f,λζ=>λl hl=>k _ _ (`O2) (ζ hb hl rr),λζ=>λl hl=>k l _ (`nm hl) (`oy (`O2)) #[_,Y7,ζ (`aB' hl)],λζ=>WalksS `m5 w ζ I fp wr G n P St,ItemsOf P acc' n,(`ih (`aeq)),`mt pos2 (`oD),`aer v,rr.mono `tu,ds.all `cH,h'.IsListIter,Builtin.SmallTypes.nextOf,ys[k2]?=`e,λζ=>ZLow z TI TO i1 i2 l1 l2 ζ,(·.pop),(`iy `tv),O b `aD_,(`bj T1),(`bj T2),(`ih (`aes)),(`tw ⟨u,w⟩),(asB t).bind,{ cls:=`bj "traceback",dict:=`e,data:=`o6 ar },E4 _ hT (Y2 (P6 O _)),(`b6 `aeJ),∀h:`D,X.K.In h->`aDf,`dd->`p2,(`c `iz),(`bu_),tl.contains,E `bl od H',λ_ z=>z,`b1 a _ hH,`e1 r::XC.bmV,λζ ξ=>#[o.mod,o.kind,o.glob,o.blt,o.above,o.inj,o.has,o.cab,ζ,ξ,o.stk,o.exf,o.bs,o.bsz,o.noex,o.exfs,o.funs,o.frf],o.frames,X.A.frames,λf s1 q=>?_,`O3 `bu0,`r f tk,.of_isNs,isNs_of_in,`aFn C dx fs,`bu1 a D,D.rt v H,(`eC cdv A `da s H E hr).go,(λa=>`aFo),h1.same s1,λζ=>by skip;apply `bu2;done;exact ζ,#[v,_,I'.opened o,r,k],`bu3 c,(`bqU),h.go B δ,(`nl).bind,λk=>`ff,`ab6 r1 hn,nrf dv=`f,(`bu4),(`bqV),`r r.1,λζ=>ζ `cF X.w X.K `cx `e7 c m k ps F f,`o (`fa (`ch e).1) e,Hc b=H3 b,(`bu5),(`bu6),`Qk H a sub,(`ig H sub),λϑ ϕ=>∀b xs,`Fk->`aCh->¬ϑ b/\ϕ=`jG,`aDS ?_,H1 p=`e,`m `bu7,λζ=>fun σ H R=>∃B δ,tDI ζ B δ gi σ H R,(`y2).map,gp0 trs σ H Q,`c0 (∃B,`nn tD X.K gk),(`bu8),
λζ=>λpins s σ H Q I #[B,h]=>ζ,`f' `jH,(`y2).bind,(qn0 `QO).bind,s' _ _ Y7,(`bv3),(`xU `aFC),s30 f v (nm.zip xs),(`bu9),`aen ys i,λζ=>∀o i,`O4 ζ `l o i=`bu',(`bu!),"_law_j","_law_pool","_law_step",(o2 `tx `V eqD),(bb0 `am `db oh0),`c `f?,λζ=>by simp only[yr0];rw[`I ζ],`aF (a++b),a.length,f (`adv) ds,λζ=>Z50 k h0 ζ cs hc sm m `kQ,(`cY `aet),(`bu?),`O5 (k%7),`ci `fN,(`bva),List.take_of_length_le,`r (zi0 v),λ(p:`e2)=>`gy p.2,`X (a=b),`a1 - 1 - (N/4).toNat,(`EB `aeu),n*128<=323,(`bvb),[`gY,s1,s2],`ag! δ',λc=>`aby,λζ=>λd=>match d with|`gf=>`X (`bvc=ζ)&&`abJ `EJ|_=>`l,`b'++[`rY],(pj0 p S _),t60 xs (`c 0) `e `Oq,(`bvd),(`bve),`EK[k+5]?,(`bvf),(`jB: Str),(`bvg),λy=>eqF y `lc,λϑ=>`w (r=0) [] (`Bo::dgf ϑ `Bn),`hm (`aDi),`s `aFp,(cnt p:Int),`s `bvh,`s (`no),`xo - 1,(fj0 _ _).mpr,(`bvi),(`bvj),(`bvk),`ym `aFa (`sS),`aFq (`no++W),`d7 `aFr,(N/4%4).toNat,Nm n/\x=K5 n,(b%128:Nat),`c `eY,Y4 (B0 n1),`s5 H' (`gA (bm.2 b')),`a6 (R S1),`c `bvl,`h6<`R,ks.Nodup/\`h6<=15,viewVs ns ds,(`s (es++[`EL])),`b4 `st (dsQ (`ct+1) `p3),`bG (noQ `p3) `h9,(`bvm),(tz0 `aFt),(`bvn),(`bvo),(`bvp),(`bvq),(`bvr),(`bvs),(`bvt),`jL k q',(`EM).set,`jL k `aFu,[`EN,`aev,`EO,`aDj,.bl `ss],{ b with un:=un },(`aew `fG),`f8++[`aFv],`w `lk (g30 `p_ `Ow `O6) `oK,{ b with parts:=`EP },(`bvu),`o `T hl,(gc δ).bind,(`g `O7),(`bvv),lf ns w k,b8 `bvw,`c (`EQ),`dF - `o!,(l++[d]),(`z `adZ),#[kd,n,0,[],`l],(`bvx),eqS `ER `xx,λy hy=>?_,`O8 (ix j) "",k'<=k+14,`ES q hq,`s (es.map `g),(`bvy),zs m++[0],`H `aFw,.ex `e9 `ET,l.all My0,`yn n,(`z `yo),(zs t).map,(by simp only[`W,`fN,`jX,`e8]),(`z (ys.take k)),(o2 (`gD `x4 15 pk0) (`adU) Z7),(`bGF),(o9 `fC j5),[`aa', `aa!, `aa?, `aba, `abb, `abc, `abd, `abe],λζ=>∀(kV doc pm:`A) (an:`bp) (cdv ct u v w:`A),`tq ζ `bvz=`bvA,`O9 (by let#[u,v,w,rfl]:=us3 `O';exact b _ _ _ _ _ _ _ _ _),(`bwK),I1.fpOk,D2 ?_,λζ=>`yp j k ζ ds es h1 h2 h3 h4,(`bvL),(`bvO),(sb.2 b hb).trans,(`bvF),(`bv1),`r "small",(`bwE),(`bw2),`r `nh,(`bxA),(`bxQ),(`bxR),I.unwish,
letOwnedTupleGo,(`bvE),v'.length,(`bvW),[`bP `cV p3,`aFz [`Cr `O? j p4,`aFA (`bP `cW p5) (-1) `e p6] p7],λζ=>ζ `aey `bvZ `t s σ H D I `aFB,(`bvJ),(`Ej).map,[`bv4],(`bv!),(`bws),(`bwu),(`bwv),(`bwx),(`bwy),(`bwz),(`bwT),(`bw6),(`bw9),(`bw'),(`bxa),(`bxo),(`bxq),(`bxS),`O9 (by let#[u,rfl]:=us1 `O';exact b _ _ _ _ _ _ _),`O9 (by let#[u,v,rfl]:=us2 `O';exact b _ _ _ _ _ _ _ _),.Slice,s.trans,op0 i `h9 δ,(D5 _ z),(`bv'),`g 1000,`r "cells",(`bwi),(q30 `l),(`bwt),(`bww),(`bwA),(`bwI),`g `bwO,(`bwS),(`bw4),`r `Dv,(`bw8),(`bxe),(`bxg),(`bxi),(`bwV),(`bxp),(`bxy),(`bxK),(`bxr),i3 _ `c7,(`bvB),λζ=>⟨k0,k1,k2,k3,`c (`b6 ζ),k5⟩,I.mod.glob.keeps I.bk,Array.toList,(`bvC),∃t,u=`O! x t,`fz o f pos',(`bvG),(`bvI),Txt.join,k _ H' s' `aex,λi ds a h1 h2=>?_,Txt.slice,λζ=>by let#[q,_,_,hq,_]:=ζ;exact`aFy,λj ds a h1 h2=>?_,(`wN ds).map,(`bvS),(`bvX),(`bv_),(`Eh hb hh),λζ=>#[dx,ad,ns,as,sos,en,e1,at',ζ],U.w.openOk,U.w.opAt f1 f2,`aBx `Pa Z,(`bv5),(`bv?),(`bwj),(`bwk),(`bwn),(`bwq),(`bwC),(`bwD),(`bwG),(z7 `EW v6),(gc `Pb),(`bwJ),(`bwL),Want.cls,`g (`sj),(`bwM),ta0 `l `lc (`aez),(by rw[`bwQ]),e30 rfl B,(by rw[`bwR]),`bw `Pc,(`bwU),(`bwZ),(`bw1),(`bxl),(`bxz),(`bxC),(`bxE),(`bw_),(`bxG),(`bxH),(`bxI),(`bxO),(pab 0 j5),fun δ d h=>K3 h,.error e,W.methodObj,Q σ' H',(`bvD),[`bs,`h?],(`aFx),s30 f v r,hc `t s1 σ H1 vs us Q I1 r1 q1,(`bvH),∀l,`EU->`EV (`pN) `NC,(`bvK),(`oy `iA),`o `pP hl,(`bvM),(`bvN),it.stop,λζ=>ζ cl s _ ex B δ `t s' σ H Q I h,λζ=>`eC cdv A `da s H E hr H B ζ,λζ=>λi j a O es h1 _ _ _=>ζ,s _ _ h,(`bvP),(`bvQ),λζ=>λd e x y u w h1 h2 h3 h4 h5 h6=>ζ,(`bvR),by apply `yq;exact hz,`bvT `m_,A0 `bvU,(`bvV),λb o e n hx=>?_,(`bvY),X.A.mark,`g `mG,λH' B' b' r'=>r'.toL,(f b.1 ds).map,`bv0 ys,`hf σ' H',(`bv2),(`bv6),(`bv7),(`bv8),(`bv9),`g 48271,(`bwa),(`bwb),(`bwc),(`bwd),(`bwe),(`bwf),(`bwh),(`bwg),(zm0 `db),(`bwl),(`bwm),(`bwo),(`bwp),(au0 `OD),(`bwr),(`bwB),`g 20,(z7 `ty v6),(`bwF),(`bwH),λζ=>xy0 (p:=p) (b:=`aAQ) rfl rfl ζ,parts.map,(`gg `x),
(`bwN),`c `lc,`f=`f,mq0 T s,`bwP+2,`g 127,(`bwW),(`bwX),(`bwY),(`bw0),(z7 `ys v6),`r `sC,(`bw3),(`bw5),(`bw7),(`bw!),(`bw?),(`bxb),(`bxc),(`bxd),(`bxf),(`bxh),(`bxj),(`bxk),(`bxm),(`bxn),(`bxs),(`bxt),(`bxu),(`bxv),(`bxw),(`bxx),(`bxB),(`bxD),`r `CZ,(`bxF),(`bxJ),(`bxL),(`bxM),(`bxN),`DT++[x],ns.getD,(`bxP),(`mA).parts,`aeA c eqS,λζ=>m8 R7 zx0 T.b_ord b_ord ζ,g8 T.c_NAME_SIGNS,T.b_reversed,T.b_enumerate,(`aFs),(`buB),λζ=>`f! C=`c (`buR nm q C N bs tl hdct sn sub ab col dd k0 k1 k2 k3 k5 ζ),`OX=`bR,s'.heap.get?,`EI acc' c',h.own b hb,k=0∨k=1∨k=2∨k=3,α->`aH β,o.bind f=`bK,∃a,o=`k0/\f a=`bK,#[a,rfl,h],"__getattr__",`N->Prop,λζ ξ=>`c { cls:=ζ,dict:=dd,data:=ξ,slots:=sl },Row h (`aed),`aFD bmV n=`bW y,lookupAlong_cons,wpAny_mroOf_exc,(by let#[nm,q,N,bs,U,sn,sub,ab,Y,dd,k0,k1,k2,k3,k5,O,hC]:=`yt),`aeB `bl "type",#[_,hC,rfl],`bW (`c (`yu)),`Pd _ (`aeC),R (.ok `aFE) `e',(`bxT),(`bxU),F.owner_object_class,λζ=>L5 P3.plain `bxV (P3.check _ _ _ _ _ _ _ _ ζ `bxW ?_),(`be `bxX),(by repeat apply `bxY),#[[`a',`Pe],[]],F.slot_gs_set.lookup,(by repeat apply `bxZ),Q () `e',`sk `Pf=`f,λϑ=>`qI (`nk (`b6 `yh) ϑ) `e',F.attr_ValueError.ga.plain,F.entry_bexc_ga,(by have f3:=`bx_),(by have z0:`bx0:=`bx1),(`aFF)=`l,(by have z1:(`aFG (`oQ)&&`aFF)=`l:=`ae z2),(by repeat apply `bx2),#[h,g,d,t+1,os],`sk `bl=`f,(`bx3),#[h,g,d,t',os],Builtin.«isinstance.nested»,`g dep tk,`aeD c.isT (t+1),(`kP `Pg),Cl `ay C tl,[`a',`U W],λζ=>`bx4 (S:=λ_ R s'=>s'=s/\∀t',R (.ok ζ) `aeE) `bx5 `bx6,isinstance_outer,λt'=>hr t',(by intro e;cases e),beq_iff_eq.mp,nsMap_none_of_in,λζ=>`bx8/\h.Ns N mN/\mN `eG=ζ/\`bx9,[_,_,_,_,`c (`b6 n),_],`aFH&&n == `aeF&&`aFI&&tailIn K bmV tl&&`aFJ,nsIn K `OW `eG,(by let#[nm,bs,mro,ns,qn,hd,sn,sub,ab,Z,a1]:=cd),sl=`bx',λζ ξ=>#[nm,qn,ns,bs,hd,sn,sub,ab,Z,dd,k0,k1,k2,k3,k5,_,`aeG,`aFK,ζ X ξ U,`bx!],nsIn K `f9 `fd,(`aeH).all,nsIn K `f9 c',mg c=`wq,At K mg c C `yv,Tab K mg `fd r cs rs,Bool.not_true,
λζ ξ=>∀h' e,`aFL->`aN `dt ζ `bx? (λr s'=>r=`aY/\Q ξ s') E `aFM,rest.length<=`R,#[`eU::`aA,[]],(`tw rest.toArray),(`ij `eU (`o6 ⟨`U `dB,`aY,`aY,`aY,`aeI,`aY⟩)),`p4 b=`aG,(`bya),codeAny_of_tree ?_,`Ph=`eU,`Pi=`c `aY,`byb _ _,(by rw[`byc]),`aFN=`aeK,`aeL K `bl `dc=`gX,`ae hm,looks_clsIn X hc,I.type.here,refuseLoop_ref,`aFO=`f,`aeL K `bl `OR,`aeM setAttr v,λζ ξ=>A0 (`byd hx (A0 (ζ (s:=`np) ξ ?_))),Heap.get?_update_ne,λe he=>`J he `a?,wpAny_nsSet1,Heap.Ns1.of_empty,wpAny_lookBehind,pastItsLine_dict,`es f=`gZ,hh.get? f=`gZ,`A->`B,Value.isInt,Value.isStrOf,`aa L2.Key,`aFP=`ts b,`aFQ=`DR b,P7 `bye,(by rcases uv0 hb with⟨j,u,rfl,e⟩|⟨y,u,rfl,e⟩),(by rcases uv0 hv with⟨j,u,rfl,rfl⟩|⟨y,u,rfl,rfl⟩),(u20 `m5 w).is,`BV UInt8,`aa (L2.Key×L2.V),∃t,u=Value.bytes b t,∃t,u=Value.float b t,`bV ys ws,λζ ξ=>∀{xs:`S} {us:`N} (n:Nat),`ea->`bV ζ (ξ n),`dG p.2 q.2,`aa `aeN,upd H a o b,`jy `bf n,cont.toList,`je=`aFR,∃mA,`aeO/\(`aeP)/\`aFS,p.1=q.1/\H q.2.1=`so (p.1.map kV)/\`dG p.2 q.2.2,λζ ξ=>`aFT/\`aFU/\es.toList=`aef (`aeQ ζ)/\ξ,(`aFV).Nodup/\ep=es.size,`aFW/\`Pj P w H h a p.1 p.2,∀h1 h2:`D,φ h1->(∀o,`p4 a=`aG->h2.get? a=`aG)->φ h2,(by let#[_,_,_,_,o,_,_,e,_]:=x),(show `aFX from x),∀b u,(`aeR)->`abT,∀b,`Nz->`fw=`pl,k _ _ hb e,(by let#[z,y,vs,r,ob,es,ep,e,c]:=x),λζ=>#[z,y,vs,r,ob,es,ep,ζ,c],#[od,es,ep,k _ _ (`p d) e2,c],Paired.mapP,#[z.1,ht _ _ z.2.1,z.2.2],k a _ `du e,`c `byf,#[o,`iB],(`byg),`DY u,∀b u,`EX->`abT,∀b ps,H b=`aeS->∃more,`fw=`c (.tbl (ps++more)),`wh=`aeT,λb u q _ _ _=>`Pk,λb u q _ _ _=>#[u.slots,`Pk],λb u q _=>#[u,`Pk],k b u (hb b n) q,`o `aFY q,`aFZ=`aG,∀x:Str,`aAY->mb x=`xh,Mod X.K `cx `e7,`aaA y=`d_,X.env.frame=`c `gj,X.H₀ b=`e,X.s₀.heap.FunFrames,`MP `EY,s.heap.Ns `gj m,`es p.1=`yw/\`aF_/\p.1≠`gj/\p.1∉`jA/\∀v,p.2.data≠`v8 v,`hp/\`dd,(I.ok.noex b o e),(by let#[_,o,ho,_]:=`byh),(by let#[v,o,ho,hd]:=`EZ),λζ ξ=>hs ζ (by delta frs;rw[`aF0,hf];exact ξ),(by rcases `aF1 with e|⟨e,hf⟩),
`br H' ({ s with heap:=h',gens:=g',drawn:=d',toks:=t' }),`kW (`NN `NO),∀x c,`sv->∀v,`aF2->h'.IsCell c v,λz=>(hch c z).2.2.1 x c e rfl,λζ=>ζ c o (I.cne x c e) hc O ho `aeU,#[_,q,hd],(by let#[u,r,l]:=`byi),#[u,r,?_],(by rcases l with l|⟨k,c,e,z⟩),(by let#[m,#[o,_,_,ho,_],_]:=`gm),λz=>(hch _ z).2.1 rfl,(by let#[m,#[o,es,ep,ho,r],_]:=id `gm),λζ=>λb o _ hb _ e n=>ζ b o e n hb `a?,#[_,Y,U,hL,r'],(λ_ _ _ _ n=>n),(`byj),(`be `byk),(`d9 hp).elim,Inv X `t `E_ H s',`hr M (storeName `P x u),(`OZ==.class||(`OZ==.module&&`gj != `aeV))=`l,`ae `nq,(by have hiσ:i<`s!:=`byl),`E0 a,`xG H h',(`sf c ?_).trans,(`aF3 `yj),λy c e=>?_,(by let#[u',r',q]:=`bym),(by rcases q with⟨k,e⟩|⟨k,c,e,z⟩),`m #[k,?_],(by have:y≠x:=`byn),`p #[k,c,e,`aF4],#[w',`aF4],(by exact`byo),hn.sameBut,`aeW->L2.Hp->L2.VK->Prop,`gE/\`x?,λζ ξ=>∀(pins:`az) (s:`v) (σ:St) (H:Hp) (Q:ζ),`C->`sK->ξ,spliced,λϑ=>`b_q (`de (ϑ st `P) `a7c),Calls.Constant_str,`oF=`bC,`aei (`bX `lo `P),(`byp),`xh=`bC,PE X `lo (tC v),λϑ ϕ=>`de (`aC4) (`b_r (`uC ϑ ϕ s₂)),PC X op a b t,`G (`D6) Ak,wpAny_Compare1,(`byq),wpAny_isTrue_Compare1,E7 #[H1,I1,q],λc H1=>Q (!c) H1,isTrue_and,(`byr),hb wh `t s1 σ H1 Q I1 q1,#[H1,I1,q1],tb σ H1 Q,(`sl op [a] pos),`nr hb Q,λζ=>∃(o:Obj) (its:`a8) (n:Nat),`aeX/\ζ,`aF6/\`aeY/\`bV xs `Pl,`c `jD,SqL X.K H a xs,λζ=>∃its:`N,`xC/\ζ `ay a `b3/\`s9,h.ok `b1,`fy a o hk,`bA hs,SqT X.K H a xs,(by have:its=O:=`bys),(X.wish E).Ok,#[ok.mod,`E1,ok.glob,ok.blt,ok.above,ok.inj,ok.has,ok.cab,ok.hd,ok.frames,ok.stk,ok.exf,ok.bs,ok.bsz,ok.noex,ok.exfs,ok.funs,ok.frf],`tz (X.wish E) `t,SP X `t D f s',#[σ,H,I,h],interactive,`hf σ H1,`yx `ln,t v σ H Q,(`byt),V->`byu,(by intro pins s σ H v u Q I r h),wpAny_assign_Name,λζ=>`G ((ζ).findIdx? `gc=`e) Aa,`bA rv,(`byv),`bP x pos',{ D with nx:=N,ct:=N,bk:=`hf },PSs X `eC tb,#[m',hm,σ3,H3,I3,w3],Nat->`jh,λζ=>`dd/\`s'/\`E2/\(`acZ∨ζ)/\`aDy,(`byw),∀v,`p0≠`v8 v,(∀b∈fp,`Pm),(`OL `yy),Turn `cF X.w X.K tg J fp it tn,
tn 0 s2.heap,(`byx),`byy n,wpAny_load,Bool.false_and,λi H=>∃xs x,`tA/\`p5,∀xs,`tA->`p5,λi H=>∃xs,`tA/\`aeZ,`ae_ it a i,λi h h' st k=>st.at λo e=>`aF7,(by let#[its,rv,p,hz]:=`tc),λh' O sb=>?_,(by have I1:`E3:=`byz),λζ=>#[u,rfl,Xi0 (s:=`kX) e c d `u #[x,H,I1,ru,#[rfl,ζ],O,`ae0]],λys hy=>`o (`aF8 hy hq) hx,(by let#[its,rv,p,hz]:=`NW),(show `aF9 from p),I.tuple_inj,IsRangeIter,Data.fields,λϑ ϕ=>`Tn tl λx H1=>∃a,`eJ/\ϑ/\R (ϕ K a) H1,(`byA),(`byB),(by let#[a,e,#[xs,hq],q]:=q1),wpAny_pyIter_list,λζ=>#[`m',`ae1,_,_,H1,rfl,`aF',ζ a _,`ae2,`eB,q],(`h_ `aDC tk),(`aM `yz) - `yA,Gl X `ye,`cx `ye=`e,PA X [a] ta,(`byC),λζ ξ=>Call_ (ql0 I hg hm ζ (N1 (thn `ae3 ξ) hs rfl)),Nat->`aF!,W i m σ H,λζ=>∀{H':Hp},`aCj->∀b∈fp,ζ,tn i `p6,I7.pin `E4 `aF?,again I7 n7,`br H2 s2,`E5 op r,(`tB op),(`byD),Int->`aGa,Q (`g `p1 `cK) `np->`aGb,λi j=>`aGc,(`ns `aGc),(`byE),λi j=>`Pn,λi j=>`aGd,(`CM .Mult),λi j=>`adF,λi j=>`ae4,λ_ j=>0<j,λi j=>`aDQ,λi j=>`aGe,`g (g i),Ba0 x y=`f,(.bl (`ae5)),(`byF),(`byG),λζ=>ζ `t s σ H x y v u Q I rx ry q,(`byH),(`bh `byI),(`byJ),λζ=>ho' `t s4 σ H4 y z' u w' ζ I4 r2 r4 q4,∃i j,x=`r i/\y=`r j/\i.length+j.length<=`R/\Q (`aGf) H,`bV [x] us,∃u,us=[u]/\`iC,`bV `MM us,(`b6 "min"),(`byK),(`bj `lp),(`byL),(`b6 "ord"),(`byM),∀name,`aGg=`c (`ae6),Array.find?_toList,es.toList.any (·.refKey),`ae7 K C `dc=`f,`pX K `bl `dc,W.handedIn,W.findObj_own,`A×`N->`ej,W.plainOver K C=`f,`ct<=`R,`pX K `bl `eG=`yB,(`ga s `aGh),(g==f)=`l,(g==k)=`f,(g==k)=`l,`yC `ae8,(by let#[t,e]:=`byN),(by let#[t,e]:=`byO),`ae7 K C `Po,NoAttr X.K C f,∀u s',`Pp->`gE->Q u s',`p7 (`Pq `cf f b),(by let#[mA,O,r,_,_,_]:=`aGi),(by let#[u,hu,ru]:=`byP),`NL<1000,(`h3 C dx (`aGj)),(`byQ),g70 f y fs,`h3 C `Z [],`byR=`aaG,λζ=>(by let#[x,H1,I1,rx,a,C,dx,fs,v,ex,ea,c,n,l,q]:=ζ),`byS=`aao,(`byT),(`byU),(`byV),.AugAssign,recursionLimit,`d' r.dp,`d' r.un,`jk `cX A,Code.frames,#[[],H,I,`_,h],λϑ=>`cS t λxs H1=>`s9/\`as8 `aIm H1 ϑ,(`byW),(`bh `byX),H1 `m'=`e,
λζ=>#[`U `m',upd H1 `m' ζ,`byY,rfl,q _ hf],Un (frs `da) [] H H' `ay `p6,HOk P w H' `p6,CE `da P w H s Q u s',I.ok.frames,λζ=>t σ H1 λvs H2=>sp (x::`lf) H2 Q ζ,(`K8::`lf),(`byZ),`tC=`aS,`bW `Pr,`ae9 `e6,(by have hl:`ae':=`by_),λζ=>L7 (I0 (`E6 X.A `g! s H `E7 `xI `lf Q ζ hr I.env0 `by0 r2 h) `E8),I.after hq,`LU X.K `e6=`f,λζ=>k8 (h₀:=`e7) `aGk hk (thn `ae3 ζ) he hpl,#[`E9,?_],`bX `ae! `P,λζ=>k8 (first:=`eb) (h₀:=`e7) `aGk hm.kp (thn `by1 ζ) hst hpl,#[`ae?,?_],(`ai rfl r),`aGl=`f,Mk X.K C f,`aGm H,sc.kind=`tr,sc.isCoroutine=`l,sc.isGenerator=`l,N.take P.length=P,y.2≠`kM,λζ=>∀{binds:`tD} {m:`a2},`by2->ζ `xg binds m x=m x,ih `by3,(by have:x≠n:=`by4),P[i]?=`c8,λv hv=>(`aGn).1 (y4 hv).1,(`bi `by5),`C2 `c,W.cellsFrom_some,`ao N ps `ep,(`yD).kindOf,`aGo `ho `ht [],`aGp cd,`sg `afa z `a?,λb z=>`J z (O b),e0.hok.fresh,M0 `by6,(`by7),t { nx:=λ_ H'=>Q `x H',rt:=Q } `Ps H,`kW (e0.bs b o e).1,`ir X `NA r,PE X `pg (tCB r t),(`bh `by8),(`by9),(`iy (vs++ws)),#[_,O,rfl],`aI->Nat,Int.min_eq_left,(`by'),(`by!),Int.eq_ofNat_of_zero_le,Int.not_lt.mp,Builtin.Slice.sliceAdjust lo hi 1 `aW,(`aM `aGq),slicePart_none,λ(m:Nat)=>xs[(`aGr).toNat]?,λm=>xs[i+m]?,`E' `ay t `bf,`Nq=0/\`acs=`gu,`jy (`iy `aGs),`cL (`p8 `p9 `Pt) s,(Nat.sub_le _ _),`sM `Pt "slice",A0 `by?,(`bza),(by show `bzb),A0 `bzc,A0 `bzd,(by show `bze),`afb `afc,(`bzf),`aI->`jh,evalPart_none,r x lo hi H Q,`lq `mY `afd=`bW (`afe),λζ=>ζ `t s σ H x v vl vu lo hi sl Q I rx hs pl pu q,λϑ=>`cS te (`zR tl λl H2=>th σ H2 λu H3=>ϑ),PO X lo tl,PO X hi th,(`bzg),wpAny_Slice,(`bzh),(`bzi),(`bzj),subscriptTail,(`Pu=0/\`aGt=`ax),(by let#[a,xs,rfl,hx,hw,q]:=h),(by let#[its,r,ht,hz]:=`mT hx),(by have O:`jP=`ax:=`bzk),(`bzl),B7 (er0 xs lo hi) hz,`bzm `aGu,SqT K H b ys,(by let#[its,r1,p1,_]:=`mT ha),r1.nil_iff.mp,`o `W hz,if `jS then (`w (i<n) `aGv `e) else `dM `aff `aGw,(`aGx).bind λj=>`afg,seqIndex_of,seqIndex_neg,r x xs H Q,`de (`eH `NA (v::us)) `hu,λζ=>ζ `gz `tE `t s σ H x y v u Q I rx ry q hs,
λζ=>∃p xs i v,`afh/\y=`bs/\ζ/\`bzn,atI z.cps.toList i,(by let#[p,xs,i,z,rfl,rfl,hq,he,q]:=h),(by let#[its,r,pl,hz]:=`tc),(by have fin:`tF w s:=#[z,H,I,O,q]),(`bzo),subscriptTail_builtinR,pl.isList.typeIs,λr s'=>r=w/\`tF r s',#[rfl,fin],-(`Pv:Int),`k6 `p' 0 lo,ht.isList.typeIs,o00 y=`f,SeqAt.EqAt.none_bool,SeqAt.EqAt.bool_none,SeqAt.EqAt.bool_bool,SeqAt.EqAt.bool_int,SeqAt.EqAt.bool_str,SeqAt.EqAt.int_bool,SeqAt.EqAt.str_bool,xs.any λy=>`afi,(`afj∨`aGy),(`bzp),(`hv `cl ?_),(by rw[`bzq,ak0 r fs]),(`aGz∨`aGA),#[`afk,H,`wc,#[`wb,by rw[`b8,O]],q],∃z,xs=`Pw/\`yE/\Q (`afl) H,λζ=>ζ `t s σ H xs us Q I rs q,∀l,`EU->`EV (`pN) `pE,`bV ys its,λζ=>`bzr p ζ ho hc hd `bzs `Px,(`bzt),`jy `b3,ob.dict=`e,(by let#[_,_,_,_,o,_,_,e,ex,_]:=`aGB),#[o,e,ex],(`be `bzu),#[o,e,ex.2.1],tyV K T x H1,Slot T `dc id,λζ=>#[T,id,pa,slot,hty,h1,h2,ζ],`bzv `gc,Vals.append,(`aGC).flatten,l.dropLast,acc.toArray,(`jT k its),(by delta Builtin.List.listTooLong),λζ ξ=>λx vs H Q=>∃l xs y,`afm/\vs=ζ/\`Py/\ξ,"list.append",#[e,?_],λζ ξ=>#[`x,_,I.lset (its':=its++ζ) hH e `a? (`NU ξ) ?_,rfl,q],Array.getElem?_toList,`aa WData,pre_splitW hpre,(`f==`f),WShape.has,`afn a=`c `Pz,s₁.gens=⟨⟩,List.Pairwise.nil,`aGD `tG,`afn b=`aG,hA b (`afo),`J rfl z,`afp->`y,∀(w:`M) (h:`D),YP w h->`PA h,λζ ξ=>∀base:`D,`bzw->`PB->`kA `hU w `E! mg `aP ζ k fa fd [x] (sp ξ),λζ=>∀(w:`M) (H:Hp) (a:`d) (ns:`aB),`PC->ζ,λζ=>`bzx->sp ζ `eb H `afq `wZ,`aGE W.WalkO,`MJ x `jt,∀b o,`aGF,`fw=`N1->H b=`N1,Option.none,"str_ascii_iterator","str_iterator",#[⟨x.cps[i]⟩],λh' O sb=>fin h' O sb,λζ ξ χ=>ζ ha #[`m',`ae1,_,_,H1,rfl,`aF',W90 _ ξ χ x t,`ae2,`bzy,q],scope.kind=`tr,y.2≠`v8,y.2=.local->`sA y.1=`kE,y.2=`kM->`DK y.1=`ld∨`DK y.1=`nt,`bJ `yF,`afr=(`aaS).bind (N[·]?)/\(`afr).all (λy=>`PD==`nt)=`f,`aGG λj=>`afs,(`z `aAJ),x.2=`kM->∃c,`aft x.1=`d_,`aft y=`d_,acc.lookup y=`d_,λy d hy=>?_,λx hx hf=>?_,h2 x hx hf,closureFor,`aDP=`f,`bA hx,`c (`aGH),(.ok `PE),
λζ=>`E? ifs `f λc r=>if r=`f then do let ok ← ζ;`bzz else `bzA,(`bzB),λζ=>∃m,W 0 m [] (upd ζ D `h9),(`bzC),J.yld i H2 x H3,Wk `fP σ4,if b=`f then te σ4 H5 λy H6=>H6 D=`afu/\`d5<`R/\`afv (ys++[y]) (upd H6 D (`s (ys++[y]))) else `afv ys H5,(`ga s2 `aGI),s3.heap.get? b=`aG,(by let#[o,e,_]:=`bzD),(c4 b o e),xi0 X `ep cl N' s3 H3 fp,B5 (f0 b hb),λx c e=>`aGJ x c (hcl1 x c e),`Fa=(`sA x).map λk=>`w ((`aeb&&`aGK&&`aGL)=`f) `D0 k,(`m!).2.2.2.1,(by rcases `bzE with z|z),{ s3 with heap:=h₁,toks:=`afw+([]:`tD).length },X.N[j]?=`c8,(`bzF),old _ o ho,(by have e':`N_ x=`d_:=`bzG),`J hp (`fg xi0),(Y3 `tH),Ia.pin `E4 `aF?,`rU `aGM,`rU `aGN,`rU `aGO,(`bi `bzH),(`bi `bzI),(by let#[it,fp,tn,J,H2,rfl,I2,T,Z,f2,q2]:=h2),λζ ξ χ=>Zl0 (Q:=ζ) (RR:=λa1 C=>compPost `ek X.A `hW ξ χ a1 C) hc hsc ok Y U (hg cl) (ht cl) (he cl) I2 T Z f2 q2 ?_,λζ ξ χ=>ζ (t':=ξ) χ as.1 as.2.1 (`p as.2.2.1) `aGP `bzJ,`aGQ `p!,(`bzK),λv H'=>`hf `E_ H',(`aGR),λ_ s'=>SP X `t D `PE s',DL.D->DL.D->`aGS,DL.D->`tI->`aH `tI,`tI->`aGS,`tI->`rR,`tI->`aH (`MV),(`afx).bind,λζ ξ=>fun δ=>ζ λt=>ξ,fun δ=>`tJ,`Fb `PF (Ga δ) `Fc,(`xM).bind,u50 f G ds δ',λc=>`yG,`bG n .un,`aGG λj=>e00 `lr,`DP δ ds,(`afy).map,sIx `ax `ax hi,(ys.map `aGT).sum+`d5*`aGU<=16777216,(`bzL),`PG=`c (h d),`DP δ `bf,items.filter,`PH=`dz,c30 `bzM,G δ1=`aGV,ifD g Ga Gb δ,by delta ifD;rw[h];rfl,o2 ga gb f δ,λz=>(by cases z),`tK/\`aGW,g _ _ h.1 h.2,Gr H H' B B,`aa (`jj),fd.scope.names.lookup,TelO K H B p kvs,D->V->Prop,`p? `PI `bv,`p? `Fd `bv,`p? `tK `aGX,`p? (FnAtH K H B a `Cz) `afz,`k->`S->Prop,∃x r,xs=x::r/\`Fe/\`Dl H r,`cz->`afA,#[a,xs,e,`afB,`afC],(`bzN),`bA e1,#[y,_,rfl,h1,ih h2 r],Rps K H B es ys,λζ ξ=>∀{ds:`k} {xs:`S} (n:Nat),`bv->Rps K H B (ζ n) ξ,List.take_succ_cons,(by exact .of e (λ_ _=>λz=>nomatch z) λ_=>λz=>nomatch z),(∃k a,`nl=`gF/\`aDc/\`Ln)∨`aGY/\`p? `PI `fQ,∃x r,xs=x::r/\RpN K H B as d x/\`ot ds r,`afD as',`ai (h _ _ r) ih,∃xs,so=`yH/\`xy/\`fQ,`H [`tL,`afE,`et],
∃C dx ns xs,so=`h3 C dx (`PJ)/\fs=`afF/\`aGZ/\`iv/\dx∉as/\`fQ,as[0]?=`k0,`bH (`he K H B as) ns sos,∃x ns,es=`cw::ns/\`afG,#[x,ns,e,`c! (λo z=>s _ _ z) `yI],`p (`p h),RpL K H' B d a,H a=`bzO,J30 H B od n,g _ _ h1 h2,g _ _ q1 q2,B a/\`nu,(m.set i b),`c (.ow es),`sp `lh h,#[v,rfl,r],`h0 (B0 hk),∀ob xs,o≠`afH,`yJ PE (`Ff tD),`yJ PT `afI,`yJ PW `afI,∀B δ,PA X es (`Ff tDA),Rp K H B dy y,λpins s σ H Q I z=>`bZ h Q `afJ,(`aAR).imp,`c (`r y t),#[b,en,e,λH' s=>?_],(by exact`bzP),PTD X e gt,#[c,r,?_],(by exact`bzQ),(`be `bzR),`Lt `iA,(ff0 `dC).imp,`D7 (k v H' (`oy s) r),λϑ=>`fm (`ap_ ϑ hc `bD).imp `a5i,λζ=>λvs H Q _=>∃(B:BS) (ds:`k) (d:D),`nv/\`PK/\`PL/\ζ,`Cc X.K fd ps [],#[ds,en,e1,`aD3],∀(i:Nat) (ds:D) (a:`d),`bY=`Fg->`jM->`aAP,∀σ H,`cm->`PM,`nw PS st `aG_,`PN `aG_,Wr idx σ σ' δ δ',∀B d δ,PG X tg (tDG X.K idx f B d δ),`h0 (B0 `F),`Fh H' σ' δ',`Fi i hi,e.fr i ds a h1 h2,λζ ξ=>gk0 `dC ζ hs hw h1 `t s σ H D I #[d,env,e2,ξ],λζ ξ χ=>fun σ' w en'=>k σ' ζ (ξ b1 b2 χ w en'),`nb X as Ga,`nb X bs Gb,#[t,env,e2,`aG0],∀B δ,PI X tg e (`Ff tDI),(`be `bzS),PDA X [a] gA,(`be `bzT),`cE `as H₁,λa z=>(`afK).imp id λq=>`afL q,`nb X `eC G,(by have a7:PG X tg (`yK):=λpins s σ H v u Q I r #[B,d,δ,h]=>hg B d δ `t s σ H v u Q I r h),`afM tDS X.K,λζ=>λpins s σ H D I #[`as,`al,δ,h]=>ζ,`PO hb h,(`bh `bzU),(by obtain⟨Hh,U⟩:∃Hh:Hp,Hh=λb=>`Fj:=`Y),(by have Y:∀b,`Fk->`aG1:=λb n=>`o U (`Q λz=>n z.1)),(by have a1:`bzV:=`bzW),(by have a4:∀b,`al b->`aG1:=λb n=>`o U (`Q λz=>z.2 n)),`cE Hh H1,a1 b z.1 z.2,(by have h0:=`bzX),(by rw[`bzY] at h0),`cE `as Hh,s1 b o (`f' b o h),λb o xs h=>`aG2 (a3 b _ h),`kF X.K Hh `al H1 σ δ,(`be `bzZ),`p (a1 a z q),`yL i ds a h1 h2,(by let#[o,e3,a',e4,hB,_]:=`sp Z.all h1),a1 a hB nb,Z.bad a `afN,λζ=>m=`c? - i/\`aG3/\∃δi,`bz_/\ζ f G (`pq i) δi=`bK,(by have gr:Gr H1 Hi B B:=`bz0),λζ ξ=>`p #[`bz1,fun σ' H'=>∃δn,`bz2/\ζ f G (`PP) δn=`bK,fun σ' H' #[δn,en',e']=>ξ,`bz3],
(by let#[sm,d,hd,rd]:=`afO i Hi x H' gr y hlt),(by let#[B',c1,c2,env0]:=O.ex),Rp X.K H' B' d x,(`be `bz4),n (b1 b q),env0.same sm,`pq i=d::`PP,(`be `bz5),(by have b3:`bz6:=`bz7),(`be `bz8),(`bi `bz9),(`bi `bz'),(`bi `bz!),(`bh `bz?),k σi Hi (O.lower hS `qa),∀B δ,PF X ifs `afI,`bG n `tN,∀(i:Nat) (ds:D),`bY≠`Fg,(`bAa),∀p H',`hw->`aZ->`aG4->Q `hZ H',`yJ PE (`Ff tDF),(`bAb),λJ H1 s1 it=>`aG5,Gr H1 H2 B Bp,H2 L=`afu,Rps K H2 Bp pre ys,λζ=>Pd.impG (gr s2) `bAc (ζ n `cj).all,λx H3 y=>?_,Rp K H3 Bp dx x,λζ=>fun σ4 w en4=>#[#[w.len,ζ],?_],λH5 s5=>?_,en4.same s5,H6 L=`afu,Gr H6 `aG6 Bp Bp,λϑ=>`m #[`aME _ H2 ϑ `bQ,?_],([]:`k)=`aA,PDF X `p! `afP,(`bAd),PD X `p! `afP,`cy=`aS,(`bAe),(by let#[B,ds,d,_,r,h,_]:=zQ),(by let#[B,ds,d,hb,r,h,q]:=zQ),(`be `bAf),(`be `bAg),`PQ r `afQ,#[_,en,e,`aG7],`bV `Fl us,(by intro pins s σ H x xs v us Q I rx rs h),λt' k=>#[`cn,H,`LC k,#[t',rfl],q],(`bAh),(by intro pins s σ H xs us Q I rs h),#[o,h1,h2],λζ=>show `h7 `cF X.w H `ay a (ζ) from `bAi,(`bi `bAj),Int->Int->D,∀i j H B,Rp K H B (g' i j) `p1,`c (g' i j),(by cases dx<;>cases dy<;>simp only[ii] at h<;>try cases h),`h8 (hg i j H B),SqL K H b zs,`ax+zs.length<=`R,(by let#[l,b,xs,zs,rfl,rfl,hH,hB,hz,q]:=h),(by let#[O,r2,p2,z2]:=`g6 hB),(by apply `afR `Fm),`aG8<=`R,λζ ξ=>#[`U _,_,I.lnew (t':=`cK) ζ ξ,rfl,`bAk],`MX (yl0 h),DL.atI ds i=`aX,`aG9=`bR,`m `bAl,`yJ PO (`c0 (∃o,`afS/\`au=`aG/\∀H',`aZ->Q o H')),by rw[zk0] at r;exact r,(`aG'∨`aG!),`h8 (by rw[zk0,`PR]),`cx `xL=`e,`iu `xL,(`bAm),λζ ξ χ=>nc0 `bAn ζ ξ χ (ho B δ) `bD `hj `pt `jI hs `sP,#[_,en,e1,`Fn],#[rfl,_,`io,e2,`afT],`Fo FnD x,λϑ=>fun δ=>`a5N λd=>`w ϑ `aX `e,`pQ `wx,`Fp (ds++[d]),`Fp `aG?,ds.getLast?,`Fp `aHa,`aH (`eI),`PS=`f,`qb=`f,`eI×`k,(`PT).bind,λk=>si0 ks ds k,λk=>`PU (`PS),vy0 gt G n δ',`H [a,b],`ba (`aHb/\ys.all `cH=`f) (`PU (ys.any λy=>eqF y x)),`w (isL d=`f) `e `aX,mkF n N G ds=`aX,#[e,kt0.mpr hn],mkN n N G ds=`aX,`ba `PV (`s `DZ),`dM `afU (`adF),(gl δ).bind,(`yM).bind,
HeapKind `m5 w K,`aa (K×`aEQ),knd.is `ay k a,At knd `ay d xs,∀h',At knd h' d (storedH xs k a v)->`E0 d->Q () (`h_ h' `aDV),dictSet d `cf v,Obj.isFreed_of_dict,Obj.data_mapDictKeys hd _,Obj.data_mapDict hd _,λ_ _=>rfl,"__setitem__",slot_dict_setitem,t10 (p::r) k,by simp[t10,`PW,e],Bool.true_or,`PX vs k,`PX (q::qs) k,by simp[`PX,`PW,e'],vs.any `ab0,(`bAo),`ai ?_ ih,`I `bAp,#[h1,h2],r.repl k ry,Paired.snoc,`dG `afV u,`tO `aHc,`O_ (q::qs) k,by simp[`O_,`PW,e'],(`aHc).isSome,λϑ=>show `DY ϑ from Jw0 ok e,(`PY).is,λζ=>∀w' s',`Pp->`dG ζ w'->Q w' s',(`bAq),h w' _ `sL O,(by let#[z,hd,vs,O,dd]:=`PZ),(by let#[z,hd,xs,O,dd]:=`P_),(by let#[z,hd,vs,O,dd]:=Xo0 `b1 e),(by have hz:`fe<=`R:=`bAr),λh' U hs=>`afW,(by have he:`aHd:=`bAs),fp0 I `P0 hs he (W70 hl hd (O.put k rv) U),A2 (A0 fin),`sM `cf `No,λζ=>td σ H1 λx H2=>∃a o,`eJ/\`bAt/\Q (.bl ζ) H2,(`bAu),λζ ξ=>ζ hu I2 g ry λs3 I3=>#[.bl ξ,H2,I3,rfl,q2],`nx->`jh,qo0 kvs more,qo0 [] kvs,u20 `cF X.w,(`aHe).all `aB2&&`aB3,`Me `O0,`aHe=`bAv,#[`P1,λb q=>?_,hd],(by let#[ob,_,_,h1,h2,_]:=dd),#[ob,h1,h2.2.1],#[x,ns,e,`c! s g],`hV `hx `tP,(by let#[a',h1,hb,_]:=`afX),#[?_,`afY,`aHf],λζ=>`bH (λ(o':`dL) (s:Sl)=>SlR K ζ B o' s∨`bAw) σ δ,`m `ny,`m `bAx,`p #[d,rfl,e],(by have h1:=`bAy),(`bh `bAz),(by rcases h with h|⟨d',rfl,rfl⟩),(by rcases `jx e2 with⟨rfl,e3,_⟩|⟨O,e3⟩),(`bi `bAA),∃d,`lr=`m8,∃d,δ[k]?=`m8,(by rcases `Dm with⟨rfl,_,_⟩|⟨_,h⟩),`yp j k b d1 d2 q1 q2 h3 h4,`yL i d0 a hi hs,(`be `bAB),(by have:`nf:=λz=>by rw[z,h0] at h;cases h),(`f' b u h),(by let#[a',e1,_,ro]:=`wk (i:=i) (by rw[`LN O])),`J h (`aHg ob xs),`yL j ds b h h2,`Fh H' (`wQ i `afZ) `tP,∀{j:Nat} {d':D} {b:`d},`lr=`c (.ow d')->`w_=`c (`c `P2)->`tQ,(by let#[a,q1,q2,q3]:=e.at h1),(`bi `bAC),(`be `bAD),λζ=>`D5 #[p,rfl,`rT,ζ] i `bAE,(by exact`bAF),(by rcases `jx h3 with⟨_,e3,_⟩|⟨n3,_⟩),`J rfl (live h2 h4),(by rcases `jx h4 with⟨_,e4,_⟩|⟨n4,_⟩),`J rfl (live h1 h3),`J rfl n4,
(by rcases `Dm with⟨_,e3,_⟩|⟨n3,_⟩),`yL j ds a h1 h2,(by cases x<;>first|(cases h;done)|(cases y<;>cases h)),(DL.frz δ),λa=>B a/\¬`af_,`m `af0,#[v,e,`c! (`lg `af1)],(S90 (A4 h1)).elim,λζ=>h B' `LG `t s σ H Q I #[_,O,e1,λv H' s' r=>k v H' s' ζ],`CJ+`LX,#[_,rfl,h],`fB `b8 `b8,List.dropLast_eq_take,λζ ξ=>∀v H',EnvV ζ `as `al H' σ r.2 ξ v->`x?,`nw PE e (`P3 tX gx),∀H₀ B₀ d δ,PG X tg (tTG X.K `as `al ft d δ),PTG X tg ft,(`P4 `dC),(`s `P5),λζ ξ=>`af2 hi O #[_,Y7,(ζ `af3 ξ).mono `tu],(`bi `bAG),(by have U:PT X c (`af4):=`bAH),λζ=>λpins s σ H D I #[δ,h]=>ζ,λζ=>Ui0 hp U Y `t s σ H D I #[λm σ H=>∃δ',`bAI/\ζ,`bAJ,?_],vy0 gt G m δ'=`bK,(by rintro m σ1 H1 ⟨δ1,O,e2⟩),(by let#[B,b1,b2,env]:=O.ex),(`be `bAK),k σ1 H2 (`Fq s2),λζ=>#[fun σ' H'=>∃δ',`bAL/\ζ,`bAM,δ1,?_],#[rb,`Fq s2,e4,?_],`bAN `wg,λq hq=>?_,`h0 (B0 h2),`h0 (B0 h1),#[_,Y,rfl],by delta deq;rfl,by apply `Fr;delta deq;exact gu0 ds n h,min `cy `ip,`cy==`ip,List.all_map,(`r z t),λζ=>V6 X s H B `qc ζ `cf `cf,∀{m:Nat} {d e:D} {x:V} {u:`A},`Fs->V6 X s H B' m e x u->d=e,`mH es m=`f,λj h1 h2=>?_,Uj0 I ih l l' r r' v,`g? e m=`f,Rp X.K H B' e y,`pe<`os,λζ ξ=>V6.inj I (ζ k ds a xs its l q r v p) (ξ k' es a ys its' l' q' r' v' p'),.of_refs hab ?_,(`bAO),`xP A s _ _ `l,SeqAt.RcAt.lists,ok0 (A:=A) p p' `aHh hu,(by rw[`bAP,`aHi]),`ada `adc A/\`O1 A s u w (!deq d e),(by have O:=`bAQ),`adc A s _ _ `l/\`aHj,SeqAt.RcNeAt.lists,(by let#[b,ys,rfl,q2,r2]:=ry),‹`k ›,(`bAR),(`bAS),PDO X lo gl,PDO X hi gh,λζ ξ=>#[l,`io,`bAT,λH2 s2=>#[u,ζ,`bAU,λH3 s3=>ξ]],by rw[`bm,kl0,kl0];exact hw,λϑ=>`GK (S.trans `iA) (ϑ hb hp `b_g),#[_,rfl,`yN],`aHk j30,(`bJ `tR).map,(`bAV),(by let#[q,xs,rfl,hq,rr]:=r1),`aHl rr.mono,`Fo FnN x,(λo h=>h),(ds.zip es).map,λp=>`af5,ds.reverse,`j_->`j_->Prop,`aHm `g1,λζ=>∀s' acc' c',`bAW->`bAX->`aHn->ζ,(by delta Builtin.List.listExtendWith),`nz `g0,`nz `eX,(by delta Builtin.List.listLengthHint),
λζ=>specialOf (`e1 ζ) (`yO `af6)>>=_,(λ_=>⟨⟩),`af7 `bl `N9 `aY,(`bAY),`sn (`af8 e),wpAny_letGo,λζ=>W.frame 0 s _ `cK st `bQ ζ,(`ga s (`ib `P6)),callType_codes,λϑ ϕ=>`TH ϑ λv s1=>`cL (`eH ϕ [v]) s1,(`bj `s4),(by simp only[`hq,`te,`tf] at hb),`eu `g0=`c `Ft,`cx `g0=`e,`cx `s4=`e,`iu `g0,`iu `s4,`hi [`aeq] (`aHo::`oD),`mn `aHp,(`bAZ),`s `af9,N1 ?_ e1 h1,λv s2 hv=>Q1 hv,`af'=`aX,(`bA_),λd' e'=>?_,by simp[h],λζ=>∀{ks:`nA} {ds:`k} {xs:`S},ζ,(`bA0),(`aCv r1),(by let#[v,hv,rv]:=(sz0 rr).1 d h),(by cases y<;>simp only[q30] at h<;>try cases h),(by simp only[`ls,`h,asB,`tS] at h),k H2 `jH,`jF `af! `P v,`oM [v] `aBT,(`bh `bA1),(by let#[ys,hy,a1,Y,Z]:=`aHq),(`be `bA2),i70 (`Fu) `af3,`yP `af3 (`Fu),(`bA3),#[ys,Y7,a1,`aHr],(`bi `bA4),`aHs=`f,(A4 h).symm,loadIfAlive,`af?=`c8,ys[k2]?=`gZ,`aHt i1 l1 (k1+1),`aHt i2 l2 (k2+1),(`bA5),`qd (`kP v),(by show `bA6),(`bh `bA7),(by show `bA8),(`bh `bA9),A0 (j3 hTI rfl ?_),(by show `bA'),(by simp only[List.forIn_toArray,`aga,List.forIn_nil]),`dN (`aHu `ab1>>=_) _,`dN (`aHu `ab2>>=_) _,(`bA!),(`bA?),h₄.objs.size,λo e=>`o8,`af?=`e∨`aHv,"StopIteration",wpAny_nextOf_list_end,Q (`c `j0) `kX,wpAny_attempt,`yO "__next__",F.entry_zip_next,(`bBa),Q `e `kX,λζ=>∀(j:Nat) (a:`d),`bBb->∃x y,`bBc/\`bBd/\`Dn ζ a x y,ZG xs ys S h as,g.pairs j a hj,`Fv h i,`aHw S,hk _ _ (B5 L.z) hz,`Fv `ay i,(`bBe),(by rcases st.own with⟨rfl,hz,p,q,hp⟩|⟨a,f,oa,hz,ha,n1,n2,n3,n4⟩),λc o c1 _ c3 c4 e=>hk c o c1 c3 c4 e,`agb∨ys[i]?=`e,`EI acc c,"list.extend.loop",λζ=>∀(h h':`D),`bBf->∀b o,ζ->`P7,(by intro i h tk c acc as hk hi a4 O hS U Y hG),E8 F.entry_extend_loop ?_,`j1 (`aCy>>=_) _,λζ=>lk h h' ζ b o h1 (O b o h1 e),λj a hj=>?_,Nat.min_le_left,(`agc `agd),acc.push `agd,(as++[`dB]),∀S,S≠z->S≠i1->S≠i2->`Fv `ay 0,`aHw `Z,∃f0,IsZip `ay z TI TO f0,λζ=>∀h' tk as,`bBg->`Z<`tT->ζ,F.plain_list_iadd,(`ga s `age),`nz `ps,(`tU (`agc `nB)),(`tU `aHx),(`tw `aHy),F.plain_tuple_new,λζ=>by let#[_,e,_]:=ζ;exact `ew,
λo e=>hk _ o e,#[_,hz],upd `Fw p.1 p.2 b,ih `bBh,`o `aHz q,V40 X `aHA `aHB r,`cx x1=`e,`cx x2=`e,`eu x1=`c `aHA,`eu x2=`c `aHB,`P8 x1,`sN x1,`P8 x2,`sN x2,`hi [`aes] (`aHC::`oD),`mn (`mt pos2 (`vR)),(`bBi),fun σ H Q h=>Ww0 hf h,(`agf).map `agg,ps[j]?=`c p,tw0 as (xs.zip ys),(`Fx).symm,(by let#[q1,us,rfl,s1,t1]:=r1),(`P9).map `agg,`Fy (b∉fp),(upd H `Z (`P')),`bBj=`e,(`h_ (`ib `aHD) t'),(by let#[us,rv,p1,z1]:=`tc),(by simp only[`hq,`te,`tf,not_or] at hc),wpAny_pyIter_enum,Gl X `qe,`cx `qe=`e,(`bBk),(`bBl),by simp[hi],∀a,B a->B' a∨∀ys,H a≠`agh,(`bBm),∃a,d=`lt,λζ ξ=>(ζ).bind λt=>`aHE λk=>`oo `agi ξ `j2,r2.same s3,Op2 X.K r' f',(n==1||`yQ==0)=`l,λζ ξ=>(`bG ζ ξ).foldl (·++·) ⟨⟩,(R1 s x t),call_gives,#[u,q,`c! `P!],.of rfl no nt,(`xO).bind,`Pi=`bR,`adk h,(by let#[oe,vs,h1,h2,h3,h4,h5,h6,v,h7,h8]:=l),`es e=`NK,g.push `aHF,(h _ ?_ ?_),(`bBn),`fg hsz,`tg ok [] `ay h',`agj h'->`P?,`I `a?,F4 _ _ (B0 n),oth b o z λw=>n (w▸okT),#[_,`aHG],`adk h'->`P?,(`Fz T (`agk (`Qa 3 `nB))).get?,(`bBo),∀b,ok b->ok' b,(by let#[_,_,_,_,_,_,_,q,_]:=z),∀h',`E3->ac0 X `t H h' C od e->`P?,I.afterNote,FpW X `t H a,(by let#[z1,z2,z3,z4,z5,z6]:=fp),λb u q=>`FB q z1 q,(`be `bBp),#[more,oth b _ q],Y4 (B0 z2),(by exact`bBq),(by exact`bBr),(by let#[ea,C,od,H',rfl,os,bare,un,hok,lie,wish]:=hq),λζ ξ=>wish C rfl `t s' ea (ζ (ch:=[]) os un hok bare λb z=>by cases z) (lie.mono λb z=>ξ z.2 z.1),`Qb<=1000,joinParts_cons,W.specialIn,λζ=>W.findCls ζ `Qc `xv `eG=`c (.val `aHH),`jf (a::as) `P,`jf as `P,(`bBs),`oM [ov] (`Lq ov `eG pl),∃tl,`aHI,cl _ `E9,(`bBt),#[_,he],`br H' s,`fw=`bC,∀b,`aHJ,λb o e n hx=>no b `Qd,no _ `g7,λx c e=>no _ `aeU,#[e,no _ n,r],I2.dead n1,#[_,hx],(`cW: Str),`G (`agl) Aa,`fz (`bP `cV pa) `cW pa',σ[0]?=`c `aHK,σ[1]?=`c (`Qe),(∀dx,`Qf->`Qg->`hf σ `aHL)->`aF5,`aHM `Pf=`f,fun δ=>(`gx).map .ok,fun δ=>`c (`agm),`c `bBu,∀σ H C od,`FC->`Qh->`ado X.K n->k80 X σ H C od,(`bBv),`Cc K fd `hy [],`iv->XdS H H' od n->`aHN,`c (.ok d),(`bBw),
λζ ξ=>#[`aau,#[B,`aHO,`agn,#[?_,hb,ζ]],ξ,hb],λζ ξ=>#[ea,C,od',H',rfl,I'.os,I'.bare,I'.base,I'.hok,ζ `bBx,ξ],`sg `afa y `a?,`cx c=`wq,H a=`bBy,(by let#[#[oe,h1,h2,_],_,_]:=`aHP),λt'=>#[`cl,H,`LC t',rfl,q],XC.bmV.contains,cs.contains c=`f,(`oQ::`aHQ).contains,`X (c=c'),(`Pd _ h2),[`K_,`adq],(`l,`abm),λζ ξ=>lg0 ζ hgi hm `bBz (wa0 `bBA (wa0 ξ vj0 s1) s2) `u `u s2 hpl,(by let#[c,a,C,od,hc,rfl,h1,h2,h3]:=Pp0 en h),k _ _ `tV `Dj,[`K_,`adr],(`aa5 pn W).Ok,(`aHR o.hd `aHS),`tz `FD [],`adi=`aHT,`tz (`O3 A) `t,e.fr j ds b h1 h2,(by let#[dx,B,h1,h2,h3,b1,b2,en,nb]:=x),[`bBB],(`brW),λζ ξ=>C9 (run { nx:=ζ,rt:=`oN } ξ) (`aHU) `ago,(`aHV),#[[`a',`aHW],[]],handedIn v=`f,∃tl,`agp,`kH (.nx δn),qc0 f G ds δn,`PO `FE h,`aeL K `bl `cW,L2.ErrC K C r `cW,#[_,a.cl],`agq K `fd c f=`f,(by let#[C,a,ri,ec,eg,rc]:=XC.N00 T hc ib),x.cps.toList,ys[m]?=`gZ,#[tk,rfl],(`bBC),`E? [lo:hi] b f,eqU `tW (`r y tk),F.slot_tuple_index,ys.findIdx?,λy=>`X (y=z),Vi0 X.K `cx x ys,`bX `Qi `P,(`bBD),λζ=>`p #[o,its,n,hk,hc,O,ζ,hv],of_decide_eq_true,`ax*`lu<=`agr,(`bBE),`jP*`lu,`bBF k,F.slot_int_rmul,lz0 (`Qj s1) x1,∀b o,`tQ->`aGF,`hV H' `tP,`m `bBG,`ags=`f,k _ H2 `jH `Dj,`bBH hl,(`bBI),B3 _ (ih h),∀b C dx fs,(b,`aHZ)∈sub->`B! dx=`e,`OU=`c p.2.ho,`Ob p.2 (p.1=a),SubO.no_own,SubO.no_frz,o.there (x b _ (O l)),`N! H a sub b,∀so:`dw,u≠`yR,(by have nl:∀so,`lv≠`B?:=λso l=>n so (`agt (c.at' _ `agu))),nl so (z▸l),`J l (nl so),λso z=>so.no_tup xs `agv,λso z=>so.no_frz o u `agv,λso z=>so.no_tbl ps `agv,(`aH_),`g (p:Int),ResB->Prop,∀v σ H,`FF->`aH0,(`bBJ),λv H' ev=>k v σ H' ev,`fh X as Ga,`fh X bs Gb,(`B7 `FE),(spB K j f),(ds.take j).map,(`agw j).map,`J h (O _ _),λ_ z=>z.1,λζ=>`p (by simp only[ζ,`nC]),(`bBK),(by simpa only [z,`kK] using `F),c1 x `af0,(by rw[hv,`W,`an,`fN,`jX,hr.length]),hf b ds r b' h,#[_,`aH1 `Ql `aH2 `ne,?_],ci0 (N:=N) hb hp hj rs ro,(`be `bBL),(`bi `bBM),(`be `bBN),(by let#[B',c1,c2,O]:=en'.ex),(`bi `bBO),
λζ=>by classical exact if h:`nD/\ζ then `bBP else none,∃q:D×D,∀p,EndB G `ne j p q.1 q.2,#[hh.1,`F],(N9 (N9 e10).2).1,(by rcases h with⟨δ1,e1,e2⟩|⟨rn,δ1,e1,e2⟩<;>rcases h' with⟨δ2,e3,e4⟩|⟨O,δ2,e3,e4⟩<;>rw[e1] at e3),dif_pos hh,(n9 hh.2 0).one (h 0),(`adv,`FG),(`wM,`FG),(`Dr,`FG),`c `bBQ,(b,`bBR),tt0 s=`c bm,(by exact`bBS),`pf `bBT,(`bBU),(`l,`FH),λζ ξ=>#[B,ds,vs,a,`jQ,q.2,q.1,`yS,hB,rfl,ζ,r1,`aH3,e3,ξ],(`bi `bBV),(`m (uh0 ks k)),`agx d,λζ=>`qf (`bBW/\Q ζ (`ig H' sub)),λu s' z9=>`aH4 `aH5,λv H'=>`qf (`agy/\Q v `agz),[`r "@",`hb],RpN K H' B as d v,`aH6=`B?,(c==x)=`l,List.getElem_zip,`ig H `dK b,`J z hb,Ho c=`yR,by rw[`ik `n,← e],λζ=>pf0 h.hd `iD `qg (λk c so e1 e2=>ζ) h.ins,h.opAt e1 e2,(`bBX),λϑ=>ϑ (upd `nI c `aiD) a `aH7,upd H a (`w2 `aH7),(`bBY),`c! (`Cn hB),λζ=>mk (`H (`cw::ζ)),λq=>`af',`ff=`sI,(by rcases r with⟨k',c,e1,e2,e3⟩|⟨e1,_⟩),(λd h=>by delta si0 at h;cases h),(`aH8).imp,(`CX en.atN e3),PN X i a ga,(`be `bBZ),`aH9 (`aH')=_,(by let#[w,w1,w2]:=rx.atI h),λζ=>#[c,xs,z,w,rfl,rfl,ζ,w1,ad,`a!,c1,?_],k w H2 U w2,(`be `bB_),(`be `bB0),(`aCB `aH!),`aH?/\`agA,`FI `aIa,t70 d=`gF,`DL w.all hn,(`bB1),#[_,p1,?_],(`jd s).setN,#[dv,`gq,e4,`xB],(`be `bB2),(by have nk:`bB3:=`bB4),#[u,q,`qh],`bX `aIb `P,λϑ=>PE X `aIb (`cS ta (`b_n ϑ)),λζ=>(by let#[x,H1,I1,rx,a,dx,fs,ex,ea,l,a',sub,cl,q]:=ζ),λζ=>y0 (first:=`eb) `E9 hm.kp ζ,`r n::fs,qr0 (`afF) ds f,(f==n)=`l,`c (a,l),λζ=>`bB6 λl=>`bB7 λp=>`bB8 ζ,(Rs0 p.1).bind,mc0 (m:=l1) w3,λζ=>`yT λdv=>`cN λns=>`agB λp=>`agC ζ,λζ=>`kY i 0 (`H [`aIc,`bB9,`s (ic0 `Ee `adx f ζ)]) δ,(`bh `bB'),(by let#[C,Y,nm,xs,rfl,rfl,hl,hC,a2,rx]:=`Qm),(`be `bB!),λζ=>`H [`agD,`Qn,`s (ic0 `ab9 ds f ζ)],(`C' nm ys),λζ=>#[C,ζ,nm,ys,rfl,rfl,y2,hC,a2,y3],at'.w.openOk,Y.w.openOk,(`s es.dropLast),(by rcases hb with hb|⟨ob,hb⟩),`o (tc0 Y) hb,(`bB?),(RpN X.K H1 B as),k _ _ q2.s,λr=>`w (`cH r=`f) `bK `e,`s ls::ds,λ_ z=>`cO,`ec k ps (spB K 0 f),
`iv/\`tX/\Meth K C m fa/\`Eb/\m∉F,nh0 c F b.1=`f,`aId FnT,`bX `agE `P,`FL w.hd a7,(`a'::`Qo),`bX `agF `P,(`CG `bCa `h),λζ=>by rw[ζ] at Y;cases Y;rfl,(`el i .un),(by rcases `M_ with⟨_,z,_⟩|⟨n1,h1⟩),λk a e=>`aIe,#[xs,e,`agG],#[xs,e,z,`agG],(by let#[C,dx,ns,xs,e,f,z,c,q,r]:=h),λζ=>#[C,dx,ns,xs,e,f,z,c,λw=>`bCb q λw=>hdx _ _ _ e ζ,`agG],`D9 `Ef,(`bCc),(`CX `Mh e2),λζ ξ χ=>fg0 nd hi hy (wk0 ζ) hsw hf `t s σ H ξ I χ,`cE H2 H3,(by have aL:a≠L:=`bCd),(`z `mx),by rw[`W,`W,`xT];rfl,(`mx).Nodup,(`be `bCe),`qi[0]?=`k0,λϑ ϕ=>`awA `b_t ϑ (`b_u∨(`ash/\c=L/\ϕ)),(by rw[`bCf] at q2),`m `Qp,by simp only[`an,`jn] at hl1;lia,(`bi `bCg),`adA k C dx fs e,c2.w.opAt q1 q2,`agH Y,∀b,b∉`mx->`aIf,tc0 `aIg,#[[],rfl,`agI],(`bh `bCh),(a,`aHZ)∈`a!,D3 (i:=0) ?_,List.getElem?_zip_eq_some,`Dt (`Qq),#[x,_,rfl,_,_,hw],`h0 (B0 c4),λζ=>`m #[`ct,L,ut0 _,by rw[ζ,`nE,`iF];rfl,rfl],`jf `ng `P,(`bCi),`OI j hN,(`Cn `j3),ny0 i ga `agJ `aIh,ny0 i gb `agJ δ2,λζ=>`qf (`aIi/\ζ σ `aIj Q),λpins s σ H Q I #[a,sub,o,q]=>h `t s σ _ Q (I.opened o) q,`aIk B' `fw,`agK=`f,#[?_,λa z=>`cO,`aIl],(`bCj),(`bCk),(`Od d q1 `xQ),Env.blank (by rw[← env.len]),(by let#[so,l]:=`bCl),(by have Y:`aIm:=`bCm),`tY (`sQ sm) (`agL) ?_,`m `bCn,tf0 hfl rx,(by rw[`bCo,u70 U]),`c (`s ps),λ_=>`MW,`eu `eX=`c `Qr,PN X i `kC go,(`bCp),(by have sq:`bCq:=`aIn),(`be `bCr),λζ=>fk `bCs _ `tV (Ua0 sq ζ),λl hl=>?_,H3 b=`jG,`er H3 a `dK b=`jG,(by rcases `M_ with⟨q1,_,_⟩|⟨_,z⟩),`J z (no _ _),`fP[n+k]?,λϑ=>tX K `as `al δ ϑ σ H Q,a9 K H B a ro,But a H1 H2,(`bCt),(`bCu),`pq `pW,`Fi _ c8,PX X `agM `agN,`aIo X.K,teX X.K gx,(`bCv),(`bCw),`aGQ `agM,PSD X (`gB `ng `agM spos) (dx0 j `agN),k v H' `agO (`Qs (`lg c1)),ev.same.trans,`DE ((2:Nat)<=_),λd=>(d,r.2),putK acc p.1 p.2,λζ=>`tZ λk=>`yT λv=>`aIp λps=>ζ::ps,λζ=>∀δ,∃trs,`bCx/\∀B σ H Q,(∃ps,`afS/\`bCy/\ζ)->`aIq,PD X ve gv,PDP X pos `ju `jv gP,(ve::`jv),do0 (tk:=`aIr) (tv:=`c0 (∃B,`nn tD X.K gv)) `aIs (`aIt (`yU hv h)) h1,
λζ=>#[B,b,`io,e2,λv2 H2 s2 r2=>h2 B _ _ _ #[qs,`aIu,e3,ζ]],λζ=>fun δ=>`aIv λps=>`aIw λks=>ζ,#[`aIx,`Ej,?_,?_,?_],tr0 gt G m δ'=`bK,(`bCz),(`g').map,`cH da=`f,PTD X e gb,λζ=>ζ `agP `aIy wh `t s σ H Q I `aIz,`er H a sub b,e.bs b o z,H dx≠`e,`gn `Qt a `agQ,Hc=`bCA,`agH U,`Q `bCB,s13.nf _ _ _ z,`Dt `agR,Xl0 f `Ee=`f/\`agS,λζ ξ=>.nx (`kY i 0 (`H [`aIc,`bCC,`s (`adx++[ζ])]) ξ),`aIA=(`FM).zip `P5,λζ=>`H [`agD,`bCD,`s (ds++ζ)],`ae `aQ,by rw[`W,`W,hl];rfl,`H [`tL,`rN,`rN],`iu c,`lb `aIB `Du `aFl,PSD X (`gB `ng `aIB spos) (ea0 j c f),λb=>B b∨b=x,Uc0 K C F=`f,(`aIC).map,List.filterMap_nil,`s `agT,`G (`aID `aIE) An,(`bCF),(`ga s4 (s4.heap.push (`aDM vc))),`U `bCG,(`bCH),(`bCI),mkF 2 sl0 vg0,(`bCJ),(`bCK),(`bCL),(`bCM),(`bCN),(`bCO),λζ=>[`lm, `x', ζ, `bCP, `aIF, `bCQ, `bCR, `oZ, `bCS],"_law_signs_here",(ob `V),(o2 `x4 `yV pk0),(`bCT),(`bCU),(`bCV),[`c9, `agV, "_law_cells"],(`bCW),[`c9, `hd],(`bCX),(o2 `am `am yr0),(`bCY),(`bCZ),(`bC_),(`bC0),(`bC1),[`c9, `hd, `OG, `o3, `aIG, `aIH, "_law_pairs"],(`bC2),λζ ξ=>w80 (Y9 (o2 `bF (o2 ζ ξ f9) Z7)) `bC3,(`bC4),(`bC5),[`oY, `aEF, "_law_first", `c9],(`bC6),mkF 2 ol0 jr0,(`bC7),(`bC8),(`bC9),mkF 2 o70 pq0,(`bC'),(`bC!),(`bC?),mkN 2 pv0 o60,(`bDa),(`bDb),(`bDc),(`bDd),(`bDe),[`nj, `MC, `ji, `CZ, `BY],mkN 4 pz0 pn0,(`bDf),(`bDg),(`bDh),[`nj, "out", `ji, `CZ, `v5, `MC],mkN 1 cw0 ce0,(`bDi),(`FN yr0),(`bDj),(`bDk),(`bDl),(Z3 `agW),(`bDm),(`bDn),(`bDo),(`bDp),(`bDq),(`bDr),(`bDs),(`bDt),xd0 (ob `aII) (ob `aIJ),(`bDu),(`bDv),(`bDw),(`bDx),(`bDy),[`cV, `r!, `qj],λζ=>Xm0 `am (`fD ζ) wt0 (`fD `gh),(`bDz),(`bDA),(`bDB),(`bDC),(`bDD),[`r p.1,p.2],Q80 v=`f,vo0.cps.toList.getD,(`z `r8),p++sep++lk0 sep (q::r),`aa Rm.Want,(`bJ 10).map (48+·),(`bJ 26).map (97+·),`bG n `fR,[`my,`hb],(`w!).toNat,`c `jm,`Es/\n/4<`xa,(`yW n),names.filter,(`kZ p.2).map,(`kZ (p.2.drop 1)).map,`pB=`aIK,(w00 (`agX)),λϑ ϕ=>`b_p (((`yg S ϑ):RS).hold (K5 ϕ)),`dM `agY `agZ,u9 G1 G2 δ,ifB g Ga Gb δ,by delta ifB;rw[h];rfl,`p "many",
`aIL (`p h),cs.map `bU,∃z,0<=z/\wh0 `jC []=`c (`g8,`r4),λζ=>∀s0:Sl,o2 `aE ζ ixD `Qu=`ag_,[.un,`w5,`Mn],(λp δ hδ=>?_),(E2 _ `u),`g (3*k*k),(n6 rfl rfl).trans,λζ=>by simp only[ζ,ii];rw[`cA],`td=`qk,(by show `bDE),`aF a++`aF b=`aIM,`aIN+`ag0<=`R,(`bDF),ob g δ=`it,by delta ob;rw[h];rfl,`o sbA `ag1,λζ=>∀(Ga G:GS) (r:`B6),G `ag2=r->u6 (ifD ζ Ga t8) G `ag2=r,(o2 `EA `aeu eqD),λϑ=>`i9 (s0 _ _ _ (s1 _ _ _ ϑ)),zt0 i gA f δ,λϑ ϕ=>(`pf λds=>ϑ λr=>(r.1,`gA ϕ))=_,(`Oa).map,(`aIO).map,marks (`my) `cW,`aIP hk,U9 `bDG,λζ ξ=>∀(p:`d) (j:Int),ob (o2 `FO `aeu ζ) `tj=ξ,λp j=>`jU,(λi e=>by cases e),λζ ξ=>∀(p:`d) (Ga G:GSB) (r:`hz),G ζ=r->ξ=r,E2 _ `n,Ya0 rfl rfl e,(by rw[`bDH,`h,c]),λζ ξ χ=>((tb0 `cM ζ 1 `Ns ds ξ).map λq=>(χ::q.1,q.2))=_,`aF (lk0 sep `FP),`s `bDI,lk0 [] `aIQ,S.cps.toList,`ae hS,signs.getD,(by have a1:=`bDJ),(by have a2:=`bDK),(`bDL),cg `aIR,`O5 a++`sa,`aIS++`sa,(`sa).take (`w (35<k) 2 1),`ci vb0,names.length<=100,λϑ=>`af (`L5 (`hm ((`z7++ϑ).map `r)) `aBG),a70 w _ `n `n `n,Gw.e60 _ _ (`aIT),λζ ξ=>show `tm=ζ by delta nmF;rw[`Q q0,ξ q1],o2 `bF `aIU Z7 `FQ,(by show `bDM),`c (`eV),(`z `tm),hm c (f8 q),ds0 N k c q,(z/4%4).toNat,λp k cs m pool=>U9 ?_,o2 `aCF `aCG ixD (`ni s0 `Qv)=`c (`g r),[`Qw,`Qw,z/4%13].map,.ow `bDN,`ag3=`c (vs,`FR),(`bDO),`c (r,δ'),`aIV `bDP,List.take_nil,`c (`g `Qx),`g `adK,(`z `FS),λϑ=>`aq `bbQ `ez (d10 p S ϑ),t70 (M7 k)=`gF,(`adL).set k (`s (`FT)),`c (`Qy),`a0 (`ag4 (`t_::δ)),`FU `ql,`a6 (R `yX),`ad_=`cd,(`bDQ),(`bDR),(gc (`aIW)),(by show `bDS),{ S with un:=u },`Qz `ql,`pB=`sT,w.count `d1,[`bDT],(by let#[c,b,u,nm,w,dg,l,sp]:=S),`J rfl hv,`s2<100000,S.wait.count `d1<=`xW,`bDU=_,λζ=>`j4 [`r (`rZ (`bDV ζ `pF).1),_]=_,`Mz `t0,`adJ::`ag5::((`s3 `aIX)++[`rN]),List.map_congr_left,`xW<=1000,λb u δ=>by rw[O,hL];kernel_rfl,`ag0<`R,`FV<`R,`fB `T `lx,wd `bDW,(`aW).toNat,λζ=>∀(a b:Str),ob `bDX [.sh (`lt),ζ]=`c (`aIY),λa b=>`jU,[.sh (`C3),`bS],`ag6 `adD,`ag7 `adD,(`QA S [w]),`wp 200000,
`s ((`xV)++[`CK]),(`QA S ws),qg0 `ag8=`f,`s ((`xV)++`ag8),List.reverse_append,List.map_reverse,(`Cy).begun.length,(`Cy).wait,(`bDY),(`z `hg),`bDZ<=_,(`bD_),`aq `QB `CB `QC,`bD0=_,[`a6 (R `FW),`sq,`bS,.un],(`o?).wait.length,`nF [`rQ],link (`aIZ),ob `aI_ `ly=`ak (N%4=j),m9 (δ':=`ly) `ag9 ?_,`fS `LQ `QB `QC,`bD1=_,(`bh `bD2),`bD3=_,by delta orG;rw[Y0 h];rfl,`X (`ge∨`aI0),(`bD4),`ge∨(`FX)*128<=323,(by obtain⟨n,hn⟩:∃n,n=`FX:=`Y),(by rw[`bD5,hn]),`qm `ag' `iG,`c (`l,`iG),ob `NE `iG,v90 `aI1 `iG,uj0 `mL (ck0 S w ws hw n),(by show `bD6),λζ ξ=>m9 (U9 (ζ p S _ `aE ξ rfl)) `iH,xm0 `aB! `il,(`bh `bD7),.sh (`r (zi0 `fR)),(by rw[`bD8,nq0]),[`yY `vW],`ag! `aI2,#[s2,rfl],λζ=>(match SB ζ with|`eD=>`aI3|`ag?=>`aI3|`aha=>`eD|r=>r)=_,λz=>h `tH,vt0 `bo `Ct,(`Oo `agZ),`bw [`mo,`r `FY],pg0 b _ _ Po0 `u,List.drop_zero,`bD9 h,u50 f G `pY δ,`g `bD',(`z `v4),List.range_eq_range',`aI5 L,(`mI).cps.toList.length,`abJ `bD!,(`z `mI),List.filter_map,List.map_id',[`oH,`kI],left `b' L [],(`aM (2*L+1)),R `bD?,`bEa=_,(by show `bEb),(by rw[`bEc]),`bEd=_,fv0 p S _ _ L [] `FZ `n hl `yZ `n,(`yg S `aI6),`s ((`FS)++[`t1]),o2 `EW `aE Z7 `qn=`c (`e5 `m6),`aq `t1 `LS `aI7,(by rw[`bEe,`h,`d6]),fv0 p S _ _ `dF `m6 (`lz `ahb sp) hn hl (`F_) `n,(`o!:Int),(`z `Lw),λζ=>cu0 S b hb hn hl `n hL hleft p _ _ (m9 (δ':=ζ) ?_ `iH),(`Oo (named S `m6)),(`MI w),ih `bEf,(`aI8).zip `aI9,(by let#[j,hj,rfl]:=`eZ hi),(`bEg),∃c:Nat,d=`Ez,`jV `ahc,[.sh (`C3),`adP],(`kZ ds).map,(`bEh),`c (`aM 1),wd0 (ud0 rfl),(`bEi),`kZ `bt,`kZ `aI',held.headD `x,Fits q.1 q.2,qg0 q.2=`f,qk0 `EK (`Qy)=`c (`H `x_),`aI!=`c (`s q.2),`Qy=`H [`aBl,`ahd],N6 (ds:=`x_) `FZ,[`a6 (R (`gg `lc)),`gY,`aar],(by rw[`bEj]),`bEk=_,`qm `aI? `nG,`a0 (`aJa=zi0 `f?),xm0 `aJb `nG,(by rw[`bEl,`h,`bEm,`bEn,`h]),(`wC).any `aJc,`bEo=_,(by show `bEp),`aJd f,Nat.le_zero.mp h,2 ^ (m+1)=2 ^ m*2,(`z (bs n))<=2601,S2 (Nat.div_le_self _ _) h,[a,`aJe,`sB `y_],(`aM (r/128)),#[s,?_],xt0 `t2=`qo (bs n),v40 rfl ?_,(`aM (n/128)),(2:Nat) ^ 2502,
rz0 [`g8]=`c (`g `ahe),`ak (z<0)=_,(`aM `DQ),λζ=>by delta fold;rw[ζ];lia,λ(c:Nat)=>`hY,ww0 [`gf]=`c (`aJf),(`cY `g),`bT+e.length<=`R,T8 (rs0 i g) δ,(`bEq),oA `F0 ys0 δ,(`bk h rfl),`g `aJg,(by show `bEr),`ll (kn p),ue0 `F1=`c (`g `ahf),uz0 `F1=`c (`aJh),.sh (Pt.row vs).d,(`z `t3),`ahg j,[a,`hm pre,s],#[s',?_],List.take_length,vx0 `F1=`c (`aJi),[`QD,.un,.un],[`QD,`QE,.un],(`bEs),[`F2,.un,.un],p.vals.length<=12,d.1.length<=20/\Vb d.2,(`bEt),(by have hp:=`bEu),(`bEv),`QF `D? λz=>e `tH,λζ=>si0 ks (nd (`QG ζ `h6)) k,λ(k:Nat)=>(`ts `cv:v80),λs=>`ahh,(`ts `cG:v80),`p `du,λζ=>bs (4*(`aJj - ix B ζ)+2),um0 `wB `QH,`aJk `aJl,Xq0 `aJm,`c `bEw,si0 `wB (nd (`bJ `F3)) `QH,Vt0 `aJl,[`gf,`w7],Bw.Jz0 _ _ `n,[`e_,.sh X],`g `bEx,[`o1,d,`k4,`w7],(`bEy),4*fold x+1,(`bEz),`c `aJn,(`bEA),(by generalize `MR=p at w1 w2 hq ⊢),`ci `W,`aq `o1 `e3 rfl,`bw `F1,`w `m3 T (T++[s]),`x2++pk ps f (`y0) (nT T d) (`F4),λϑ=>[`acr,`aJe,`bfk,`aEk,`hm ϑ,s],(`ym o s),`ll `F3,.ow `Or,(`bEB),(`bEC),`ahi++[d],(by rcases hd with⟨x,rfl,hs⟩|rfl|⟨x,rfl,hx⟩|⟨j,rfl,hj⟩),(`bh `bED),(`bh `bEE),(by have e1:`bEF:=`bEG),(by have e2:`bEH:=`bEI),`cB `aJo rfl,`cB `aJp rfl,∀s:Str,`qp->P `o',(`bEJ),λs h=>hn s (D5 _ h),hw.it p hp,(by obtain⟨g,rfl⟩:∃g,f=g+1:=#[f - 1,`E]),#[`E,B,T,s,?_],λζ ξ=>sub_len ζ (m:=`bEK) λy hy=>`y1 (ξ y hy),#[`aJq,`ahj,hn,O,U],`ahk∨`F5,[`oR,`ev],`r (`rZ `aJr),`g (N/4/4),`QI w `jm,(`bh `bEL),xk0 `bo `Ct,`bEM=_,`bEN=_,(`p `Ed),l.all `cH=`f,`c (`f,`nG),`dg (b/2),trs l=`f,∃l,Nm l/\d=K5 l,`j->`ag->Prop,`fA N bg us ws,(by let#[l,hl,hm]:=B60.mp hm),(`bEO),`cd=[`jm],`ed/\`nH,(by cases h),∃t,Pq `a1 q t,(by rcases G.op with⟨e1,e2,e3,_⟩|⟨_,o⟩),p.todo.2.2.2,Pq N q (w::`ie),(q.1,`FT),`J rfl hr,T.wait=`aA,G.open' hw hr,λh=>`J l0 h,(`o?).begun.length,λζ ξ=>by delta RS.hold;rw[ζ];exact ξ,`F6++[`LH],(by rcases hv with hv|hv<;>cases hv),λζ ξ=>#[`qq,ζ,G.cl,`gG,`jN,G.dg,G.l8,ξ,G.ln,G.dv],`iI->Prop,∃n,`aJs,`h' l=`f,Zr0 q.1 n hn,#[`E,λh0=>?_,λh3=>?_],
λζ=>by rcases hv with rfl|rfl<;>exact ζ,`aeA b eqS,(by have hl:∀n∈`b',`gH:=`ahl),λ_=>#[w,ws,hw,hv],`adM kd n,hv.resolve_left,λζ ξ=>#[i20 S G.ok ws hw n _ rfl ζ,`bt _ ξ,rfl],(`aJt:Int),`J z.1 `t4,λζ ξ=>`F7 ζ (el0 S S' w ws hw hv b r ξ),λζ ξ=>`F7 (Yr0 G hw ζ l0 s0 b) (gi0 S S' _ ws hw ξ b r h),E.begun.length,(∀q∈qs,`t5),dk0 xs h q hq,λq=>`j4 `x_,`hi [ae] `QJ,`G (`mt `kL `QJ=`QJ) Aa,(`bEP),(upd H1 e (`acu)),`o `aJv U,(`bEQ),(`gq).same,∃q:DXB,∀p,`QK G `ne j p q,c50 n N j G b ds=`bK,∀p,`QK G `ne j p r,`gA (b.2 b'),.ex c n r.2,`aId FnTX,(by let#[Ca,fa,fd,Fo,hC,cl,a4,hb,a6]:=C.ex),by rw[hC] at a1;cases a1;rfl,(by have O:`aJw:=`bER),(`bES),(by have O:`aJw:=`bET),(`bEU),#[_,en,e2,λH' C od O nn xx=>k σ H' C od O nn xx],by delta pm0;rw[h],by delta ug0;rw[h],(`bEV),(`bEW),[`aJx,s1,`en],`Ok=`aJy,S1.wait.length<100000,S1.wait.count `d1<=S1.un.length,(`DM S1 `ahm),`QL `qr,p30 (l30 p S _ hc),`F8 (`oI::l) `DS,`ahn=`c `qr,[s0,.ow b'],[s0,.ow `bo],sIx `ax 0 `ET,(`fD gh),f c n=`aX,mkE N G c n=`aX,(Zk0 h1).elim,nrf v=`f/\`aJz,(`bEX),`jF (`M?) `P v,(yh0 (`aH8)),(`bEY),(`be `bEZ),#[ys,rfl,a3,?_],ob g δ=`c t,dsQ `hc q,PDQ X pos `ju `jv gP,λζ=>λvs H3 ls s3 fr nd rk rq=>ζ,`m `Ed,(`aJA)/\nrQ `p3=`f,PDQ X dpos `ju `jv gP,(`bE_),(nm0 e3 rk),(`h!).Nodup,`bG `QM `h9,(b3 b o z),`m `QN,Pos->`ej,λζ ξ=>Sem.wp M Γ (execs ζ env) ξ E p s,execs_cons,Sem.wp_bind',Sem.wp_mono,(λ_ _ _ h'=>h'),λζ=>∀H₀ B₀ δ dp,ζ X st `bE0,λζ ξ=>xv0 `bE1 ζ `t s σ H D I #[_,pt,e1,ξ],(`el j .un),`h0 (B0 hij),viewV ns d,(`aJB).map,Rp K `nI `iJ e v,(by apply `w4 (w.nodeK r hk hn)),`FL f1 f2,tf0 hfl (oo0 (qe0 hfl) rx),DL.viewVs ns ds,`wQ j `r0,(`bE2),λζ=>(by let#[d,a,ns,as,sos,v,env,h,at',hj,rv,k]:=ζ),(go dp δ).bind,PNA X i j o go,(by let#[Z,q1,q2]:=Uz0 en b1 b2 env at' hj rv Y f1 f2 nk λ_ _ _ z=>nomatch z),#[a,Z,q1,kk _ _ q2],(`bE3),`gn Ho a `aho,Hc=`bE4,Ed0 ns=`f,`Oc k `aJC++`aJD::`aJE,`D9 `y3,(nm0 e4 rk),(`s (`QP)),gd0 (ts.map `ds),E8 F.entry_any_loop ?_,
(by show `bE5),λh' tk hk=>?_,A2 (hR h' tk hk),ts.getD i `l,(`b6 "any"),λζ=>∃(p:`d) (ts:`y4),`CW/\SqL ζ H p (`ahp)/\`bE6,`h' ps=`f,λ_=>`c ps,`h' rs=`f,(`bi `bE7),es.isEmpty,PSA X i j s1 G1,`fh X bs G,`G (`y5) Ab,λζ ξ=>`fh X (`ahq::s1::ζ) (u9 (rk0 i j g λdp=>ξ) G),λζ ξ=>Vp0 (as:=ζ) (bn0 i j nd he (ve0 h1 ξ) hij hi hy hsw hf) hr,(`bE8),(`bE9),(`bE'),(`bE!),(`bE?),(`bFa),(`bFb),(`bFc),(`bFd),"_law_kind",λϑ=>`bii (o2 `lC ϑ yr0) f9 `zg,λζ ξ χ=>z7 (oA (z7 (o2 `V (o2 ζ `pV ξ) ixD) v6) qv0) χ,(`bFe),(`iK `EA),(`bFf),(`bFg),(`bFh),(`bFi),(Z3 (popS 0 `sU)),"_law_top",(`bFj),(`bFk),Vc0 0 `sU `aJF,(`bFl),`y6 (vq0 1 [2] `aJG `cM noT `aJH) Wj0,(`bFm),(`bFn),(`bFo),(`bFp),(`bFq),xd0 (ob `aJI) (`gI (wz0 `am wt0 (`fD `aJJ)) `V),(z7 `gh v6),(`bFr),(`bFs),(`bFt),(`bFu),(`bFv),(`bFw),(`bFx),wg0 (yo0 `aJK) (wg0 (ob (te0 `F9 `V)) (wg0 (`pu `aJL) (`gI `F' `F!))),(`bFy),(`bFz),(`bFA),orG (o2 `V `aJM eqD) (orG (`F? (gc (`g 48)) `V `ahr) (`F? `aJN `V (gc (`g 122)))),(ob `aE),(`bFB),(`bFC),(`bFD),(`bFE),(`bFF),(`bFG),(`bFH),(`bFI),(`bFJ),(`bFK),λϑ=>O6 `iQ (`y6 (oA `b_l ϑ) mx0),λϑ=>O6 `iQ (oA (`cQ `e4 (o2 ϑ `aKm f9)) rp0),(`bFM),(`bFN),(`bFO),`aa Jk.LP,(`bFP),`aA `Ga qs,`g `QQ,`r `ahs,2*`cX=`qs+1,u+`cX=u+1+k,`cP (3+2*k=`qs+1+1),`cP (4+2*k=`qs+1+1+1),`aA 0 (`aJO),`aJP (2*k) (pD k q'),B40 λj=>?_,(`bFQ),`aA 0 (`aJQ),`g'=`dz,tr0 gt G `qc δ,(by show `bFR),by delta wg0;rw[h];rfl,by delta xd0;rw[h];rfl,[`EN,`aev,`EO,`tk,.bl `ss],`cH (`cs s),viewV `nJ `aht,`I (jo0 _),viewVs `nJ `aJR,`w `QR `j5 `gb,`c (wq q),qs[u]?.bind `acj,j70 (by rw[e1,`j6]),j10 (by rw[e1,`lA]),(`Mu:Int),(`z `Gb),lo p `aJS,`aEp (`Er)++[`KZ],`af `hA,λζ ξ=>show `QS=ζ by delta wantOf;rw[`t6,ξ],(`bFS),λϑ ϕ=>`c (`w (ϑ=[]) (.nx `bjI) (.rt `x [lo p ϕ,s'])),`J hn `t4,by delta AT;rw[ko0,hu];rfl,#[_,C4 O],aft qs (`Ce),{ b with un:=`QT,want:=(`MN).2 },[lo p `aJT,.un],[lo p `aEq,s'],show `afx=`c8 from Y0 h1,Nat.mod_lt _ `u,(`bFT),(`bFU),(Wm0 k:Int),`ahu `dx _,`QU `Cq `dx `Cq,
λϑ=>`a6 (`ob (`Ks `aB1 (pD u ϑ))),(`y7 `adW),(`bFV),yu0 `bFW,vi0 (K8 (d:=`dg (`C0+1)) ?_) (Zm0 hu hq _),n6 (Ul0 hu hq) rfl,(`oK).un,(`oK).qs.length,`ahv<`R,{ b with qs:=`aJU,un:=`QV },`c `bFX,`c `bFY,#[#[`bc,`aV],rfl],[pD `gv `aFv,`rN],`c (`iw (`aJV)),g' δ=`c (`X Q),Y0 `bFZ,g30 b `Ow `O6,fV p `aJW n,`ahw=`e,(`bh `bF_),fV p (`iw b2) n,(`QW).all `cH=`f,(`bF0),fN p `aJX x,X5 0 (λ_=>`QX) `mB `fi,`t7 `aJY,vd0 `ia `Gc,(`bF1),fN p (`iw b') x,#[`aV,`aV],λk=>.bl (`ahx),(`bF2),`ahy λk=>`ahx,(`aM `y8),.sh (`pL `sV),(`bF3),`sV/\¬(n<=2),(`bF4),su0 `ia `wL,(U9 (h1 p)),(`bh `bF5),g1 p `b!,xb0 `bF6,λϑ=>`bq [lo p ϑ,`fx,`bS,`bkl],λζ=>g1 p (m9 (δ':=`Dy) `bF7 ζ),#[U.lt,U.few],(`ds t,`kR),Uh0 ns pre k,`On+`cv,(`bF8),Bool.true_and,`aF (n.take `hc),[`kI,`hb],`aI5 `EF,[.un,`lj,`kU],`h' F=`f,[`eW,`lj,`kU,.un],[`eW,`lj,`kU,.sh (`s F)],`bF9=_,(lk k:Int),{ b with left:=`Gd,begun:=`acl },`aJZ λz=>leD `aJ_ z,`c `aJ0,(`cQ g h),(`bF'),(`bF!),(`bF?),u10 `ia `wL,(`bh `bGa),xb0 `bGb,#[`f,`iw b'',hv,rfl],List.mem_range,(`bGc),`e5 (w++[c]),λx=>`cs (`aF [x]),(by split<;>simp only[`an,`jn]<;>lia),#[s3',?_],`r'++[`si],(`bGd),`ahs=`v4,`X (w=pre),b.names.length<`R,`LR (told b w),`cs `Cv,rn0 `ia `wL,(w=pre∨`aJ1=`l),nm b3 u q `Cv,Jm0 (k:=k) rfl,`ak `ahz,`j7<=`hY,[`abg,`QY,`h2,`x,`r "a",`H [`or]],(`bi `aJ2),`e? = `gb,λζ=>Xr0 hc hw p (m9 (δ':=`sY) `bt3 ζ),`e? ≠`j5,λϑ=>`ble (m9 (δ':=`sY) `b_o ϑ),`QZ=`f,λζ ξ=>O60 (gl0 (x:=ζ) (y:=c) (z:=ξ) rfl rfl rfl),`e? = `j5,`ahA hd,λζ=>`aac ζ (go p ?_),`acm `p_,`fg wo0,#[0,n,`dI,[],`l],#[1,n,`dI,[],`l],#[2,n,`pC,`x8,`l],`bGf toS,`ae (`I (B80 n)),λζ=>_=((ζ).drop `dI).head?.map wS,(by rw[`gJ,`bGg]),`cP (`ahB=0),_=`bGh,λϑ ϕ=>`c (`w (1<ϑ/\`blZ=`pC) `aJa (`w (ϕ=0) `j5 `gb))=_,(`xp hw).2,qs[k]?=`aJ3,aft qs `sr,(by have nf:`j8:=`bGi),(by apply `t8 w (`J rfl nf)),w::t++`MB,`Ge=w::t,(tm0 q.1 n (`FT)),Op `cI `f8 `a7 `cd,`r'=`aa7 `aF,`QQ=`mz,`wP=`X (`mz≠0),`ed->`x5=0,`nK->`x5=(`aM `aJ4)/\`ahs=`Lw/\`Gf,∀(k:Nat) (q:LP),`Q_->`ahC `r',
λζ ξ=>∀(l:`k) (d:D),`bT%2=ζ->wo0 `aJ5=ξ,(`bGj),`yC (`kZ r),`Q0=w::t,`m `bGk,w=`fR∨`ge,λζ ξ=>(#[ζ,n,`aJ6,[],`l]:LP)=#[ξ,n,`dI+1,[],`l],(#[2,n,`aJ6/2,`sb (wo0 (`adZ)),`l]:LP),(`dI+1)/2=_,(#[3,n,(`z (r++[d]))/2,`sb `ahD,`f]:LP),(`bm+1)/2=_,(`t9).names,(`z `x8),eqS (K5 n) l,`mI=`aF m,b1.want=`e?,`a7=`oS,(by let#[w',ws,e,O]:=`ahE),λζ=>aj0 `t' (λx hx=>hx) k ζ,`t' k _ h2,`hg++`d1::`cd,g30 b kd n,`f8++[`aJ7],Ot `aJ8 x',`o `cA k,`o `dO k,Ot x (`w c x' y'),M.next (fk0 _ _ ne),(by rcases R.op with⟨e1,e2,e3⟩|⟨ne,o⟩),¬`bGl,λz=>c3 z.1,λz=>c2 `Q1,`p `n,`jl/\`aJ9=`f,λζ ξ=>Pq0 (n:=n) (kd:=q.1) (held:=ζ) h3 ξ,q.2++[K5 x],`Q2∈(`EQ).names,λb1 hb=>?_,(200:Nat)<`R,Gi.dig0 G hw `qt `qt,(λ_=>.no),`gg `ahF,λζ ξ χ=>#[?_,?_,R.un,?_,ζ,R.sum.trans hd,?_,ξ,λz=>χ,?_],B70.trans R.ql,#[`aJ',h6],(`t' k lp h2).1 y hy,left `b' (c/2) [],`ci f1,left `b' `dF `qu,(rb0 S _).symm,S.takes c eqS,step_digit,(by show `bGm),`r `bGn,[`kJ,`bS,`LV,`o7,s4,`wJ,`QE,.un,.un],(`bGo),λs hs=>?_,λζ=>show ∀c∈ζ,`y9 by apply `KS,`ahG%`po,(`aM (ix j)),(`bGp),(`bJ `fe).map λj=>(`aJ!,`Q3),ad0 P (ix j) `n (`d' (O j)),∃(p:Pt) (k':Int),k<=k'/\`aJ?/\Gl p m/\wy0 `jC []=`c (p.d,`FR),(`bGq),(λs hs=>by cases hs),(by let#[c,hc,rfl]:=`eZ hb),E2 (`Ox) (`cP (`Oy≠0)),λζ ξ χ=>m9 (δ':=[`acn,`e_,`bS,`DB,`Nb,ζ,.un]) (U9 (yn0 (d:=ξ) χ)) ?_,λζ=>#[`bGr,Y,a7,ζ,λb hb=>by cases hb],(`bGs),(`bGt),(`aS:Int),ns.drop (s+1),`ahH=`c (`g f),λϑ=>fun δ h=>`ae (`fS `b_i ϑ `b_j),if sm=`f then 1+f/64%60 else 1+f%8,by split<;>lia,uy0 0 `jE,(bk3 cs sm),`c (`aM (s+1)),(`Q4 (bk4 cs sm `jE)),Byl (tx p),(e40 _).app,`cY Int.toNat,λq hq=>#[D5 _ (`aKa),`aKa],J80 h60 ((`t!).vk v hv),uf0 [d]=`j2,`QL `y',gN 2 d `DS,JB `bGv,`c (.rt x),`cP (j+1+k=j+`cX),[`a6 `DU,s1,s2'],[s0,`Q5,s2,s3],.ow (`Gg),Bo S b j l E b' t k,yj0 `bo `wL,λζ ξ=>#[S,b,`l,0,G,rfl,λp s1 s2=>#[_,ζ],λs0 s2 s3=>#[s2,s3,So0 rfl (Jn0 ξ)],λz=>by cases z],[`gd,.sh `y!,.sh (`aKb)],λϑ ϕ=>#[(ϑ%256).toNat,`E,`i9 (m5 e1 ϕ)],`bGw=_,
zs (`to n),(`z `xq),(`z (`to b)),tkN a b `g3 h,Nat.succ_le_succ,rp0 [`pa,`ov]=`c `aKc,(`bGx),[`Gh,`gd,s2,s3,s4],[`Gh,`gd,`wJ,.un,.un],(`aKd).map,[`Gh,`gd,`wJ,.sh (`x7),.sh `Q6],[`Gh,`gd,.un,.un,.un],n6 (e8 _ _ _) (a1 _ _ _),by rw[`T,`T,qb0,qb0];lia,`p (`Gi z),`m `bGy,λζ ξ χ=>Y (Y tk gx (B7 (ζ).2.1 hm)) ξ (B7 (χ).2.2 hm),De0 m a `OA (E5 a),(fe 5 _ h6),`F8 l `Q7,`c (RXB.ok `aah),e50 rfl `ack,h.rd p (`k7) .un,sq0 `bo [],(`aKe),(`qv `ee),v90 `Q8 `ee,[`k7,.ow (R `k5)],`c (DX.ok d),[`gy l].length=1,`ahI=`bGz,.ex `e9 `Q9 `ahJ,pe0 (ds:=`pG) rfl (Sf0 h),(`bGA),`bGB=_,[.sh x,`aKf,.un],(by rw[`bGC,`h,h]),[`k7,.un,.un,.un],(q70 hi e),#[_,`p `Y,Ne0 u,J],0<=z/\z<=255,`aKg&&`X (`bT<=400),(λb hb=>nomatch hb),(`aM z.toNat),`g3<=400,`J h C0,`c (BL (m++n)),`yo++`aKh,`aKi+(`z `aKh)<=`R,`ahK<=100,wl0 `bGD,[`or,`g 5],yu0 `bGE,(∀b∈t,`gi),(`Ev (.ow (BL `ahL)) `e_),`aKj `bU++[`x7],deq `x1 `y!,by delta lean;rfl,`d5<=12000000,c/10%(`Gj+1),by apply `aKk;lia,(`Ew `pE `kU),`aKl+[o].length<=`R,e70 [`mR]=`iL,λζ=>dg0 (ns:=ns) ζ `u `aKm (10 ^ 15+37) `u `aKn,(`bt7),(`ahM (.ow (BL [])) .un),cutD `Q' (`c 3) (`c 11),λϑ ϕ=>N6 (ds:=ϑ) (`lz rfl (ϕ _ _ `boi rfl)),`yn m3,"MOST_NAMES",`c (`g 60 t),"MOST_NAME_SIGNS","MOST_PARTS","MOST_VALUES","MOST_WORD_SIGNS","NAME_SIGNS","WORD_SIGNS",.ClassDef _ _ _ `eC _ _ _ _ _ _ _,#[rfl,rfl,rfl,`bc,rfl,`bc,`bc],(z8 Z8 d8 `Q! b7),[`jB, `iq, `acI],λζ ξ=>Ts0 (`xr (O7 (z8 Z8 d8 (M5 `ii `aKo) ζ) (W7 ξ))),(`bGG),`fT `Q? `lB uo0,`Gk `Ra `hB xt0,`Gk `Rb `y? ww0,λζ=>FnI ζ w K mg `aP `bd 1 `ey uc0,λζ=>FnTX ζ w K mg `aP `bd `ahN 7 `Rc d9 s40,λζ=>FnTX ζ w K mg `aP `bd `nj 3 `ey d9 sq0,(`bGH),[`oZ, `Rd, `hd],(u0 2 `za),(o9 `Gl j5),(`bGI),(pab 1 j5),(`bGJ),[`oZ, "_law_value_here", `hd, `aIG, `aIH],(`bGK),`fT `Re `zb yz0,(`bGL),`fT `Rf `ahO uq0,(z8 Z8 d8 `t? j6),`fT `Rg [`lm] xz0,(S5 `Gm),[`oZ, `lm],C__law_is_root,(T7 (X8 `aaF `aEG)),[`acH, `NG, `acG],FnB P w K mg `aP `Rh 1 `ahP 0 xr0,`ahQ `Ri `ahR vd0,`adp K mg `Rj rr `Cd `aKp,(`aEn:`i),
λζ=>FnE ζ w K mg `aP `Rk 1 `Rl so0,λζ=>FnX ζ w K mg `aP `Rm 8 `Rn us0,(spD K e70),"Reader.__init__","Reader.give",`Ro P `e9 rr,(`bGM),"Reader.whole","Reader.web",`Mw `ahS `ey wp0,`Rp `Rq `Rr vf0,"Reader.takes","Reader.takes_digit","Reader.goes_on","Reader.takes_head","Reader.takes_part","Reader.hold","Reader.end_parts","Reader.takes_sign",`fT `Rs `ahT q40,"Reader.takes_name_number",`fT `Rt `ahU s90,"Reader.takes_known_name","Reader.names_here","Reader.takes_letter",`pX K (`ua) x=`yB,`B_ K `f9 x=`yB,`aKq `Ey,(`ahV `aKr),(`U f46),`DH `qw `qw (wv0 `zc) (xu0 `zc) (o5 `zc) `aY kV46 dc46 pm46 an46 cd46 ct46,(`U `ahW),"NoWay.__init__",(`U `ahX),"NoPack.__init__",cdI_NoPack,λC cl ec rc hm cdv A outer s H E=>Y40 hm rc cl ec `u,λζ ξ χ=>ζ (by rw[`bpJ,ξ,χ]),
(by repeat' first|intro _|(show @DL.PD _ _ _;first|refine y90 ?_|refine G7 ?_|exact n8 _|exact j6|exact b7|apply `ca R3|apply `ca T3|apply `ca U5|apply `ca M4|exact y40|refine `Sv yk0|refine zj0 ?_|apply `ca zs0|apply `ca N7|refine zn0 ?_|refine zh0 ?_|refine j4 ?_ `aC_|apply `zy W2|refine M5 `ii ?_|refine M6 `ii ?_|exact G6 _ XT `u `u `zz|exact v8 T.c_BASE|refine j4 ?_ `aMo|exact y60|apply `ca y20|refine j4 ?_ fun δ d h=>y50 h|refine `Sv y00|apply `ca zw0|refine `aN6 ?_|apply `ca G5|refine m8 V1 G3 `ii A8 ?_|refine T6 _ `d4 ?_|refine `Sw .Eq Z8 d8|refine t7 z40 b_int `zz T.b_int ?_|refine t7 Q6 b_bool `zz T.b_bool ?_|refine O1 v9 v7 v9 v7 ?_ ?_ ?_|refine u5 Z2 ze0 `Sx b_list ?_|apply `ca yx0|exact yy0 _ AT|exact v8 T.c_MOST_WORD_SIGNS|refine z70 ?_ ?_ ?_ ?_|refine t7 zb0 b_str `zz T.b_str ?_|refine t7 V9 `DD `zz `DC ?_|refine `GR R0|refine `Sw .LtE v9 v7|refine `Sw .Eq (Z4 `ajy) d7|refine V5 `eo hr `u ?_ ?_|refine yd0 ?_|exact v8 T.c_MOST_VALUES|apply `ca J6|refine `ajz ?_|refine V0 j9 V4 `DC T.b_zip `DD b_zip ?_|refine `GR G8|refine zd0 K_KINDS ?_|refine `Sw .Gt Y6 Z1|refine u5 V8 y80 T.b_int b_int ?_|exact z00 _ XT b_ValueError ty_ValueError `c7 `zz T.b_ValueError|exact yc0 _ `eo hr `u|refine ye0 K_KINDS ?_|exact g8 T.c_WORD_SIGNS|exact v8 T.c_MOST_NAME_SIGNS|exact v8 T.c_MOST_NAMES|exact `aN7|refine y30 ?_|refine PDF.pd ?_)|(show @DL.PSD _ _ _;first|exact R9 _|refine V3 ?_|refine J0 ?_|refine T9 ?_ `ajA|apply `zy zl0|refine X6 ?_|apply `ca X8|refine T4 ?_|refine J3 _ ?_ S.nd|refine j8 A1 rfl ?_ `ajA ?_|refine O2 _ ?_ `wm|refine Q9 _ ?_ `wm|refine W9 _ ?_ `wm|refine U0 _ A1 ?_ ?_|refine R4 ?_|exact V7 _ S.nd M_Reader hr `u|refine Q8 _ S.nd ?_|apply `zy J9|refine j8 A1 rfl ?_ (R8 _ _ S.nd `u) ?_|exact J8 _ _ S.nd|refine z20 _ XT ?_ ?_ S.nd)|(show @DL.PTD _ _ _;first|refine `ul .Eq Z8 d8|refine N5 ?_|refine `ul .Gt Y6 Z1|refine `ul .Lt Y5 Z0|refine `ul .Is zv0 zc0|refine `ul .GtE yw0 yf0|refine `ul .Eq (Z4 `ajy) d7|refine `GR z50|refine W4 `d4 ?_|refine o8 v9 v7 v9 v7 ?_ ?_ ?_|refine o8 v9 v7 Y5 Z0 ?_ ?_ ?_|refine `ul .In o7 `ajB|exact z30 _|refine S5 ?_|refine `xr ?_)|(show @DL.PX _ _ _;first|refine S6 _ `eo hr `u ?_|refine `ui _ `eo ?_|refine y70 _ ?_|refine yb0 _ ?_|apply `ca J5|exact W0 _ `eo hr `u|exact ya0 _|refine yg0 _ ?_ ?_|apply `ca z60|refine X3 ?_)|(show @DL.PDF _ _ _;first|refine Q7 ?_|refine J4 ?_|refine `Sv zu0|apply `ca z90|refine R5 `Sx `aN8 ?_|exact U4|refine Q4 `Sx b_list ?_)|(show @DL.PID _ _ _ _;first|refine Z9 `zA ?_|refine J1 ?_|refine J2 ?_|refine R6 `aN9 ?_|refine S9 ?_)|(show @DL.PTX _ _ _;first|refine K4 ?_|refine O3 o7 `ajB ?_ ?_|refine K1 ?_|refine zz0 ?_|refine PWX.pt ?_)|(show @DL.PN _ _ _ _;first|exact W3 _|refine J7 ?_ `wm|refine `GR K7|apply `ca yq0)|(show @DL.PSB _ _ _;first|refine W8 ?_|apply `zy zf0|apply `zy za0|refine T7 ?_)|(show @DL.PWD _ _ _;first|apply `ca zp0|apply `ca O7|refine M9 ?_|refine W7 ?_)|(show @DL.PTG _ _ _;first|refine `GR U8|refine M3 _ `d4 ?_|refine Q5 _ `d4 ?_|exact zq0 `ajA)|(show @DL.PWX _ _ _;first|refine K9 ?_|apply `ca zy0|refine O5 ?_|apply `ca z10)|(show @DL.PSX _ _ _;first|refine P0 ?_|refine Q0 ?_|refine `Sv V2|refine zr0 ?_)|(show @DL.PSsB _ _ _;first|apply `ca m7|exact Z6|refine Y8 _ _ S.nd ?_ ?_)|(show @DL.PDQ _ _ _ _ _;first|apply `zy O4|apply `ca z80|exact G4)|(show @DL.PDA _ _ _;first|apply `ca o9|exact j5)|(show @DL.PSsD _ _ _;first|apply `ca Z5|exact X7)|(show @DL.PDO _ _ _;first|refine S8 ?_|exact S7)|(show @DL.PSsX _ _ _;first|apply `ca X4|exact U7)|(show @DL.PZT _ _ _;first|refine Q3 _ `eo hr `u ?_|exact U3 _ `eo hr `u)|(show @DL.PAB _ _ _ _ _;first|refine pab _ ?_)),
`li `n,CoeFun,`fU hq,#[r,O,e1,k],`ahZ xv0 `aey,`li `c_,q60 hq,(λb ds q h=>zg0 `u h),.BinOp,`ajE=`ajF,#[b,?_],yu0 `abp,#[x,en,e1,`ah_],wl0 `aKs,B6.mpr,`aKt `bQ (`Rv),(`CS `aKu),#[v,e,`qh],A0 `bGN,List.length_set,#[ad,`a!,`j9,?_],xo0 rfl `LB,(∀b∈m,`gi),(`b9 e z),swapsWithSole,swappedStores,`aa `ajC,`ajD `sh fa,F9.binds,(`c `Qx),(by apply `Rw hb),x=.bl c,(`bGO).elim,md0 I1 ea c hm l ?_,((p,w)::`ajI),`J `bGP C0,`aKv a,`gx=`bK,`bZ p40 D `bGQ,`ahZ xv0 `aKw,#[r,`ah0,e1,k],`bGR hlt,`tM `bGS,F.ok S `aKx `bGT,(`bGU),`M7 `aBw,(`bGV),#[rfl,`bGW],A0 `bGX,`PO h.go `aDp,`bGY s2,#[a,`a!,c1,?_],km0 (d:=n0) w1,#[a1,z1,`bGZ],w.openOk,Gw.e60 _ _ `Rx,`bG_<=_,`bG0=_,(`h2,bkD b''),gc `bHa,`bG1 [] `P,(wv0 st),by rfl,X.s₀.heap.get?,ps.getD,(`bZ4),ob `bHb,ob `bHc,T8 `bHd,(`b_d),zt0 1 v6 f,`w (kd=0) `bG' 12,ui0 pr.1 pr.2 q d,`ah1 `iz `e,(N+`cv)%36,`g4 `aKz `g2,A2 `bG2,`Ff tDT,q σ H Q z,vq0 n `cj gi f gt ge,`kS `k1 e pos,(`bZ0),`er H' a sub,as.zip (`Ry),`g4 `aKz [],`g4 `aKA `g2,`g4 `aKA [],`H `bG4,`aaw `aD?,ru0 n `cj i `Of gi f gx,`aD9 `Go,t60 xs l u c,popS 0 `k8,`c (`QY),ps.take,`bG? `RA,gc `bG5,b40 hu,`Mu<=100,K5 `aKH,`sn (`aKy e),h1.symm.trans,`aeh b o u e,`bP cn np,U.less less,(`aOd).imp,`fz o `M6 `oP,yh0 `bG3,`fD `lC,gc (`aKB),zt0 1 v6 wr0,`iM `V,gc `bG6,z7 `Rz v6,gc (`xn),z7 `V `db,gc `aEl,gc `bG7,wf0 0 `j' `k9,gc (`xZ),gc `bG8,gc `rS,z7 `bG9 v6,o2 `aE `qx jn0,plN `aKC,ta0 `l,ws0 0 `s6,q20 p S _,oA `db uf0,yo0 `bG!,wz0 `am wt0 `RB,`ub `aKD,Y9 `aE,ob `hX,gc (`aKE),ws0 0 `uc,gc (`Gp),o2 `x4 `ys pk0,gc `bHe,xd0 `bHf `bHg,yo0 `bHh,oi0 `RC,ob `aKF,v90 `bHi,o9 `Gm j5,U5 `mv j6,o9 j6 j5,(by (apply `bHj)),λfin s'=>`bHk,λe s'=>`bHl,TP X `t σ Q,SP X `t D,`bZ h _ hw,`sl .And [a] pos,`sl .Or [a] pos,#[σ',H',`aKI,q],`kS o i pos,`gB [tg] e pos,.While c `eC [] pos,`aKJ tg `yy u,#[o,e,λv z=>by rw[d] at z;cases z],`bA hu,.For tg `kC `eC [] pos,thn `Lz `bHm,`a0 `bHn,`fz e f pos,.List es pos,F2 `aKK,`aGp cdv,`bA hv,by rw[`b8]<;>lia,match y with|`x=>`f|_=>`l,
match y with|`gk=>a==b|`oI=>`bHo|_=>`l,match y with|`gk=>`bHp|`oI=>a==b|_=>`l,match y with|`zd=>a==b|_=>`l,`fz o `dc `oP,λ_ _ q=>`xu,`ai rfl `_,.FunctionDef,(`bHq).elim,#[x,en,e,`bHr],#[_,en,e2,`bHs],#[xs,xs[i],`ac8,`bHt],#[`Lv,_,C4 hi,`bHu],`ah3 `bHv,`bP `wV p,knd.keeps,putK kvs p.1 p.2,Gr H H' B `pS,λb u n h=>`bHw,(`pM a z).same,`tM `bHx,`o z A7,`bHy=`ip,by rw[`b8,← `aKL,`qy],(`bZ1),h1.extBut `D! D.i1z,`bHz `D! D.l1z,vl0 ga gb gc f f',`agk `aKM,`vS `bHA `aKN [] p8,`aKO xv0,upd H a `aKP,`aFW/\`Pj `cF X.w H `ay a p.1 p.2,#[σ',_,`RD,k],`s5 H' `aN!,.dK `bHB,yh0 `bHC,`qz `ah4 [e],`P4 `bHD,#[a,`a!,`j9,`ah5,?_],(`bZ9),(`bHE).1,∀H',`Eq X.K H' δ'->`hf σ H',`ah3 `bHF,`c ke::`ju,`Lt `ajG,`aKQ `gc=ks,e90 `bHG `bHH `aIy `t s σ H D I `aIz,[x].zip `aKR,sliceRange,ob `bHI,Z3 `aKS,ob `bHJ,z7 (gv 6) v6,zt0 1 v6 wy0,v10 `bHK,ob `bHL,T8 `bHM,ob `bHN,yp0 `bHO,yp0 `bHP,sy0 1 `bHQ,O6 `cr `bHR,v10 `bHS,v10 `bHT,yp0 `bHU,v10 `bHV,ob `bHW,ob `bHX,w80 (dy0 4) `ze,T8 `aKT,ob `bHY,T8 `aKU,ob `aKV,w80 `aKW `aKX,T8 `aKY,gc `bHZ,ob `bH_,o2 `aE `bH0 gtD,o2 `RE `yV eqD,o2 `aE `mN gtD,o2 `ah6 `yV eqD,oA `jq qf0,4*(4*20)+3,`o `T h,(`eH p),`s (`ql),`bH1=_,yi0 `bH2,`bH3=_,b.isPrefixOf,`fS `mo `RF `ah7,`bH4=_,`bH5<=`R,nd `bH6,`qm `ah8,ld0 `e9 `aKZ,(`h!).zip sos,(`Gq).set j `sJ,`RG `aK_,`RG `aK0,`RG `aK1,`RG `aK2,xd0 `RH `bH7,Z3 `bH8,Z3 `bH9,xd0 `ah9 `bH',ob `aK3,ur0 0 2 `aK4 dp,K6 `bH!,v90 `bH?,Z3 `bIa,Z3 `bIb,K6 `ah',yp0 `bIc,qs.set k q',(`ds `f,bkD b''),`ds `l,Z3 `bId,U6 rfl `bIe,(`bZR),by rw[hh];apply `aBv,`bIg=_,(fe 4 _ h5),`ae ea,(ns.drop i).take,.Pass `bIh,z8 Z8 d8 `aK5 j6,R3 `ah! j6,M3 3 `d4 b7,`bIi h,(`ahV `aK6),(`ahV `aK7),(o20 bT).1,#[a9,i9,k9],(`bIm),(`bIR),(ud0 ?_),builtinLookup_eq_fast,yu0 `aKs,`oB `qC,`wt `k9,(`bIT),z7 `s0 `aih,`jK v6 wp0,`bA hi,dgO 0 `aib,zm0 `bIC,o2 `bID `cZ f9,`mS `aLh,(`bIW),plN `aLs,h.DictOf,`nr hb _,Nat.min_le_right,`aFk&&`aB8 n==`ld,I.hok.lt q,`el i `bIw,#[tg,`kC,[],0],(`aLi),`b4 `bIs [],n%4=0/\0<n,(`bJv),`bW (`sy [u]),#[[u,v],[]],`aDa C dx,(`bIl),Y9 `aid,
`bI0 `g,(`bI1),`RJ+51*(`aS - `xo),ts.any id,`s3 `jV,excClassObj,D4 _ `bIj,`aGt - `Pu,(`bZ5),(`bZ'),(`bIp),`P3 tDS G,upd H6 L (`s (ys++[v])),by rw[s1,s2];apply `dX hl,`aia H `zf,(`bIv),Ends.closing,(by let#[v,H',I',r,a,sub,o,k]:=z9),(`a!).lookup,`s `bIx,λz=>hb `aK!,(`aK').set j .un,#[`tt,`aC9],`aIt `bIy,`g4 (`bP c p) [],`ajH [o,i] (`p8 o i),`aK8 lo hi st p2,`bIS%36,oA `bIz intOfD,xm0 `bIV,s.cps.toList.length,t60 xs (`c 1) `e `Oq,`bIY 1,ob `bIZ,du0 `aE `bI_ `aig,((tx p).map `g),`bI2 h,λz=>`bI3,`X (j∉B),(`h2,R S1),vh0 `aKD `aLn `bJi,oA `bJk xz0,o2 `tx `bJm eqD,oA `eK ys0,ob (te0 `RO `V),vl0 `ce `V `Gu leD ltD,gc (`g 32),gc (`g 97),db0 b u `bJu,`X (`Gv),(`bJw),`w c x y,`s `bJy,#[[u,v,w],[]],`bW (`sy [u,v,w]),`dJ (`Gr),ho `t s2 σ H2 x y v u _ I2 r1 r2 q2,`g `bIk,pd0 I hg hm ?_ hdb,`fz o m `oP,`aK8 lo hi `e p2,`bA hw,by show `bIo;rw[hsc];exact z,.ext `bIq,`aK9 s',`wI h1,en'.lower hS `qa,`bIr s',λvs H Q E zQ=>?_,view I h1 h3 h5,view I h2 h4 h6,`ci in1_units,`bIt hu,Builtin.SmallTypes.ownedTupleIsFree,(`aKu),.bl (`ah? a b),`Qa 1 `bIu,λ_ _ _ z=>z,`bP cn p1,(`bZ!),b₀::suite,(`ah2).zip,`fz `L4 m `oP,`o z O.w.in0,`FE `as `al q.2,`aFn C dx [],o2 `V `RI ltD,gc (`g 64),o2 `V `RI f9,gc `bIA,o2 `cZ `V yr0,zt0 0 v6 wh0,w80 `aK? `qA,`iM `am,gc `bIB,o2 `Dw `qB f9,gc `bIE,gc (`aLa),oA `j! ys0,z7 `bIF v6,wz0 `am `bIG wt0,o2 `bIH `mN f9,gc (`aLb),qq0 `aLc `bII `bIJ,`pv `qB,`iK `bIK,oA `jq qv0,o2 `am `V `aLd,z7 `aBW v6,z7 `s0 v6,oA `aic uo0,o2 `V `bF ixD,rs0 1 `bIL,ph0 `bIM,dv0 3 `lC `aLe,hf0 `bIN,o2 `lC `bF ixD,Y9 `bIO,`Gs 2 `aLf,rs0 4 `bIP,ws0 0 `k8,`sR `aLg,o2 `am `gh f9,o2 `bIQ `am eqD,`oB `iq,o2 `EW `aE Z7,ob `aie,o2 `V `ce ixD,o2 `V `gh f9,show `j7<37 by decide,`ae c,q90 `FW kd,by apply `bIU;exact `aif,`w `CE _ (v90 _ _),(`bIX:Int),4*`bI4,`bw `bI5,`bw `bI6,`oB `o5,plN `aLj,`ig H2 `dK,gc `bI7,gc `bI8,`iM `tx,o2 `am (zm0 `zg) Z7,`fD `bI9,gc `bI',zm0 `bI!,w80 (Y9 `F!) `bI?,gc `bJa,o2 `aii `cZ eqD,`ub `Gt,ob `aLk,xd0 `bJb `bJc,gc (`aLl),`ub `ud,ob `bJd,ob `bJe,o2 `aii `bF gtD,
o2 `bJf `aLm eqD,xd0 `bJg `bJh,oA `eK xz0,o2 `ON `yV eqD,`pv `js,`yr `aE,`jo `RK,`FN f9,o2 `bJj `aLo Z7,`jo `RL,plN `aLp,`mS `ON,o2 `V `aLq gtD,`zh `RK,`zh `RL,o2 `F' `aij eqD,o2 `V `bJl `aig,ob `aLr,o2 `qD `aik geD,`iK `aik,wf0 0 `uc `bJn,`F? `bF `qD `mN,z7 `qD v6,`zh `Da,`zh `RM,`jo `RM,o2 `bJo `V eqD,o2 `aE `aCU eqD,`iK `RN,`mS `RN,qi0 0 `uc `aE,`sR `RN,z7 `bJp `bJq,o2 `aLh `ce m00,z7 `cZ v6,o2 `bJr `bF m00,`Ck `x4,gc (`g 6),zm0 `bJs,o2 `bJt `aLt f9,X5 0 TOP `ud,ob `aLu,`qm `ail,.bl (`QZ),`aim `bJx [],R3 `eq j6,`b6 `bJz,`bj `bJA,F.entry_gs_get,(`bZU),#[`aLv,`bJB],(by (apply `bJC)),(by (apply `bJD)),`bJE `cf,`bJF=`l,`ain expr,(by (apply `bJG)),`kP `aLw,call_isinstance,(`bZT),#[rfl,hq],c.sub ?_,`aN? `aeF,OwnTail h bmV tl,(`aLx `aeF),tail_of_in X ht,(`bZX),`bJH rfl rfl,Obj.cls_mapFields,`bJI _ _ (B0 n),wpAny_loadPart,(λq=>nomatch q),(`bJJ),λc v _ q=>k c v q,I.ok.funs.mem hb,hl i x v e1 e2 e3,λb ps e=>`bJK,`bJL `bJM `acU `acV `xF,`Gw `jr `Gx,hl j y v' e1 e2 e3,λe=>`bJN,#[`bJO,n,ne,nf,d],`o I.ok.glob `aLy,`bZ h Q hw,thn `bJP λc s1 e=>?_,`bA (D0 `aLz d1),λ_ s'=>`bJQ,V->`bJR,`nr hi _,`o z hb,PIE X `t σ tg R,[`qe, `ps, `bJS, `bJT, `bJU, `bJV, `bJW].contains,`aBM `aio,∃xs,SqL K H1 a xs,`bZ hl _ h,`zi `ye a,Kt0 ha hb I h `bJX,intBits_le_64 h1 h2,`ef `bJY,`ef `bJZ,Wz0 r r' ta tb tc,thn `aLA λd s3 z9=>?_,hc `t s3 σ H3 _ I3 q3,`ue `bJ_,`ue `bJ0,`ue `bJ1,(`nL `RP),(`nL `aLB),`aip (mA f) `bJ2,`w (g=f) `bC (mA g),`wK e f `P `M2,`aan `gz (`c (`aLC)) `m0 `P,`gB [`aLC] `gz pos,`bZ hv _ h,ha `t s1 σ H1 _ I1 q,`acK h hq,#[`bJ3,?_],`Sz (t':=`ahY) (λb u e=>`o8) `bQ ?_,λv H2=>`zj/\Q `qE H2,`cu `nd (`aiq h),(hb s us `fy hl),(`bZS),(`bZZ),λw hw=>h w (B3 _ hw),by rintro rfl;exact h v A7,ih (i:=i) (`aGn).2 (`RQ) (`air) hk,(`bJ4),`DH `dc `jt params `eC `ep dV kV doc pm an cdv ct,F2 `bJ5,thn `ae3 `bJ6,`bJ7 h,if v<0 then max (v+`aW) 0 else min v `aW,(A20 `uf `u ?_),L8 Q2 `uf `bJ8 ?_ `bJ9,`dN `bJ' s,(`bJ!),(l60 hs pl pu ?_),`dN `bJ? s,A2 `afc,`kS e `aLD pos,`nr hl _,`RR hu σ,
`bKa ..,`o `b8 r.length.symm,`o O hw,(r.drop (`Pu)).take,`aOa/\Q v H,by rw[hj];apply `dX ew,λw hw=>`bKb,show `bKc by simp,call_list_seq,(`b_b),`ue `bKe,#[#[o,e,ex.1],λa e2=>?_],(`mt `kL (`vR)).any,`PA `aP,SqL `E! H a `D_,fp default,`bW (`Sy ok),`bW (`Sy r),`aaw `bKf,J.stop i H2/\Q `ug H2,`Gy _ _ st2 b hb,`cg `bKg,`o hsc z,`RS e,`m `aLE,`p `aLE,as.2.2.2.2,`gB `ng `p! spos,`r (`aLF sep ys),(`bKh),`bA e,`c `aKP,#[t,`f' s,h,`bKi],#[d,`f' s,h,`bKj],#[ds,en,e1,`bKk],#[a,rfl,#[xs,`fJ],`aLG],#[_,en,e2,`bKl],Oq0 hp hc (hi B δ) a7 a9 hs `t s σ H D I `bKm,∀b,`bKn,λb n n'=>`bKo,`aG2 h,`bKp z.2,#[a3,`bKq,`aLH,`iN],`kF X.K Hh `al H σ δi,λb o n h=>`bKr,it.go i Hi gr hlt,`ais Hh δn,λx H' y=>?_,#[`iO,`bKs],#[B',d,δi,δ2,a6,a5,e3,`bKt],`ais Hh δ2,O.wr c1 c2 `tV w en',#[Hh,`al,δ2,rb,b3,e4,?_],`tM `bKu,λv H' s' r'=>`bKv,`RT `bKw,`m `bKx,`bA z,`sc `bKy,(λi ds z=>qz0 z),`ah3 `bKz,`le=`pU∨`bKA,#[_,`bKB,?_],#[`aau,`bKC,`bKD,hb],`r (`aLI z lo hi),`b1 a _ hq,`qF W.kitx_dict #[o,h1,h2.1],q _ I.fresh,#[a,xs,_,v,rfl,rfl,`fJ,hv,`h8 rv],`zi `xL e,F.plainAttrs_str,`RU `bKE,(`ait),`o l (U.val k),`cu `aiu z,`aLJ U,DGet H2 a y o,`nr ho _,[`vQ,`bKF],(`bZV),#[v,e,`c! `tu],Pd.setR (i:=i) (b:=`Cp d) (`m `RV) hs h0,`RW `bKG h1,`J `bKH O,#[`bKI,`bKJ,`aiv,`qa],λz=>`bKK,#[`Qj s,`bKL,`aLK,`qa],(`b_c),#[b,e,`m U,`bKM],k _ _ `bKN,λpins s σ H Q I #[B,δ,h]=>`bKO,`ja X.K H δ',#[n,δ,en,e1],#[B,δ1,t,env,e3,λH2 s2=>?_],`ais `as δ',fun σ' H' z=>#[m,H0 m,z],(`su [`aea] `P).map,i30 l l' r r' v v' `bKP,`bKQ hl,i30 (A:=`g1) l l' r r' v v' `bKR,`tB .Add,`tB .Mult,(`bZ2),(`bZ3),`g4 `mw [e],Moved (C::wr) G s s',`aOb C=`aOc,`tU `bKS,`zi `g0 `aeq,`xy->`bKT,`aLL `bKU,c70 `k? `dC `aLM ha `t s σ H v u Q I r `bKV,#[a,_,rfl,`bKW,?_],.dK ((`aDZ).zip ys),k _ _ `bKX,`bKY #[[`v'],[]],`dN `bKZ _,A0 `bK_,`dN `bK0 _,A0 `bK1,`dN `bK2 _,`bK3 `Gz D.i12.symm,`bK4 `Gz `aix,`bK5 _,as[j]?=`k0,`afg=`c8,ys[j]?=`gZ,∀c o,`bK6,(`bZ?),El0 xs ys lo s h' as,λq hq=>h q (B3 _ hq),`zi x1 `aes,upd H `Z (`P') b,
`xf elts x1 tpos,`zi `qe a,λx xs H Q=>`bK8,`zk n1 oke,`bK9 h1,#[I.ok,`mC,`h4,`bK',`gm,`mD,?_,`zl,`lD,`aiy,`jr],#[e,`bK!,r],`bK? `aLN (λc z=>`aiz) (λc xs z=>`aiz) λc _ _ z=>`aiz,`g4 `bLa (a::as),λb u n z=>oth b u n z,(.xd [(`cW,`mF)]),tXS X `as `al δ G,`OS `aBe N fa,λb z=>#[z.1,?_],`c `bLb,boot_isinstance,(`bZW),.ExceptHandler `bLc (`c8) `aLO hp,`QG lo (hi - lo),`aiA `g_ rfl,`s `bLd,Builtin.List.listFitsIndex,#[v,e,`c! `aLP],(sz0 (q:=q) rx).2,`ue `bLe,`P3 tDB G,by apply `lE z;exact e,#[_,en,e,`bLf],q v H' (l00 `agO) `aiB `bLg,#[_,en,e,`bLh],q `x H' (l00 `RX) `aiB (by rw[rn,w90]),`c `bZY,(`bLj),λd=>`H [`GA,d],#[_,rfl,`bLk],λds=>`bLl,vs.take j++`a'::vs.drop j,kk v H' `bLm,`Qk H' a sub,`aiC `wg,g2.trans (z▸g4.symm),(`aLQ `ah_),#[c,v,rfl,`bLn,ad,`a!,c1,?_],(`aLQ `xQ),upd (`ig H' `dK) c `aiD,#[_,`aLR,c,xs,v2,rfl,rfl,`aLS,`bLo,?_],`aiE `aIa `bLp,#[_,rfl,`bLq],`gn H1 a' sub,(Lh0 d).bind,(unL l).bind,(Qe0 p.1).bind,`s `Ee,`aiF `bLr `bLs,#[`a',`fM,a,`a!,`j9,a,C,Y,_,rfl,`aLT,q1,`RY,?_,?_],`qz `bLt [],`a0 (v6 δ=`m?),(`d9 w).elim,`iP `bLu,λz=>`bLv,#[`aiG,`aiH,`bLw],`fa `bLx,`p `bLy,`RW `bLz `Eg,`qz `ah4 `ng,(`aiI).set j (.sh d'),fg0 nd hi hy (he.go B δ) hsw hf,s80 O.w.len z O.w.nd,by rw[tc0 U] at hp;exact hp,#[`zm (`nm Y),`m ?_],`Q `bLA,am0 `bLB,SqL' X.K (`aiJ) `iJ c xs,#[a,`a!,`j9,c,rfl,#[xs,sq.to],?_],(Itl X.K c),λo e=>`bLC,(`Lb).set `Of `aiK,λpins s σ H R I #[B,δ,h]=>`bLD,λcl s H ex pins s' σ H Q I #[`as,`al,δ,h]=>`bLE,PPs X pos `ju `jv trs,`y2=`c ps,`P3 tTX gt,`er `Qt a `agQ,(`bLF),`s (`Ee++[`r f]),`s (`aC2++[`r f]),`h3 C dx [],`kS e `aIE pos,s4.heap.objs.size,ob `bLG,yp0 `bLH,O6 `eL `bLI,O6 (gN 8) `bLJ,O6 (gN 8) `bLK,T8 `bLL,T8 `bLM,T8 `bLN,"_law_base","_law_long","_law_names_here","_law_code",ob `aLU,K6 `bLO,K6 `bLP,ob `bLQ,`pv `aLV,Z3 `bLR,Z3 `bLS,Z3 `bLT,Z3 `bLU,Z3 `bLV,qq0 `qG `ce `aLW,(`bZ6),zm0 `bLW,o2 `aLX `gh f9,yp0 `bLX,ob `bLY,yp0 `bLZ,yp0 `bL_,ob `aLY,v10 `bL0,v10 `bL1,v10 `bL2,ob `aLZ,O6 `iQ `bL3,v10 `bL4,v10 `bL5,sy0 2 `aiM,sy0 3 `aiM,
sy0 4 `bL6,xd0 `bL7 `bL8,o2 `bL9 `cZ Z7,`sR (ws0 0 `j'),wf0 0 `aiN `bF,Z3 `bL',ob `bL!,ob `bL?,o2 `bMa `V mulL,z7 `bMb v6,o2 `aL_ `bF eqD,`oB `m1,O6 `eL `bMc,ob `aL0,Z3 `bMd,wg0 `aL1 `bMe,Z3 `bMf,o2 (oA `aL2 ys0) `aiO eqD,z7 `bMg v6,Z3 `bMh,`jJ `MQ,`sR `aiO,`F? `ce `am `aL3,`bMi=_,by rw[`W];apply `sE;lia,(`bMj),`a0 `bMk,(`bMl),E2 `RZ `bMm,F7 `RZ `aL4,λq hq=>`bMn,`bMo=_,(`bMp),`a6 (`FR),(`bMq),`b9 c0 hu,`o hu A7,`bMr=_,`a6 (R `C_),(`bMs),(`xY).getD,(`jT n w),(`bZ_),`QA `aL5 [`d1],(`z (`aL6::`aiP)),`o `bMt (Sx0 kd hk),`c `bMu,`c `bMv,`GB `bMw rfl,`c `bMx,gv0 p S _ w ws hw,n6 (x:=`aL7) (y:=`g (b%128)) `aL8 rfl,`bMy=_,U6 rfl `bMz,`a0 `bMA,List.prefix_iff_eq_take.mp,(`bMB:Int),(`mI).cps.toList,(`R0 L),`c `bMC,`bMD=_,`aq `RF `CB `ah7,`c `bME,`Eo `bMF,λj hj=>h j (B3 _ hj),`GC (`GD).map,`d7 (3<=`R),`zn (`jV (1,`bt)),`aq (`GE `C?) `mo `bMG,`c `bMH,`a0 `bMI,`I `bMJ,`M9 uj0 `bMK,`zo (`wo _ (`aL9)) _,`bML=_,∃s:Str,d=`gf/\`qp,`bMM=_,m5 `bMN `R1,`ES d hd,Sk0 h2 `bMO,D4 _ (L3.mpr rfl),(`bMP),(`bMQ:Int),by apply `aL';exact `aL!,by apply `aL?;exact `aL!,`o `aMa (Vq0 B j),st ps o B T (d::W) s,`ym o `sJ,`cB `bMR rfl,`cB `bMS rfl,nB B `wu=`bMT,by delta nB;simp only[`b?],nW ps B W `wu=`bMU,by delta nW;simp only[`b?],`ES p hp,`bJ `aS,U6 rfl `bMV,`c `bMW,`eg (`fv/2),`o c (D4 _ z),.Raise `bMX `e pos,tXB X `as `al δ G,`Ec hi Y U (h2 H' B b' Z),`xS b1 b2 hi Y U O,`Ec hi U hh (h2 H' B b' Y),`xS b1 b2 hi U hh O,okZ `bMY,okZ `bMZ,`FI `bM_,f20 `aLM,#[a,`a!,`j9,c,_,rfl,`bM0,?_],by0 h1 hall hl h0 h15,(`bZ7),(`bZ8),upd `aMb c `aiD,λx=>B x∨x∈new,`er Ho a `aho,`j1 `bM1 s,Q `aN' H,`F _ _ _ _ `bM2,fm0 0 `sD 1 [] `cM `R3,okZ (ea0 1 `bd uc0),eb0 `bM3,zm0 `bM4,O6 `cr `bM5,O6 `eL `bM6,ob `bM7,o2 `aiQ (zm0 `j!) Z7,wz0 `am `aMc wt0,zm0 `bM8,zm0 `bM9,`gD `am 16 c7,o2 `bM' `V ixD,Z3 `aMd,w80 `bM! `bM?,w80 `bNa `bNb,ob `aMe,Z3 `bNc,Z3 `bNd,Z3 `bNe,Z3 `bNf,`GF `db u00,Z3 `bNg,Z3 `bNh,ob `aMf,`R4 `hX,ob `aMg,Z3 `bNi,`GF `db vd0,ob `aMh,`GF `eK rn0,`GF `eK su0,`GF `eK u10,Q70 1 `bNj,v90 `bNk,
o2 `bNl `F! eqD,yp0 `bNm,yp0 `bNn,o2 `aiR `aMi Z7,dp0 `bNo,T8 `bNp,ob `aMj,z7 `am `aMk,ob `aMl,O6 `ze `bNq,O6 `iQ `bNr,`m `bNs,`s (ns'.map `r),`bNt=_,by rw[Qj0 hq,`t6],`ae `bNu,`zp `aW 4 rfl,w80 `bNv (`wE 0 TOP `ud),(`bNw),(`bNx),(`bNy),(`bNz),U6 rfl `bNA,λdp=>`bNB,by rw[Ju0 hq hl,h],`ahy λk=>`ds (`ahx),xd0 `ah9 (`pu ANY),`zq `aiS,U6 rfl `bNC,(by rw[Ru0,`R5]),(`b_a),Rz0 (w:=pre) rfl hp,`eg (`aiT:Int),`lz h1 h2,`zq `aMm,`qm `aiU,U6 rfl `bNE,(by rw[U60,`aiV]),w++`bNF,ifX `bNG RF `q,`ae `bNH,(`bNI).map,`cP (`ahB=(`ahB - 1)+1),`bNJ wS,O70 q.1 n w `bNK,by rw[`an,`an] at h;lia,#[rfl,(`xp hm).2],(`bNL),Sp c b `bNM,(`aF (w++[cg q])),ml0 `mL `n `n,`cP (`po≠0),v50 sf0 0 p `jC [],`d7 `GS,`O8 (`aiW).toNat "",`r5 k1,by rw[ix δ h,q],[s0,`Q5,`px,`cJ],`c `bNN,`bU (`aM `aKi),((sub `OA).2 b z),`c (.ex `e9 `Q9),`H `bNO,o10 [.sh x,.un,.un],`a0 `bNP,(by rw[O,`ar q]),(`GG O q),fun δ=>`dZ,`gt `fC,`ui 0 C__law_next `aMn,`gt `bNQ,`R6 `aiX,M5 `ii `aiY,o9 j6 `aiZ,cp0 I_NoPack hr `u (j4 `qH `aMo),(`bPF),`nL `b_,(`bOS),(`bO4),List.drop_eq_getElem_cons,#[δn,en',ei],(`bO!),`GM `Sa,show u=`e1 b from ry,λe u he ru=>?_,(`aMP),(`rM).same,kk _ _ z2.s,(`z (`bG n _)),`c (`bU _),keywordEach,#[_,rfl,A2 h],(`bP6),[dk,`EL],(`g 57),(`bRt),(`aNh),(`bT3),(`bUa),(20:Int),(`bVQ),(`o2).zip,(`bWU),(`bRD),(`bR!),(`bXo),(`g 11),(`bXx),(`bXy),(`bXV),(`bX9),(by any_goals apply `bN!),match fin with|`qd f=>`bOb|.again c'=>`bOc,R (`aMp) s',λv s1 z9=>?_,`bOE=`bOF,`bOP==b,a==`bOR,show `b_ from h,`D7 ?_,`GL ?_,by simp[`F],λB' gB _=>`bO5,`aMF he,#[`bPg,`aMI],#[δn,en',e2],its'.toArray.size,hl1.extBut,(`bPN),(`aMX),(`FE B δ),(`bP1),`bQe n,p10 B δ `t s' σ H Q I h,(`bQk),(`bQl),(`bQP),(`bRH),(`bSi),(`bSj),(sg0 1 `Rz),(`bSn),(`bSs),(`bSt),(`bSI),(`bSJ),(`bSM),(`bSN),(`bS9),(`bS'),(`bS!),(`bTu),(`bTE),(`r `abI),(`bT1),(`bT7),ul0 `bU3,(`bU4),`c `bU?,`c `bVo,(100000:Nat),(`bJ `h6),(`bXa),(`bXs),(`bXz),(`bXK),(`bXU),(`bX_),(`bX'),(`bYa),(`bYt),(`bZu),λp=>`bZx,(by rw[`bZC]),`c `bZN,#[0,0,0,0],Nat.succ.inj,
(D4 _ (mk0 hb e)),(`bOm),`w k 1 0,apos.endLine==cpos.line,r=.ok (`kP `GJ)/\`bOY,`aal x.1=_,`jF `LZ `P,(`bO_),hS.trans,(`bPk),set_dict,(`bPE),`aMT `bPR,(.ow (bm.2 q.2)),(es++[dv]),`yU hk h,(`bQ0),(`bRd),(`g 13),(`bRB),(`bRC),(`bRI),(`bR7),(`bR?),(`bSa),(`bSd),(`bSe),(`bSu),(`bTD),(`bTF),(`bTI),(`bTL),(`bTU),(`bUe),xa0 ?_,(`bUS),xa0 rfl,(by rw[`bU8]),(`bT!),M8 `bVb,(36 ^ m:Nat),held.drop,(`bUz),(`bUA),(sg s).map,`pz - 1 - `adR,(`aNr).mpr,h `bVF,(`bVG),[`x,`k4],[`g x,`k4],(`aNt),(`bVZ),(`bWy),(`g 39),(`bWD),(`bWT),(`aNz),(`bWV),(`bWW),(`bWZ),(`bW_),(`bW4),(`bW5),(`bW6),(`bXn),(`bXr),(`bXD),(`bXN),(`bXO),(`bXP),(`bX2),(`bYL),(`bYM),(`bYQ),(`bY5),(`bY6),(`yg q `aN1),`aN2 (`St) [],M8 `bZz,(`bZI),((zs m').map `g),"getset_descriptor.__get__",(`bNU),E8 `bNV ?_,(by any_goals apply `bNX),(by any_goals (first|apply `hC|wp_step)),F.attr_ValueError.ga.bind,(`bNY),(by any_goals apply `bN7),Heap.get?_push_at,Heap.get?_update_other,`aMq `e6 (`U y),#[⟨⟩,`pD e],(`b1 b u e).stay,(`bOd),hj `bOf,`bOg e,(`bOh),`GH `aMr,V->Hp->(`jh)->Prop,"dict_itemiterator","dict_reverseitemiterator","odict_iterator","itertools.zip_longest","itertools.pairwise",λv u s2 x y H2 I2 rx ry q=>`bOi,y=`x/\`bOl,`R7∨r' x y H Q,∃i j,`bOo,`bOt∨`bOu,∃x,`bOA,(`bOG),`cu `bm z,x.above y c (F3 h),(`bOH),λus s1 #[vs,H1,I1,r1,q1]=>`aMw,Int.ofNat_le.mpr,entry_tuple_getitem,(`bOJ),(`bOM),tupleItemsOf_ ht ?_,(`bON),Heap.IsSliceOf.new,jl0 rx fx r fs w `aMx,`bOT=its.any `GI,fin its r' hz h' c' kp e,∃p ys,`bOW,[`bOZ],(I3.stkSub b hf),`cY λa=>`r (h a),λO s'=>`bO0,λv O s'=>`bO1,`OT `bO3,λvs H' s' r=>?_,#[`bf,env,e2,`bO6],B b->`bO7,`o U (`I #[n,n']),(b2 b z.1).resolve_left,#[B,b1,`iN,Z],#[n,`ai2 b o (`ai3)],sm b o (`ai2 b o h'),fun σ' w en'=>?_,k σ' H' `aMC,k v H' `aMD r',k p H' (hS.free hp) `aMD r',#[`aME _ Hi gr `bQ,?_],∃B d δ,`bO8,`aMF ht,`bO'∨`ai4,`aMG `B8,#[B,`aHO,`agn,`bPa],λi O a h1 _=>`R?,λkv=>`bPb,(`ih f),(`bPc),(`bPd),#[λb u h=>?_,λb ob xs h=>?_],(`uj env),`pM _ q2 `bPi,
#[`aA4,λa z=>`m `afN,`iN,?_,`iN,`ai6],`c! `bPj g,(`bPn),`yU hc h,`aML `bPo,beq_eq_false_iff_ne.mpr,`aML `bPp,(λ_=>(⟨⟩:`a8)),(`ai7).isSome=`qb,λp=>`bPq,#[_,O,_,env,e3,`bPr],DPut.k (`ai8) (`aMN),(`bPs),Builtin.«zip.__next__»,(field `m_ 2>>=_),(`bPt),(field `m_ 3>>=_),(`bPu),(`bPv),(`bPw).extBut,(`bPx).extBut,F.args_zip_next_1,`M3->c≠TO->`aCx,`M3->`bPA,∃a b:`Sc,`bPD,(`bPI).trans,#[`Db,`Dc,`aMR,`CT,`bPK,`bPL,`ai!],`o (Y4 (z6 p hp)) n,(`b1 b u q).stay,(`bPM),(`bPO),(`bPP),(`jT `lu xs),∃(p:`d) (kvs:`hD),`bPS,λv σ' H' ev=>?_,(`Qs (`lg less)),`tM ?_,`bPT h.2,.ow (`H [`GA,b]),λK H B a r=>#[r,`aMV],`aMW `bPW,(`bPZ),`cu U (`adg `ad'),`cu `zt hz.2,(`s (xs++[v2])),`CY `bP5,(`bP7),#[a,dv,env,e2,`xQ],(`fz o "pop" `oP),∃H₀ B₀ δ dk ns,`bQc,La (z▸at'.w.in0),λx hx y hy z=>?_,(`bQd),#[rfl,(A4 q1).symm,(A4 q2).symm],(`bQg),(`bQi),(`bQj),`o (Y4 Z) e,hi B δ `t s σ H R I h,he cl s _ ex `as `al δ `t s' σ H Q I h,show ¬b=a from `bQp,(o2 `V `tx ltD),(`wt `V),(`bQz),(`bQC),(`bQJ),(`bQO),(`bQW),(`bQ7),(`bRc),(`bRs),(`mS `FO),(`bRu),(`bRG),(`bRL),(`bRT),(`bR'),(`bSh),(`bSm),(o2 `am `qx jn0),(`bSA),(`bSD),(`bSV),(`bS2),(`bS?),(`bTa),(`bTj),(`bTo),(`bTt),(`bTW),(`bTX),(`bT_),(`bT0),(`R_ `OM),(`bT2),(`bT6),(`bT'),(`bUd),(`bUj),(`bUs),(`bUt),(`bUy),(`bUD),`c `bUJ,vi0 `bUL rfl,`bUP=`c `ajm,`aNm `bUQ,(`bUR),by let#[c,_,rfl]:=`eZ hq;exact `gW,`c `bUW,v5 p `bUY,`o `jX `gW,`c `bU1,`w `ajn _ `e,`bw [`oR],(`bU2),(`bU5),[`bU6,`kJ,`Ca],(`qJ (N=0)),`zo `aNo _,λp=>`bVc,(`qj: Str)=zi0 `fR,(36 ^ (m+1):Nat),(`bVd),`c `bVh,(`bVi),`bVj=`bu,(`bVr),(`bVs),`bVt=`aNp,(`bVu),(`bVv),`zo `bVx _,`c `bVB,(`bVC),λs hs=>h3 s (D5 _ hs),.bl `aJn,(`aNs:Nat),`ym `bVI (`xe),`ym `bVK (.sh `x1),`w `lG B `yf,`w `lG W (its `So++W),λp=>`bVL,(`bVM),(`bVP),(`bVR),(`bVU),(`bVV),DPut.k `ad' `bVX,(`OL (`U J)>>=_),(`hv `cl k),(`bVY),(`bWn),(`bWo),(`bWx),(o2 `e4 `js ltD),(`bWE),(`bWN),(`bWS),(`bXf),(`wE 0 `Sr `ud),(`bXg),(`zh `C8),(`bXE),(`bXF),(`bXL),(`bXM),(`bX0),(`bX1),(`bYb),(`bYp),(`bYq),(`bYv),(`bYy),
(`bYD),(`bYG),(`bYP),(`bYR),(`bZg),[`p `sC,`p `Dv,`p `o5,`aEo,`p `aB4],(`bZj),`aq `gl `oz rfl,(`bZo),`b9 ko0 hn,`dg (m%4),`dg (m/4),`o `bZp (ah0 n),λp=>`bZq,X5 0 (λ_=>`c dp) `mB,λp=>`bZr,yi0 `bZs,λp=>`bZt,`w (x=c) [c] [],(`bZv),yi0 `bZE,wo0 `aI',(`ajw `dI).head?.map,(`bZH),`aEs∨(`Es/\`aN4<=n/4),(`bZJ),(`bZO),(E.begun.map `jV),`bZP=`c [x],u0 0 `bZQ,"object.__class__".cutAt,`bNR '.',(`bNS).dropLast,".".intercalate `bNT,F.entry_object_class,(by first|apply `hC|apply `lF|wp_step),(by (apply `bNW)),expr&&`aFG (`aec `yh),F.attr_ValueError.ga.lookup,F.attrBase_ValueError.noGetattr,`ai_ n2 `bNZ ?_,`ai_ n3 `bN_ ?_,(`bh `bN0),(`bh `bN1),(by with_reducible apply `bN2),(by with_reducible apply `bN3),(by first|apply `hC|apply `lF|apply `bN4|apply `bN5|wp_step),(by (apply `bN6)),P5 O hd `n ?_,(`CS `bN8),(by first|apply `hC|apply `bN9|wp_step),(by (apply `bN')),c'.quiet=`f,`qI c' s',R (.ok f) s',`bN?/\`bOa,λc v hc q=>k c v ?_ q,d90 hN e1 (e▸hi),(`bOe),(`sf p.1 ne).trans,`bZ ha Q h,ho `t s2 σ H2 x y v u Q I2 rx ry q,`pL (x=`x),(`bOj),Q `bOk H,`w (j<i) j i,Q `aMs H,xs=`aMt/\`bOn,xs=[`bs]/\Q `e! H,Q `aMu H,∃i,`bOp,xs=[`zr]/\`bOq,(`bOr),∃k,`bOs,(x.cps.getD 0 0:Nat),`g `bOv,(`bOw),Q `bOx H,`yQ=1/\`bOy,xs=`Gc/\`bOz,(k,x)::`aMv,((k,x)::r),`w (k=f) (`R8::r) `bOB,s30 f v `bOC,(`bOD),`cu l (r f),`ai0 ?_ hdb,args_tuple_getitem,`bOI _ _,Builtin.Tuple.tupleItemsOf,`bOK `p9,`bOL>>=_,`w `ai1 _ _,`w a 1 0,(`bOO),`w b 1 0,(`bOQ),show `CE from fx,its.toArray.any `GI,(`aGz/\`aMy)∨(`aGA/\Q `hZ H),(`bOU),`CW/\`bOV,s'.os=s₁.os/\`R9,OldK `pd `p6/\`bOX,#[`R',`kC,ifs,0],jk0 a C od,k O `aMz,k v O `aMz,`GK `aMA ?_,#[`aMB,`bO2],k σ H en,r'.mono gB,λJ H1 s1 it=>?_,¬`al b->Hh b=`e,`aBp K,`R!/\∃δ,`le=`tJ,(`bO9),λcdv A outer s H vs Q E hr zQ=>?_,`aMH `R?,#[?_,hb,`bO?],`ai5 y,λj o' s e1 e2 h=>?_,`yp i j a d0 d' hi e3 hs e1,(xh0 h hp),`cO n `bPe,λz=>`bPf,`o z hp,(`bPh),(λo h=>`aMI),`m [],`zs s1 b1 b2 hi O U,(`bPl),`ww `bPm b1 b2 U `k!,ih k rfl `aMJ `aMK,V6.eq I `aMM `aMJ `aMK,
`w (p.1=q) d p.2,λiv H1 s1 r1=>?_,en.s.mut s1 b1 b2 hi O U,`Sb `aeI,`Sb (`U TI),`aMO>>=_,h2.extBut `D! D.i2z,hl2.extBut `D! D.l2z,`ad9->`f! c=`aG->`aEY,`ad8->`bPy,c≠TO->`bPz,Q `aMQ H,xs=[`zd]/\`bPB,x=`lt/\`bPC,`e1 `Sd,D6 he hd q ?_,`zk n1 okT,(`bPG),oth b `bPH,oth b _ `ai9,`ai' oth _,λb o u e=>`bPJ,`fz `ai? `eG `oP,`fz `aMS `eG p2,.ext (DL.jk0 a C od),`c (`bP `fd np),`c (`Se),(`bPQ),`CW/\`aja/\Q (`aMU) H,Classical.choose,`gA (b.2 r.2),(r.1,`bPU),λr=>`bPV,`xS b1 b2 hi O Y U,(`bPX),`ww `bPY b1 b2 U rv,h1.go B δ,(`bP_),lb0 `bP0,`ai (o80 hz.1 r2) `_,(`bP2),`w? (`tp a1) `bP3,(`bP4),wb0 (i:=i) hN hvis hd hcd,Wg0 `ajb `Sf hs,`aaX X.K `as `al H' σ' `aIh i j `agJ,`bP8->`aMY,∀σ' H',`bP9,`y5/\`bP',`Sg/\`bP!,`ajc/\`bP?,`LA=`c dk/\`bQa,`FC/\`bQb,`cu `xT hk',(`adz b q).resolve_left,r.ext gr λC dx fs e=>?_,λk n so q1 q2 r=>`bQf,U `aMZ,λz=>`bQh,yh0 (hi.go B δ),`B7 hc.go,`Cs `as `al q.2,`o z (D3 a5),(`bQm),hb `bQn,λz=>`bQo,(o2 `e4 `e4 yr0),o2 `bQq `cZ Z7,(`bQr),`xl `bQs,(`bQt),o2 `bQu `pV f9,(`bQv),`zu `bQw,(`bQx),o2 `hX `bQy Z7,o2 (o2 `am `Sh Z7) `pV f9,(`bQA),`zu `bQB,o2 (`xl `pV) (o2 `Sh `pV c7) Z7,(`bQD),o2 `bQE `pV f9,(`bQF),`zu `bQG,(`bQH),o2 `Si `bQI Z7,wz0 `hX wt0 `ajd,(`bQK),o2 `bQL `Si Z7,(`bQM),sg0 6 `bQN,o2 `EA `bF eqD,`fD (o2 `Sh `zv f9),(`bQQ),wz0 `hX wt0 `bQR,(`bQS),o2 `bQT `Si Z7,(`bQU),sg0 6 `bQV,gc (`g 35),(`bQX),o2 `Sh `bQY gtD,(`bQZ),z7 `bQ_ v6,o2 `bF `aIU Z7,(`bQ1),`fD `bQ2,(`bQ3),wz0 `Si wt0 `bQ4,(`bQ5),sg0 6 `bQ6,o2 `x4 `aM_ pk0,(`bQ8),o2 `bQ9 `ahr Z7,(`zu `V),(`bQ'),o2 `bQ! `bQ? f9,(`bRa),Y9 `bRb,`g 2147483647,`zu `aM0,(`bRe),o2 `bRf `aM1 f9,o2 `aM2 `V yr0,(`bRg),(`bRh),o2 `bRi `bRj Z7,(`bRk),o2 `bRl `zv Z7,(`bRm),o2 `bRn (gc (`aM3)) yr0,(`bRo),o2 `bRp `aM1 f9,(`bRq),Y9 `bRr,`r "many",O6 `cr (`yr `Dw),o2 `Dw `aM4 f9,(`bRv),z7 `bRw v6,(`bRx),z7 `aM5 `bRy,(`bRz),z7 `aM5 `bRA,`gD `V 52 c7,`mS `aBB,ru0 1 [0] 0 1 (tz0 `db) `cM `aje,(`bRE),dx0 3 `bRF,`EB `bF,`r "pool",dgO 0 `aM6,(`bRJ),O6 `iQ `bRK,`gD `V 156 c7,(`bRM),(`iK `Sj),o2 `bRN `bRO f9,(`bRP),
o2 `bF `bRQ Z7,(`bRR),O6 `ze `bRS,`pv `aM7,o2 `am `e4 yr0,(`bRU),(`bRV),o2 `bRW `bRX Z7,(`bRY),o2 `bRZ `aM8 f9,(`bR_),o2 `hX `bR0 ixD,(`bR1),z7 `bR2 `eK,(`bR3),vw0 `bR4,(`bR5),vq0 2 [1,4,5] (jp0 `j!) (gm0 0 1) noT `bR6,oA `aM9 ns0,(`bR8),O6 (gN 6) `bR9,`EB `gh,`fD `ajf,`pv `mN,o2 `aM' `cZ eqD,(`bSb),o2 `aM! `aM? Z7,qq0 `aib `bSc Rd0,z7 (gc (`g 53)) v6,(`bSf),z7 `aM4 `bSg,oA `aih ss0,o2 `s0 `ajg eqD,o2 `Rz `V (q30 `f),(`bSk),qx0 `GN `bSl,o2 `am `ce ltD,unG w70 `gh,(`bSo),o2 `bSp `am yr0,(`bSq),`iK `bSr,`GO `am,oA `eK sj0,(`ub `Rz),o2 `aNa `bSv w50,(`bSw),`zw `bSx,(`bSy),o2 `bSz `gh Z7,`zw (oA `jq rz0),(`bSB),`iM `bSC,o2 `am `jz f9,(`bSE),z7 `bSF v6,(`bSG),zm0 `bSH,`xl `jz,oA `eK kh0,(`bSK),Qv0 `bSL,vq0 1 [] (oi0 `am) `cM noT `aNb,(`ub `am),o2 `aNa `bSO w50,(`bSP),`GO `bSQ,(`bSR),z7 `bSS v6,(`bST),oA `bSU xt0,(`GO `tx),`iM `bSW,(`bSX),z7 `bSY v6,(`bSZ),oA `bS_ xt0,(`bS0),o2 `bS1 (oA `jq ww0) mw0,oA `aNc ys0,(`bS3),`zw `bS4,oA `aNd `aNe,(`bS5),(`bS6),o2 `bS7 `bS8 Z7,oA `aih ww0,te0 isStr `V,oA (z7 `V `j!) sn0,`wt `aNf,`zw (oA `xc ue0),(`bTb),o2 `bTc `cZ Z7,(`bTd),z7 `bTe v6,(`bTf),oA `bTg xt0,(`bTh),o2 `bTi (oA `xc uz0) mw0,oA `aic t40,(`bTk),z7 `bTl v6,(`bTm),oA `bTn xt0,vw0 (z7 `qG `zg),(`bTp),z7 `bTq v6,(`bTr),zm0 `bTs,`sR (ph0 `Sj),z7 `aE `j!,(`bTv),z7 `lC `bTw,(`bTx),z7 `am `bTy,(`bTz),oA `bTA t00,(`bTB),jj0 `bTC,te0 isStr `lC,oA `j! sj0,z7 `lC `db,(`bTG),oA `bTH uo0,oA `db sj0,(`bTJ),ph0 `bTK,`wt `aLf,(`bTM),z7 `bTN v6,(`bTO),oA `bTP vx0,(`bTQ),z7 `bTR v6,(`bTS),oA `bTT kh0,(`Sk `F!),ob `aNg,ob `bTV,`zw `ajh,(`bTY),`zw `bTZ,qh0 0 `bd `m1 `ce,`R_ `Nh,`R_ `aji,`r `jB,z7 `ajj `aNi,(`bT4),zm0 `bT5,oA `eK ro0,`cQ `qG `RE,(`bT8),vw0 `bT9,`jK `db un0,(`aEi),gc `bT?,oA `ajk ys0,(`bUb),o2 `hX `bUc yr0,oA `db qv0,z7 `V `ajk,(`bUf),oA `bUg q40,(`bUh),O6 `cr `bUi,z7 `aNj v6,(`bUk),z7 `aiO `bUl,(`bUm),`ajl `bUn,(`bUo),ob `bUp,(`bUq),yo0 `bUr,qh0 0 `bd `qC `aNj,z7 `aNf v6,(`bUu),z7 `aNk `bUv,(`bUw),oA `bUx vf0,`Sk `ajj,`jK v6 vu0,`jK `db xl0,(`bUB),T8 `bUC,((`z `abP):Nat),
(`bUE:Int),k<`bUF,(`bUG),`X `bUH,(`bUI),`aNl hn,(`bUK),([`tN,`tN]:Ds).set,`bUM 1 (.ow `jC),(`bUN),gN 0 d `bUO,λp=>`cs (`aF p),show (37:Int)≠0 by decide,N/36+`cv/36,`X ((35:Int)<`cv),(`bUT),`ds `bUU,(`bUV),bk k cs `l m `kQ,(`bUX),`X (zi0 w=zi0 v),(`bUZ),`ds `bU_,(`bU0),`qJ (`xa=60),[`cq,`kJ,.un],by rw[cm,`Sl],`qJ `ajo,`a6 (R `aNn),(ge0 p S _),`aq `Sm `v2 `bU7,`X (`Sn),(`bU9),`ds `bU',(`bU!),uj0 `mL h,(`bVa),(`qv [`uk,`en,`acb]),`qJ (`we=0),`X ((8:Int)<`we),(`bVe),`ds `bVf,(`bVg),`qJ (`C?=60),ob `aie `qn,(`C?<=`fv),`X `bVk,(`bVl),`ds `bVm,(`bVn),`aq `RF `eV `ah7,(by rw[`bVp]),by apply `bVq;rfl,`bU (`C? - 1 - `fv),gv 2 [`t_,`gY,`aar],`a0 `ajp,ip0 S k u hu q hq hh,`w `aNq (xm0 _ _) _,(`bVw),((`z `C4):Nat),(`bVy:Int),`bU `bVz,(`bVA),q70 (items:=`C4) rfl e,(`aNr).mp,`bVD z,(`bVE),`aJj - `acd,o++`EC `x,(`bVH),o++`EC `x1,(`bVJ),(`qv `Sp),`qJ (`fv%2=0),`qz `ai? [ae],(`bVN),`c `bVO,ob `ajq,Wp0 0 `bd `o5 `bF,`jK v6 uw0,(`bVS),T8 `bVT,`agx v,by apply `yq;exact hz.2,(`bVW),px0 1 `bd d9 `jq s40,`g 129,z7 `aLq v6,(`bV_),z7 `aJM `bV0,(`bV1),z7 `aJN `bV2,(`bV3),z7 (`FN Z7) `bV4,(`bV5),z7 (o2 `V `js Z7) `bV6,(`iK `V),(`bV7),z7 `bV8 `bV9,(`bV'),z7 `aL3 `bV!,(`bV?),z7 `zv `bWa,(`bWb),z7 `cZ `bWc,(`bWd),z7 `gh `bWe,(`bWf),z7 `ce `bWg,(`bWh),z7 `aNu `bWi,(`bWj),z7 `jz `bWk,(`bWl),z7 `ajf `bWm,o2 `Sq `aNv f9,o2 `aNw `aE ixD,(`bWp),o2 `Sq `aNv c7,z7 `bWq v6,(`bWr),(`bWs),z7 `bWt `bWu,(`bWv),oA `bWw uq0,`iM `aE,gc (`g 75),(`bWz),z7 `bWA v6,(`bWB),z7 `aNu `bWC,`cQ `cZ `qB,z7 `aMi v6,(`bWF),zm0 `bWG,(`bWH),z7 `bWI v6,(`bWJ),z7 `r7 `bWK,(`bWL),z7 `aNx `bWM,z7 `ys (z7 `ys `aNy),(`bWO),z7 `ajh `bWP,(`bWQ),zm0 `bWR,`zh `mM,`r "pile",ob `aNA,yo0 `aNB,`ub `aNC,(`bWX),o2 `aLm `bWY ltD,`mS `aii,`ub `mB,(`bW0),z7 `bW1 v6,(`bW2),oA `bW3 ys0,ob `aND,ob `aNE,ob `aNF,(`bW7),yo0 `bW8,ob `aNG,(`bW9),(`bW'),wg0 `bW! `bW?,plN (X5 0 `Sr `ud),(`bXb),`iM `bXc,(`bXd),Y9 `bXe,Y9 (`iM `ON),vh0 `Gt `aid a00,(`bXh),mf0 `mB `bXi,(`bXj),vh0 `ud `ce `bXk,(`bXl),vh0 `aNC `aNH `bXm,zt0 0 v6 wi0,plN `aNI,(`bXp),
o2 `bXq `jz yr0,O6 `cr `aNJ,`FN eqD,ob `aNK,(`bXt),(`bXu),ob `bXv,yo0 `bXw,O6 `eL `aNL,(o2 `jz `V yr0),o2 `bXA `am Z7,(`bXB),z7 `bXC v6,w80 `ah' `aNM,w80 `aAG `aNN,oA `db xz0,(`bXG),ob `bXH,(`bXI),yo0 `bXJ,w80 (Y9 `ce) `aNM,w80 `aEO `aNN,o2 `aE `mB yt0,o2 `aJJ `aE Z7,o2 `aNO `qD w50,plN `aNP,(`bXQ),z7 `bXR v6,(`bXS),zt0 0 `bXT vd0,ob `aNQ,z7 `lH `aNR,(`bXW),zt0 0 `bXX xr0,(`bXY),xm0 `bXZ,w80 (Y9 `qD) `aNS,w80 (Y9 `lH) `aNT,oA `j! qv0,z7 `aNU v6,(`bX3),z7 `aE `bX4,(`bX5),zt0 0 `bX6 xr0,(`bX7),xm0 `bX8,w80 `ah' `aNT,Y9 `aNU,(`bX!),w80 `bX? `aNS,T8 `aNV,(vh0 `RM `lH a00),vh0 `Da `ce `bYc,(`bYd),vh0 `RL `aid `bYe,(`bYf),vh0 `RK `ce `bYg,(`bYh),vh0 `mM `ty `bYi,(`bYj),mf0 `mB `bYk,(`bYl),mf0 `aaz `bYm,(`bYn),vh0 `C8 `ce `bYo,xm0 (zt0 1 `j! xj0),z7 `ajr `db,(`bYr),vw0 `bYs,(X5 1 (o4 1) `mM),plN `bYu,z7 (gc (`aNW)) `zg,(`bYw),vw0 `bYx,gc (`r "other"),(`bYz),z7 `bYA `zg,(`bYB),vw0 `bYC,`fD `ajs,(`bYE),wz0 `am (`fD `cZ) `bYF,o2 `hX `cZ c7,(`bYH),o2 `bYI `Gu f9,(`bYJ),o2 `hX `qB c7,z7 `bYK v6,oA `aNX uq0,(`bYN),sg0 2 `bYO,o2 `qD `qB f9,o2 `aNY (`iM `Sj) f9,vw0 `aMk,(`bYS),gc (`r "a"),z7 `bYT v6,(`bYU),(`bYV),z7 `bYW `bYX,(`bYY),z7 `qx `bYZ,(`bY_),z7 `x! `bY0,(`bY1),z7 `k9 `bY2,(`bY3),z7 `Gu `bY4,`Ck `zv,o2 `aNZ `aN_ ixD,(`bY7),z7 `bY8 v6,(`bY9),wz0 `e4 wt0 `ajd,zm0 `bY',(`bY!),(`bY?),o2 `bZa `bZb Z7,wz0 `e4 `ajd wt0,(`bZc),(`bZd),o2 `bZe `bZf Z7,match `gx with|`c (`GP δ')=>`ajt|r=>r,(`bZh),match `g' with|`bu=>`c (`GP δ)|`dz=>`bZi|`e=>`e,plN `aN0,(`bZk),`iM `bZl,(`bZm),Y9 `bZn,`bw `t2,(`qv `K5),(`qv `Dy),(by rw[Ru0,`Ss]),(`qv `vZ),sh0 `aju `eL SB,orT `aN3 `ajv,fT p b2 `vU .un,(`qv `bZw),`zx `rO `wL h,(`bZy),`GG b90 hl,(`bZA),yi0 `bZB,`GG kq0 hv,(`bZD),`o e A7,(`bZF),P1 `bZG,`x0 - c/2,`w `Su (`GQ c) `aN5,(`z (`aBh `cs)),(`bZK:Int),`bU `bZL,(`bZM),`ds `aJ0,z7 `am v6 [`yY x,`xe,.un],(`aaE `ajx),by apply `bIf;rfl,ha pos `t s1 σ H1 _ I1 q,λP' w' A' R s' hs=>?_,F.args_gs_get _ _ _,∃d,s=`rX/\o'=`o4,wb0 hi hv hd hcd,`eH `e6 (`mp::`aA),(`bLi),∀v,(x,v)∉binds,`R_ (gc (`zd)),
`m (`ah2),by rw[s1,s2,hl],`aiw e2,`aiw e3,`aeo pos `aep,λr s'=>`bIn,`Gs 3 `aiL,Bc0 X.K `as `al δ i j dp G,`R2 h1.go,`gB [`aD5] `gz pos,λf vs=>PySem.call f vs,h2.go `as `al δ',∀c o,`bK7,`ae `bND,λh' c' kp e=>`bKd,`uh (λo sl h=>?_) `lh,.sh `aKG,([]:`aC').length,(`w ([]:`aC').isEmpty 0 1),(Sp0 r l u),[BL `aEE,BL [],BL [39]],`s [`g 13,`g 53],(`bGu),`bj "slice",(`bFL),r.1=`f,λζ=>λx H1=>∃a dx fs,`eJ/\`FJ/\`FK/\∃a' sub,`bB5/\sp (x::([]++dvs)) (`er H1 a' sub) Q ζ,(`bGe),λζ=>{ ζ with length:=0,spelled:=[] },λζ=>∀(pins:`az) (s:`v) (σ:St) (H:Hp) (D:`fO),`C->`aF5->ζ,λζ=>λv s₁=>`aN `ek X.A (`bX b `P) (λu s₂=>ζ) `hW `eF,`aR c1,`qi[k]?=`d_,(`iE/\`lw),RelO.some_of,(`bsq)]
def Z:="lKsLs6n'ZOhgY5tzDAMUGHfDW5ef1wpkHkYyjNj9CGUYdH8V6QjT0H8b!UynrZKtGOdLk8'N0yk3'aQ5FiKPEkh8iUYuDEgLkBEllz3?aZwBlYcjmkuMudCL2e3sUT8q4HDUfyDgu0uj4ltkON7Zbkutx_hpW3WfT87Ntb9m0Qkp7'!7cFn3w89m_31czRcuYduMXngwdxb_R0eIvjz_FE3y9az2cfIdjCKnBGifkVQ!L3YhlFhcj!m3oQFj0hZ08bAREsYfb3zqwc9zoupffFBiwFsnZCfo_XEZJgZtCjTPvXusGXQWltZyS7YFmoBj?rE?VxgLQfjlWZrFlo9tLffZPTi7tDl?acPi6enFGQ7fQc1OyPh2ytfabmaI'H1PshA_jHrJa1olbFK9'Rkei6oaf_dSqToaBcbN2H7VdlRgahYcXo!RDRsZlcPu8yYGEhtlHZ0eeUmicTfnje9M4hHz5jsXf68Yqg!ZhBoOL!rzbk4dycIEUR4BT4he0oKacneC'ltUwGKbeAJqfa85NtjvVLDaoI1SGVj3zHai1YN3pW'ZPe8o?HMn_5BxcGaBZdU'X3Gd0dCHT__wpcjWi9IO23MHAg6CChjAYO7tgA'CaV_ErPqafiYECZR8xld_qfKhp_XmzaNcu5g'XGQrk'qcXDJBhK4enVsL7r'!mykrt2qNhgbmZd2adQITFWCxi6IC!0Pv_dNh5s?pJ2WqTseTj0!Qd'YhkchcziLMUOr4jjvNVfBVvrAfFfnEWJFz0ogfY9qyXeHF1hOjAuKJrLuuaUwWxiOVMC4cqi2wM3YP3zfYlXqS5eiZjkdD60eISO6BfEvzvqQjg5Oi8iI0coLHuSf2ESj__RQ8Uec1RiY9El8tgRhMJeV!yv?iVC2uCUfw?jam0AOoqiSckhr6l8WebItKiWL2u'3curCcsA9_vAc?eSbVrAPa39HL_ljr1g_dwnAqidMc0hG0FiOiDt14rEAp5yh3TG1WmsacLdU!64XwaovnlL1WWACk3'ledgJSY_t'?RaiTOPLco6YElI_zdkz7!ZWlLB!DNCBwwOaq7?UVzRwgRaVBV6GD_Gq8bOC2D0UCcwlhAq2ohU9JZth?opqh5FpMDhKlCybcDcL5eBtaq'stkrQcXGi9WE0aXfbP'pharzdTphHw7ZzTR_hDkeqG42rhTW3k_r0_9BwJUyd?yRXnBL?SRcmG0MNZWV_BjyINVYCHgeIj?y5l7CZ?oSdsHjcZzvZ4taa5_QPpMBy4i6HdwCJIOirgzKh_1sh8DThG0pEWihQnHbqOJs0lsv7zcen22A0wmf9g_'cO08JsOXhNXYW!5F0hvdUZA4vGKah1d7wW2O9IEDcgCIK'ViHFgEdU8JDEbDhxpeZv6Wqw4lRuk438CiCcX7WabjqLxisPZ3iJa9FmM87kuhcjYx1dlQMDhnUIEZ31hmEku07BNhJHOEkyZhK07FMpElJxZ2mzZsvjdLvBoAErUaGeo1p9NgHZQHj8rk0!S5LXUa?z6xloMtu2hQV5kvSLUtCczYL7zUm0tilWWy0S!7N80lAlKfRhcBAZimt4tcmGH?JdJk9N'9RZgRleiqD4OBp'JaHEAAJpBNkhceehkeJke3acMC?8Qr9FRqj6_JdN5KH8AcCnlRHnF!frkEW5Hu9ks??aTEYyEo3RFrg_!1sI7s6baat7WgM6NjoYlli7tA1qFPBdrsCd1EX9?khZM!?hjuAWRkwEfBgesTCveWALx9cBCP?k5ko?OjJC?ihcbqN_Bn_J1jIQFwNbRqIRjuHu_kbM5H?jhjYqQnW7WRfdQS0u1GyU5gKSw5_z8ncbd?d_WmEZUIdkVFX?l2!BN!kHFZlYc30ZTbnD6q!cdMDheOcvzv2Sal?d8IMbfriiMkltimtse29G3depL4oEPkR5aEHWlygOVMDbZ6ecvdk0?ac_czUkOE?F9e1m8H!8aUYnjYG7doPXkYqieTQ28iRJuUh9ORPicmbcbd'wnuvGQ7hLgnYC9aljuMejK5fYIFDtX7bO8v_iElb?2jbFLZVRB8wpb0m4UOo2EqJf!SvQKG1qfyiV4Lv!lCBQqjiJY40?GOl8btp5DGZ4dj1cn99mP4eRFMdAbgihoqRPwjkAr9dedZcaaq!xRQRgekjkrL!g20FdmDfqlEbaXuf4fb_3rjrEgAkOhZkrFZrKcbydCuwRX'aqTQg0?iYeaONX1j!fZihPkbK8bT78wkdBJ9bhl8B3gD1_dWiv3BNAihlxxirY'KQ9j5l8jBxg!CgP!SDcTbSravDUBkjoslGUSnruOf1'92NFmHiWjez4fkn4b49hR0v'fZXx'jj7n3DUKGQ5vi0GA9ET5uMCd2iloRZdASelyZSPfV9ONlj5oOBqThxGocT7nJNekmuukqkn4U7KYtsb9GSldMl9VPj_simiL2GiVfKSZdjnkbK7kroFKOdWu_yjUcO_uXwd_gdWpCPu0GiZmls!myT3HkOrgVAraIIGV?Ki!UUD?C_W6CibsPobwJ'jmbZCs0z0_FpDjCrexz!fZwVlBqkdcwSi9rcEzAulB2?uRgfXnV2fEHr2droNmkNB?r7jRPZH4yX6J2fuQyknkI8Y3ddVCZiWnyIkh'EIq5ARpLrfP5uL_vt!RDgp7GC6Xa_tvdwCAkEmJuqKb2N42Fx'0qRhY'HJOWEXIXcE7otzUYvRCcsQeJ58Wt9KbZMH7pty6guaHzhGa!a7l6hs443VfQCqWjTnP5PjYgC6iuQvDdI1wW_eJt4kHaRiwBdz!T6gKa1myayFMoXReDpddmB8?zl'N_'lOWXHQqULT4cX4YEqrztTbbCYUkn7hnFQgxbgLtZ'v3DhKd451VxXyGb11px4m9yh4c'3cXUMXdsye!B3Js_RR3MeNMO13wzD4dawv0GvpYOPAf!YZaZUnN65g?8OLbezuY6e4Zd9OCHen6lqQEmxWWn4MlChsbmPnvWocH3b2fsORBdboyAbKgVDuVjVBPr6N44rSab7RvjcuMwQa6GuYb72gPNeO7g2vFx2gveG89vrUylx1bwvsITF?IJglVt1SF'sB6OdKaYpBpQX8Rjsu2?noV'TRjE6nhkC6!bSikZvxOQlqxqjLtOTt0teTXdX2bKscuENoeJuNvB3X9Mzkhj43LbDTZ8iw'tKzoY'GIidP7zwMaO8thlYABQc8ppJjrN!0yOuIWrkHN0RnvcOf'gozPvsSH8YPbmfuUWBKuW7kL'MxCVd1HGf1UWsG7HvoxcOKCfnH2uH8ad_IF2yuZ7UkVxotXf36GbctCGOaprNCZcVB4bp'dBvylI3Nl6TDeallf?CXmC7!kxb?pssMNZRijcVH2mxMA'ONfpXsBb2l5e9hLPyj2ANeuegHOvwNAvjGNc3l_P6O2vdadCM'aH1L7Zra'WDlhr'UvhkgYsiXvFyVOaZ!CDk3PilibtFqloJ1gvsfb6Q1r3zAdtenz'mBap_XKlkvxfwz6NnrdCkT?g8p0q6jkFC3691'kvkZfXCDFE'bVbmxRlRxwsx?d9QM1YUU5hejT9sGXC1x5KcP2DzXuT?kJfSesNlXmbywbCvdaLbWgGhimHCwe6eOZHe9PoDvoh_UhdUEiuMuTtmbfC2AIiC'DMVdcJHQUg9'!qlwimVEwHNFKjIKFYc3FWA?hUFVE9VkAMbcBkUomCTXz!lJaunbSMfJLhSuNncbC9oIergeDYCMrRRj1HaGOBnsAQkz!Y?_Sw3YKdUHQInjHP3Qhh9jCxW!vXxdaia4A7rp4Eh0zGScrQVq'icgwruPu3bKg1Dy8pXVJvPgPJxC9IynQKbVGDkzOZKekdvfdOdIAdQLdO9tF51v8a5e!fCtmEeSrae3Q85vMCUhui5Y_kLR9ySle'PCf4PgqP'lklSZPmpd7Af5Uq0VT2D'GkRdW2ZhwlW_f'7UnMuO'YGfcjJDPmZ!n'ksJdTNbY4m8g_rcb0bx2ACcOeHO6f?I7?aIX'YEDgci9iK2XIMtc24WeIxD6uH8H!dczd'KztZj8Dc23AK9cunZelEfVSuRmWfLf23E9du2fcMk6!gN4mMMylhuYQ?okj!NRh9QdgjChif'bj63iu7Sb5ChfjPuMroEwyiYdX?c1INLBbTKsUn6fNmpcBp45Xuu!IUhK8Q8vmBoBAbONq2y8tz!?hHKuraC60b3lRDqXArDyiYkAZ!g1sKOcNlHh6blDT3elcYsfbg282PghszxQ4bFXOPeGdFWyBT3YniABVIpr'UVNjaH!bbKEkS5kIdfuQywaBQaIar14nkZNdbwtXI9!k?jxlCrJK8dem'Jgh9Cxd_FbxkdfHY2wX?iD?gZo4sxDpEeshBGFdy7gDKeeTpSnz0vXDzdMW!_cbzOxRcw5bW3etfX4gNxOzfV5nzldd5IsSl7QX7aQ_DiJ8MY_kdrCASe9c1BSbJ'PRLsGj4piAXJr09XXJygjyACro_VLmdYUsow1WYQdeufDlZeYrjRj'8w3r6A!sRciyejrBC_wkhd5KdVBbONabNiACuGl8lob13drj!nbqBj980Ny8SPEneIes?K037bfetmbdtQN3ZOc8nFw2QHV'HgdfkSJAgIXwgp5QkyLrZTHkIZx67sRXKnaxwcIQB!tX4bfmtiBAwHz'jOz7pq?Zyu?inuTJImqgrzd7NRoen_VDekEtszZYV?hjkqIAC1niLMebfYKUV'0!h!c5t2PUH?2kqlEuAEM6DZOShmqHXkx?1akca?eAEXPg'9iUYpEt5'tHohskBUJiRj?WdfJJgMY99_ncaHgkYvlss?cAKNYiyucqncXr2uWq5ZuffCs_C1opLWhgwBR?t2PmL5d3QK9YzU6tdcuuipvU0lsdlyzrvh1O2JBj73yUJdQEYllXrOZr3Ly6afR_B2'FP5_DbB0m1kaMTVudj8N5wKUaiFhi2DYa4HEBPaiHdIBrdvFcjj4?Pw1M3cJesgbDB6Nn6faV0f2rZ?mS8jUL7SRXXKF8b8iE5JsRuXwgLB26VdMXMmcJr8msG0VPxaGeJdDrDwNBgLEOL_Hrshhep0ySLaa2z4iOcTUHNr3THhQSw0?jmZaskP'Sg3OgWppeupVtFxIWLGg7nJejbTK1FlJ03OfAPCrBb!YsQ!Ivufgc1WYxS4vwZjj66KFV5QryilDLr5g3aHEice0RS8nvK3ceQWlzoOs_MifiIMG4EqJ7OdpJeG0EFsXLbkDqqj69GkabGt?fKKN6vlaaxyTH!Gc3sephCarvb0U7lH_2SV2i5gLfu2_OYEy8?oiOB1a5TMa8AjqtV6kaDc_fiD2byoX4ujbeYkeXt5TXQUhEY6II2dWgakRt5eHWWe43kM8FSyOUth?eaD3SSYeLOjjg6Tnxs0VDslXo2zNGWSJMcdUNOj_hsWAiF9DeMEfMNsg8P1LpuJgjjfz2pe_lu'T6eP652Dd3uI6gCukNRQACi8guxv1pUaGa7fUoyMP7N5_0dY7sJcPDHMvkOH7sudoYDxlTRwekCj'AwfNMI9dHEAzlhZ7Jppkmo?jcILQtzgyW_Pgaxo3yTxuydaye3mbWgjlqkzkjGjgcLlVaUr!fvJg0PUc3uXF526NNMbDgYgF!FWi'a7P73?5kYKPkpP_!stwEulb6ClUnI0MgclPYnB1AL0OJb'1ek8BX2xvkCY9ob6Cz9aeF'omFQt?HRhQhvp?3?8MSfXnVVgEm_Gneyj?pYgy8zehOwBi4cHm2NiLrzuTqtVoVf'z06'rlwMBk14srFlPVhEi_F6U3fA0S9itBomUSuut!liEXXU4_0kYlwhlAYmiGzWfWv!3HufUt!fqBNVcS4fvpfSVfBo52p_ojDKPltj2zUPjF3OiBFyycibVyLuAhvR4dj9PYzQpthm?jx'QTfODjWVlmIsogMzgr1e00YPp0Qv'IlWl1C5a_Gt!hBVUOBLOs4uh?!N1DfUNgueQoB4Cmt7uLfbKtWUeDeH0fhk4yoEtBabkSd'yDAsJHGc0lFYs5C1hUgE4J5q'QvpSkCqyNsKDSRigTSQePqGIxQeoMY9DIWWQcbIP9sYNVyK9ktvVvEEAnt3laWEOtDiPeFghf?oVPZ2ckbIkij0hFl3NbHRovnAcm6GdbIE64o'MY?eH!MUAcxYrydd7?0lXETgblKoHXaUoIlRd9djwhaDVSKgg!gGlEHLofaRD1LTpn6aAhuuRyLl9SzygeePBUw21aPh4Axw'yjY8fkOPUS_Vmjntc6sDVKWCUwsflWrnhJo3r'ks?gwrxb3lQbbMblMq!rs8eXZGKaJvK_TgbZYRepmWDraNSlChfK06DeqRioFReo8GahbMM34dj5edECIv0mAxKndLMre9UaANGbW8mexU7tc7huVCjxz8rz8kGSELYS!XCJbz2muN5!87FgHDh!OFaAUua3N6t2cZBsXeGtkDRRqT3!iWnDhqPGoUra_brhWxdcy_jswRG6QbY!6iwogud6pMXti7BHiRBa9uejkO_Uqsu6zAjg5w4xOb!lzk2Ib3BcKHi?cTVow7?325Ulh0SjeKM!TuijYFOxe1xdxjGkWey0kcKekEhwsfeZeABlvaz3y2O?fBjeZoCcEjlEZbfBkSYW5qiydlN2t8HIDdnj3Y5bLh'jLmaW5eHvT1mY7dc21GWvS76mlGqQh4dx2mnbIj'FERRI'Xb85UJ8Z05I0eOlVjOeD9Y0bz'O6zOdiYoerBZ4gaN5oji!'JyuZ3kTSlTk6u6?JdSxhpRGX_KNR0Cdco3o8glp2xcS6tydLH3YEkMT9DgQ24qqa5bx5PP7U9_gzBl45ayRPOir'edEP4Pycaw8X6QoX90_fufdAakhoCLhXrErwdTXKNe0IUF9ykidRgay'QV2_psigTxIzeI6jSrafdcBY1b9RdgxvyCXDh4smfdlhQhxrOsde6CIEm3OOzWk6tF7tKVABFdRDk28y60l9bnd09XqobZhlpkBxif7mkbidjAk_g_4RNkYpR5VhpKsBe0U276S9jw?aqsHDsA1MuYe8fCNaW2PEMgWbgbpmYfR?leAmsCroF3gjbN2?_XD3'iljSE0rbr_SjhFFalkkexw0hT0YJlkmXGofIvB8Il9nmia88a?b_EBBtkV1b58Dv6YBgpn8!xc?SY2dpRTrpVWcNweevK32dsOEoiN_C_ufi4UFgi3R3sDXx77abGVeh7o_i3cAugVTqPHqDatFOW0f6AOAcTv52asK0oUjZo3q9yiRLPlnCalw2Jc2TlnA_woL4iWJcMjMo_SjjUFjHvBwHR7_CYjcLWvXCmHoPiTf87IXEacycSjZQijQ!lojM4ALMZT7y?a3z?mx9hLtwjjGflbRg2k2e1q1at64yXghqYb'A0WQ5UhBb?9247O0kaY9JGgqDMKciSDbSOdKvrpgVMgb4N15c8b?1ggPTDjROhlGqG9pqEneiGhPtRWGplfaXdA!Zb1DUgc4u36Xx9eS9lOmWWp2GE6OeZIkiLmnMNmj'HzDhx!THZd712D6gN?2aaJMKUhknF_hdz8lw?511D!dCTm27h6vWv"
def k4{k:Nat}(h:k<4):`aOe:=`E
def bdS{α β:Type}{o:`SA}{f:`aOf}{r:β}(h:`aOg):`aOh:=by
 cases o with
 | none=>cases h
 | some a=>exact`aOi
noncomputable section
open PySem
def A0:=@PySem.wpAny_bind
def A1:=@PySem.PassesOwn.never
def A2:=@PySem.wpAny_pure
def A3:=@Nat.le_refl
def A4:=@Option.some.inj
def A5:=@List.mem_cons
def A6:=@PySem.Heap.lt_size
def A7:=@List.mem_cons_self
def A8:=@PySem.boot_len
def A9:=@PySem.Heap.get?_push_of_some
def B0:=@Ne.symm
def B1:=@decide_eq_decide
def B3:=@List.mem_cons_of_mem
def B4:=@List.getElem?_eq_some_iff
def B5:=@Nat.ne_of_lt
def B6:=@List.mem_map
def B7:=@Nat.le_trans
def B8:=@List.mem_append
def B9:=@Nat.zero_le
def C0:=@Bool.false_ne_true
def C1:=@Nat.lt_of_lt_of_le
def C4:=@List.getElem?_eq_getElem
def C5:=@PySem.wpAny_loadPart_at
def C6:=@PySem.Heap.get?_push_size
def C7:=@PySem.W.mg_of
def C8:=@Nat.ne_of_gt
def C9:=@PySem.wpAny_mono
def D0:=@congrArg
def D2:=@PySem.wpAny_holding
def D3:=@List.mem_of_getElem?
def D4:=@List.mem_append_right
def D5:=@List.mem_append_left
def D6:=@PySem.wpAny_field
def D7:=@PySem.W.mg_none_of
def D8:=@List.mem_range
def D9:=@Nat.lt_irrefl
def E1:=@List.nodup_cons
def E2:=@Int.emod_nonneg
def E3:=@List.mem_replicate
def E4:=@PySem.Heap.get?_update_self
def E5:=@Nat.le_succ
def E6:=@PySem.wpAny_specialOf
def E7:=@PySem.wpAny_truthy_bool
def E8:=@PySem.codeAny_builtin
def E9:=@of_decide_eq_true
def F0:=@decide_eq_true
def F1:=@beq_eq_false_iff_ne
def F2:=@PySem.wpAny_Call_Name_kw
def F3:=@PySem.mem_of_lookup
def F4:=@PySem.Heap.get?_update_other
def F5:=@PySem.W.kia_one
def F6:=@PySem.F.plainAttrs_list
def F7:=@Int.emod_lt_of_pos
def F8:=@Nat.not_lt_zero
def G0:=@beq_iff_eq
def H0:=@Nat.lt_succ_self
def I0:=@PySem.codeAny_mono
def K0:=@PySem.wpAny_newObj_type
def K2:=@Iff.rfl
def L3:=@List.mem_singleton
def L4:=@Decidable.byContradiction
def L5:=@PySem.codeAny_call_builtin
def L6:=@PySem.wpAny_typeOf
def L7:=@PySem.wpAny_call
def L8:=@PySem.wpAny_call_entry
def L9:=@PySem.wpAny_rule
def M0:=@Nat.le_of_lt
def M1:=@PySem.wpAny_passesOwn
def N1:=@PyProof.Rows.callWith_type1
def N2:=@PySem.Calls.spliced_cons
def N3:=@Nat.lt_trans
def N4:=@PySem.plainId_quiet
def N9:=@List.cons.inj
def O0:=@List.getElem_mem
def P1:=@List.mem_of_mem_drop
def P2:=@PySem.F.typeOf_object_class
def P3:=@PySem.F.slot_gs_get
def P4:=@PySem.F.excBase_ValueError
def P5:=@PySem.wpAny_setField
def P6:=@PySem.Obj.data_mapFields
def P7:=@decide_eq_false
def P8:=@PySem.wpAny_standAt
def Q1:=@PySem.Calls.spliced_nil
def Q2:=@PyProof.Rows.slot_tuple_getitem
def R1:=@PySem.typeIs_str
def S0:=@PySem.call_meets
def S2:=@Nat.lt_of_le_of_lt
def S3:=@Option.map_eq_some_iff
def S4:=@List.length_eq_zero_iff
def W1:=@List.map_congr_left
def X0:=@Array.getElem?_eq_getElem
def X1:=@List.mem_map_of_mem
def X2:=@Int.ofNat.inj
def Y1:=@PySem.Heap.get?_none_of_le
def Y2:=@PySem.Obj.isFreed_of_fields
def Y3:=@Nat.le_of_eq
def a8:=@PySem.W.methodCall_KW
def b4:=@PySem.wpAny_callSpecial?_slot
def b5:=@PySem.typeIs_int
def b6:=@PySem.Heap.SameBut.update
def c5:=@PySem.wpAny_updateSeq
def c6:=@PySem.F.slot_list_append
def c9:=@PySem.F.type_list_append
def d4:=@Nat.le_add_right
def d5:=@Prod.mk.inj
def d6:=@List.nodup_nil
def f8:=@List.mem_of_mem_take
def g9:=@Nat.succ_le_succ
def i3:=@PySem.Code.quiet_builtin
def i4:=@PySem.F.slot_NoneType_hash
def i5:=@PySem.F.slot_tuple_hash
def i6:=@List.ext_getElem
def i7:=@PySem.SeqAt.EqAt.same
def i8:=@PySem.SeqAt.EqAt.int_str
def j0:=@PySem.SeqAt.EqAt.str_int
def j3:=@PySem.wpAny_seqItems
def k6:=@List.getElem?_eq_none_iff
def k7:=@List.mem_filter
def k8:=@PySem.W.callWith_K
def l4:=@PySem.concat_meets
def l6:=@PySem.wpAny_point
def l7:=@PySem.tupleKind_room_in1
def l9:=@PySem.F.slot_zip_next
def m4:=@PySem.F.plain_extend_loop
def n5:=@List.contains_iff_mem
def n9:=@Classical.choose_spec
def o0:=@List.mem_iff_getElem
def o3:=@List.not_mem_nil
def r8:=@List.any_eq_true
def r9:=@PySem.F.plain_any_loop
def t5:=@PySem.wpAny_isSubtype_exc
def t9:=@PySem.wpAny_pyHash_int
def u1:=@PySem.wpAny_pyHash_str
def u2:=@PySem.wpAny_forIn_list
def u3:=@PySem.SeqAt.EqAt.none_int
def u4:=@PySem.SeqAt.EqAt.none_str
def u7:=@PySem.SeqAt.EqAt.int_none
def u8:=@PySem.SeqAt.EqAt.int_int
def v3:=@PySem.SeqAt.EqAt.str_none
def w8:=@PySem.SeqAt.EqAt.str_str
def x0:=@PySem.SeqAt.RcAt.tuples
def x3:=@PySem.wpAny_isInstance
def x4:=@List.getElem_inj
def x6:=@PySem.wpAny_execs_nil
def x8:=@PySem.W.plainGet_of
def x9:=@PySem.Heap.size_push
def y0:=@PySem.W.callWith_K0
def y4:=@List.of_mem_zip
def y6:=@PySem.noFill_tuple_add
def y8:=@PySem.seq_tuple_add
def y9:=@PySem.F.slot_tuple_add
def A00:=@PySem.F.entry_tuple_add
def A10:=@PySem.F.args_tuple_add_2
def A20:=@PySem.wpAny_sequenceKey
def A40:=@PySem.slot_list_getitem
def A50:=@PySem.Calls.callWith_builtin
def A60:=@PySem.Calls.evalArgs_plain
def A70:=@Nat.le_of_not_lt
def A80:=@PySem.wpAny_loadPart'
def A90:=@PySem.wpAny_nextOf_list_item
def B00:=@List.mem_iff_getElem?
def B20:=@List.getElem?_set_self
def B30:=@List.map_fst_zip
def B40:=@List.ext_getElem?
def B50:=@List.mem_flatMap
def B60:=@List.mem_flatten
def B70:=@List.length_set
def B80:=@Nat.succ_pos
def D70:=@PySem.wpAny_callSpecialIfBoundUnlessNone?_slot
def E00:=@List.getD_eq_getElem?_getD
def E90:=@PySem.Calls.Name_function_global
def I00:=@PySem.plainObj_wpAny_Assign_Attribute
def a20:=@PyProof.Rows.callWith_builtin1
def a30:=@Nat.min_le_right
def hm0:=@PySem.wpAny_getItem_list_slice
def hy0:=@PySem.wpAny_comprehension_free
def kt0:=@Bool.eq_false_iff
def n50:=@PySem.F.slot_list_extend
def nb0:=@PySem.F.type_list_extend
def ne0:=@PySem.F.slot_list_pop
def np0:=@PySem.F.type_list_pop
def nx0:=@PySem.SeqAt.ne_of_list_tuple
def ok0:=@PySem.SeqAt.RcAt.lists_lengths
def r20:=@PySem.SeqAt.RcNeAt.lists_lengths
def r50:=@Nat.lt_succ_of_lt
def sc0:=@Array.getElem?_eq_none
def w30:=@PySem.F.slot_int_mul
def x50:=@PySem.F.slot_dict_setdefault
def x60:=@List.length_pos_iff
def x70:=@List.all_eq_true
def x80:=@List.take_prefix
def xf0:=@List.length_range
def y10:=@Decidable.not_not
def A31:=@List.length_filter_le
set_option Elab.async false
set_option linter.all false
set_option maxRecDepth 100000
namespace XC
def rf0:`i:=[`sx, `qK, `aOj]
variable{tl us:`N}{b o e tg iter value elt ke ve:`K}{prog:`aj}{A:`ck}{E Q:`ap}{a it dx fa I z i1 i2 l1 l2 L rr:`d}{n i m t' j k1 k2 x1 M kd:Nat}{y x name c qual x2 cn:Str}{v u doc pm cdv ct oc vl vu:`A}{tk:Tok}{expr:`B}{mg mA:`a2}{cs rs N ps loose N' F pool:`i}{od an:`bp}{K:`y}{h' base:`D}{α β κ:Type}{pins:`az}{ch fp as as' ls:`aK}{s':`v}{pos pos' tpos apos p2 cpos py spos px pos2 np pc hp tp p0 lpos lp:Pos}{ys:`a8}{es ifs elts:`bB}{kw:`tD}{fd:`fK}{sc scope:`c1}{XP:`GT}{YP:`GU}{osl:`j?}{caps idx pre:`j}{keys:`zB}{oa:Obj}{suite:`bb}{b₀:`aO}
abbrev bmV:`N:=[`bj `CR,`bj "Exception",`bj `abK,`ajJ]
inductive Row (h:`D):`aOk
 | end:Row h bmV
 | own {C:`d} {cls:`A} {dd:`bp} {cd:ClassData} {sl:`j?} {m:`a2} {tl:`N}:
   `f! C=`aOl cls `acQ->h.Ns `OW m->(∀n∈rf0,m n=`e)->`ajK->`aOm
structure Cl(h:`D)(C:`d)(tl:`N):Prop where
 obj:∃(nm q:Str) (N:`d) (bs:`N) (hdct:`B) (sn:`i) (sub:`N) (ab:`B) (col:`rR) (dd:`bp) (k0 k1 k2 k3 k5:`gV) (newId:`bE),
  `aN? newId
 row:`aOm
def Row.has{h:`D}(r:`ajK){T:`bE}{b:`B}(hb:`SB):`aHM `mY=b:=by
 induction r with
 | «end»=>exact hb
 | own _ _ _ _ ih=>rw[`ajL,ih];rfl
section
variable{w:`M}{h:`D}{g:`j_}{d:`nM}{t:Nat}{os:`um}{C:`d}{o:Obj}
def Row.along{M:`eM}{n:Str}{y:`gV}{Q:`qL}(hn:n∈rf0)(hy:`aOn)(hq:Q y `e')(r:`ajK):`GV (`aFD tl n):=by
 induction r with
 | «end»=>rw[hy];exact A2 hq
 | own h1 h2 h3 _ ih=>
  rw[`aOo];apply `iR wpAny_classOwn_cls h1 h2;rw[h3 n hn];exact ih
def Cl.look{M:`eM}{n:Str}{y:`gV}{Q:`qL}(c:`dP)(hn:n∈rf0)(hy:`lq `GW n=`bW y)(hq:Q y `e'):`GV (`lq `bl n):=by
 skip;let#[nm,q,N,bs,Y,sn,sub,ab,Z,dd,k0,k1,k2,k3,k5,U,hC]:=`yt;have O:`aOn:=by
  rw[`ajM,F.excBase_ValueError.mroIs] at hy;exact hy
 done;rw[`ajM];exact A0 (`aOp hC (c.row.along hn O hq))
def Cl.sub{M:`eM}{Q:`ajN}(c:`dP)(hq:Q (`sk v) `e'):`GV (`ajO `bl v):=by
 skip;apply `aOq;done;exact t5 hC hq
def Cl.isT(c:`dP):`aOr:= by
 skip;apply `aOq;done;exact`aOs
def Cl.hasT(c:`dP){T:`bE}{b:`B}(hb:`SB):`sk `mY=b:=(c.row.has hb)
def Lu0:`lq `GW `sx=`aOt:=`zC
def n1:`ajP `sx:=(`aeC)
def n2:`ajP `qK:=(`aOu)
def n3:`ajP `aOj:=(`Pd _ (`aOu))
def get_class{R:`ka}(c:`dP)(hx:`hh)(hc:`kb)(hq:`aOv):
  `qI (`nk `aOw #[[`yu,`a',`eU],[]]) `e':=by
 have ty:`aeB (`yu) `ajQ:= P2;have O:`sk `aOx=`f:=`o `aOy `ajR
 refine `aOz ty
 repeat (any_goals (first|apply `hC|apply `lF|(apply `Rw O)|wp_step))
 apply `aOA;delta Builtin.«object.__class__»
 apply `aOB
def Ph0{tk:Tok}{Q:`un}(c:`dP)(hx:`hh)(hc:`kb)(hq:Q (`qd `aFE) `e'):
  `iS (`ajS `aOC):=by
 have ty:`aeB (`yu) `ajQ:= P2;have f5:=P2;have f6:=P3.lookup;have f7:=`aOD
 repeat (any_goals (first|apply `hC|apply `lF|apply `CI (`ai_ n1 Lu0 ?_)|wp_step))
 refine get_class c hx hc ?_
 apply `aOE
def Zx0{M:`eM}{Q:`dQ}(c:`dP)(hx:`hh)(hc:`kb)(hq:`aOF):`GV (`GX `yh #[[`a',v],[]]):=by
 have k1:builtinKind `yh=`c .slot:=`bc
 have k2:splitId `yh=`c (`abK, `qK):=`bc
 have k3:`aOG:=`ajR;have k4:=F.args_bexc_ga `cf v;simp only[`GX,k1,k2];refine `sF;delta isInstance
 repeat (first|apply `lF|(apply `Rw k3)|wp_step)
 exact hq
def Qk0{tk:Tok}{R:`ka}(c:`dP)(hx:`hh)(hc:`kb)(hq:`aOv):
  `aOH `aOC:=(
 L5 `aOI `aOJ (Zx0 c hx hc (Ph0 c hx hc hq)))
def Mo0{tk:Tok}{fill expr:`B}(c:`dP)(hx:`hh)(hc:`kb)(hq:Q `bl `e'):
  `iS (`ajT `cf (`Pe) fill expr):=by
 apply `aOK;apply `aOL
 have z2:`aOM:=`bc
 apply `aON
 apply `aOO
 refine Qk0 c hx hc ?_
 apply `aOE
def bm0{Q:`qL}(c:`dP)(hx:`hh)(hc:`kb)(hq:Q (`wq) `aOP):`iS (getAttr? `cf `sx):=by
 delta getAttr? getAttrBy?
 repeat (any_goals (first|apply `hC|apply `ajU Mo0|wp_step))
omit z
section
variable{w:`M}{h:`D}{g:`j_}{d:`nM}{t:Nat}{os:`um}{C W:`d}{o:Obj}{tw:`N}
def La0:`aOQ:=`bO
def Lk0{dep:Int}{tk:Tok}{Q:`un}(c:`dP)(cw:Cl h W tw)(hx:`hh)(hc:`kb)
  (hq:∀t',Q (`qd `aOR) `aOS):
  `iS (`aOT #[[`a',`U W,`aOU],[]]):=by
 skip;let#[b3,qW,NW,c1,a2,d3,a5,c0,a4,b1,e4,a7,c2,e1,c3,Y,O]:=cw.obj;let#[c8,qC,NC,d1,a1,c4,a6,b2,a3,e3,e0,e7,e5,d2,e6,Z,U]:=`yt;have hW:=`aeD cw.isT t;have a9:=`aeD cw.isT (t+1);have e8:=`aOV
 by_cases e:C=W
 ·subst e
  rw[La0] at hq;have z:=hq t;have s1:(`oQ==`oQ)=`f:=`bO
  done;apply `aOB
 ·have s1:(`oQ==`e1 W)=`l:=by simp[e]
  cases hb:`Gr with
  | true=>
   rw[hb] at hq;have z:=hq t
   done;repeat (any_goals (first|apply `hC|apply `lF|apply `GY|apply `ajV|apply `SC|wp_step))
  | false=>
   rw[hb] at hq;have z:=hq (t+1)
   done;repeat (any_goals (first|apply `hC|apply `lF|apply `GY|apply `ajV|apply `SC|apply `ajU bm0|wp_step))
def Nm0{T:`bE}{b:`B}{dep:Int}{tk:Tok}{Q:`un}(c:`dP)(hx:`hh)(hc:`kb)(hty:`ajW)(hT:`SB)
  (hq:∀t',Q (`qd `aOW) `aOS):
  `iS (`aOT #[[`a',`bj T,`aOU],[]]):=by
 skip;let#[a4,qC,NC,a5,Y,a3,a1,a2,Z,a9,a7,b3,b1,a6,b2,U,O]:=`yt;have c0:=`aOV;have s1:(`oQ==`nz T)=`l:=`bO
 have hb:=c.hasT hT;cases b with
 | true=>
  have z:=hq t
  done;repeat (any_goals (first|apply `hC|apply `lF|apply `GY|apply `SC|wp_step))
 | false=>
  have z:=hq (t+1)
  done;repeat (any_goals (first|apply `hC|apply `lF|apply `GY|apply `SC|apply `ajU bm0|wp_step))
omit z
section
variable{w:`M}{s:`v}{C W:`d}{o:Obj}{tw:`N}
def Fo0{Q:`ap}(c:`aOX)(cw:Cl `ay W tw)(hx:`FA)(hc:`kb)
  (hq:∀t',Q `aLw `aeE):`cL (`eH `GZ `aOY) s:=by
 refine `aOZ `aOR;let#[rfl,hr]:=hs;let#[h,g,d,t,os]:=s';exact `aO_ (Lk0 c cw hx hc `aO0) `aO1
def Ml0{T:`bE}{b:`B}{Q:`ap}(c:`aOX)(hx:`FA)(hc:`kb)(hty:`ajW)(hT:`SB)
  (hq:∀t',Q `Pg `aeE):`cL (`eH `GZ [`a',`bj T]) s:=by
 refine `aOZ `aOW;let#[rfl,hr]:=hs;let#[h,g,d,t,os]:=s';exact `aO_ (Nm0 c hx hc hty hT `aO0) `aO1
def Tj0{h:`D}{g:`j_}{d:`nM}{t:Nat}{os:`um}{M:`eM}{Q:`ajN}(c:`dP)(cw:Cl h W tw)(hx:`hh)(hc:`kb)
  (hq:Q (`Gr) `e'):`GV (excMatches `cf `CQ):=by
 skip;let#[a4,qW,NW,a6,Y,b1,a1,a5,Z,a3,b3,a2,a7,b2,a9,O,U]:=cw.obj;have hB:(`e1 W::tw).contains `Pf=`f:=cw.hasT `c7;have f:=tc_notTuple;done;delta excMatches
 repeat (first|apply `lF|apply `ajV|apply `Cb (cw.sub ?_) hB|with_reducible apply `aB?|wp_step)
 cases hb:`Gr<;>(rw[hb] at hq;wp_walk;exact hq)
omit z
omit XC
variable{tl us:`N}{b o e tg iter value elt ke ve:`K}{prog:`aj}{A:`ck}{E Q:`ap}{a it dx fa I z i1 i2 l1 l2 L rr:`d}{n i m t' j k1 k2 x1 M kd:Nat}{y x name c qual x2 cn:Str}{v u doc pm cdv ct oc vl vu:`A}{tk:Tok}{expr:`B}{mg mA:`a2}{cs rs N ps loose N' F pool:`i}{od an:`bp}{K:`y}{h' base:`D}{α β κ:Type}{pins:`az}{ch fp as as' ls:`aK}{s':`v}{pos pos' tpos apos p2 cpos py spos px pos2 np pc hp tp p0 lpos lp:Pos}{ys:`a8}{es ifs elts:`bB}{kw:`tD}{fd:`fK}{sc scope:`c1}{XP:`GT}{YP:`GU}{osl:`j?}{caps idx pre:`j}{keys:`zB}{oa:Obj}{suite:`bb}{b₀:`aO}
namespace XC
open PySem.W
def Rp0(K:`cR):`N->`B
 | []=>`l
 | v::r=>(v::r)==bmV||match v with
  | `U A=>(match `hs A with
   | `c #[_,_,`acQ,_]=>`aFJ&&rf0.all (λn=>nsIn K `OW n==`gX)&&Rp0 K r
   | _=>`l)
  | _=>`l
def M20{K:`cR}{h:`D}(X:`go):∀{l:`N},Rp0 K l=`f->Row h l:=by
 intro z;induction z with
 | nil=>intro e;cases e
 | cons v r ih=>
  intro e
  delta Rp0 at e;rcases Bool.or_eq_true_iff.mp e with q|q
  ·rw[`aO2 q]
   exact .end
  ·split at q
   ·split at q
    ·rename_i ho
     simp only[`b5,`uo,`s7] at q;exact `kO (`aeG) (`aHX (`aHY X q.1.1)) (λn hn=>`aO3 X q.1.1 (q.1.2 n hn)) (ih q.2)
    ·cases q
   ·cases q
def clB(K:`cR)(C:`d)(tl:`N):`B:=match `hs C with
 | `ajX=>(match `ajY with
  | [_,_,_,_,`c (`b6 _),_]=>`aFH&&`aFI&&Rp0 K (`aed)
  | _=>`l)
 | _=>`l
open T in
def Jv0{K:`cR}{h:`D}{C:`d}(X:`go)(e:clB K C tl=`f):`dP:=by
 delta clB at e;split at e
 ·apply `ajZ
  split at e
  ·apply `aj_
   apply `aj0;let#[#[hm,O],hr]:=e;let#[nm,bs,mro,ns,qn,hd,sn,sub,ab,Y,Z]:=cd;dsimp only at hm O;subst hm O;have U:sl=(`aLx n):=by
    let#[l]:=sl;simp only at hs;rw[hs]
   subst U;exact#[#[nm,qn,ns,bs,hd,sn,sub,ab,Y,dd,k0,k1,k2,k3,k5,_,`aeG],M20 X hr]
  ·cases e
 ·cases e
structure Rs(h:`D)(C:`d)(tl:`N):Prop where
 obj:∃(nm q:Str) (N:`d) (bs:`N) (hdct:`B) (sn:`i) (sub:`N) (ab:`B) (col:`rR) (dd:`bp) (k0 k1 k2 k3 k5:`gV) (mN:`a2),
  `aO4 `e
def rsB(K:`cR)(C:`d)(tl:`N):`B:=match `hs C with
 | `ajX=>(match `ajY with
  | `aO5=>`aO6&&`aO7==`gX
  | _=>`l)
 | _=>`l
open T in
def z61{K:`cR}{h:`D}{C:`d}(X:`go)(e:rsB K C tl=`f):Rs h C tl:=by
 delta rsB at e;split at e
 ·apply `ajZ
  split at e
  ·apply `aj_
   apply `aj0;let#[#[#[#[#[hm,rfl],O],ht],hok],U]:=e;apply `aO8;dsimp only at hm O hok U;subst hm O;have Y:`aO9:=by
    let#[l]:=sl;simp only at hs;rw[hs]
   subst Y;exact#[(`aO' `aO3 hok)]
  ·cases e
 ·cases e
def Dd0(K:`cR)(r:`d)(c:Str):`B:=match `up with
 | `rP=>clB K C `yv
 | _=>`l
def Cy0(K:`cR)(r:`d)(c:Str):`B:=match `up with
 | `rP=>rsB K C `yv
 | _=>`l
def Ki0(K:`cR)(root:Str)(cs rs:`i):`B:=match `aO! with
 | `c (`aj1)=>clB K r bmV&&cs.all (Dd0 K r)&&rs.all (Cy0 K r)&&`aO? λc=>`aO? λc'=>c==c'||!(`up==`aPa)
 | _=>`l
structure At(K:`cR)(mg:`a2)(c:Str)(C:`d)(tl:`N):Prop where
 mg:`aPb
 ns:`up=`rP
 cl:`xA `dP
structure Tab(K:`cR)(mg:`a2)(root:Str)(r:`d)(cs rs:`i):Prop where
 top:At K mg `fd r bmV
 all:∀c∈cs,∃C,`aPc
 rai:∀c∈rs,∃C,`up=`rP/\`xA (Rs h C `yv)
 diff:∀c∈`aeH,∀c'∈`aeH,`up=`aPa->c=c'
open T in
def tab_of{K:`cR}{h:`D}{root:Str}(X:`go)(G:`zD)(e:Ki0 K `fd cs rs=`f):∃r,`aPd:=by
 delta Ki0 at e;split at e
 ·rename_i r hr
  apply `uq `b5 `uo;let#[#[#[h1,h2],h3],h4]:=e;refine#[r,#[#[mg_of X G hr,hr,λh X=>Jv0 X h1],`G_,`G_,λc hc c' O q=>?_]]
  ·have q:=h2 c hc
   delta Dd0 at q;split at q
   ·rename_i C hC
    exact#[C,mg_of X G hC,hC,λh X=>Jv0 X q]
   ·cases q
  ·have q:=h3 c hc
   delta Cy0 at q;split at q
   ·rename_i C hC
    exact#[C,hC,λh X=>z61 X q]
   ·cases q
  ·have z:=h4 c hc c' O
   rw[q] at z;simp only[`zE,`aPe,`SD,`s7] at z;exact z
 ·cases e
structure Ri(h:`D)(C:`d)(tl:`N)(f:`d):Prop where
 obj:∃(nm q:Str) (N:`d) (bs:`N) (hdct:`B) (sn:`i) (sub:`N) (ab:`B) (col:`rR) (dd:`bp) (k0 k1 k2 k3 k5:`gV) (mN:`a2),
  `aO4 `LL
 fn:∃o,`f! f=`aG/\`oC=`wn
section
variable{w:`M}{h:`D}{g:`j_}{d:`nM}{t:Nat}{os:`um}{C f:`d}
def P20{rest:`N}{Q:`un}(r:`aj2)
  (hq:`aPf A (`qd (`kP `iz))) (hrest:`aPg):
  `iS (Builtin.«type.__call__» `aPh):=by
 skip;let#[nm,q,N,bs,a5,sn,sub,ab,a6,dd,k0,k1,k2,k3,k5,mN,hC,hn,hi,ht]:=r.obj;let#[oI,a4,a2]:=r.fn
 done;repeat (first|apply `SE|apply `CI (wpAny_madeBy_exc hC ?_)|wp_step)
 refine codeAny_call_builtin_code (i3 _ P4.quiet) (wpAny_check_new_subU P4 `c7 ht hC ?_);refine codeAny_exc_new_subU P4 `c7 P4 ht hC ?_ hrest;show `dN _ _;obtain⟨h1,e1⟩:∃h1,h1=(h.push `aPi).push `aPj:=`Y;have kp:`qM `aPk:=λb o z=>`o e1 (A9 _ (A9 _ z))
 have O:`p4 (`dB+1)=`c `aPj:=by rw[e1];heap_get
 have Y:`p4 `dB=`c `aPi:=`o e1 (A9 _ `aPl)
 rw[← e1];have U:=kp _ _ hC;have Z:h1.Ns N mN:=hn.keeps kp;have a3:=kp _ _ a4;have a1:`aOQ:=`bO
 delta isInstance
 repeat (first|apply `GY|apply `Cb (t5 U ?_) a1|wp_step)
 show `dN (`lq `bl _) _;rw[`ajM];apply `lI `aOp U;rw[`aOo];apply `iR wpAny_classOwn_exc U Z;rw[hi];refine A2 (D2 `SF);delta bindSpecial;refine A0 (L6 (T:= `wA) #[_,a3,a2] ?_);rw[`SG];refine A2 (A0 (C9 (hq h1 (`dB+1) #[kp,Y1 (E5 _),`dB,O,Y1 `bQ,Y]) (λr s' hr=>?_) `ur));let#[rfl,hQ]:=hr
 wp_walk
 exact hQ
def P90{rest:`N}{Q:`ap}(r:`aj2)
  (hq:`aPf (`aEV (`b6 `aEW `aPh)) `iz) (hrest:`aPg):
  `iS (`eH `bl `aA):=by
 skip;let#[nm,q,N,bs,O,sn,sub,ab,U,dd,k0,k1,k2,k3,k5,mN,hC,hn,hi,ht]:=id r.obj;have f1:=tc_lookup;have f2:=tc_bind `bl;have hT:`aOr:= `aOs;done;refine L7 (`aPm);show `dN (callAny `bl _) _
 repeat (any_goals (first|apply `hC|apply `SE|wp_step))
 refine`SH;exact codeAny_call_builtin_at (`aLv) entry_typeCall (wpAny_check_type_call_sub hC (P20 r hq hrest))
omit z
def Raw(h:`D)(e:`d)(C:`d)(od:`bp):Prop:=∃oe vs,`aj3/\`aPn/\`aj4/\`zF/\`SI/\`aPo/\∃t0,vs[0]?=`c (`U t0)
section
variable{w:`M}{h:`D}{g:`j_}{d:`nM}{t:Nat}{os:`um}{C e:`d}
def Oh0{v:`A}{Q:`ap}(c:`dP)(raw:Raw h e C od)
  (hq:∀h',Raw h' e C od->(∀b o,`EX->`P7)->Q `aY `aFM):
  `iS (`eH `aHH `aj5):=by
 skip;let#[oe,vs,he,hc,U,hd,Z,h1,t0,h0]:=raw;have hB:`sk `GW=`f:=`ajR;let#[nm,q,N,bs,a3,sn,sub,ab,a4,dd,k0,k1,k2,k3,k5,a2,hC]:=`yt;have Y:=P4.noStar;done;refine L7 (L5 F.excBase_ValueError.init.plain P4.initEntry ?_);have a1:∀{Q:`dQ},`aOF->∀{A:`ck} {E:`ap},`iS (`GX `aeJ #[`aj5,[]]):=λ{Q} hQ {A E}=>by
  simp only[`GX,F.excBase_ValueError.initKind,F.excBase_ValueError.initSplit,F.excBase_ValueError.initRow]
  repeat (first|apply `Cb (C5 he ?_) hc|apply `SE|(apply `Rw hB)|wp_step)
  exact hQ
 refine a1 ?_;have O:=A9 (h:=h) (`tw ⟨v⟩) he;delta Builtin.«BaseException.__init__»
 apply `aj6
 rw[hd]
 apply `aj6
 rw[h0]
 apply `aj6
 have nT:`dB≠e:=C8 (A6 he);have d3:=P6 hd (`Qa 0 `agd);refine hq _ #[_,_,E4 _ O (Y2 d3),(`aPp).trans hc,?_,d3,by simp[Z],?_,`dB,by rw[Array.getElem?_setIfInBounds_self_of_lt `n]] λb o n z=>?_
 ·rw[← U]
  let#[c',d',dt,x]:=oe;cases dt<;>rfl
 ·rw[Array.getElem?_setIfInBounds_ne `u]
  exact h1
 ·apply `aPq
  exact A9 _ z
omit z
open PySem.W Builtin Builtin.ObjectAttr
section
variable{w:`M}{s:`v}{K:`cR}{x C r:`d}{cd:ClassData}{R:`ka}
def M30{ox:Obj}{od:`aj7}{tk:Tok}{v:`A}(X:`qN)(I:`ab3 `ay x ox C od)(hc:`aPr)(hm:`yi=`aj8)(hna:`aPs)
  (h:`aN `dt `g1 (storeInOwnDict `qE `bl (`SJ) `dc v `l)
   `aj9 `aj' s):
  `qI (`nk (`b6 `Nt) #[[`K8,`SJ,v],[]]) s:=by
 have SF:=PySem.F.store_ValueError;have ne:cd.mro.isEmpty=`l:=`aPt
 have has:(`oQ::`e1 r::bmV).contains (`ajJ)=`f:=`fg bmV
 have sub:Looks `dt `ay (isInstance `qE (`ajJ)) `f:=I.type.andThen (looks_mroIn X (by delta mroIn;rw[hc,`h,`Q (`qO ne),hm,has]));refine L5 SF.slot.plain SF.entry (@check_slot `dt _ _ s `Nt `acO `OR `qE [`SJ,v] [] _ SF.kind SF.split sub (SF.args `qE (`SJ) v) ?_);have O:Looks `dt `ay (mroOf `bl) `yi:=(`aPu).andThen .now;have ps:refuseLoop `qE `OR bmV=`bW ():=SF.passes _;rw[osa_eq,refuse_eq];refine A0 (`lJ `aPv (O.here ?_));rw[hm,`aPw,`aPw,ps];refine A2 (`lJ `aPv ((looks_findIn X hna).here (`G0)));exact h
def Mh0{Q:`dQ}{ox:Obj}{v:`A}(X:`qN)(I:`ab3 `ay x ox C `e)(hc:`aPr)(hm:`yi=`aj8)(hd:`aPx)(hna:`aPs)
  (hs:`aPy=`ac0)
  (h:∀h' dx t',`es dx=`e->`SK->h'.Ns1 dx (λy=>`w (y=`dc) `bR `e)->`id x=`c { ox with dict:=`sw }->(`Fy `zG)->Q () `pK):
  `aPz:=by
 refine set_plain X I hs (M30 (s:=`np) X I hc hm hna ?_);have hx:=I.at_;have a2:=I.cls;have a3:=I.no;have a1:=I.dict;let#[oc,a9,U,osl]:=ox;dsimp only at a2 a1;subst a2;cases a9 with
 | some _=>exact a1.elim
 | none=>
  refine `lJ A2 (`aPA Looks.here (`aPu));rw[hd,`d6];dsimp only;rw[`Q (`fg typeHasDict)];split
  ·cases a3
  ·have Y:(`SL).get? x=`c #[`eU,`e,U,osl]:=A9 _ hx
   have O:x≠`Z:=B5 (A6 hx);refine A0 (wpAny_alloc (s:=`np) ?_);refine A0 (wpAny_update (s:=(`h_ `SL `wb)) Y ?_);refine A2 (a:=`aj!) ?_;obtain⟨h1,e1⟩:∃h1,h1=(`SL).update x λo=>{ cls:=`oC,dict:=`aj!,data:=`p0,slots:=`G1 }:=`Y
   have a4:`p4 `Z=`c `abS:=by
    rw[e1];exact(`aPB _ _ _ _ O.symm).trans `aPl
   have b1:h1.Ns `Z (`zH):=#[_,⟨⟩,_,a4,rfl,`aPC,`gK];have a6:=(Heap.get?_some_iff.mp hx).2;have a5:`p4 x=`c #[`eU,`aj!,U,osl]:=by
    rw[e1];refine E4 _ Y ?_;apply `t8 U a6
   have oth:∀b o,`zG->`hp->`aPk:=λb o n z=>by
    rw[e1];exact(`aPB _ _ _ _ n).trans (A9 _ z)
   show `dN (storeInDict `Z (`r `dc `cK) `dc v) _;rw[← e1];delta storeInDict newKeyGuard;refine `lJ A2 (`aPD (`aPE b1) λh' Z hs=>?_);let#[oD,c1,c0,b3,a7,b2]:=Z.count (Within.cons `dc v Within.nil);apply `iR `aPF b3 (`o a7 (`aPG (B7 b2 (by rw[`an,`jn,`zI];lia))));exact A2 (h h' `Z _ (Y1 `bQ) O.symm Z (`zJ x O a5) λb o n z=>(`sf b (B5 (A6 z))).trans (oth b o n z))
omit z
omit XC
namespace KfT
def sl:Slot `wA `qK `aFc:= by
 refine .of (owner:= `acO) (n:= `qK) ?_ `c7 `c7 `c7 ?_ ?_
 ·apply `aBr;kernel_rfl
 ·first|exact `m `c7|exact `p `c7
 ·rw[`aj?];kernel_rfl
def lk:`lq `qP `sx=`aOt:=`zC
def ow:`ajO `qP `aOx=`ael:=by
 rw[`aOy,`aj?];kernel_rfl
section
variable{P:`aj}{W:`M}{X:`ap}{s:`v}{f:`d}{y:Obj}
def gs{R:`ka}(e:`aPH)(c:`SM)(q:`qQ `qP s):
  `oE `SN A (`nk `aOw #[[`yu,`KW,`wn],[]]) R s:=by
 apply `aka;apply `akb;have z2:=ow;refine `aOz P2
 apply `zK
 apply `aOA
 apply `zK
def ga{tk:Tok}{R:`un}(e:`aPH)(c:`SM)(q:R (`qd (`kP `qP)) s):
  `aN `SN A (`ajS #[[`KW,`Pe],[]]) R X s:=by
 apply `aka;apply `akb;have z2:`aDr (`yu) `ajQ:= P2;have z3:=lk;have z4:=P2;have z5:=P3.lookup;have z6:=`aOD
 apply `zK
 refine gs e c ?_
 apply `zK
variable{hh:`D}{gg:`j_}{dd:`nM}{tt:Nat}{oo:`um}
def by'{R:`ap}(e:`aPI)(c:`SM)(q:R `qP `OP):`aN `SN A (`ajT `e6 (`Pe) `l) R X `OP:=by
 apply `akb;have z2:=sl.lookup;have z3:=sl.bind `e6
 apply `zK
 refine L5 sl.plain F.entry_object_getattribute (sl.check _ _ _ _ _ _ _ _ z1 (F.args_object_getattribute_2 _ _) (ga e c ?_))
 apply `zK
def at'{R:`qL}(e:`aPI)(c:`SM)(q:R (`c `qP) #[hh,gg,dd,tt+1,oo]):`aN `SN A (getAttr? `e6 `sx) R X `OP:=by
 delta getAttr? getAttrBy?
 repeat (any_goals (first|assumption|with_reducible apply by' e c|wp_step))
omit z
def kit{f:`d}:W.KitX K `e6 `qP (W.KitAt f `wA):=(W.kitx_of W.kitAt_ty λ{_ _ _ _ _ s} p k=>by
 skip;apply `aka;let#[_,e,c]:=p;done;exact at' e c k)
omit KfT
open Y
abbrev Key:=`ac5
def fx0:Key->`aPJ
 | `m k,v=>`aPK k v
 | `qR,v=>`aPL x v
variable{ks:`aPM}
def xl1(w:`M):Key->Int
 | `m k=>hashInt k
 | `qR=>hashStr w x
theorem uv0:∀{k:Key} {v:`A},fx0 k v=`f->(∃i t,k=`ts i/\v=`abR i t)∨(∃x t,k=`DR x/\v=`O! x t)
 | `m i,v,h=>by
  let#[t,e]:=Value.isInt_shape (k:=i) (v:=v) h;exact `m #[i,t,rfl,e]
 | `qR,v,h=>by
  let#[t,e]:=Value.isStrOf_shape (x:=x) (v:=v) h;exact `p #[x,t,rfl,e]
def Pf0(i:Int)(t:Tok):fx0 (`m i) `yk=`f:=by simp[fx0,`aPK]
def N80(x:Str)(t:Tok):fx0 (`qR) `SO=`f:=by simp[fx0,`aPL]
def Bx0(a b:Int):`X (`aPN)=(a==b):=by
 by_cases e:a=b
 ·subst e;simp
 ·have h:¬`aPN:=λq=>e (Sum.inl.inj q)
  rw[`iT];exact(`nN e).symm
def Bz0(a b:Str):`X (`aPO)=`aIY:=by
 by_cases e:a=b
 ·subst e;simp
 ·have h:¬`aPO:=λq=>e (Sum.inr.inj q)
  rw[`iT,`G2]
def Db0(a:Int)(b:Str):`X (`aFP=`DR b)=`l:=(`aPP)
def Dj0(a:Str)(b:Int):`X (`aFQ=`ts b)=`l:=(`aPP)
def u20(prog:`aj)(w:`M):PySem.KeyKind `m5 w Key where
 is:=fx0
 hash:=xl1 w
 inj:=λv a b ha hb=>by
  rcases uv0 ha with⟨i,t,rfl,rfl⟩|⟨x,t,rfl,rfl⟩
  ·apply `aPQ
   ·apply `akc;rw[e1]
   ·exact nomatch e
  ·apply `aPQ
   ·exact nomatch e
   ·apply `akc;rw[e1]
 byValue:=λk v h=>by
  rcases uv0 h with⟨i,t,rfl,rfl⟩|⟨x,t,rfl,rfl⟩<;>rfl
 pyHash:=λhv h=>by
  rcases uv0 hv with⟨i,t,rfl,rfl⟩|⟨x,t,rfl,rfl⟩
  ·exact t9 h
  ·exact u1 h
 eqBool:=λhu hv h=>by
  rcases uv0 hu with⟨i,t,rfl,rfl⟩|⟨x,t,rfl,rfl⟩
  ·apply `aPR
   ·rw[Bx0] at h;exact wpAny_eqBool_int h
   ·rw[Db0] at h;exact i8 i t y u _ _ _ _ h
  ·apply `aPR
   ·rw[Dj0] at h;exact j0 x t j u _ _ _ _ h
   ·rw[Bz0] at h;exact wpAny_eqBool_str h
 «strs»:=λk x t v h=>by
  rcases uv0 h with⟨i,u,rfl,e⟩|⟨y,u,rfl,e⟩
  ·exact nomatch e
  ·apply `akc
   subst e1;cases v<;>rfl
def T20(prog:`aj)(w:`M)(i:Int)(t:Tok):`aPS (`m i) `yk=`f:=(Pf0 i t)
def T50(prog:`aj)(w:`M)(x:Str)(t:Tok):`aPS (`qR) `SO=`f:=(N80 x t)
set_option genInjectivity true in
inductive V where
 | non|bl (b:`B)|int (i:Int)|str (x:Str)|byt (b:`aPT)|flt (b:UInt64)|ref (a:`d)|ty (n:`bE)
 deriving DecidableEq
variable{vs xs dvs:`aeW}{σ:`aa (`aH L2.V)}{kvs:`aPU}{v:L2.V}
def RelV:V->`adf
 | `x,u=>u=`nB
 | `gk,u=>u=`Dg b
 | `bs,u=>`RP
 | `cw,u=>`aLB
 | .byt b,u=>`aPV
 | .flt b,u=>`aPW
 | `a',u=>`Sa
 | .ty n,u=>u=`nz n
abbrev Vals:`S->`aOk:=`bH `dG
def Vals.length(r:`ea):`ax=`tC:=(`akd r)
def Vals.get:∀{xs:`S} {us:`N} {i:Nat} {x:V},`ea->`p5->∃u,us[i]?=`bC/\`iC:=by
 intro xs us i x p;induction p generalizing i with
 | nil=>intro e;cases e
 | cons r t ih=>
  cases i with
  | zero=>intro e;cases e;exact`SP
  | succ i=>exact ih
def Vals.append:∀{xs ys:`S} {us ws:`N},`ea->`aPX->`bV `DZ (us++ws):=by
 intro xs ys us ws p s
 induction p with
 | nil=>exact s
 | cons r t ih=>exact `G3
def Vals.take:`aPY (`SQ) `N?:=by
 intro xs us n p;induction p generalizing n with
 | nil=>cases n<;>exact `_
 | cons r t ih=>
  cases n with
  | zero=>exact `_
  | succ n=>exact `ai r (ih n)
def Vals.drop:`aPY `ake `ads:=by
 intro xs us n p;induction p generalizing n with
 | nil=>cases n<;>exact `_
 | cons r t ih=>
  cases n with
  | zero=>exact `ai r t
  | succ n=>exact ih n
def Vals.none_of:∀{xs:`S} {us:`N} {i:Nat},`ea->`agb->us[i]?=`e:=(λ{xs us i} r e=>by
 have h1:=`bm;have h2:`aeZ:=k6.mp e;exact k6.mpr `n)
open B
def RelO:`dL->`gV->Prop
 | `bR,`bC=>`gE
 | `e,`e=>`hE
 | _,_=>`b_
def KV{κ:Type}:`hF->`zL->Prop:=`bH λ(p:`K1) (q:κ×`A)=>p.1=q.1/\`aPZ
def kV:Key->V
 | `m i=>`bs
 | `qR=>`cw
inductive SubO where
 | lst (xs:`S)|dK (kvs:`hD)|ins (C dx:`d) (fs:`hG)
variable{so:`aeN}{sos:`aP_}
inductive HO where
 | deep (sub:`nO)
 | lst (xs:`S)
 | tup (xs:`S)
 | dK (kvs:`hD)|dT (kvs:`lK)|dX (kvs:`aa (Nat×V))
 | set (S:Int->`B) (n:Nat)
 | ins (C dx:`d) (fs:`hG)
 | own (x:`d)
 | xd (fs:`hG)
 | met (f x:`d)
 | rng (lo hi:Int)
 | frz (o:Obj) (u:HO)
 | tbl (ps:`a8)
 | ext (φ:`pb)
abbrev Hp:=`d->`us
def upd(H:Hp)(a:`d)(o:HO):Hp:=λb=>`w (b=a) `aG (H b)
variable{H H' H2 H₀ Ho:L2.Hp}
def Y7{o:HO}:upd H a o a=`aG:=by delta upd;rw[`a_]
def Y4{b:`d}{o:HO}(h:`nf):`aP0=H b:=by delta upd;rw[`dO]
def Iv0{o u:HO}:upd `hx a u=upd H a u:=by
 funext b;delta upd;split<;>rfl
def An0{b:`d}{o u:HO}(h:`w0)(h':`Lx)(d:o≠u):a≠b:=by
 intro e;subst e;rw[h] at h';exact d (A4 h')
def xh0{b:`d}{o:HO}(h:`w0)(h':`dd):a≠b:=by
 intro e;subst e;rw[h] at h';cases h'
def IsTupN(h:`D)(a:`d)(items:`a8):Prop:=∃o,`hh/\`SR/\∃n,`p0=`aP1/\`SS
def IsTupN.tup{h:`D}{items:`a8}(x:IsTupN h a `bf):`E' h a `bf:=by let#[o,e,c,n,d,_]:=x;exact#[o,e,c,n,d]
def IsTupN.new(h:`D)(items:`a8):IsTupN (h.push (`tw `bf)) `dB `bf:=(`akf)
def qOf(ps:`a8):Str:=match (ps[0]?:`gV) with
 | `c (`r q _)=>q
 | _=> ""
def TabOk(H:Hp)(h:`D)(a:`d)(q:Str):Prop:=∃cont:`a8,`je=`c (`ij `aY (`o6 cont))/\TriplesOk `aP2 /\
 ∀pos cv,codeAmong pos `aP2=`c cv->∃c oc vs tq,cv=`ua/\`ST c oc c/\oc.data=`CD/\`Pi=`c (`r q tq)
section
variable(P:`aj)(w:`M)
def SubOk(H:Hp)(h:`D)(a b:`d):`dw->Prop
 | `d2=>`akg (`wh=`SU)
 | `C5=>`xD/\(b==`LF)=`l/\`aDs b
 | `rW=>b=a/\`akh/\`aki/\dx≠a/\`aP3 /\
   `aP4
def ObjOk(H:Hp)(h:`D)(a:`d):HO->Prop
 | `d2=>`akg (`je=`SU)
 | `g9=>`s9/\∃its:`N,`xC/\IsTupN h a `b3
 | `C5=>`akj
 | .dT kvs=>`xD/\`xE/\∃xs:`ut,
   `bH (λ(p:`jj×V) (q:`aA?)=>`aP5) kvs xs /\
   ∃o es ep,`hh/\`aP6 (`PY) `aP7
 | .dX _=>`b_
 | .set S n=>h.SetOf (intKind P w) a S n
 | `rW=>`akh/\`aki/\dx≠a/\`aP3 /\
   `aP4
 | `w2 sub=>(`SV)/\∀p∈sub,`aP8
 | `kO _=>`SV
 | .xd fs=>∃mA,h.Ns1 a mA/\`aeP
 | .rng lo hi=>∃t u v,`je=`c `aE5
 | `pm o u=>`hh/\`h7 H h a u
 | `acy=>`aFX
 | .met f x=>`je=`c (`aMq `e6 `qE)
 | `G4=>φ h/\(`SV)/\`aP9
def HOk(H:Hp)(h:`D):Prop:=∀a o,`w0->`akk
omit z
section
variable{P:`aj}{w:`M}{h:`D}{o:HO}
def ObjOk.lt(x:`akk):a<`dB:=by
 skip;cases o with
 | lst xs=>let#[_,_,_,_,e]:=x;done;exact `ew
 | tup xs=>let#[_,_,_,p]:=x;done;exact p.tup.lt
 | dK kvs=>apply `aP';done;exact `ew
 | dT kvs=>apply `aP';done;exact `ew
 | dX kvs=>done;exact `fU x
 | set S n=>let#[o,_,_,_,e,_]:=x;done;exact `ew
 | ins C dx fs=>let#[_,_,_,e,_]:=x;done;exact `ew
 | own y=>let#[_,e]:=x;done;exact `ew
 | xd fs=>let#[_,#[_,_,_,e,_],_]:=x;done;exact `ew
 | rng lo hi=>let#[_,_,_,e]:=x;done;exact `ew
 | frz ob u=>let#[e,_]:=x;done;exact `ew
 | tbl ps=>let#[_,e,_]:=`aP!;done;exact `ew
 | met f y=>done;exact `zM A6 (`je=`SW) x
 | ext φ=>let#[_,#[_,e],_]:=x;done;exact `ew
 | deep sub=>let#[#[_,e],_]:=x;done;exact `ew
def Paired.mapP{F G:`lL}:∀{l₁:`bn} {l₂:`lM},`bH F l₁ l₂->(`akl)->`bH G l₁ l₂:=by
 intro l₁ l₂ p f
 induction p with
 | nil=>exact `_
 | cons r t ih=>exact `ai (f _ _ r) ih
def SubOk.stay{b:`d}(x:`Pj P w H h a b so)(hb:`aeR)(k:`aP?)
  (ho:`aQa):`Pj P w H' h' a b so:=by
 skip;cases so with
 | lst xs=>let#[z,its,n,r,e]:=x;done;exact#[z,its,n,r,`aQb]
 | dK kvs=>apply `aQc;done;exact`aQd `aQb
 | ins C dx fs=>
  let#[rfl,d,z,ne,e,mA,#[od,es,ep,e2,c],r]:=x;done;exact#[rfl,ho _ d,z,ne,`iB,mA,`aQe,r]
def ObjOk.stay(x:`akk)(k:`aP?)
  (ho:`aQa) (ht:`SX) (hf:∀b ob u,H b=`akm->`fw=`akm):`h7 P w H' h' a o:=by
 induction o with
 | lst xs=>let#[z,its,n,r,e]:=x;exact#[z,its,n,r,`iB]
 | tup xs=>let#[z,its,r,ob,e,c]:=x;exact#[z,its,r,ob,`iB,c]
 | dK kvs=>skip;apply `aQc;done;exact`aQd `iB
 | dT kvs=>
  skip;let#[z,y,xs,r,ob,es,ep,e,c]:=x;done;exact#[z,y,xs,`aQf r λp q z=>`aQg,ob,es,ep,`iB,c]
 | dX kvs=>exact `fU x
 | set S n=>let#[ob,es,ep,t,e,c]:=x;exact#[ob,es,ep,t,`iB,c]
 | ins C dx fs=>
  skip;let#[d,z,ne,e,mA,#[od,es,ep,e2,c],r]:=x;done;exact#[ho _ d,z,ne,`iB,mA,`aQe,r]
 | own y=>let#[ob,e]:=x;exact#[ob,`iB]
 | xd fs=>skip;let#[mA,#[od,es,ep,e,c],r]:=x;done;exact#[mA,#[od,es,ep,`iB,c],r]
 | rng lo hi=>let#[t,u,v,e]:=x;exact#[t,u,v,`iB]
 | frz ob u ih=>let#[e,q]:=x;exact#[`iB,ih q]
 | tbl ps=>
  let#[cont,e,t,c]:=`aP!;exact#[cont,`aQh,t,λpos cv q=>let #[c',oc,vs,tq,z1,z2,z3]:=c pos cv q;#[c',oc,vs,tq,z1,hf _ _ _ z2,z3]]
 | met f y=>
  have e:`je=`aQi:=x;show `id a=`aQi;exact `aQh
 | ext φ=>let#[p,#[o,e],st]:=x;exact#[st _ _ p λo q=>k _ _ `du q,`aQj,st]
 | deep sub=>let#[#[o,e],q]:=x;exact#[`aQj,λp hp=>#[(q p hp).1.imp id (ho _),(q p hp).2.stay (q p hp).1 k ho]]
def HOk.lt(x:`fV)(e:`w0):a<`dB:=((x a o e).lt)
def HOk.fresh(x:`fV)(e:`akn):`zN:=by
 cases q:H a with
 | none=>rfl
 | some u=>exact `qS (x.lt q) e
def HOk.kept(x:`fV)(k:`SY):HOk P w H h':=(λa o e=>
 `ako (x a o e) λb u _ q=>`Pk)
def HOk.laid(x:`fV)(k:`SY)(hp:`akn)(new:`h7 P w `hx h' a o):HOk P w `hx h':=(λb u e=>by
 have hn:=x.fresh hp
 apply `nP
 ·subst hb;rw[Y7] at e;cases e;exact new
 ·rw[Y4 hb] at e
  exact`akp `aQk (λc q=>`G5) (λc xs q=>`G5) λc ob u' q=>`G5)
omit z
def Rd(H:Hp)(a:`d)(u:HO):Prop:=H a=`bC∨∃o,H a=`acX
def Rd.ok{P:`aj}{w:`M}{h:`D}{u:HO}(r:Rd H a u)(x:`fV):`aQl:=by
 rcases r with r|⟨o,r⟩
 ·exact x a u r
 ·let#[_,q]:=x a _ r
  exact q
def Mut:`us->Prop
 | `c (`eE)=>`hE
 | `c (.dK _)=>`hE
 | `c (.dT _)=>`hE
 | `c (.dX _)=>`hE
 | `c (.set _ _)=>`hE
 | `c (`h3 _ _ _)=>`hE
 | `c (.ext _)=>`hE
 | `c (`w2 _)=>`hE
 | _=>`b_
section
variable{P:`aj}{w:`M}{h:`D}{x e:`d}{o':HO}
def HOk.write(ok:`fV)(mu:`akq)(he:`akr)(k:`aQm)(heo:`aks)
  (new:`h7 P w (upd H x o') h' x o'):HOk P w (upd H x o') h':=(λb u q=>by
 have O:∀c y,H c=`akt->c≠x:=λc y r z=>`aku
 have U:∀c xs,H c=`jG->c≠x:=λc xs r z=>`aku
 have Y:∀c ob u',H c=`akv->c≠x:=λc ob u' r z=>`aku
 by_cases hb:b=x
 ·subst hb;rw[Y7] at q;cases q;exact new
 ·rw[Y4 hb] at q
  by_cases hbe:b=e
  ·have q':H b=`aDu:=by
    rcases he with z|z
    ·exact `J (hbe.trans z) hb
    ·rw[hbe];exact z
   rw[q] at q';cases q';let#[v,hv]:=heo;exact#[v,`o hbe hv]
  ·refine(ok b u q).stay (λc v hc r=>k c v ?_ r) (λc r=>`o (Y4 (O c b r)) r) (λc xs r=>`o (Y4 (U c xs r)) r) λc ob u' r=>`o (Y4 (Y c ob u' r)) r
   apply `akw
   ·exact hbe
   ·rintro rfl
    rcases he with z|z
    ·exact O c b hc z
    ·rw[hc] at z;cases z;exact hb rfl)
omit z
structure Un(fs ex:`aK)(H H':Hp)(h h':`D):Prop where
 keep:`qM (`dd->b∉fs->`G6->`sG)
 slot:`qM (`dd->b∈fs->`G6->`akx)
 free:`qM (`dd->`G6->`p2)
 there:`qM (`G6->`aky)
 tups:`SX
 frzs:`akz
 tbls:`aQn
section
variable{fs fs' ex ex':`aK}{H1:Hp}{h h1 h2:`D}{x e:`d}{o:HO}
def Un.any(u:`G7 H1 h1){b:`d}{ob:Obj}(q:`aQo)(n:`dd)(hx:`G6):∃sl,`p4 b=`c { ob with slots:=sl }:=by
 by_cases hb:b∈fs
 ·exact u.slot b ob q n hb hx
 ·exact#[ob.slots,u.keep b ob q n hb hx]
def Un.kept(k:`SY):`G7 H h':=(
 #[λb ob q _ _ _=>`akA,λb ob q _ _ _=>#[ob.slots,`akA],λ_ _ _ n _=>n,λb ob q _=>#[ob,`akA],`acJ,`xF,λ_ ps q=>#[⟨⟩,`afo]])
def Un.refl:`G7 H h:=(`SZ `acJ)
theorem Un.laid(k:`SY)(hp:`akn)(hn:`zN):`G7 `hx h' where
 keep:=`aQp
 slot:=`aQq
 free:=`akB (Y4 (B5 (C1 (A6 q) hp)))
 there:=`aQr
 tups:=`G8 `G5
 frzs:=λb u xs q=>`G5
 tbls:=`akC (Y4 `abh)
def Un.write(mu:`akq)(he:`akr)(k:`aQm)(heo:`aks):`G7 `akD h':=by
 have hx:∀b,`dd->`zG:=λb n z=>`acW n mu
 have hb:∀b,`dd->`EX:=λb n z=>by
  subst z;rcases he with r|r
  ·exact hx b n r
  ·rw[n] at r;cases r
 have hm:`uu (¬Mut (`bC)->`zG):=λb u q nm z=>`acW q (nm mu)
 refine#[λb u q n _ _=>`aQs,λb u q n _ _=>#[u.slots,`aQs],`akB (Y4 (hx b n)),λb u q _=>?_,
  `G8 `aQt,λb u xs q=>`aQt,`akC `aFY]
 by_cases hbe:b=e
 ·subst hbe;exact heo
 ·exact#[u,k b u hbe q]
omit z
def trk(h:`D)(H:Hp):`aK:=(`bJ `dB).filter λa=>(H a).isSome
def jx0(h:`D)(H:Hp):`D:=W.hideAll h (trk h H)
def P00(h:`D)(H:Hp):(jx0 h H).objs.size=`dB:=(W.hideAll_size _ _)
def Ls0{h:`D}{b:`d}{o:Obj}(e:`oL)(n:`dd):`aQu:=(
 W.hideAll_get _ e λhm=>by
  have q:`sO (H b):=(k7.mp hm).2;rw[n] at q;simp at q)
def Fp0{h:`D}{b:`d}{o:Obj}(e:`aQu):`oL/\`dd:=by
 have e':`oL:=W.of_hideAll (trk h H) e;refine#[e',?_];cases q:H b with
 | none=>rfl
 | some x=>
  have hm:b∈trk h H:=k7.mpr #[`y1 (A6 e'),by simp[q]];have z:`aFZ=`e:=W.hideAll_none (trk h H) hm;rw[z] at e;cases e
omit L2
variable{vs xs dvs:`aeW}{H H' H2 H₀ Ho:L2.Hp}{so:`aeN}{σ:`aa (`aH L2.V)}{ks:`aPM}{kvs:`aPU}{sos:`aP_}{v:L2.V}
open Y
structure Mod(K:`y)(mg:`a2)(base:`D):Prop where
 kin:`akE
 glob:`PB
 blt:∃mb,base.Ns `akF mb/\`aQv
 nolimit:base.NoLimit
structure Cx where
 prog:`aj
 w:`M
 K:`y
 mg:`a2
 base:`D
 A:`ck
 N:`i
 s₀:`v
 H₀:Hp
 env:Env
 outer:`eN
 stack:`eN
 ex:`aK
 fn:`akG
 calm:`B
 pn:`az
 xe:`ap
variable{X:L2.Cx}
def frs(l:`eN):`aK:=`Oh `aE7
abbrev Cx.fs(X:Cx):`aK:=frs `sH
def Vis(sc:`c1)(x:Str):Prop:=`aDx∨`acY∨`DK x=`nt
def Loc(sc:`c1)(x:Str):Prop:=`akH
def Look(env:Env)(h:`D)(m:`a2)(x:Str)(u:`A):Prop:=
 (`OY=`kE/\m x=`bC)∨((`OY=`ld∨`OY=`nt)/\∃c,`aft x=`d_/\h.IsCell c (`bC))
structure Cx.Ok(X:Cx):Prop where
 mod:`aQw
 kind:`OZ=`tr
 glob:`aeV=`f9
 blt:X.env.builtins=`akF
 above:`pJ<=`gj
 inj:∀x y c,`sv->`aQx->x=y
 has:∀x,(`EH=`ld∨`EH=`nt)->∃c,`sv
 cab:∀x c,`aaB->`sv->`pJ<=c
 hd:`dH->X.A.handled=`e
 frames:`aHT=`c `g!
 stk:`g!=`sH∨(`S_/\`aQy)
 exf:∀b∈X.ex,`s'/\`aE3
 bs:`S0 (`NM/\`aQz)
 bsz:X.base.objs.size<=`pJ
 noex:`S0 `akI
 exfs:∀b∈X.ex,`E2
 funs:`aQA `e7 `sH
 frf:∀b∈`jA,`aQz
structure Inv(X:Cx)(pins:`az)(σ:`akJ)(H:Hp)(s:`v):Prop where
 ok:X.Ok
 os:s.os=X.s₀.os
 bare:`aQB
 base:Un `jA X.ex X.H₀ H X.s₀.heap `ay
 loc:∃m,`aQC/\∀(i:Nat) (x:Str) (v:V),`mk->`G9->`KV->∃u,`gE/\Look `P `ay m x u
 cell:∀x c,`sv->∃v,`aF2
 free:H `gj=`e
 freeC:∀x c,`sv->H c=`e
 pin:∀p∈`wS,`aQD
 hok:`xG H `ay
 len:`s!=X.N.length
section
variable{s:`v}
def Cx.Ok.nofr(ok:X.Ok){b:`d}{o:Obj}(e:`aCi):`E2:=(λhb=>by
 have:=(ok.funs.mem hb).1;apply `aT e;cases `F)
def Inv.bs(I:`C):`S0 `aQE:=(λb o e=>
 #[`Db b o (`S1).1 (`S1).2 (I.ok.nofr e) `aQF,`Nn b o (`S1).1 (`S1).2 `aQF])
def Inv.bk(I:`C):`S0 `hp:=(`kW (I.bs b o e).1)
def Inv.mod(I:`C):`aQw:=(I.ok.mod)
def Inv.kIn(I:`C):X.K.In `ay:=(I.ok.mod.kin.keeps I.bk)
def Inv.lt(I:`C):`gj<`Z:=(let #[_,hn,_]:=`gm;hn.lt)
def Inv.sz(I:`C):`pJ<=`Z:=(B7 `NO (M0 I.lt))
def Inv.nofs(I:`C)(h:`S2):a∉`jA:=(λhb=>by
 apply `aQG;exact `qS (A6 ho) (B7 I.sz h))
def Inv.cne(I:`C):`OO `gj:=(λx c e z=>by
 skip;apply `aQH;let#[m,#[o',es,ep,U,O,_],_]:=`gm;rw[z,U] at ho;cases ho;rw[O] at hd;cases hd)
def Inv.funs(I:`C):`Ea `e7 `sH:=by
 have all:∀(l:`eN),(∀b∈frs l,b∈`jA)->`aQA `e7 l->`Ea `e7 l:=by
  intro l
  induction l with
  | nil=>intro _ _;trivial
  | cons env r ih=>
   intro hs hl;skip;let#[hk,#[L,o,hf,hn,ho,hd],hr]:=hl;have hL:L∈`jA:=`aQI L A7;let#[sl,e]:=`Dc L o ho (I.ok.frf L hL) hL λz=>I.ok.exfs L z hL
   done;exact#[hk,#[L,_,hf,hn,e,hd],ih (λb hb=>`aQI b `akK) hr]
 exact all `sH (λ_ hb=>hb) I.ok.funs
def Inv.stack(I:`C):`Ea `e7 `g!:=by
 apply `aQJ
 ·rw[e];exact I.funs
 ·rw[e]
  let#[m,hn,_]:=`gm;refine `ai (`qO `nq) hf hn ?_ I.funs;exact Y1 (B7 I.ok.bsz `NO)
def Inv.stkSub(I:`C):∀b∈`zO,b∈`gj::`jA:=(λb hb=>by
 apply `aQJ
 ·rw[e] at hb;exact `akK
 ·rw[e] at hb
  delta frs at hb;rw[`aF0,hf] at hb;exact hb)
def Inv.stkFree(I:`C):∀b∈`zO,`dd:=(λb hb=>by
 rcases `cg (`akL b hb) with e|hb
 ·rw[e];exact `g7
 ·apply `aQG
  exact `Nn b o ho (I.ok.frf b hb) λz=>I.ok.exfs b z hb)
def Inv.step{g':`j_}{t':Nat}{d':`nM}{ch:`aK}(I:`C)
  (hch:∀b∈ch,`akM)
  (keep:∀b o,`s'->`E2->`G'->`hp->`dd->`sG)
  (slot:∀b o,`s'->b∈`jA->`G'->`hp->`dd->`akx) (free:∀b o,`G'->`hp->`aHJ)
  (there:∀b o,`G'->`hp->`aky)
  (tups:`SX) (frzs:`akz) (tbls:`aQn)
  (ns:∀m,`aQC->h'.Ns `gj m) (hok:`akN) (hg:`MP g'):
  `aQK:=by
 have Z:`akO:=`aQL
 have U:∀b o,`NM->`akI->`G':=λb o e hx hb=>by
  rcases (hch b hb).1 with z|z
  ·exact hx z
  ·exact `qS `C6 z
 have Y:`aQM:=λx c e v hq1=>by
  let#[o,ho,hd]:=hq1
  have O:c∉ch:=`aQN
  by_cases hc:c∈`jA
  ·let#[sl,q]:=`aQO slot
   exact`aQP
  ·exact#[o,`aQO keep,hd]
 refine#[I.ok,`mC,hg,#[`yj,`yj,`aMR,`aeg,`ai' tups xs,λb o xs e=>frzs b o xs (`aeh b o xs e),`ai!],?_,`zl,?_,`zl,`lD,hok,`jr]
 ·exact keep b o (Z b o e) hb `S3 `S4 `Qd
 ·apply `S5
  let#[a1,e2]:=slot b _ (Z b o e) hb `S3 e1 `Qd;exact#[a1,e2]
 ·apply `G!
  exact free b o' `S3 e1 `Qd
 ·apply `G!
  exact there b o' `S3 e1
 ·let#[m1,e1]:=`adm
  let#[m2,e2]:=tbls b _ e1;exact#[m1++m2,by rw[e2,Array.append_assoc]]
 ·let#[m,hn,hl]:=`gm
  refine#[m,ns m hn,`akP];apply `aQQ;refine`aQR;skip;apply `aQS
  ·done;exact `m l
  ·done;exact `p #[k,c,e,Y x c e _ z]
 ·let#[v,z]:=`EZ
  exact#[v,Y x c e v z]
 ·skip;apply `aQT
  done;exact free _ o (`aQU) ho `g7
 ·apply `aQH
  exact free c o (`aQN) ho `aeU
 ·apply `S6
  have O:p.1∉ch:=λz=>(hch p.1 z).2.2.2 p hp rfl
  exact#[keep p.1 p.2 ne nf O e n,free p.1 p.2 O e n,ne,nf,d]
def Inv.un(I:`C)(u:Un `jA [] H H' `ay h')(hok:`akN):`br H' `pK:=by
 skip;apply `aQV;let#[sl,hL]:=u.any ho `g7 `a?;done;exact `S7 (g':=`EY) (d':=`S8) (ch:=[]) (λ_ z=>nomatch z) (`aQW u.keep) (`aQW u.slot) (λb o _ e n=>u.free b o e n `a?) (λb o _ e=>u.there b o e `a?) u.tups u.frzs u.tbls (λm' hm=>by
  let#[o',Y,U,O,r']:=hm;rw[ho] at O;cases O;exact`aQX) hok `h4
def Inv.call{g':`j_}{t':Nat}{d':`nM}(I:`C)(u:Un (`zO) ch H H' `ay h')(hok:`akN)(hg:`MP g')
  (hch:∀b∈ch,`akM):
  `aQK:=by
 skip;apply `aQV;let#[sl,hL]:=u.any ho `g7 `aQU
 done;exact `S7 (ch:=ch) hch (λb o hL hb hc e n=>u.keep b o e n (λz=>(`cg (`akL b z)).elim hL hb) hc) (λb o _ _ hc e n=>u.any e n hc) (λb o hc e n=>u.free b o e n hc) (λb o hc e=>u.there b o e hc) u.tups u.frzs u.tbls (λm' hm=>by
  let#[o',Y,U,O,r']:=hm;rw[ho] at O;cases O;exact`aQX) hok hg
def Inv.turned{t':Nat}(I:`C)(k:`Fy (b≠it))(hn:H it=`e)(hL:it≠`gj)
  (h1:it∈X.ex∨`pJ<=it) (h2:`OO it) (h3:∀p∈`wS,p.1≠it):`akQ:=by
 have O:`uu (b≠it):=λb u e z=>by rw[z,hn] at e;cases e
 refine `S7 (g':=`EY) (d':=`S8) (ch:=[it]) `S9 (`S' `akR) (`S' #[`G1,`akR]) `aQY
  (λb o hc e=>#[o,`akR]) (`akS) (λ_ _ _ e=>e) `aQZ (λm hm=>?_) (`akT) `h4
 ·apply `G?
  subst e;exact#[h1,hL,h2,h3]
 ·let#[o,es,ep,ho,r]:=hm
  exact#[o,es,ep,k _ o (B0 hL) ho,r]
 ·apply `aQ_
  rcases hc with z|z
  ·rw[z];exact O b u e
  ·exact O c _ z
def Inv.tok(I:`C)(t:Nat):`br H ((`Ch t)):=(I.un (h':=`ay) (t':=t) Un.refl `b1)
def Inv.kept(I:`C)(k:`akU):`akQ:=(I.un (`SZ k) (I.hok.kept k))
def Inv.laid{o:HO}{t':Nat}(I:`C)(k:`akU)(hp:`S2)(new:`Ha `hx a o):
  `br `hx `pK:=(I.un (Un.laid k hp (`s1 hp)) (I.hok.laid k hp new))
def Inv.write{x e:`d}{o:HO}{t':Nat}(I:`C)(mu:`akq)(he:`akr)(k:∀b u,`EX->`aDA)(heo:`aks)
  (new:`Ha `akD x o):`br `akD `pK:=(I.un (Un.write mu he k heo) (I.hok.write mu he k heo new))
def Inv.weak{σ':`akJ}(I:`C)(hl:`akV)(w:∀(i:Nat) v,σ'[i]?=`pc->`G9):Inv X `t σ' H s:=(
 #[I.ok,`mC,`h4,`aBa,let #[m,hn,hl']:=`gm;#[m,hn,λi x v e1 e2 e3=>hl' i x v e1 (w i v e2) e3],`mD,`g7,`r6,`jw,`b1,hl.trans `jr])
def Inv.pins_of{pins':`az}(I:`C)(h:∀p∈pins',`aQD):`tz X pins':=(
 (`uv I.ok λp hp=>`aQ0 (λz=>`jw p `aK!) (h p)))
def d90(hN:`S!)(a:N[i]?=`c8)(b:N[j]?=`c8):i=j:=by
 let#[h1,e1]:=`ch a;let#[h2,e2]:=`ch b;exact(x4 hN).mp (e1.trans e2.symm)
def Yg0{M:`eM}{A:`ck}{E:`ap}{Q:`dQ}(I:`C)(hN:`dh)(hi:`mk)(hx:`D8)(r:`gE)
  (h:∀s',`aQ1->(∃a,`aBD a `ay `p6/\(a=`gj∨`aaA x=`k0))->`Hb) (hf:`uw):`aQ2:=by
 apply `akW;have a3:`aQ3:=`aQ4
 apply `aQ5
 have cne:=I.cne;have O:∀{a:`d} {h':`D},(∃o,`FA/\`zN)->`aQ6->`aQ7:=λ{a h'} ha hs b ob e=>by
  let#[_,_,U]:=ha;refine`ako (`b1 b ob e) λc w' hc q=>`aQ8 q
  rintro rfl;apply `akw
  ·rw[U] at e;cases e
  ·rw[U] at hc;cases hc
 rcases hx with hk|hk
 ·refine wpAny_storeName_local hk hn (λh' a4 hs=>?_) a3
  let#[oL,_,_,a5,_]:=id hn;refine h _ #[I.ok,`mC,`h4,`aQ9,#[_,a4,`akX],`aQ',`g7,`r6,`lD,O #[oL,a5,`g7] hs,`akY] #[_,hs,`ml]
  ·exact`akZ `S4
  ·apply `S5
   exact#[sl,`akZ e1]
  ·apply `G!
   exact#[o',`akZ e1]
  ·by_cases hj:j=i
   ·subst hj
    rw[hi] at e1;cases e1;rw[`S?] at e2;cases e2;exact#[u,r,`m #[hk,`bO]]
   ·rw[`qT] at e2
    apply `aQ!;refine`ak_;skip;apply `aQ?
    ·done;refine `aRa
     apply `aRb
     simp[`F,e]
    ·done;exact `aRc
  ·let#[w',z]:=`mD y c e
   exact`aRd
  ·apply `S6
   apply `aRe
 ·have Y:`aaB:=by
   rcases hf with z|z
   ·exact z
   ·rw[z] at hk;cases hk
  let#[c,hc]:=`ak0 x (`m hk);let#[w',z]:=`mD x c hc;refine wpAny_storeName_cell `nq hk hc z (λh' a1 hs=>?_);let#[oc,Z,a2]:=id z;refine h `kX #[I.ok,`mC,`h4,`aQ9,#[m,`aRf hs (B0 (cne x c hc)),`akX],λy c' e=>?_,`g7,`r6,`lD,O #[oc,Z,`r6 x c hc] hs,`akY] #[c,hs,`p hc]
  ·exact`ak1 `S4
  ·apply `S5
   exact#[sl,`ak1 e1]
  ·apply `G!
   exact#[o',`ak1 e1]
  ·by_cases hj:j=i
   ·subst hj
    rw[hi] at e1;cases e1;rw[`S?] at e2;cases e2;exact#[u,r,`p #[`m hk,c,hc,a1]]
   ·rw[`qT] at e2
    apply `aQ!;refine`ak_;skip;rcases q with q|⟨k,c',e,z'⟩
    ·done;exact `mU
    ·done;refine `p #[k,c',e,z'.sameBut hs ?_]
     rintro rfl;exact hj (d90 hN e1 (I.ok.inj _ _ _ e hc▸hi))
  ·by_cases hcc:c'=c
   ·subst hcc;exact#[_,a1]
   ·let#[w2,z2]:=`mD y c' e
    exact#[w2,z2.sameBut hs hcc]
  ·apply `S6
   refine#[`zJ p.1 ?_ e,n,ne,nf,d];intro q;rw[q,Z] at e;have q':oc=p.2:=A4 e;exact d w' (`cu q' a2)
def i60{M:`eM}{A:`ck}{E:`ap}{Q:`dQ}(I:`C)(hN:`dh)(hi:`mk)(hx:`D8)(r:`gE)
  (h:∀s',`aQ1->`Hb) (hf:`uw):`aQ2:=(
 Yg0 I hN hi hx r (λs' I' _=>h s' I') hf)
def Inv.call'(I:`C)(ho:`ak2)(u:Un (`zO) ch H H' `ay `p6)(hok:`xG H' `p6)(hg:`R9)
  (hch:∀b∈ch,`akM):`nQ:=by
 let#[h',g',d',t',o']:=s';have e:o'=s.os:=ho;subst e;exact I.call (g':=g') (t':=t') (d':=d') u hok hg hch
omit z
abbrev XK:=`A->`bp->`jh
abbrev St:=`akJ
abbrev VK:=`ak3
abbrev TE:=St->`La
variable{r:`aRg}
abbrev TT:=`yx `Hc
variable{ta tb te tv td ty:L2.TE}
abbrev TA:=`yx `MU
structure Ends where
 nx:`ln
 rt:VK
 bk:`ln:=λ_ _=>`b_
 ct:`ln:=λ_ _=>`b_
abbrev TS:=`fO->`ln
def EP(X:Cx)(pins:`az)(σ:St)(Q:VK)(u:`A)(s':`v):Prop:=∃v H',`nQ/\`aRh
def TP(X:Cx)(pins:`az)(σ:St)(Q:`Hc)(b:`B)(s':`v):Prop:=∃H',`nQ/\Q b H'
def AP(X:Cx)(pins:`az)(σ:St)(Q:`MU)(us:`N)(s':`v):Prop:=∃vs H',`nQ/\`ux/\`Ta
def SP(X:Cx)(pins:`az)(D:`fO)(f:Flow)(s':`v):Prop:=
 match f with
 | `PE=>`GH `aMY
 | .brk=>`GH (D.bk σ' H')
 | .cont=>`GH (D.ct σ' H')
 | `kP u=>∃v σ' H',`L6/\`gE/\D.rt v H'
def PE(X:Cx)(e:`K)(t:TE):Prop:=
 `aRi VK (`de `M2 `hu)
noncomputable def PT(X:Cx)(e:`K)(t:TT):Prop:=
 `aRi `Hc (`de (`OQ e `P `M2) `ak4)
def PW(X:Cx)(e:`K)(t:TT):Prop:=
 ∀(whole:`Ni) (pins:`az) (s:`v) (σ:St) (H:Hp) (Q:`Hc),`C->`sK->`de (`aDB) `ak4
def PW.pt{t:TT}(h:PW X e t):`Tb:=(h _)
def PA(X:Cx)(es:`bB)(t:TA):Prop:=
 ∀(pos:Pos) (pins:`az) (s:`v) (σ:St) (H:Hp) (Q:`MU),`C->`sK->`de (`aRj (`aai)) (AP X `t σ Q)
def PS(X:Cx)(st:`aO)(t:TS):Prop:=
 `aRk exec
def PSs(X:Cx)(st:`bb)(t:TS):Prop:=
 `aRk execs
def thn{t:Sem α}{Q Q':α->`ej}{M:`eM}{s:`v}(h:`hr M t)(hQ:∀a s,Q a s->Q' a s):`Tc t Q':=(C9 h hQ `ur)
section
def xg1(i:Nat):TE:=`c0 (∃v,`G9/\Q v H)
def tC(v:V):TE:=λ_ H Q=>Q v H
def wb0(hN:`mk)(hv:`KV)(hd:`aL)(hcd:`di):PE X `lo (xg1 i):=by
 apply `bg;skip;let#[v,e,h]:=h;let#[m,hn,hl]:=`gm;let#[u,r,l]:=hl i x v hN e hv;have fin:`tF u s:=`ak5;rcases l with⟨hk,hm⟩|⟨hk,c,hc,O⟩
 ·done;exact `ak6 (wpAny_loadName_local `nq hk hn hm fin) hd
 ·rcases hk with hk|hk
  ·done;exact `ak6 (wpAny_loadName_cell `nq hk hc O fin) hd
  ·done;exact `ak6 (wpAny_loadName_free `nq hk hc O fin hcd) hd
def Ab0{i j pos}:`Td `e! `e!:=(`uy (wpAny_Constant_int #[`bs,H,`wc,`Y,h]))
def zs1{b j pos}:`Td `Pg `s?:=(`uy (Constant_bool (`hv `gk h)))
def N20{j pos}:`Td `aY `x:=(`uy (Constant_none (`hv `x h)))
def Cd0{x j pos}:`Td `jD `jD:=(`uy (`aRl #[`cw,H,`wc,`Y,h]))
def Gl(X:Cx)(x:Str):Prop:=`EH=`c .globalImplicit
def pd0{E:`ap}{s:`v}{σ:St}{pos:Pos}(I:`C)(hg:`jc)(hm:`aRm)(h:Q u s)
  (hd:`aL):`aRn:=(
 E90 `nq hg (Calls.loadGlobal_global `aRo hm h) hd)
def ql0{E:`ap}{s:`v}{σ:St}{pos:Pos}(I:`C)(hg:`jc)(hm:`nR)(hv:`aRp)(h:Q u s)
  (hn:`nS) (hd:`aL):`aRn:=by
 let#[mb,h1,h2]:=I.mod.blt;exact E90 `nq hg (Calls.loadGlobal_builtin `aRo hm (`o I.ok.blt (h1.keeps I.bk)) ((h2 x hn).trans hv) h) hd
def fy0(hg:`jc)(hm:`aRm)(r:`gE)(hd:`aL):`aRq:=(
 `uy (`ak7 `ak5))
def Hh0(hg:`jc)(hm:`nR)(hv:`aRp)(r:`gE)(hn:`nS)(hd:`aL):`aRq:=(
 `uy (`ai0 `ak5 hd))
variable{a:`K}
def PC(X:Cx)(op:`hH)(a b:`K)(t:TE):Prop:=
 ∀(pins:`az) (s:`v) (σ:St) (H:Hp) (Q:VK),`C->`sK ->
  `aRr (`K2 op v u) `hu
def tB(t:TE):TT:=`cS t (`Te (Q c H1))
def Da0{op:`hH}{t:TE}(h:`aRs)(h1:`aRt):PE X `uz t:=(λpins s σ H Q I hw=>`aRu `aRv h1)
def Bt0{op:`hH}{t:TE}(h:`aRs)(h1:`aRt):PT X `uz (tB t):=by
 apply `ak8;refine `aRw (`Tf `ak9 λu s2 h2=>thn h2 λc s3 hq2=>?_) h1;skip;apply `fI hq2;let#[d,rfl,q]:=q1;cases r1;done;exact `aRx
def Nl0{t:TE}(h:PE X e t)(he:`ak'):PT X e (tB t):=by
 apply `ak8;refine isTrue_plain (thn `ak9 λv s1 hq3=>?_) (he _);skip;apply `fI hq3;let#[d,rfl,q]:=q1;cases r1;done;exact `aRx
variable{tA tB':TT}{rest:`bB}
def yk1(t u:TT):TT:=`cS t λc H1=>`w `Tg (u σ H1 Q) (Q `l H1)
def tOr(t u:TT):TT:=`cS t λc H1=>`w `Tg (Q `f H1) (u σ H1 Q)
def xh1(t:TT):TT:=`cS t `aRy
def Sj0(ha:`Hd):PW X `ak! tA:=by
 apply `Th;refine `aRz `aRA;cases c with
 | true=>exact isTrue_and_nil e
 | false=>exact e
def On0(ha:`Hd):PW X `ak? tA:=by
 apply `Th;refine isTrue_or `aRA;cases c with
 | false=>exact isTrue_or_nil e
 | true=>exact e
def Ol0(ha:`Hd)(hb:PW X `He tB'):PW X `Hf (yk1 tA tB'):=by
 apply `Th;apply `uA `aRz λc s1 hq4=>?_;let#[H1,I1,q1]:=hq4;cases c with
 | true=>exact `aRB
 | false=>exact`aRC
def Jr0(ha:`Hd)(hb:PW X `Hg tB'):PW X `Hh (tOr tA tB'):=by
 apply `Th;apply `uA isTrue_or λc s1 hq5=>?_;let#[H1,I1,q1]:=hq5;cases c with
 | true=>exact`aRC
 | false=>exact `aRB
def Ps0(ha:`Hd):PT X `Hi (xh1 tA):=by
 apply `bg;exact isTrue_not (`bZ ha (`aRy) h)
def Ax0(ta tb:TE):TE:=`cS ta (`Te (`w `Tg `aRD (Q `rS H1)))
def yx1(ta tb:TE):TE:=`cS ta (`Te (`w `Tg (Q `K4 H1) `aRD))
def zl1(ta:TE):TE:=`cS ta (`Te (Q (.bl (!c)) H1))
def Dl0{op}{t:TE}(h:PE X a t):PE X `aRE t:=(λpins s σ H Q I hw=>BoolOp_one `aRv)
def Fw0(ha:`kc)(hb:PE X `He tb):PE X `Hf (Ax0 ta tb):=by
 apply `bg;apply `uA BoolOp_and λv s1 hq6=>?_;skip;apply `fI hq6;apply `ala;cases r1;done;refine E7 ?_;cases c with
 | true=>exact `aRF
 | false=>exact#[`mq,H1,I1,rfl,q1]
def zu1(ha:`kc)(hb:PE X `Hg tb):PE X `Hh (yx1 ta tb):=by
 apply `bg;apply `uA BoolOp_or λv s1 hq7=>?_;skip;apply `fI hq7;apply `ala;cases r1;done;refine E7 ?_;cases c with
 | false=>exact `aRF
 | true=>exact#[`h2,H1,I1,rfl,q1]
def Br0(ha:`kc):PE X `Hi (zl1 ta):=by
 apply `bg;apply `uA UnaryOp_ λv s1 hq8=>?_;skip;apply `fI hq8;apply `ala;cases r1;done;exact not_of (E7 #[.bl (!c),H1,I1,rfl,q1])
omit z
def SqL(K:`y)(H:Hp)(a:`d)(xs:`S):Prop:=
 `aGW ∨
  `aRG (`oC=`mK/\`SS/\`aRH)
def SqT(K:`y)(H:Hp)(a:`d)(xs:`S):Prop:=
 Rd H a `v1 ∨
  `aRG (`SR/\`aRH)
def xn1:`A->`dL
 | `aY=>`c `x
 | `dJ b=>`alb
 | `g i _=>`Hj
 | `r x _=>`aRI
 | .bytes b _=>`c (.byt b)
 | .float b _=>`c (.flt b)
 | `a'=>`o4
 | `bj n=>`c (.ty n)
 | _=>`e
def RelV.abs{x:V}(r:`iC):xn1 u=`c8:=by
 cases x with
 | non=>cases r;rfl
 | bl _=>cases r;rfl
 | int _=>apply `kd;rfl
 | str _=>apply `kd;rfl
 | byt _=>apply `kd;rfl
 | flt _=>apply `kd;rfl
 | ref _=>cases r;rfl
 | ty _=>cases r;rfl
def RelV.inj{x y:V}(r:`iC)(q:`fW):x=y:=(A4 (r.abs.symm.trans q.abs))
def Vals.inj:∀{xs ys:`S} {us:`N},`ea->`bV ys us->xs=ys:=by
 intro xs ys us h
 induction h generalizing ys with
 | nil=>intro h2;cases h2;rfl
 | cons r t ih=>intro h2;cases h2 with
  | cons r' t'=>rw[`alc,ih t']
section
variable{σ:St}{s:`v}{ys:`S}
def Inv.list(I:`C)(h:`aRJ):`aRK PlainL:=by
 skip;rcases h with h|⟨o,its,n,hk,hc,hd,hs,hz,r⟩
 ·let#[z,its,n,r,e]:=`aRL
  done;exact#[its,r,#[_,n,e,rfl,rfl,rfl],z]
 ·done;refine#[`Pl,r,#[o,n,`aRM,hc,hd,`aRN],?_]
  have e:=`bm;simp only[`Ti] at e;lia
def Inv.tuple(I:`C)(h:`aRO):`aRK `E':=by
 skip;rcases h with h|⟨o,its,n,hk,hc,hs,hz,r⟩
 ·let#[z,its,r,p]:=`aRL
  done;exact#[its,r,p.tup,z]
 ·done;refine#[`Pl,r,#[o,`aRM,hc,n,`aRN],?_]
  have e:=`bm;simp only[`Ti] at e;lia
def Inv.list_inj(I:`C)(h:`aRJ)(h':SqL X.K H a ys):xs=ys:=by
 skip;let#[its,r,#[o,n,e,_,_,d],_]:=`g6 h;let#[O,r',#[o',n',e',_,_,d'],_]:=`g6 h';rw[e] at e';cases e';rw[d] at d';done;injection d' with d1 _
 apply `aRP
 subst this;exact `alc
def Inv.tuple_inj(I:`C)(h:`aRO)(h':SqT X.K H a ys):xs=ys:=by
 skip;let#[its,r,#[o,e,_,n,d],_]:=`mT h;let#[O,r',#[o',e',_,n',d'],_]:=`mT h';rw[e] at e';cases e';rw[d] at d';done;injection d' with d1 _
 apply `aRP
 subst this;exact `alc
omit z
abbrev Cx.wish(X:Cx)(E:`ap):Cx:={ X with xe:=E }
abbrev Cx.nox(X:Cx):Cx:=X.wish `oN
def Cx.Ok.wish(ok:X.Ok)(E:`ap):`aRQ:=(
 `aRR)
def Cx.Ok.unwish(ok:`aRQ):X.Ok:=(
 `aRR)
section
variable{σ:St}{s:`v}
def Inv.wish(I:`C)(E:`ap):`aRS:=((`uv (I.ok.wish E) `jw))
def Inv.unwish(I:`aRS):`C:=((`uv I.ok.unwish `jw))
def SP.unwish{D:`fO}{f:Flow}(h:SP (X.wish E) `t D f s'):`aRT:=by
 skip;cases f with
 | next=>apply `ald;done;apply `ale
 | brk=>apply `ald;done;apply `ale
 | cont=>apply `ald;done;apply `ale
 | ret u=>let#[v,σ',H',I,r,q]:=h;done;exact#[v,σ',H',`aKI,r,q]
def PSs.nox{st:`bb}{t:TS}(h:PSs X.nox st t):PSs X st t:=(λpins s σ H D I hw=>
 C9 (h `t s σ H D (I.wish _) hw) (λ_ _ q=>q.unwish) λ_ _ z=>`fU z)
omit z
section
variable{st:`aO}{rest:`bb}{t u:TS}
def za1:TS:=`iP `PM
def Ex0(t u:TS):TS:=`iP (t `alf σ H)
def p40:PSs X [] za1:=(λ_ _ σ H _ I h=>x6 `aRU)
def xv0(h1:PS X st t)(h2:PSs X `aA u):PSs X `abZ (Ex0 t u):=by
 apply `iU;refine wpAny_execs_cons (thn (`bZ h1 `alf h) `aHU);cases f with
 | next=>
  apply `alg;exact h2 `t s1 σ' H' D I' q
 | ret v=>exact q
 | brk=>exact q
 | cont=>exact q
def Inv.quiet{σ:St}{s:`v}(I:`C):`aRV `P=`l:=by simp[`aRV,`nq]
def zq1(te:TE):TS:=`alh λ_ H1=>`aRW
def pa0(he:`gL)(hs:`ali):PS X `alj (zq1 te):=by
 apply `iU;exact wpAny_Expr_any (`alk `k' #[σ,H1,I1,q1]) I.quiet hs
def ys1(te:TE):TS:=`alh D.rt
def pp0(he:`gL):PS X `Dk (ys1 te):=by
 apply `iU;exact wpAny_Return_some (`alk `k' #[x,σ,H1,I1,r1,q1])
def y61:TS:=λD _ H=>D.rt `x H
def Fi0:PS X (`CU `e pos) y61:=(λ_ _ σ H _ I h=>wpAny_Return_none #[`x,σ,H,I,rfl,h])
def xj1(c:TT)(t u:TS):TS:=`iP (c σ H λb H1=>`w (b=`f) (t D σ H1) (u D σ H1))
def e90{c:`K}{a b:`bb}{tc:TT}(hc:PT X c tc)(ha:PSs X a t)(hb:PSs X b u):PS X (.If c a b pos) (xj1 tc t u):=by
 apply `iU;refine wpAny_If (thn (`bZ hc _ h) λd s1 hq9=>?_);let#[H1,I1,q1]:=hq9;cases d with
 | true=>exact `nr ha D
 | false=>exact `nr hb D
def Eo0:TS:=`wZ
def vr0{sts:`bb}:PSs X sts Eo0:=(λ_ _ _ _ _ _ h=>`fE)
omit z
abbrev TG:=V->`aRX
abbrev TGs:=`S->`aRX
def PG(X:Cx)(target:`K)(t:TG):Prop:=
 ∀(pins:`az) (s:`v) (σ:St) (H:Hp) (v:V) (u:`A) (Q:`ln),`C->`gE->`aRY ->
  `de (`jF `R' `P u) `aRZ
def PGs(X:Cx)(ts:`bB)(t:TGs):Prop:=
 ∀(pins:`az) (s:`v) (σ:St) (H:Hp) (vs:`S) (us:`N) (Q:`ln),`C->`ux->t vs σ H Q ->
  `de (assignInOrder (`tO (`su ts `P)) us) `aRZ
abbrev Qc0:=`aR_
def Qd0(X:Cx)(t:Qc0):Prop:=
 ∀(pins:`az) (s:`v) (σ:St) (H:Hp) (o i v:V) (ov iv u:`A) (Q:`jh),`C->`dG o ov->`dG i iv->`gE->t o i v H Q ->
  `de (`L! ov iv u) (λ_ s'=>∃H',`nQ/\Q H')
def Ja0(i:Nat):TG:=`sc (Q `E_ H)
def je0(hN:`dh)(hi:`mk)(hx:`D8)(hf:`uw):PG X `lo (Ja0 i):=by
 apply `aR0;exact `aR1 (i60 I hN hi hx r (λs' I'=>#[_,H,I',h]) hf)
def yp1:TGs:=λvs σ H Q=>vs=[]/\Q σ H
def zi1(t:TG)(u:TGs):TGs:=λvs σ H Q=>∃v r,vs=v::r/\t v σ H fun σ' H'=>u r σ' H' Q
def Gd0:PGs X [] yp1:=by
 apply `all;let#[e,h]:=h;subst e;cases r;exact assignInOrder_nil `aRU
def Uw0{t:TG}{u:TGs}(h1:PG X e t)(h2:PGs X es u)
  (hs:`G (`tO (`su `g2 `P)=`jF e `P::`tO `alm) Aa):PGs X `g2 (zi1 t u):=by
 apply `all;let#[v,vr,e1,h]:=h;subst e1;cases r with
 | cons r rr=>
  rw[hs];refine assignInOrder_cons (thn (h1 `t s σ H _ _ _ I r h) λ_ s1 hq10=>?_);let#[σ1,H1,I1,q1]:=hq10;exact h2 `t s1 σ1 H1 _ _ Q I1 rr q1
def yz1(K:`y)(n:Nat)(t:TGs):TG:=`sc (`p? `qU (`ax=n/\t xs σ H Q))
def Bj0{k:Nat}{t:TGs}{n:Nat}(hc:`dH)(h:PGs X es t)
  (hn:`G ((`z `alm)=n) Aa) (hst:`aR2 `alm):PG X (`xf es k pos) (yz1 X.K n t):=by
 intro pins s σ H v u Q I r hw;skip;let#[a,xs,e1,hq,hl,hw]:=hw;subst e1;cases r;let#[its,rv,ht,hz]:=`NW;done;refine assign_Tuple_tuple `ke ht (by simp[hn,← hl,`qV]) hst λh' hx=>?_
 have I1:`E3:=`Hk (t':=`cK) λb o e=>hx b o `aln e
 exact h `t _ σ H xs _ Q I1 (`aR3) hw
def xd1(to ti:TE)(t:Qc0):TG:=`sc (to σ H λo H1=>ti σ H1 λi H2=>t o i v H2 λH3=>Q σ H3)
def c70{i:`K}{to ti:TE}{t:Qc0}(ho:`alo)(hi:PE X i ti)(hs:Qd0 X t)
  (ha:`G (∀v,`jF `alp `P v=(do
   let ov ← `alq
   let iv ← `oM [v,ov] (`bX i `P)
   `Hl
   `Hm
   `Hn)) Ad):PG X `alp (xd1 to ti t):=by
 apply `aR0;rw[ha];refine A0 (D2 (thn `Ho λov s1 hq11=>?_));apply `fI hq11;refine A0 (D2 (thn `aR4 λiv s2 hq12=>?_));let#[y,H2,I2,r2,q2]:=hq12;refine `lJ P8 (D2 (thn (hs `t s2 σ H2 x y v ov iv u _ I2 r1 r2 r q2) λ_ s3 hq13=>?_));let#[H3,I3,q3]:=hq13;exact wpAny_release #[σ,H3,I3,q3]
def Ev0(te:TE)(g:TG):TS:=`alh λx H1=>g x σ H1 `hf
def gk0{g:TG}(he:`gL)(hg:PG X tg g)(hs:`alr)(hw:`als)
  (h1:`alt):PS X `alu (Ev0 te g):=by
 apply `iU;refine wpAny_Assign_stores (thn `k' λv s1 hq14=>?_) hs hw;apply `fI hq14;rw[h1];exact thn (hg `t s1 σ H1 x v _ I1 r1 q1) λ_ s2 q=>q
def fg0(hN:`dh)(hi:`mk)(hx:`D8)(he:`gL)(hs:`lb e (`c (`aR5)) `m0)(hf:`uw):
  PS X (`gB [`aR5] e pos) (Ev0 te (Ja0 i)):=by
 apply `iU;refine wpAny_Assign_Name (thn `k' λv s1 hq15=>?_) hs;let#[y,H1,I1,r1,q1]:=hq15;exact i60 I1 hN hi hx r1 (λs2 I2=>#[_,H1,I2,q1]) hf
def Df0(c:TT)(tb:TS):TS:=λD σ H=>∃W:`aF!,(∃m,W m σ H)/\∀m σ H,W m σ H ->
 c σ H λb H1=>if b=`f then ∃N:`ln,(∀σ' H',N σ' H'->∃m',m'<m/\W m' σ' H')/\tb `aR6 σ H1 else `aRW
def Ui0{c:`K}{body:`bb}{tc:TT}{tb:TS}(hp:`zP)(hc:PT X c tc)(hb:`aR7):PS X `alv (Df0 tc tb):=by
 apply `iU;let#[W,#[m0,w0],O]:=h;refine wpAny_While (codeAny_whileLoop (λn s'=>`GH (W n σ' H')) ?_ m0 #[σ,H,I,w0]);rintro n s1 ⟨σ1,H1,I1,w1⟩;refine `uB (hc `t s1 σ1 H1 _ I1 (O n σ1 H1 w1)) λb s2 hq16=>?_;let#[H2,I2,q2]:=hq16;cases b with
 | true=>
  let#[N,hN,q2]:=q2;rw[`a_];refine `uB (`RR hb σ1) λf s3 q3=>?_;skip;cases f with
  | next=>
   let#[σ3,H3,I3,n3]:=q3;let#[m',hm,w3]:=hN σ3 H3 n3;done;exact`aR8
  | cont=>
   let#[σ3,H3,I3,n3]:=q3;let#[m',hm,w3]:=hN σ3 H3 n3;done;exact`aR8
  | brk=>done;exact q3
  | ret v=>done;exact q3
 | false=>
  rw[`lN];exact x6 #[σ1,H2,I2,q2]
structure It where
 go:`aR9
 yld:Nat->Hp->`ak3
 stop:`aR9
def lj0(X:Cx)(pins:`az)(H:Hp)(b:`d):Prop:=
 `aR' (`pJ<=b)
def Inv.fpOk{σ:St}{s:`v}{b:`d}(I:`C)(hb:`Z<=b)(hn:`p2):`alw:=by
 refine#[hn,`Hp I.lt,I.nofs hb,`p (B7 I.sz hb),`alx,`aly]
 ·let#[v,q]:=`EZ
  exact `qS q.lt `aR!
 ·exact `qS (A6 (`Dd).1) `aR!
structure Turn(P:`aj)(w:`M)(K:`y)(tg:`K)(J:It)(fp:`aK)(it:`d)(tn:`Tj):Prop where
 mem:it∈fp
 obj:∀i h,tn i h->∀b∈fp,∃o,`oL/\`aR?
 keep:∀i h h',tn i h->(∀b∈fp,∀o,`P7)->tn i h'
 item:∀(X:Cx),`cF=P->X.w=w->X.K=K->`dH->∀(i:Nat) (pins:`az) (s:`v) (σ:St) (H:Hp) (E:`ap),`C->`aSa->`alz->`alA ->
  `aN `tG X.A `aSb (λr s1=>∃u,r=`bC /\
   `aN `tG X.A `alB (λ_ s2=>∃x H',`alC/\`iC/\`alD/\tn `eA s2.heap/\∀b∈fp,`p2) E s1) E s
 done:∀(X:Cx),`cF=P->X.w=w->X.K=K->`dH->∀(i:Nat) (pins:`az) (s:`v) (σ:St) (H:Hp) (E:`ap),`C->`aSa->`alz->`alE ->
  `aN `tG X.A `aSb (λr s1=>r=`e/\`br H s1) E s
 self:∀(A:`ck) (i:Nat) (s:`v) (Q:`ap) (E:`ap),`alz->Q `yy s->`hr `tG (pyIter `yy)
abbrev TI:=`yx `Tk
def PIE(X:Cx)(pins:`az)(σ:St)(tg:`K)(R:`Tk)(itv:`A)(s2:`v):Prop:=
 ∃(it:`d) (fp:`aK) (tn:`Tj) (J:It) (H':Hp),itv=`U it/\`alC/\`aSc/\`aSd/\(∀b∈fp,`alw)/\R J H'
def PI(X:Cx)(tg iter:`K)(wi:TI):Prop:=
 ∀(pins:`az) (s:`v) (σ:St) (H:Hp) (R:`Tk),`C->wi σ H R ->
  `de (`bX `kC `P) (λv s1=>`uC (pyIter v) `aSe s1)
def Xi0{M:`eM}{A:`ck}{E:`ap}{s:`v}{tg:`K}{u:`A}{o:Obj}{n:`bE}{vs:`a8}{Q:`dQ}(ho:`es it=`aG)(hc:`oC=`bj n)(hd:`p0=`CD)
  (hn:`aSf=`l) (hQ:Q () s):`hr M `alB:=by
 delta letOwnedTupleGo;cases tg<;>first
  | exact A2 hQ
  | (cases u<;>first
    | exact A2 hQ
    | (apply `lI `aSg ho
       rw[hc,hd];show `hr M (`w ((`aSf&&vs[0]?==`c (`qW _))=`f) _ _);rw[`Q (by intro h;rw[hn,`aSh] at h;cases h)];exact A2 hQ))
def Itl(K:`y)(a:`d):It:=
 #[`aSi,`alF `aSj,`aSk]
def Itt(K:`y)(a:`d):It:=
 #[λi H=>∃xs x,`qU/\`p5,`alF (∀xs,`qU->`p5),λi H=>∃xs,`qU/\`aeZ]
def Itr(lo:Int)(n:Nat):It:=#[λi _=>i<n,`alF (x=`alG),λi _=>n<=i]
theorem Ot0{P:`aj}{w:`M}(a it:`d):`Tl (Itl K a) `aSl where
 mem:=`bO
 obj:=λi h st b hb=>by
  apply `G?
  subst e;apply `alH;apply `alI
 keep:=`aSm
 item:=by
  apply `lO;skip;apply `lP;apply `alJ;apply `aSn;apply `alK;apply `qX;done;refine wpAny_pyNext_list_item st `Tm (x:=u) `alL `aSo
  apply `aSp;apply `alM;exact`aSq `aSr
 done:=by
  apply `lO;skip;apply `lP;let#[xs,hq,hx]:=hg;apply `aSn;apply `qX;have hl:=`qV;done;exact wpAny_pyNext_list_end `ke st `Tm `qY `Hq
 self:=`alN wpAny_pyIter_listiter
theorem Qh0{P:`aj}{w:`M}(a it:`d):`Tl (Itt K a) (h.IsTupleIter it a i) where
 mem:=`bO
 obj:=λi h st b hb=>by
  apply `G?
  subst e;apply `alH;apply `alI
 keep:=`aSm
 item:=by
  apply `lO;skip;apply `lP;apply `alJ;apply `aSs;apply `alK;apply `qX;done;refine wpAny_pyNext_tuple_item st `aSt (x:=u) `alL `aSo
  apply `aSp;apply `alM;exact`aSq λys hy=>`o (`aSu hy hq) hx
 done:=by
  apply `lO;skip;apply `lP;let#[xs,hq,hx]:=hg;apply `aSs;apply `qX;have hl:=`qV;done;exact wpAny_pyNext_tuple_end `ke st `aSt `qY `Hq
 self:=`alN wpAny_pyIter_tupleiter
theorem Rr0{P:`aj}{w:`M}(it:`d)(lo:Int)(n:Nat):`Tl (Itr lo n) (`aSv h it (lo+(i:Nat)*1) (`aW - (i:Nat)) 1) where
 mem:=`bO
 obj:=λi h st b hb=>by
  apply `G?
  subst e;exact#[_,st,λv z=>by
   have z':`aSw _=Data.cell v:=z;cases z']
 keep:=λi h h' st k=>k it `a? _ st
 item:=by
  apply `lO;skip;apply `lP;apply `qX;have W:=Walks.range (prog:=`cF) (w:=X.w) `ke it lo 1 n;done;refine W.item i s _ _ hg st λv h' tk hv O kk=>?_
  let#[t,rfl]:=hv;have I1:`br H `uD:=`ad7 (`sn (kk b o (`wW) e)) f0 f1 f3 f4 f5;refine`qZ (Xi0 (s:=`uD) (n:= "range_iterator") O rfl rfl `u #[`alG,H,I1,#[t,?_],`nT,O,`ae0]);rw[Int.mul_one]
 done:=by
  apply `lO;skip;apply `lP;apply `qX;done;exact wpAny_pyNext_range_end `ke st (by have:n<=i:=hg;lia) `Hq
 self:=`alN wpAny_pyIter_rangeiter
def zh1(K:`y)(tl:TE):TI:=`aSx `aSy Itl
def xm1(K:`y)(tl:TE):TI:=`aSx (∃xs,SqT K H1 a xs) Itt
def am0{l:`K}{tl:TE}(hl:PE X l tl):PI X tg l (zh1 X.K tl):=by
 apply `Hr;refine thn `aSz λv s1 hq17=>?_;skip;apply `fI hq17
 apply `aSA;subst e;cases r1;let#[its,rv,p,hz]:=I1.list hq;done;refine `aSB `Tm ?_;refine`aSC Ot0;have e:b=`m':=`wW
 subst e;apply `Hs
def Dr0{l:`K}{tl:TE}(hl:PE X l tl):PI X tg l (xm1 X.K tl):=by
 apply `Hr;refine thn `aSz λv s1 hq18=>?_;skip;apply `fI hq18
 apply `aSA;subst e;cases r1;let#[its,rv,p,hz]:=I1.tuple hq;done;refine wpAny_pyIter_tuple (show s1.heap.IsTuple a `b3 from p) ?_;refine`aSC Qh0;have e:b=`m':=`wW
 subst e;apply `Hs
def Mn0{σ:St}{s:`v}{R:`Tk}{E:`ap}{lo hi:Int}{t u v:Tok}{tk:Nat}(I:`C)(h1:-(`hI)<=lo)(h2:lo<`hI)(h3:-(`hI)<=hi)(h4:hi<`hI)
  (q:R (Itr lo `yz) H):`aN `ek X.A (pyIter `j0) `aSe E `aSD:=by
 refine wpAny_pyIter_range (IsRange.new ..) (small_one h1 h2 h3 h4) ?_;have I1:`br H `aSD:=`Hk `Gn
 refine#[`alO,[`alO],_,_,H,rfl,
  `Ru (t':=tk) `Gn,Rr0 _ lo `yz,?_,`eB,q]
 ·have e1:lo+`yA*1=lo:=`bO
  have e2:`aSE=Builtin.Range.rangeSize lo hi 1:=by rw[rangeSize_one];split<;>lia
  show `aSv _ _ (lo+`yA*1) (`aSE) 1;rw[e1,e2];exact `hn
 ·have e:b=`alO:=`wW
  subst e;apply `Hs
def Ap0(ta:TA):TI:=`Tn ta λvs H1=>∃j:Int,vs=[`h?]/\-(`hI)<=j/\j<`hI/\R (Itr 0 `py) H1
def Mb0{a:`K}{ta:TA}{p:Pos}(hg:`aSF)(hm:`aSG)(ha:`aSH)(hs:`To):PI X tg `aSI (Ap0 ta):=by
 apply `Hr;refine `aSJ boot_range λus s1 hq19=>?_;skip;apply `Tp hq19;let#[j,e,q1,q2,q]:=q1;subst e;cases r1 with
 | cons r rr=>
  cases rr;apply `kd;done;exact call_range_1 (Mn0 I1 `n `n q1 q2 (`alP))
def xc1(wi:TI)(g:TG)(tb:TS):TS:=λD σ H=>wi σ H λJ H1=>∃W:`aSK,(∃m,W 0 m σ H1)/\∀i m σ H,`aSL ->
 (`alE/\`PM)∨(`alA/\∃N:`ln,(∀σ' H',N σ' H'->`afv σ' H')/\∀x H',`alD->g x σ H' fun σ2 H2=>tb `aR6 σ2 H2)
def f90(fp:`aK)(h:`D):`az:=fp.filterMap λb=>(`wh).map λo=>`E4
def mk0{h:`D}{b:`d}{o:Obj}(hb:b∈fp)(e:`oL):`E4∈f90 fp h:=(List.mem_filterMap.mpr #[b,hb,`ae e])
def Om0{h:`D}{p:`aAz}(hp:p∈f90 fp h):p.1∈fp/\`f! p.1=`yw:=by
 let#[b,hb,e]:=List.mem_filterMap.mp hp;cases q:`wh with
 | none=>rw[q] at e;cases e
 | some o=>
  rw[q] at e;have e':`E4=p:=A4 e;subst e';exact#[hb,q]
def Inv.pinned{σ:St}{s:`v}(I:`C)(hf:∀b∈fp,`Pm)(ho:∀b∈fp,∃o,`hp/\`aR?):`tz X (`t++f90 fp `ay):=(
 I.pins_of λp hp=>`aQ0 (λz=>`jw p (D4 _ z)) λz=>by
  skip;let#[hb,e]:=Om0 z;let#[f0,f1,f2,_]:=hf p.1 hb;let#[o,e',d]:=ho p.1 hb;rw[e] at e';cases e';done;exact#[e,f0,f1,f2,d])
def Inv.unpinned{pl:`az}{σ:St}{s:`v}(I:`tz X (`t++pl)):`C:=(I.pins_of λp hp=>`jw p (D4 _ (D5 _ hp)))
def Oq0{body:`bb}{wi:TI}{g:TG}{tb:TS}{pos:Pos}(hp:`zP)(hc:`dH)(hi:`alQ)(hg:PG X tg g)(hb:`aR7)
  (hs:`fX):PS X `alR (xc1 wi g tb):=by
 apply `iU;refine wpAny_For (`Tf `Ht λa5 s2 h2=>?_) hs;skip;let#[it,fp,tn,J,H2,e,I2,T,a3,f2,W,#[m0,w0],a1]:=h2;subst e;have O:`aSM `alw:=λhn b hb=>#[hn b hb,(`m!).2]
 done;refine codeAny_forLoop_any (λn s'=>∃i σ' H',`L6/\`aSN/\`Tq n σ') ?_ m0 #[0,σ,H2,I2,a3,λb hb=>(`m!).1,w0];rintro n s3 ⟨i,σ3,H3,I3,Y,Z,w3⟩;skip;rcases a1 i n σ3 H3 w3 with⟨stop,qn⟩|⟨go,N,hN,step⟩
 ·done;refine `uB (T.done X rfl rfl rfl hc i `t s3 σ3 H3 `hW I3 (O Z) Y stop) λr s4 hq20=>?_;let#[hr,I4]:=hq20
  subst hr;exact x6 #[σ3,H3,I4,qn]
 ·done;refine `uB (T.item X rfl rfl rfl hc i `t s3 σ3 H3 `hW I3 (O Z) Y go) λr s4 hq21=>?_;let#[u,hr,h4]:=hq21
  subst hr;refine `uB h4 λ_ s5 hq22=>?_;skip;let#[x,H5,I5,r5,y5,U,a2]:=hq22;have a4:=I5.pinned (O a2) (`Gy _ _ U);done;refine `uB (hg _ s5 σ3 H5 x u _ a4 r5 (step x H5 y5)) λ_ s6 hq23=>?_;let#[σ6,H6,I6,q6]:=hq23;refine `uB (hb _ s6 σ6 H6 _ I6 q6) λf s7 q7=>?_;skip;have again:∀{σ7:St} {H7:Hp},Inv X (`t++f90 fp s5.heap) σ7 H7 s7->N σ7 H7->∃m,m<n/\∃i σ' H',`abU s7/\tn i s7.heap/\`Tq m σ':=λ{σ7 H7} I7 n7=>by
   let#[m',hm,w7]:=hN σ7 H7 n7;refine#[m',hm,i+1,σ7,H7,`alS,`alT U (`aSO).1,`eB,w7];let#[o,e,d]:=`Gy _ _ U b hb;exact(`aSO).2.1
  cases f with
  | next=>let#[σ7,H7,I7,n7]:=q7;done;exact `aSP
  | cont=>let#[σ7,H7,I7,n7]:=q7;done;exact `aSP
  | brk=>let#[σ7,H7,I7,q7]:=q7;done;exact#[σ7,H7,`alS,q7]
  | ret v=>let#[x7,σ7,H7,I7,r7,q7]:=q7;done;exact#[x7,σ7,H7,`alS,r7,q7]
abbrev R2:=`Hu
def OpR(X:Cx)(f:`zQ)(r:R2):Prop:=
 ∀(pins:`az) (s:`v) (σ:St) (H:Hp) (x y:V) (v u:`A) (Q:VK),`C->`lQ->`fW->`R7 ->
  `de `alU `hu
variable{r':L2.R2}
def UnR(X:Cx)(f:`aaN)(r:`CV):Prop:=
 ∀(pins:`az) (s:`v) (σ:St) (H:Hp) (x:V) (v:`A) (Q:VK),`C->`lQ->r x H Q ->
  `de (f v) `hu
def CallR(X:Cx)(f:`A)(r:`ms):Prop:=
 ∀(pins:`az) (s:`v) (σ:St) (H:Hp) (xs:`S) (us:`N) (Q:VK),`C->`ea->`Tr ->
  `ae9 f
def tOp(r:R2)(ta tb:TE):TE:=`cS ta (`zR tb λy H2=>r x y H2 Q)
def tUn(r:`CV)(ta:TE):TE:=`zS ta (r x H1 Q)
def rI(C:`alV)(g:`Ts):R2:=`ef (`alW (C i j/\Q `p1 H))
def rI0(g:`Ts):R2:=`ef (`alW (Q `p1 H))
def rU(g:Int->V):`CV:=λx H Q=>∃i,`ac_/\Q (g i) H
section
variable{a c:`K}{tc:TE}
def Kt0(ha:`kc)(hb:`uE){s:`v}{σ:St}{R:V->`ak3}(I:`C)
  (h:ta σ H (`zR tb λy H2=>R x y H2)) {Q:`ap} {f:`zQ}
  (hf:∀v u s2 x y H2,`aSQ->`lQ->`fW->R x y H2->`uC `alU Q s2):
  `aRr `alU Q:=by
 refine thn `Lz λv s1 hq24=>?_;apply `fI hq24
 refine thn `aDG λu s2 hq25=>?_;let#[y,H2,I2,r2,q2]:=hq25
 exact hf v u s2 x y H2 I2 r1 r2 q2
def J70{op:`Tt}{r:R2}(ho:`aSR)(ha:`kc)(hb:`uE):PE X `aSS `Tu:=by
 apply `bg;exact wpAny_BinOp `aST
def y71{op:UnaryOp}{r:`CV}(ho:UnR X (unaryOp op) r)(ha:`kc):PE X (`abj op a pos) (tUn r ta):=by
 apply `bg;exact UnaryOp_ (`alk `Lz (ho `t s1 σ H1 x v Q I1 r1 q1))
def opI{f:`zQ}{C:`alV}{g:`aSU}
  (rule:`alX (C i j->`aSV)):
  OpR X f (rI C `aSW):=by
 apply `hJ;skip;let#[i,j,rfl,rfl,hc,q]:=h;apply `dj;apply `fY;done;exact rule i j t t' s _ _ hc `aSX
def Ck0{f:`zQ}{g:`aSU}
  (rule:`alX `aSV):
  OpR X f (rI0 `aSW):=by
 apply `hJ;skip;let#[i,j,rfl,rfl,q]:=h;apply `dj;apply `fY;done;exact rule i j t t' s _ _ `aSX
def Qx0{f:`zQ}{g:Int->Int->`B}
  (rule:`alX (Q (`dJ `p1) s->`aGb)):
  OpR X f (rI0 λi j=>.bl `p1):=by
 apply `hJ;skip;let#[i,j,rfl,rfl,q]:=h;apply `dj;apply `fY;done;exact rule i j t t' s _ _ (`hv (.bl `p1) q)
def L80(i j:Int):Prop:=`Tv
def Li0(i j:Int):Prop:=`alY
def CMul(i j:Int):Prop:=`afU
def CMul.ok{i j:Int}(h:CMul i j):IntMulOk i j:=by
 rcases h with⟨h1,h2⟩|⟨h1,h2⟩
 ·exact .of_left `aSY
 ·exact .of_right `aSY
def Cf0:OpR X `ac1 (rI0 `aSZ):=(`zT Ck0 add_int)
def Ei0:`E5 .Sub (rI0 `aS_):=(`zT Ck0 sub_int)
def Eb0:OpR X `aS0 (rI CMul `aS1):=(opI λ_ _ _ _ _ _ _ hc q=>mul_int q hc.ok)
def Gz0:`E5 .FloorDiv (rI L80 `aS2):=(opI λi j _ _ _ _ _ hc q=>by
 have h1:`j7<j:=hc.1;have h2:`aCk:=hc.2;exact floordiv_int `c_ (`o (Int.fdiv_eq_ediv_of_nonneg i `c_) q) (`m (PyProof.noPylong_small `c_)))
def Eq0:`E5 .Mod (rI (`aS3) `aS4):=(opI λi j _ _ _ _ _ hc q=>by
 have h1:`j7<j:=hc;exact mod_int' `n (`o (Int.fmod_eq_emod_of_nonneg i `n) q))
def Bo0:`E5 .Pow (rI Li0 `aS5):=(opI λ_ _ _ _ _ _ _ hc q=>pow_int_small hc.1 hc.2.1 hc.2.2 q)
def unI{f:`aaN}{g:`aGa}
  (rule:∀(i:Int) (t:Tok) (s:`v) (Q:`ap) (E:`ap),Q (`g (g i) `cK) `np->`aei (f `yk)):
  UnR X f (rU λi=>`aS6):=by
 intro pins s σ H x v Q I rx h;let#[i,rfl,q]:=h;apply `dj;exact rule i t s _ _ (`ns `aS6)
def Dm0:UnR X (unaryOp .USub) (rU λi=>`g (-i)):=(unI λ_ _ _ _ _ q=>neg_int q)
omit z
def Ba0:V->V->`B
 | `x,`x=>`f|`x,`c2=>`f|`c2,`x=>`f|`x,`cl=>`f|`cl,`x=>`f|`x,`cn=>`f|`cn,`x=>`f
 | `c2,`c2=>`f|`cl,`cl=>`f|`cn,`cn=>`f|.byt _,.byt _=>`f
 | `c2,`cn=>`f|`cn,`c2=>`f|`cl,`cn=>`f|`cn,`cl=>`f
 | _,_=>`l
def rEq:R2:=`ef (`aS7/\Q `aS8 H)
def Hp0{i j:Int}:`alZ `OJ `OJ:=by
 rw[`q_];simp
def Du0{i j:`B}:`alZ V.bl V.bl:=by
 rw[`q_];simp
def Iy0{i j:Str}:`alZ `DF `DF:=by
 rw[`q_];simp
def Fl0{i j:`aPT}:`X (V.byt i=V.byt j)=(i.toList==j.toList):=by
 rw[`q_];cases i;cases j;simp
section
variable{a c:`K}{tc:TE}
def t90{σ:St}{s:`v}{Q:VK}{k k':`B}(I:`C)(q:Q (`zr) H)(e:k=k'):`tF (`dJ k') s:=by
 subst e;exact#[`zr,H,I,rfl,q]
def Z8:`h1 .Eq rEq:=by
 apply `hJ;let#[hs,q]:=h;cases x with
 | non=>
  cases rx;cases y with
  | non=>cases ry;exact PySem.EqNone.eq_none_none `kf
  | bl j=>cases ry;exact PySem.EqNone.eq_none_bool `kf
  | int j=>apply `fY;exact PySem.EqNone.eq_none_int `kf
  | str j=>apply `fY;exact PySem.EqNone.eq_none_str `kf
  | _=>exact `zU
 | bl i=>
  cases rx;cases y with
  | non=>cases ry;exact PySem.EqNone.eq_bool_none `kf
  | bl j=>cases ry;exact eq_bool (t90 I q Du0)
  | str j=>apply `fY;exact PySem.EqMixed.eq_bool_str `kf
  | _=>exact `zU
 | int i=>
  apply `dj;cases y with
  | non=>cases ry;exact PySem.EqNone.eq_int_none `kf
  | int j=>apply `fY;exact eq_int (t90 I q Hp0)
  | str j=>apply `fY;exact PySem.EqMixed.eq_int_str `kf
  | _=>exact `zU
 | str i=>
  apply `dj;cases y with
  | non=>cases ry;exact PySem.EqNone.eq_str_none `kf
  | bl j=>cases ry;exact PySem.EqMixed.eq_str_bool `kf
  | int j=>apply `fY;exact PySem.EqMixed.eq_str_int `kf
  | str j=>apply `fY;exact eq_str (t90 I q Iy0)
  | _=>exact `zU
 | byt i=>
  apply `dj;cases y with
  | byt j=>apply `fY;exact W.eq_bytes (t90 I q Fl0)
  | _=>exact `zU
 | _=>cases y<;>exact `zU
def Y5:`h1 .Lt (rI0 `al_):=(`zT Qx0 lt_int)
def v9:`h1 .LtE (rI0 `al0):=(`zT Qx0 le_int)
def Y6:`h1 .Gt (rI0 `al1):=(`zT Qx0 gt_int)
def yw0:`h1 .GtE (rI0 `al2):=(`zT Qx0 ge_int)
def zv0:`h1 .Is `aS9:=by
 apply `hJ;let#[rfl,q]:=h;cases ry;refine is_none_gen (t90 I q ?_);cases x<;>first
  | (cases rx;rfl)
  | (apply `dj;rfl)
def OpR.or{f:`zQ}{r:R2}(h:OpR X f r)(h':OpR X f r'):OpR X f `aS':=by
 intro pins s σ H x y v u Q I rx ry q;apply `Tw
 ·exact `aS! h
 ·exact `aS! h'
def fd0(b:`K){op:`hH}(h:`G (op≠.In) Ab)(h2:`G (op≠`Hv) Ab):`D6:=by
 have e1:(op==CmpOp.In)=`l:=by apply `t8 op `adS
 have e2:(op==CmpOp.NotIn)=`l:=by apply `t8 op (`J rfl h2)
 cases b<;>simp[`CL,e1,e2]
def Gg0{op:`hH}{r:R2}(ho:`q0)(ha:`kc)(hb:`uE)(hm:`D6):PE X `uz `Tu:=by
 apply `bg;exact `aRu `aST hm
def Jl0(t:TE):TT:=`cS t λx H'=>∃k,x=`zr/\Q k H'
def fu0{op:`hH}{r:R2}(ho:`q0)(ha:`kc)(hb:`uE)(hm:`D6):PT X `uz (Jl0 `Tu):=by
 apply `bg;refine `aRw `al3 hm;apply `al4;refine `al5;apply `al6;refine thn `aLA λc s3 z9=>?_;skip;apply `al7
 subst e;cases r3;done;exact E7 #[H3,I3,q3]
def Wz0(r r':R2)(ta tb tc:TE):TE:=fun σ H Q=>ta σ H λx H1=>tb σ H1 λy H2=>r x y H2 λz H3=>∃k,z=`zr /\
 (if `agi then tc σ H3 λw' H4=>r' y w' H4 Q else Q `rS H3)
def K90{op op':`hH}{r:R2}(ho:`q0)(ho':`Tx)(ha:`kc)(hb:`uE)(hc:PE X c tc)
  (hm:`Ty):PE X `Tz `aS?:=by
 apply `bg;refine Compare_chain `al3 hm;apply `al4;refine chain_link (`al5);apply `al6;apply `aTa;skip;apply `al7
 subst e;cases r3;done;refine E7 ?_;cases k with
 | false=>exact ite_ff #[`mq,H3,I3,rfl,q3]
 | true=>refine ite_tt (chain_last (thn `aTb λw' s4 z9=>?_));let#[z',H4,I4,r4,q4]:=z9;exact `aTc Q
def Kf0{op op':`hH}{r:R2}(ho:`q0)(ho':`Tx)(ha:`kc)(hb:`uE)(hc:PE X c tc)
  (hm:`Ty):PT X `Tz (Jl0 `aS?):=by
 apply `bg;refine isTrue_chain `al3 hm;apply `al4;refine test_link (`al5);apply `al6;apply `aTa;skip;apply `al7
 subst e;cases r3;done;refine E7 ?_;cases k with
 | false=>
  let#[k',e',q']:=q3;cases e';exact ite_ff #[H3,I3,q']
 | true=>
  refine ite_tt (test_last (thn `aTb λw' s4 hq26=>?_));let#[z',H4,I4,r4,q4]:=hq26;refine thn (`aTc _) λd' s5 hq27=>?_;skip;let#[z2,H5,I5,r5,k2,e2,q5]:=hq27;subst e2;cases r5;done;exact E7 #[H5,I5,q5]
def ky0:(`R:Nat)<`Pv:=`qO `zI
def Rl0:OpR X `ac1 (`ef `aTd):=by
 apply `hJ;skip;let#[i,j,rfl,rfl,hz,q]:=h;apply `dj;apply `fY;done;exact add_str (λt' tk=>(`ns `aGf)) hz
def vals1{x:V}(r:`aTe):`aTf:=by
 cases r with
 | cons r1 r2=>cases r2;exact#[_,rfl,r1]
def vals2{x y:V}(r:`aTg):∃u w',us=[u,w']/\`iC/\`dG y w':=by
 cases r with
 | cons r1 r2=>
  cases r2 with
  | cons r3 r4=>cases r4;exact`gM r1 r3
def Pa0(hc:`dH):`ir X `aTh `aTi:=by
 apply `lR;skip;let#[i,j,rfl,q]:=h;let#[u,w',rfl,#[t,rfl],#[t',rfl]]:=vals2 r;done;refine min_two_ints `ke λh' tk k=>#[_,H,`Hk k,?_,q]
 by_cases hj:j<i
 ·rw[`I hj,`I hj];exact`Y
 ·rw[`Q hj,`Q hj];exact`Y
def V8:`ir X `aTj `aTk:=by
 apply `lR;skip;rcases h with⟨i,rfl,q⟩|⟨k,rfl,q⟩
 ·apply `al8
  done;exact call_int_int #[`bs,H,I,`Y,q]
 ·let#[u,rfl,r1]:=`abX
  cases r1;done;exact call_int_bool (`ns `aFx)
def R7:`ir X `aTl `aTm:=by
 apply `lR;skip;let#[x,rfl,hz,q]:=h;apply `al8;done;exact ord_of_one hz (`ns `c2)
omit z
structure ObjM(h:`D)(x dx C:`d)(mA:`a2):Prop where
 obj:`f! x=`aFR
 ns:`aeO
 ne:`SK
open T in
def Yc0{h:`D}(n:`aeO):∃od,`f! dx=`al9/\`aTn:=by
 let#[o,es,ep,ho,hd,hk,_,hm]:=n;refine#[o,ho,λname=>?_];have e:=hm `dc;delta nsFind findBy at e;rw[← `aTo] at e;delta W.lookIn;rw[hd];dsimp only;split
 ·rename_i y q
  rw[q] at e;exact D0 `c e
 ·rename_i q
  rw[q] at e;have a:`aTp=`l:=by
   rw[List.any_eq_false];intro y hy;let#[z,t,O]:=hk y (Array.mem_toList_iff.mp hy);simp[DictEntry.refKey,O]
  have a':¬`aTp=`f:=`o a C0
  rw[`Q a'];exact D0 `c e
def ObjM.look{h:`D}{x C:`d}(I:ObjM h x dx C mA):∃od,W.InstAt h x `aFd C (`al9)/\`aTn:=(
 let #[od,ho,hl]:=Yc0 I.ns
 #[od,#[I.obj,rfl,rfl,ho],hl])
section
variable{w:`M}{s:`v}{x C f:`d}{v:`A}
def get_map{expr:`B}{Q:`ap}(X:`qN)(I:`al')(hg:`aTq)(hh:`TA)
  (ha:`aTr=`gX) (hv:`ae6=`bR) (hv':`aTs v=`f) (h:Q v `np):
  `aeM `Pq expr:=by
 apply `al!;exact W.get_value X J (x8 hg).1 (`aTt hh ha rfl (by rw[hl,hv])) hv' h
def Lg0{pl:`iV}{Q:`aTu}(X:`qN)(I:`al')(hg:`aTq)
  (hf:`aTr=`yB) (ht:`Hw) (hv:`ae6=`e) (h:Q (`KW,[`K8]) s):
  `aeM `Lq pl:=by
 apply `al!;exact W.method_fn X J (x8 hg).1 (x8 hg).2 hf (G0.mp ht) (by show (`aGg).map `aE9=`bu;rw[hl,hv];rfl) h
def Hy0{ns:`i}{Q:`dQ}(X:`qN)(I:`al')
  (hs:`al?) (hp:`aTv) (ht:W.takerIn K C `dc=`gX) (hh:`TA)
  (hw:`aFe mA ns) (hsz:`aTw)
  (h:∀h',ObjM h' x dx C (λy=>`w (y=`dc) `bR (mA y))->`E0 dx->Q () (`h_ h' (`cK+2))):
  `aPz:=by
 apply `al!;refine W.set_plain X J hs (W.osa_open (s:=`np) (r:=`e) X J hp ht λb=>?_);let#[cd,hc,Z]:=W.any_some hh;have hx:`es x=`c #[`eU,`sw,.plain,⟨⟩]:=I.obj;refine `lJ A2 (`aPA W.Looks.here (W.looks_clsIn X hc));rw[Z];refine A2 (a:=`sw) (A0 (A2 `SF));refine `aPD (s:=`np) I.ns λh' O U=>?_
 let#[oD,a4,a3,Y,a1,a2]:=O.count (PySem.Within.cons `dc v hw);apply `iR `aPF Y (`o a1 (`aPG (B7 a2 (`TB))));exact A2 (h _ #[(U.2 _ (B0 I.ne)).trans I.obj,O,I.ne] U)
def Kv0{R:`ka}{vs:`N}{kw:`tD}(X:`qN)(hm:`ama)
  (hi:`aTx) (hf:W.typeIn K `e6=`c `qP)
  (h:`oE `dt (`aCn vs) (`nk `e6 #[`U `ho::vs,kw]) (W.InitBack `ho R)
   `aTy):
  `qI (`nk `bl #[vs,kw]) s:=by
 let#[hh,g,d,t,os]:=s;exact W.make_core (W.makes_of X hm) (W.looks_findIn X hi) (λself=>W.bind_fn X self hf) `du h
omit z
def s30(f:Str)(v:V):`hG->`hG
 | []=>`TC
 | (g,x)::r=>`w (g=f) ((g,v)::r) ((g,x)::`aMv)
def en0(f g:Str)(v:V):∀fs:`hG,(`ae8).lookup g=`w (g=f) `bR (`L? g):=by
 intro z;induction z with
 | nil=>
  show `iW g `TC=_
  by_cases h:g=f
  ·have hb:(g==f)=`f:=`Hx h
   simp only[`iW,hb,`cA]
  ·have hb:`aTz:=`nN h
   simp only[`iW,hb,`dO]
 | cons zp r iq=>
  let#[k,x]:=zp
  have ih:=iq;apply `amb
  by_cases hk:k=f
  ·rw[`Hy]
   by_cases h:g=k
   ·have hb:`aTA:=`Hx h
    simp only[`iW,hb,`I (h.trans hk)]
   ·have hb:`aTB:=`nN h
    simp only[`iW,hb,`Q (λe:g=f=>h (`amc hk.symm))]
  ·rw[`TD]
   by_cases h:g=k
   ·have hb:`aTA:=`Hx h
    simp only[`iW,hb,`Q (λe:g=f=>hk (h.symm.trans e))]
   ·have hb:`aTB:=`nN h
    simp only[`iW,hb];exact ih
def g70(f:Str)(v:V):∀fs:`hG,f∈`aTC/\∀g,g∈`aee->g∈`aTC:=by
 intro z;induction z with
 | nil=>exact#[`fg s30,λg h=>`amd]
 | cons zp r ih=>
  let#[k,x]:=zp
  let#[i1,i2]:=ih;apply `amb
  by_cases hk:k=f
  ·rw[`Hy]
   subst hk;exact#[`bO,λg h=>`aAX]
  ·rw[`TD]
   refine#[?_,λg h=>?_]
   ·rw[`av]
    exact B3 _ i1
   ·rw[`av] at h ⊢
    rcases `D? with e|e
    ·exact A5.mpr (`uF)
    ·exact B3 _ (i2 g e)
def d20(f:Str)(v:V):∀fs:`hG,(`z `ae8)<=`NL+1:=by
 intro z;induction z with
 | nil=>simp[s30]
 | cons zp r iq=>
  let#[k,x]:=zp
  have ih:=iq;apply `amb
  by_cases hk:k=f
  ·rw[`Hy,`an,`an];lia
  ·rw[`TD,`an,`an];lia
def RelO.some_of{o:`gV}(r:RelO `r0 o):∃u,o=`bC/\`gE:=by
 cases o with
 | none=>apply `TE
 | some u=>exact#[u,rfl,r]
def RelO.none_of{o:`gV}(r:RelO `e o):o=`e:=by
 cases o with
 | none=>rfl
 | some u=>apply `TE
def Yp0(r:`gE):`aTs u=`f:=by
 cases v with
 | non=>cases (`nL (u=`nB));rfl
 | bl b=>cases (`nL (u=`Dg b));rfl
 | int i=>apply `aTD;cases e;rfl
 | str x=>apply `aTE;cases e;rfl
 | byt b=>let#[t,e]:=(`nL `aPV);cases e;rfl
 | flt b=>let#[t,e]:=(`nL `aPW);cases e;rfl
 | ref a=>cases (`nL `Sa);rfl
 | ty n=>cases (`nL (u=`nz n));rfl
section
variable{P:`aj}{w:`M}{h:`D}{C:`d}{fs fs':`hG}
def al0(hok:`fV)(e:`TF):∃mA,ObjM h a dx C mA/\(`aeP)/\`aFS/\`aki/\`akh:=by
 skip;let#[d,z,ne,ob,mA,n,r,q]:=(show `DY (`rW) from hok a _ e);done;exact#[mA,#[ob,n,ne],r,q,z,d]
omit z
structure Cls(K:`y)(C:`d):Prop where
 pg:`aTF=`f
 hd:`TA
 po:`aTv
 sa:`al?
def Cls.get{C:`d}(c:`tX)(f:Str):`ae7 K C f=`f:=(c.pg)
def NoAttr(K:`y)(C:`d)(f:Str):Prop:=`TG
def NoAttr.taker{C:`d}{f:Str}(n:`zV):W.takerIn K C f=`gX:=by
 delta W.takerIn;rw[show `TG from n];rfl
structure Meth(K:`y)(C:`d)(m:Str)(f:`d):Prop where
 at_:`pX K `bl m=`yB
 fn:`Hw
 kp:`zW
section
variable{σ:St}{s:`v}{C:`d}{fs:`hG}{f:Str}
def bg0{b:`B}{Q:`ap}(I:`C)(e:`TF)(c:`uG)(n:`aTG)(l:`ame)
  (h:`aTH):`aTI:=by
 skip;apply `aTJ;apply `aTK;done;exact get_map `fy O (c.get f) c.hd n hu (Yp0 ru) (h u _ `sL ru)
def md0{m:Str}{g:`d}{pl:`iV}{Q:`aTu}(I:`C)(e:`TF)(c:`uG)(k:Meth X.K C m g)(l:`FK)
  (h:Q (`U g,`eb) s):`p7 (`Lq `cf m pl):=by
 apply `aTJ;have hn:mA m=`e:=RelO.none_of (`cu l (r m));exact Lg0 `fy O (c.get m) k.at_ k.fn hn h
def be0{y:V}{Q:`dQ}(I:`C)(e:`TF)(c:`uG)(n:`aTG)(hl:`aTL)(ry:`fW)
  (h:∀s',`zX a `aTM s'->`Hb):`p7 (setAttr `cf f u):=by
 let#[mA,O,r,wi,_,ho]:=`aGi;have hz:(`z `aee)<=`R:=`fB `T `zI
 refine Hy0 `fy O c.sa c.po n.taker c.hd wi hz λh' O' sb=>`afW
 have hd:∃o,`id dx=`aG:=by let#[o,_,_,e',_]:=O'.ns;exact#[o,e']
 refine `amf (x:=a) (e:=dx) `P0 (`p ho) (λb q hb z=>`aKy z) hd ?_;refine#[`o (Y4 O.ne) ho,?_,O.ne,O'.obj,_,O'.ns,λg=>?_,λg hg=>?_]
 ·have:=d20 f y fs;lia
 ·show RelO ((`aGj).lookup g) `aTN
  rw[en0]
  by_cases q:g=f
  ·rw[`gJ,`gJ];exact ry
  ·rw[`fj,`fj];exact r g
 ·by_cases q:g=f
  ·rw[q];exact(`aTO).1
  ·refine(`aTO).2 g (wi g λz=>hg ?_)
   show `aTN=`e;rw[`fj];exact z
def Inv.made(I:`C):Inv X `t σ (upd (upd H `Z (`kO `ho)) `ho (`aTP))
  `aTy:=by
 have e1:(`EG).get? `Z=`c `aa0:=C6 `ay rfl;have e2:(`aGh).get? `ho=`c (`aej):=by
  have:=C6 (`EG) (o:=`aej) rfl
  rwa [x9] at this
 have e3:(`EG).Ns `Z (`zH):=#[`aa0,⟨⟩,_,e1,rfl,(`aPC),`gK];have I1:=`tb (a:=`Z) (o:=`kO `ho) (h':=`EG) (t':=`cK) (λb u q=>`xu) `bQ #[_,e1];refine `Sz (a:=`rL) (o:=`aTP) (t':=`cK) (λb u q=>`xu) (Y3 (x9 _ _)) ?_;have ne:`Z≠`rL:=B5 (H0 _);refine#[`Hz (Y4 ne),`b7,ne,e2,`zH,(`aPE e3).at λo q=>`xu,λ_=>`mW,λy hy=>`J rfl hy]
def Su0{prog:`aj}{w:`M}{env:Env}{f:Str}{pos:Pos}{s:`v}{Q:`ap}(hb:`wK e f env (`amg)=`amg)
  (h:`TH (`amg) λo s₁=>`cL (`Pq o f `f) `eF):`cL (`bX `amh env) s:=(
 Attribute_any_ h (by rw[arm_eval_Attribute,hb]))
omit z
def yl1(K:`y)(ta:TE)(f:Str):TE:=`zS ta (∃a C dx fs v,`eJ/\`FJ/\`tX/\`zV/\`ame/\Q v H1)
def yo1(K:`y)(ta tv:TE)(f:Str):TS:=λD σ H=>tv σ H λy H1=>ta σ H1 λx H2=>∃a C dx fs,`eJ/\H2 a=`mJ/\`tX/\`zV/\`aTL /\
 `hf σ (upd H2 a `aTM)
def Dg0(X:Cx)(op:`Tt)(rd:`Hu):Prop:=
 ∀(pins:`az) (s:`v) (σ:St) (H:Hp) (x y:V) (u v:`A) (Q:VK),`C->`iC->`dG y v->rd x y H Q->`de (inplaceOp op u v) `hu
def G90(K:`y)(ta tv:TE)(rd:`Hu)(f:Str):TS:=λD σ H=>ta σ H λx H1=>∃a C dx fs v,`eJ/\`FJ/\`tX/\`zV/\`ame /\
 tv σ H1 λy H2=>rd v y H2 λz H3=>∃dx' fs',H3 a=`c (`h3 C dx' fs')/\fs'.length<1000/\`hf σ (upd H3 a (`h3 C dx' (s30 f z fs')))
section
variable{f:Str}
def Cu0(he:PE X e ta)(hb:`aTQ):PE X `amh (yl1 X.K ta f):=by
 apply `bg;refine Su0 hb (thn `k' λu s1 hq28=>?_);skip;apply `aTR hq28;subst ex;apply `q1;done;exact bg0 I1 ea c n l λu' s2 I2 ru=>#[v,H1,I2,ru,q]
def Wg0(ha:`uH)(hv:`ami)(hs:`aTS):PS X `aTT (yo1 X.K ta tv f):=by
 apply `iU;refine I00 (thn `aTU λu s1 hq29=>?_) hs;let#[y,H1,I1,ry,q]:=hq29;refine thn `aTV λov s2 hq30=>?_;skip;let#[x,H2,I2,rx,a,C,dx,fs,ex,ea,c,n,l,q2]:=hq30;subst ex;obtain rfl:ov=`r3:=rx;done;exact be0 I2 ea c n l ry λs3 I3=>#[σ,_,I3,q2]
def Ns0{op:`Tt}{rd:`Hu}(ha:`uH)(hv:`ami)(hop:Dg0 X op rd):PS X (`aTW (`fz o f tpos) op `gz pos) (G90 X.K ta tv rd f):=by
 apply `iU;apply `uA wpAny_AugAssign_AttributeAny λov s1 hq31=>?_;skip;apply `aTR hq31;subst ex;obtain rfl:ov=`r3:=rx;done;refine bg0 I1 ea c n l λu s2 I2 ru=>thn (hv `t s2 σ H1 _ I2 q) λw3 s3 hq32=>?_;let#[y,H2,I3,ry,q3]:=hq32;refine thn (hop `t s3 σ H2 v y u w3 _ I3 ru ry q3) λw4 s4 hq33=>?_;skip;let#[z,H3,I4,rz,U,fs',O,l',q4]:=hq33
 done;exact be0 I4 O c n l' rz λs5 I5=>#[σ,_,I5,q4]
def yv1:`Hu:=`ef (`alW (Q (`Pn) H))
def Et0:Dg0 X .Add yv1:=by
 rintro pins s σ H x y u v Q I rx ry ⟨i,j,rfl,rfl,q⟩;let#[t,rfl]:=(show `RP from rx);let#[t',rfl]:=(show ∃t',v=`abR j t' from ry);exact PyProof.Rows.iadd_int (`ns `Pn)
omit z
structure Room(k:Nat)(A:`ck):Prop where
 hd:`kg
 dp:`TI+3*k+5<`aTX
 un:`pe+16*k+200<`os
def Room.mono{k:Nat}(r:`HA)(h:j<=k):`jk j A:=(#[r.hd,`aTY,`aTZ])
def Room.deeper{k:Nat}(r:`aT_)(env:Env):`jk k (`Nm env):=(
 #[r.hd,by have:=r.dp;show `TI+1+3*k+5<_;lia,by have:=r.un;show `pe+3+16*k+200<_;lia])
def Qw0{C:`d}:(`TJ).depth=`TI+1:=by
 first|rfl|simp[`amj,Code.weight,Code.isCreation,Code.isGuard,Code.isCaller,`aT0,`amk,guardIds]
def Qo0{C:`d}:(`TJ).units=`pe+1:=by
 first|rfl|simp[`amj,Code.cUnits,`aT0,`amk]
def Room.make{k:Nat}(r:`aT_)(C:`d)(us:`N)(kw:`tD):`jk k (`TJ):=(
 #[r.hd,by have:=r.dp;rw[Qw0];lia,by have:=r.un;rw[Qo0];lia])
def Room.depth{k:Nat}(r:`HA):`TI<`aTX:=`aTY
def Room.units{k:Nat}(r:`HA):`pe+64<`os:=`aTZ
def Lf0:TA:=λ_ H Q=>Q [] H
def z51(ta:TE)(tr:TA):TA:=`cS ta (`zR tr λxs H2=>Q (x::xs) H2)
section
variable{t:TA}
def vj0:PA X [] Lf0:=(λ_ _ _ _ H Q I h=>Q1 `aT1)
def wa0(ha:`gL)(hr:`zY)(hs:`dk):PA X `g2 (z51 te t):=by
 intro pos pins s σ H Q I h;rw[hs];show `TK `vQ `aai;apply `uA N2 λu s1 hq34=>?_;apply `fI hq34;exact thn (hr pos `t s1 σ H1 _ I1 q1) λus s2 #[xs,H2,I2,r2,q2]=>#[x::xs,H2,I2,`ai r1 r2,q2]
def yu1(t:TA):TE:=`aT2 `v1
def yn1(t:TA):TE:=`aT2 `kV
def Wx0{x1}(h:`zY):PE X (`TL es) (yu1 t):=by
 intro pins s σ H Q I hq;refine wpAny_Tuple_spliced (thn `aT3 λus s1 hq35=>?_);let#[xs,H1,I1,r,z,q]:=hq35;apply `aT4;have hf:`aT5:=`Rv;refine`aT6 `v1;exact#[z,us,r,`akf]
def ff0(h:`zY):PE X `aml (yn1 t):=by
 intro pins s σ H Q I hq;refine wpAny_List_spliced (thn `aT3 λus s1 hq36=>?_);let#[xs,H1,I1,r,z,q]:=hq36;apply `aT4;have hf:`aT5:=`Rv;refine`aT6 `kV;exact#[z,us,0,r,`hn]
omit z
abbrev Sp:=`S->Hp->VK->XK->Prop
abbrev CXT:=`eN->Hp->`v->XK->`ap
structure Env0(P:`aj)(w:`M)(K:`y)(mg:`a2)(base:`D)(A:`ck)(outer:`eN)(s:`v)(H:Hp):Prop where
 frames:`adi=`c `da
 mod:Mod K mg `aP
 bs:∀b o,base.get? b=`aG->`aQE
 bsz:base.objs.size<=`Z
 funs:`Ea `aP `da
 frf:∀b∈frs `da,`dd
 hok:HOk P w H `ay
 bare:`aQB
variable{CX:L2.CXT}
def CE(outer:`eN)(P:`aj)(w:`M)(H:Hp)(s:`v)(Q:VK)(u:`A)(s':`v):Prop:=
 ∃v H',`ak2/\`R9/\`aT7/\`aT8/\`aRh
def CR(CX:CXT)(outer:`eN)(P:`aj)(w:`M)(H:Hp)(s:`v)(Q:VK)(E:XK)(r:Result)(s':`v):Prop:=
 match r with
 | .ok (`kP u)=>`aT9
 | .ok _=>`b_
 | `aMp=>CX `da H s E e s'
structure FnOk(P:`aj)(w:`M)(K:`y)(mg:`a2)(base:`D)(CX:CXT)(k:Nat)(f:`d)(fd:`fK)(ps:`i)(sp:Sp):Prop where
 len:`amm
 run:∀(A:`ck) (outer:`eN) (s:`v) (H:Hp) (args:Args) (us:`N) (vs:`S) (Q:VK) (E:XK),`HA->`amn->`NZ s fd `iX `Pr->`ux->`NT ->
  `oE `tG A (`nk `e6 `iX) (CR CX `da P w H s Q E) s
def Env0.make{P:`aj}{w:`M}{outer:`eN}{s:`v}(e:`amn)(C:`d)(us:`N)(kw:`tD):
  `aDK (`TJ):=(#[by first|exact `amo|(simpa [`amj,Code.envs,`amk,pushEnvs] using `amo),e.mod,e.bs,e.bsz,e.funs,e.frf,e.hok,e.bare])
section
variable{σ:St}{s:`v}
def Inv.env0(I:`C):Env0 `cF X.w X.K `cx `e7 X.A `g! s H:=(
 #[`aT',I.ok.mod,I.bs,B7 I.ok.bsz I.sz,I.stack,I.stkFree,`b1,`h4])
def Inv.after{Q:VK}(I:`C)(h:CE `g! `cF X.w H s Q u s'):`tF u s':=by
 skip;let#[v,H',os,bare,un,hok,r,q]:=h;let#[hh,g,d,t,O]:=s';obtain rfl:O=s.os:=os;done;exact#[v,H',I.call (h':=hh) (g':=g) (d':=d) (t':=t) (ch:=[]) un hok bare (λb z=>`J z `a?),r,q]
omit z
def z11(sp:Sp)(dvs:`S)(E:XK)(t:TA):TE:=`TM (sp `lf H1 Q E)
def z71(C:`d)(m:Str)(sp:Sp)(dvs:`S)(E:XK)(ta:TE)(t:TA):TE:=fun σ H Q=>ta σ H λx H1=>∃a dx fs,`eJ/\`FJ/\`FK /\
 `aT! E
def zz1(C:`d)(sp:Sp)(dvs:`S)(E:XK)(t:TA):TE:=fun σ H Q=>t σ H λvs H1=>∀x dx,H1 x=`e->`amp->`SK ->
 sp `aT? (`aGm H1) `aUa E
def Binds(K:`y)(fd:`fK)(ps:`i)(ds:`N):Prop:=
 ∀(s:`v) (us:`N),`qN->`ae'->`NZ s fd `E7 (`sy `xI)
def Binds.all(h:∀us:`N,`aUb->`tq fd `E7=`aUc):`Eb:=(λs us _ hl=>by
 rw[`cT] at hl ⊢;exact .of_eq (h us hl))
def l20(CX:CXT)(X:Cx)(E:XK):Prop:=∀(pins:`az) (σ:St) (H:Hp) (s:`v) (e:`A) (s':`v),`C->CX `g! H s E e s'->`hW e s'
section
variable{k:Nat}{f C:`d}{sp:Sp}{ds:`N}{E:XK}{m:Str}{p:Pos}{t:TA}
def Uy0{pins:`az}{σ:St}{H:Hp}{s:`v}{Q:VK}{us:`N}{vs:`S}(F:`zZ)(hr:`nU)(hb:`lS)(hd:`lT)(hx:`z_)
  (I:`C) (r:`ux) (h:sp `lf H Q E):`aUd:=by
 apply `amq;apply `aUe
 refine `aUf E;cases r with
 | error e=>exact hx `t σ H s e s' I hq
 | ok fl=>
  cases fl with
  | ret u=>exact `aUg
  | next=>apply `iY
  | brk=>apply `iY
  | cont=>apply `iY
def ks0(F:`zZ)(hr:`nU)(hg:`jc)(hm:`oF=`LL)(hk:`aUh)(hb:`lS)(hd:`lT)(hx:`z_)
  (ha:`q2) (hdb:`aL) (he:`dk) (hpl:`eO):
  PE X `pg (z11 sp dvs E t):=by
 apply `bg;apply `amr;refine `aUi λus s1 hq37=>?_;let#[vs,H1,I1,r,q]:=hq37;refine `aUj;exact Uy0 F hr hb hd hx I1 r q
def Iz0{pl:`iV}(he:`uH)(c:`uG)(hm:`TN)(F:`zZ)(hr:`nU)(hb:`lS)(hd:`lT)(hx:`z_)(ha:`q2)
  (hst:`dk) (hpl:`eO)
  (ht:`G (`aUk=(do
   let ov ← `o9
   `nV
   let (f,`im) ← `q3
   `TO)) Aa):
  PE X `ae! (z71 C m sp dvs E ta t):=by
 apply `bg;refine `TP λu s1 hq38=>?_;skip;let#[x,H1,I1,rx,a,dx,fs,ex,ea,l,q]:=hq38;subst ex;apply `q1;done;apply `TQ;refine `aUl λus s2 hq39=>?_;let#[vs,H2,I2,r,q2]:=hq39;refine `aUm;exact Uy0 (us:=`a'::us) (vs:=`a'::vs) F hr hb hd hx I2 `aUn q2
structure Mk(K:`y)(C f:`d):Prop where
 makes:`ama
 init:`aTx
 fn:`Hw
 kp:`aUo
def Mr0{pins:`az}{σ:St}{H:Hp}{s:`v}{Q:VK}{us:`N}{vs:`S}(M:`aUp)(F:`zZ)(hr:`ams)(hb:`lS)(hd:`lT)
  (hx:`z_) (I:`C) (r:`ux)
  (h:∀x dx,H x=`e->`Qg->`SK->sp `aT? (`aUq) `aUa E):
  `ae9 `bl:=by
 have hq:=h `ho `Z (`s1 (E5 _)) `NV (B5 (H0 _));have I2:=Inv.made (C:=C) I;have r2:`bV (V.ref `ho::`lf) (`e1 `ho::`xI):=`ai rfl (`NU hd);have hl:(`z (`amt++ds))=`aS:=by
  have e:=`nd;rw[`aiq hq] at e;exact e.symm
 refine L7 (Kv0 (f:=f) `fy M.makes M.init (G0.mp M.fn) (I0 (`E6 _ `g! _ _ #[`amt,[]] (`e1 `ho::`xI) _ _ E (hr.make C us [])
  (I2.env0.make C us []) (hb _ (`amt) `ae? hl) r2 hq) λr s' O=>?_))
 skip;cases r with
 | error e=>done;exact hx `t σ _ _ e s' I2 O
 | ok fl=>
  cases fl with
  | ret u=>
   let#[v,H',I3,rv,ev,q3]:=I2.after O;subst ev;done;exact#[rv,#[V.ref `ho,H',I3,rfl,q3]]
  | next=>done;exact `fU O
  | brk=>done;exact `fU O
  | cont=>done;exact `fU O
def Ly0(M:`aUp)(F:`zZ)(hr:`ams)(hg:`jc)(hm:`oF=`wq)(hb:`lS)(hd:`lT)(hx:`z_)
  (hdb:`aL):PE X (`g4 `mw []) (zz1 C sp dvs E Lf0):=by
 apply `bg;apply `amr;exact y0 `fy M.kp (Mr0 (us:=[]) M F hr hb hd hx I `_ h)
omit z
structure FnScope(N P:`i)(sc:`c1):Prop where
 kind:`aUr
 co:`aUs
 gen:`aUt
 nd:`S!
 pre:`aUu
 par:∀x∈P,`akH
 nofree:∀y∈`TR,`aUv
def Y30{kindOf:`TS}:`aUw bindL:=by
 intro z;induction z with
 | nil=>intro _ _;exact rfl
 | cons zp r ih=>
  let#[n,v]:=zp
  intro m h
  delta bindL;rw[`aUx];split
  ·apply `aUy
   simp[`F]
  ·rfl
def Yq0{kindOf:`TS}:`aUw bindC:=by
 intro z;induction z with
 | nil=>intro _ _;exact rfl
 | cons zp r ih=>
  let#[n,v]:=zp
  intro m h
  delta bindC;rw[`aUx];split
  ·rfl
  ·apply `aUy
   simp[`F]
def Zp0{kindOf:`TS}{v:`A}:∀{P:`i} {vs:`N} {i:Nat} {m:`a2},P.Nodup->`aUz->`amu->`xg x=`kE ->
  bindL `xg (`ajI) m x=`bR:=by
 intro z;induction z with
 | nil=>intro _ _ _ _ h _ _;simp at h
 | cons p P ih=>
  intro z1;cases z1 with
  | nil=>intro _ _ _ _ h _;simp at h
  | cons w vs=>
   intro z2;cases z2 with
   | zero=>
    apply `TT
    simp at h1 h2;subst h1;subst h2;show `TU bindL p;delta bindL;rw[Y30 `aUA,`Hy];simp
   | succ i=>
    apply `TT
    show `TU bindL x;delta bindL;apply `aUB
def Yo0{kindOf:`TS}{v:`A}:∀{P:`i} {vs:`N} {i:Nat} {m:`a2},P.Nodup->`aUz->`amu->`xg x≠`kE ->
  bindC `xg (`ajI) m x=`bR:=by
 intro z;induction z with
 | nil=>intro _ _ _ _ h _ _;simp at h
 | cons p P ih=>
  intro z1;cases z1 with
  | nil=>intro _ _ _ _ h _;simp at h
  | cons w vs=>
   intro z2;cases z2 with
   | zero=>
    apply `TT
    simp at h1 h2;subst h1;subst h2;show `TU bindC p;delta bindC;rw[Yq0 `aUA,`TD];simp
   | succ i=>
    apply `TT
    show `TU bindC x;delta bindC;apply `aUB
def start(N:`i)(vs:`S):St:=`aUC++`bG (`N0 - `fe) `e
def ot0(CX:CXT)(P:`aj)(w:`M)(K:`y)(mg:`a2)(base:`D)(N:`i)(qual:Str)(scope:`c1)(f:`d)(cd:`A)(A:`ck)(outer:`eN)(s:`v)(H:Hp)(E:XK):Cx where
 prog:=P
 w:=w
 K:=K
 mg:=mg
 base:=`aP
 A:=`Nm (`yD)
 N:=N
 s₀:=s
 H₀:=H
 env:=`yD
 outer:=`da
 stack:=`yD::`da
 ex:=[]
 calm:=`f
 fn:=`TV
 pn:=[]
 xe:=λe s'=>`aN `tG (`Nm (`yD)) (leaving (`yD) e) (λ_ s''=>CX `da H s E e s'') (λe' s''=>CX `da H s E e' s'') s'
def Wt0(h:`acY):∃c,(`aGo n `TR []).lookup x=`d_:=by
 have q:=`aUD `TR n [] `HB;exact Option.isSome_iff_exists.mp q
def Oo0{CX:CXT}{P:`aj}{w:`M}{K:`y}{mg:`a2}{base:`D}{N ps:`i}{qual:Str}{scope:`c1}{f:`d}{cd:`A}{A:`ck}{outer:`eN}{s s1:`v}{H:Hp}{E:XK}{us:`N}{vs:`S}
  (S:`aUE) (hd:`kg) (e0:`amn) (hl:`aDJ) (r:`ux)
  (x:InCallC s `Z (bindL `aUF `Pr `zH) (`aUG) (bindC `aUF `Pr `zH) s1):
  Inv (`aUH) [] `Ps H s1:=by
 have Y:`aS<=`N0:=by have:=D0 `uI S.pre;apply `aT `fN;lia
 let#[h1,tk,rfl,hk]:=x.done;have O:∀b:`d,b∉(`aUH).ex:=λb z=>`aUI
 refine#[#[e0.mod,S.kind,rfl,rfl,`gW,λy z c h1 h2=>?_,`aJ',λy c _ h=>?_,λ_=>hd,Around.frames_deeper e0.frames,`p `nT,`aUJ,e0.bs,e0.bsz,λb _ _=>O b,`aUJ,e0.funs,e0.frf],
  rfl,e0.bare,`SZ hk,#[_,x.toInCall.ns,λi y v h1 h2 h3=>?_],λy c h=>#[_,x.cell y c h],`aUK `bQ,λy c h=>?_,λp hp=>`sg (p∈([]:`az)) hp `a?,e0.hok.kept hk,?_]
 ·exact name_of_addr x.apart (F3 h1) (F3 h2)
 ·have hy:`PD=`ld∨`PD=`nt:=hy
  rcases hy with hy|hy
  ·exact Wt0 hy
  ·exact `J rfl (S.nofree _ (F3 hy))
 ·exact `aUL
 ·have hi:i<`fe:=by
   delta start at h2
   by_cases hi:i<`fe
   ·exact hi
   ·rw[`amv] at h2
    rw[`iZ] at h2;split at h2<;>cases h2
  have ha:`amu:=by
   delta start at h2;rw[`TW,`dl] at h2;cases e:vs[i]? with
   | none=>rw[e] at h2;cases h2
   | some a=>rw[e] at h2;cases h2;rfl
  let#[u,hu,rv]:=`q4 ha;have hp:ps[i]?=`gZ:=by
   rw[← S.pre,List.getElem?_take_of_lt `n];exact h1
  have U:ps.Nodup:=`cu S.pre (S.nd.sublist (List.take_sublist _ _))
  refine#[u,rv,?_];rcases S.par y (D3 hp) with k|k
  ·exact `m #[k,Zp0 U hp hu k]
  ·let#[c,e]:=Wt0 (n:=`rL) k
   refine `p #[`m k,c,e,?_];have q:=x.cell y c e;rw[Yo0 U hp hu (by show `PD≠_;rw[k];decide)] at q;exact q
 ·exact `aUK (`aUL)
 ·delta start
  show _=`N0;rw[`W,`T,`kh];lia
def R60{CX:CXT}{P:`aj}{w:`M}{K:`y}{mg:`a2}{base:`D}{k:Nat}{f:`d}{name qual:Str}{params:Arguments}{body:`bb}{scope:`c1}{dV kV doc pm cdv ct oc:`A}{an od:`bp}
  {osl:`j?} {N ps:`i} {sp:Sp} (lk:`HC `aUM) (hcd:`amw) (S:`aUE)
  (len:`amm)
  (hbody:∀(A:`ck) (outer:`eN) (s:`v) (H:Hp) (vs:`S) (Q:VK) (E:XK),`ajD `ep f->`NT ->
   ∃t,PSs `amx `eC t/\`aUN):
  `kA P w K mg `aP CX `cX f `aUM ps sp:=by
 refine#[len,λA outer s H args us vs Q E hr e0 hb r U=>?_];have hl:=len _ _ _ _ U;have KX:`qN:=e0.mod.kin.keeps `aUO
 have lim:s.heap.NoLimit:=e0.mod.nolimit.keeps `aUO
 have O:∀y∈`sy us,`sA y.1=`kE∨(`sA y.1=`ld/\`sO ((`aUG).lookup y.1)):=λhq40 hy=>by
  let#[n,v]:=hq40
  rcases S.par n (y4 hy).1 with q|q
  ·exact `mU
  ·exact `p #[q,`aUD _ _ _ `Ou]
 refine codeAny_call_function hr.depth (KX _ _ lk) rfl S.co S.gen rfl (W.codeRec_of KX hcd) (hb _ _ _ _ ?_);refine wpAny_newFunctionEnv_cells S.kind O λenv he s1 x=>?_
 subst he;refine#[lim.keeps x.toInCall.keep,codeAny_func ?_];let#[t,ht,hq]:=hbody A `da s H vs Q E (hr.deeper _) U;have I:Inv `amx [] `Ps H s1:=Oo0 S hr.hd e0 hl r x;refine C9 (ht [] s1 `Ps H _ I hq) (λfl s' hs=>?_) λe s' hs=>hs
 skip;have fin:∀{σ':St} {H':Hp} {v:V} {u:`A},Inv `amx [] σ' H' s'->`gE->`x?->`aT9:=
  λ{σ' H' v u} J rv q=>#[v,H',J.os,J.bare,J.base,J.hok,rv,q]
 cases fl with
 | ret u=>
  let#[v,σ',H',J,rv,q]:=hs;done;exact fin J rv q
 | next=>
  let#[σ',H',J,q]:=hs;done;exact fin (v:=V.non) (u:=`nB) J rfl q
 | brk=>
  let#[_,_,_,q]:=hs;done;exact `fU q
 | cont=>
  let#[_,_,_,q]:=hs;done;exact `fU q
section
variable{p:Pos}{t:TA}{id T:`bE}
def tCB(r:`ms)(t:TA):TE:=`TM (r vs H1 Q)
def lg0(hc:`aUP)(hg:`jc)(hm:`nR)(hv:`xh=`afe)(ha:`q2)(hn:`nS)(hdb:`aL)
  (he:`dk) (hpl:`eO):`aUQ:=by
 apply `bg;apply `aUR;exact a20 `aUS he hpl
def k40(hc:`amy)(hg:`jc)(hm:`nR)(hv:`TX)(ha:`q2)(hn:`nS)(hdb:`aL)
  (he:`dk) (hpl:`eO):`aUQ:=by
 apply `bg;apply `aUR;exact N1 `aUS he hpl
omit z
omit L2
variable{r:`aRg}{X:L2.Cx}{ta tb te tv td ty:L2.TE}{r':L2.R2}{CX:L2.CXT}
namespace HT
open PyProof.Rows
section
variable{w:`M}{s:`v}
def Hz0{t b:`d}{vs ws:`N}{Q:`ap}(ht:`E' `ay t `sz)(hb:`E' `ay b `z0)(hv:vs≠[])
  (h1:ws=[]->Q `p9 s) (h2:ws≠[]->Q `j0 (`ga s (`ib (`tw `aUT))))
  (hsz:`fe+`amz<=`R):`cL (`CM .Add `p9 `P2) s:=by
 skip;apply `afR (id ht);let#[#[a2,Z,data2,a1],O,Y,n2,U]:=id hb;simp only at hc hd Y U;subst hc hd Y U;have e:`sz++`z0=`aUT:=`bO
 by_cases hw:ws=[]
 ·done;exact l4 `uJ `aUU y6 y8 y9 A00 (A10 _ _)
   (tuple_addW1 t b `sz `z0 n n2 dd Z sl a1 `amA (by simp[hw])) #[ho,O,h1 hw]
 ·done;refine l4 `uJ `aUU y6 y8 y9 A00 (A10 _ _)
   (tuple_addW2 t b `sz `z0 n n2 dd Z sl a1 `amA `aMx (`d? `b8 `b8 hsz)) #[ho,O,?_]
  rw[e];exact h2 hw
def sIx(n d:Nat):`aUV
 | `e=>d
 | `bR=>`TY
def Dv0(n d:Nat)(hd:d<=n)(o:`aI):sIx n d o<=n:=by
 cases o with
 | none=>exact hd
 | some v=>
  show (`TY)<=n
  by_cases hv:v<0
  ·rw[`I hv];lia
  ·rw[`Q hv];exact a30 _ _
def cmN(k n:Nat):min `cv `aW=(`aM (min k n)):=by
 rcases `amB k n with h|h
 ·rw[`TZ h,`aUW `aUX]
 ·rw[`aEg h,Int.min_eq_right `aUX]
def Tt0(v:Int)(n d:Nat):`aUY=(`aM (sIx n d `r0)):=by
 show `aUY=(`aM (`TY))
 by_cases hv:v<0
 ·simp only[`I hv];exact (Int.ofNat_toNat _).symm
 ·simp only[`Q hv];let#[k,rfl]:=`aUZ (`aU_ hv);exact cmN _ _
def Rn0(lo hi:`aI)(n:Nat):`aU0=(`T_,`aU1):=by
 have h1:¬(`DV<0):=`E
 delta Builtin.Slice.sliceAdjust;apply `lE h1;apply `ca Prod.ext
 ·cases lo with
  | none=>rfl
  | some v=>exact Tt0 v n 0
 ·cases hi with
  | none=>rfl
  | some v=>exact Tt0 v n n
def Qb0(i j:Nat):`amC `wH `cG 1=j - i:=by
 delta Builtin.Slice.slicePlaces;have h1:(1:Int) > 0:=`E
 simp only[h1,`nC,Int.ediv_one];split<;>lia
def bo0{v:`A}{o:`aI}{Q:`aI->`ej}(p:`De v o)(h:Q o s):`cL (Builtin.Slice.slicePartIndex v) s:=by
 cases p with
 | none=>exact `aU2 h
 | int i t=>exact slicePart_int h
def l60{sl:`d}{lo hi:`aI}{n:Nat}{Q:Int×Int×Nat->`ej}(hs:`T0)(pl:`T1)(pu:`T2)
  (h:Q (`T_,1,`aGq - `aCr) s):`cL (Builtin.Slice.sliceApplied `Pt (`bW `aW)) s:=by
 let#[os,U,Y,O]:=id hs;delta Builtin.Slice.sliceApplied Builtin.Slice.sliceFields;refine A0 (`amD vl (`amD vu (`amD `aY `L')));refine A0 (`aU2 ?_);show `dN (`w ((`DV==0)=`f) _ _) s;rw[`d6];refine A0 (bo0 pl (A0 (bo0 pu (`G0))));show `dN (match `aU0 with|(lo,hi)=>`bW (lo,`DV,`amC lo hi 1)) s;rw[Rn0 lo hi n];show `dN (`bW (`T_,`DV,`amC `T_ `aU1 1)) s;rw[Qb0];exact A2 h
def K50(xs:`a8)(i k:Nat):(`iy ((`bJ k).filterMap `aU3))=(`iy ((xs.toList.drop i).take k)):=by
 have e:(`aU3)=`aU4:=by
  funext m
  have:(`aGr).toNat=i+m:=`E
  rw[`F]
 rw[e];have:=pick_run xs i k;apply `aT List.filterMap_map;have e2:((λx=>xs[x]?) ∘ λx=>i+x)=`aU4:=rfl
 apply `aT e2;rw[`F]
def ei0{t sl:`d}{items:`a8}{lo hi:`aI}{Q:`ap}(ht:`aU5)(hs:`T0)(pl:`T1)(pu:`T2)
  (hw:¬(`aU6))
  (h:Q `j0 (`ga s (`ib (`ij `mX `aU7))))
  (hsz:`gu<=`R):`aU8:=by
 have O:sizeOk (`aU7):=by
  show (`aGs).toArray.size<=`R;rw[`b8,`fN,`jX,`Ti];exact `amE `amF (`amE `aU9 hsz)
 have hj:`acs<=`gu:=Dv0 _ _ `bQ hi;let#[os,Z,a1,a2]:=id hs;have Y:`aU':= #[os,Z,a1];delta getItem
 apply `HD
 first|refine `G0|try fail
 refine `aU!;refine A0 (b4 (name:=`yO `afd) `uf Q2
  `aU?)
 apply `aVa;refine `aVb;apply `lI L6 Y;rw[`SG];refine `aVc;have U:¬(`ai1):=by
  intro q;rw[`b5,`b5] at q;have q1:`aDo=0:=`HE q.1.1;have q2:`acL=`gu:=`HE q.2;exact hw #[`em,`em]
 apply `aVd;rw[`Q U,K50]
 first
  | exact `aVe
  | exact `afb (A0 `aVf)
  | exact A0 (`afb `aVf)
  | exact A0 (`aVe)
omit z
omit HT
open Y
abbrev TO:=`yx `aVg
def PO(X:Cx)(e:`se)(t:TO):Prop:=
 ∀(pins:`az) (s:`v) (σ:St) (H:Hp) (Q:`aVg),`C->`sK ->
  `de (evalPart e `P) (λu s'=>∃o H',`nQ/\`De u o/\Q o H')
def Gn0:TO:=λ_ H Q=>Q `e H
def z31(t:TE):TO:=`zS t (∃i,`ac_/\Q `T3 H1)
section
variable{lo hi:`se}{tl th:TO}
def Hf0:PO X `e Gn0:=by
 apply `bg;rw[`aVh];exact A2 #[`e,H,I,`aY,h]
def Hx0(h:`gL):PO X (`sm) (z31 te):=by
 apply `ak8;rw[evalPart_some];refine thn `ak9 λu s1 hq41=>?_;skip;apply `fI hq41
 let#[i,rfl,q]:=q1;apply `amG;done;exact#[`CH,H1,I1,`g i t,q]
def SlR(X:Cx)(r:`uK):Prop:=
 ∀(pins:`az) (s:`v) (σ:St) (H:Hp) (x:V) (v vl vu:`A) (lo hi:`aI) (sl:`d) (Q:VK),`C->`lQ->`T0->`T1->`T2->`aVi ->
  ∃T id,`aVj/\`sM v T/\`de (`p8 v `Pt) `hu
def SlR.or{r r':`uK}(h:SlR X r)(h':SlR X r'):SlR X (`T4 (`aVi∨r' x lo hi H Q)):=by
 intro pins s σ H x v vl vu lo hi sl Q I rx hs pl pu q;apply `Tw
 ·exact `aVk h
 ·exact `aVk h'
def tSl(r:`uK)(te:TE)(tl th:TO):TE:=`aVl (r x l u H3 Q)
def K00{r:`uK}(hr:SlR X r)(he:`gL)(hl:`aVm)(hu:`aVn):PE X `aVo (tSl r te tl th):=by
 apply `bg;refine `T5 (thn `k' λv s1 hq42=>?_);apply `fI hq42;refine `aVp (thn `aVq λvl s2 hq43=>?_);let#[l,H2,I2,pl,q2]:=hq43;refine thn `aVr λvu s3 hq44=>?_;let#[u,H3,I3,pu,q3]:=hq44;rw[`aVh];refine `k3;have I4:`br H3 `amH:=I3.kept (t':=s3.toks) `agU
 let#[T,id,hT,ht,hg]:=hr `t `amH σ H3 x v vl vu l u `uL Q I4 r1 `aVs pl pu q3;show `uC (`aVt e `aLD v (`U `uL)) `hu `amH;exact `amI (ops:=[`U `uL,v]) ht hT hg (by with_unfolding_all rfl)
def g90(xs:`S)(lo hi:`aI):`S:=(`s8 (`Pu)).take `aGu
def er0(xs:`S)(lo hi:`aI):(`z `aBO)<=`ax:=by
 delta g90;rw[`fN,`jX];exact `amE `amF `aU9
def yy1(K:`y):`uK:=λx lo hi H Q=>∃a xs,`eJ/\`qU /\
 ¬`aVu/\`z1 (`H `HF)
def Do0:SlR X (yy1 X.K):=by
 apply `T6;skip;apply `aVv;cases rx;apply `aVw;apply `aVx
 done;refine#[`eX,_,Q2.lookup,`uf,?_];refine HT.ei0 ht hs pl pu `aVy ?_ (`o O hz);rw[O];refine`amJ (`H `HF) `amK;exact#[`aVz,_,`aVA,`amL]
def Jf0(K:`y):R2:=λx y H Q=>∃a b xs ys,`eJ/\`HG/\`qU/\`aVB/\`amM/\`PV /\
 (ys=[]->Q `cf H)/\(ys≠[]->`z1 (`amN))
def Vals.nil_iff(r:`ea):us=[]↔`z2:=by
 cases r with
 | nil=>simp
 | cons _ _=>simp
def H80:`amO Jf0:=by
 apply `hJ;skip;let#[a,b,xs,ys,rfl,rfl,ha,hb,hx,hz,q1,q2]:=h;cases rx;cases ry;apply `aVC;let#[O,r2,p2,_]:=`mT hb;done;refine HT.Hz0 p1 p2 (λz=>hx (`aVD z)) (λz=>(`hv `a' (q1 (r2.nil_iff.mp z)))) (`iO) (by rw[← `pP,← `nd];exact hz);refine`amJ `amN (q2 (λw=>z (r2.nil_iff.mpr w)) _ `NV);exact#[`aVE,_,`T7,`amL]
omit z
def ixN(n:Nat)(i:Int):`T8:=`aVF
def atI{α:Type}(xs:`bn)(i:Int):`SA:=`aVG
def H00{i:Int}(h:ixN n i=`T9):seqIndex? i n=`T9/\j<n/\`aff/\i<n:=by
 delta ixN at h
 by_cases h0:`jS
 ·rw[`amP] at h
  by_cases h1:i<n
  ·rw[`T'] at h
   have e:`ix=j:=A4 h;exact#[by rw[`aVH h0 h1,e],`E,`E,h1]
  ·rw[`T!] at h;cases h
 ·rw[`amQ] at h
  by_cases h1:`aff
  ·rw[`T'] at h
   have e:`aGw=j:=A4 h;exact#[by rw[`aVI `n h1,e],`E,h1,`E]
  ·rw[`T!] at h;cases h
def bz0{xs:`bn}{i:Int}{v:α}(h:`aOa):∃j,seqIndex? i `ax=`T9/\`afg=`bR/\j<`ax/\-(`ax:Int)<=i/\`uM:=by
 delta atI at h;cases e:`aGx with
 | none=>rw[e] at h;cases h
 | some j=>
  rw[e] at h;let#[h1,h2,h3,h4]:=H00 e;exact#[j,h1,h,h2,h3,h4]
def j40(b:`K):Prop:=`aID b
def IxR(X:Cx)(r:R2):Prop:=
 ∀(value slice:`K) (pins:`az) (s:`v) (σ:St) (H:Hp) (x y:V) (v u:`A) (Q:VK),`C->`lQ->`fW->`R7 ->
  `O4 `tE `l v u=`ajH [v,u] (`p8 v u)->`de (`aVt `gz `tE v u) `hu
def MtR(X:Cx)(id:`bE)(r:`ki):Prop:=
 ∀(pins:`az) (s:`v) (σ:St) (H:Hp) (x:V) (xs:`S) (v:`A) (us:`N) (Q:VK),`C->`lQ->`ea->`aVJ ->
  `aVK
section
variable{a:`K}
def IxR.or{r:R2}(h:`amR)(h':IxR X r'):IxR X `aS':=by
 intro value slice pins s σ H x y v u Q I rx ry q hs;apply `Tw
 ·exact `aVL h
 ·exact `aVL h'
def Rt0{r:R2}(hr:`amR)(ha:`kc)(hb:`uE)(hs:j40 b):PE X `uN `Tu:=by
 apply `bg;exact `T5 (Kt0 ha hb I h λv u s2 x y H2 I2 rx ry q=>hr a b `t s2 σ H2 x y v u Q I2 rx ry q (hs _ _))
def Cx0(K:`y):R2:=`ef (`aVM `afj)
def Fx0(K:`y):R2:=`ef (`aVM `aGy)
def Ek0:R2:=`ef (∃z i c,x=`oT/\y=`bs/\`yE/\`aVN=`d_/\Q (`yG) H)
def S70:IxR X (Cx0 X.K):=by
 apply `amS;skip;apply `aVO;cases rx;apply `amT;apply `aVP;apply `amU;let#[w,ew,O]:=`q4 h2;have hl:=`bm;have hn:=ky0;apply `aVQ
 by_cases h0:`jS
 ·have hj:`ix=j:=by
   rw[`aVH h0 h5] at h1;exact A4 h1
  done;exact item_listR `kj h0 `n `aVR fin hs
 ·have hj:(i+(`jP:Int)).toNat=j:=by
   rw[`aVI `n h4] at h1;rw[`b8,← hl];exact A4 h1
  done;exact `aVS (x:=w) `aVT `amV
   (wpAny_getItem_list_neg (Q:=`aVU) `kj `n `amW `n `aVR `aVV) hs
def Vx0:IxR X (Fx0 X.K):=by
 apply `amS;skip;apply `aVO;cases rx;apply `amT;apply `amX;apply `amU;let#[w,ew,O]:=`q4 h2;have hl:=`bm;have hn:=ky0;apply `aVQ;done;exact `aVS (x:=w) pl.typeIs slot_tuple_getitem.lookup
  (getItem_tuple (j:=j) (Q:=`aVU) pl `n `n (`amY hl h1) (`bA ew) `aVV) hs
def Ce0:IxR X Ek0:=by
 apply `amS;skip;let#[z,i,c,rfl,rfl,hz,he,q]:=h;apply `dj;apply `fY;apply `amU;have hl:z.cps.toList.length=`aaI:=`fg Str.length
 rw[hl] at h1 h4 h5;have hn:=ky0;done;exact `amI (R1 s z t) slot_str_getitem.lookup (getItem_str (c:=c) (by
  have e1:`X (i < `aVW)=`l:=`amZ;have e2:`X (i ≥ 2 ^ 63)=`l:=`amZ;rw[e1,e2,`SD]) (by rw[h1];apply `dX h2) (`ns `yG)) hs
def rIx(K:`y):R2:=`ef (`HH Cx0∨`HH Fx0∨Ek0 x y H Q)
def Bu0:IxR X (rIx X.K):=(S70.or (Vx0.or Ce0))
def sbN(n d:Nat)(i:Int):max 0 (min (`w (i<0) (i+`aW) i) `aW)=(`aM (`k6 n d `T3)):=by
 rw[← HT.Tt0 i n d]
 by_cases h:i<0
 ·rw[`cA,`cA,`aUW `n,Int.max_comm]
 ·rw[`dO,`dO];let#[k,rfl]:=`aUZ (`aU_ h);rw[HT.cmN,Int.max_eq_right (Int.natCast_nonneg _)]
def U10(lo hi:`aI)(n:Nat):(`am_).1=(`aM (`k6 n 0 lo))/\(`am_).2.1=(`aM (`k6 n n hi))/\(`am_).2.2=1:=by
 refine`q5 ?_
 ·cases lo with
  | none=>simp[`xK,`k6]
  | some i=>exact sbN n 0 i
 ·cases hi with
  | none=>simp[`xK,`k6]
  | some i=>exact sbN n n i
def Yy0(its:`N)(lo hi:`aI):slicePick `b3 lo hi `e=(`iy ((its.drop (`aVX)).take (`k6 `p' `p' hi - `aVX))):=by
 let#[h1,h2,h3]:=U10 lo hi `jP;delta slicePick;rw[h1,h2,h3];simp only[sliceRange_one,pick_run,`b8]<;>rfl
def yq1(K:`y):`uK:=`T4 (∃a xs,`eJ/\`tA/\`z1 (`s `HF))
def Il0:SlR X (yq1 X.K):=by
 apply `T6;skip;let#[a,xs,rfl,hx,q]:=h;cases rx;let#[its,r,ht,hz]:=`g6 hx;have O:=`bm;done;refine#[`g0,_,`amV,`aVY,?_];refine hm0 ht.isList hs pl pu `aY `a? ?_ `amW;rw[Yy0,← O];refine`amJ (`s `HF) `amK;exact#[`aVz,_,0,`aVA,`hn]
def o00:V->`B
 | `x=>`f
 | `cl=>`f
 | `c2=>`f
 | `cn=>`f
 | _=>`l
def eqV:V->V->`B
 | `x,y=>`am0
 | .bl a,y=>`am1
 | `T?,y=>`am2
 | `lt,y=>`am3
 | _,_=>`l
def Dt0{s:`v}{y x:V}{v:`A}(ry:`fW)(rx:`lQ)(fy:`aVZ)(fx:`am4):`xP A s u v (`afi):=by
 cases y with
 | non=>
  cases ry;cases x with
  | non=>cases rx;exact i7 _
  | bl b=>cases rx;exact `aV_ b
  | int b=>apply `dj;exact u3 b t
  | str b=>apply `dj;exact u4 b t
  | _=>apply `Ua
 | bl a=>
  cases ry;cases x with
  | non=>cases rx;exact `aV0 a
  | bl b=>cases rx;exact `aV1 a b
  | int b=>apply `dj;exact `aV2 a b t
  | str b=>apply `dj;exact `aV3 a b t
  | _=>apply `Ua
 | int a=>
  apply `fY;cases x with
  | non=>cases rx;exact u7 a t'
  | bl b=>cases rx;exact `aV4 a t' b
  | int b=>apply `dj;exact u8 a t' b t
  | str b=>apply `dj;exact i8 a t' b t
  | _=>apply `Ua
 | str a=>
  apply `fY;cases x with
  | non=>cases rx;exact v3 a t'
  | bl b=>cases rx;exact `aV5 a t' b
  | int b=>apply `dj;exact j0 a t' b t
  | str b=>apply `dj;exact w8 a t' b t
  | _=>apply `Ua
 | _=>exact `sg `CE fy C0
def eqU(x:V)(u:`A):`B:=match u with
 | `aY=>eqV `x x
 | `dJ b=>eqV `s? x
 | `g i _=>eqV `e! x
 | `r z _=>eqV `tW x
 | _=>`l
def O10{x y:V}(r:`fW)(f:`aVZ):eqU x u=`afi:=by
 cases y with
 | non=>cases r;rfl
 | bl b=>cases r;rfl
 | int i=>apply `kd;rfl
 | str z=>apply `kd;rfl
 | _=>exact `sg `CE f C0
def ak0{x:V}:∀{xs:`S} {us:`N},`ea->`Ub->us.any `GI=`aV6:=by
 intro xs us p;induction p with
 | nil=>intro _;rfl
 | cons r t ih=>
  intro f;rw[`lU,`b5] at f;rw[`nW,`nW,O10 r f.1,ih f.2]
def jl0{s:`v}{x:V}{v:`A}(rx:`lQ)(fx:`am4):∀{xs:`S} {us:`N},`ea->`Ub->∀u∈us,`xP A s u v (eqU x u):=by
 intro xs us p;induction p with
 | nil=>intro _ u hu;cases hu
 | cons r t ih=>
  intro f u' hu;rw[`lU,`b5] at f;rcases `am5 with rfl|hu
  ·rw[O10 r f.1];exact Dt0 r rx f.1 fx
  ·exact ih f.2 u' hu
def inV(x:V)(xs:`S):`B:=`aV6
def rIn(K:`y)(neg:`B):R2:=`ef (∃p xs,y=`g_/\`aV7/\`am4/\`Ub/\Q (.bl (`w neg (!inV x xs) (inV x xs))) H)
def o7:`h1 .In (rIn X.K `l):=by
 apply `hJ;skip;let#[p,xs,rfl,hq,fx,fs,q]:=h;cases ry;apply `am6
 ·apply `aVP
  done;refine SeqAt.in_listAt `GI `kj `aV8 `aV9;apply `aV';exact q
 ·apply `amX
  done;refine SeqAt.in_tupleAt `GI pl `aV8 `aV9;apply `aV';exact q
def gf0:`z3 `am7 (`HI (`aV!/\Q (`afk) H)):=by
 apply `lR;skip;let#[p,ys,rfl,hq,q]:=h;apply `Uc;cases rx;have hn:=ky0;apply `am6
 ·apply `am8
  have O:=`qy;done;exact Calls.call_len_list `kj `Px `aV?
 ·apply `am9
  have O:=`qy;done;exact len_tuple pl `Px `aV?
def Vj0:`z3 `am7 `aWa:=by
 apply `lR;skip;let#[z,rfl,hz,q]:=h;apply `al8;have hn:=ky0;done;exact len_str `n (`ns `afl)
def CallR.or{f:`A}{r':`ms}(h:`ir X f r)(h':`ir X f r'):`z3 f (`Tr∨r' xs H Q):=by
 intro pins s σ H xs us Q I rs q;apply `Tw
 ·exact `aWb h
 ·exact `aWb h'
def Z2:`z3 `Ft (`HI (`aV!/\`aWc)):=by
 apply `lR;skip;let#[p,ys,rfl,hq,q]:=h;apply `Uc;cases rx;have fin:∀(its:`N),`aWd->`am'->∀(h':`D) (c':Nat),(∀b o',`vY=`ad!->`aDw) ->
   `am!=`EI `b3 c'->`tF `j0 `kX:=λits r' hz h' c' kp e=>
  #[`mr,_,`tb (t':=`cK) kp `bQ (show `Ha _ _ `pE from #[hz,its,c',r',e]),rfl,`amK]
 apply `am6
 ·apply `am8
  have O:=`qy;let#[o,ho,hc,n,hd]:=`kj;done;exact `aWe `du
 ·apply `am9
  have O:=`qy;let#[o,ho,hc,n,hd]:=pl;done;exact `aWe `kk
def j7:`ir X `Qr `aWf:=by
 apply `lR;skip;let#[p,ys,rfl,h]:=h;apply `Uc;cases rx;rcases h with⟨hq,q⟩|⟨hq,q⟩
 ·apply `am8
  have O:=`qy;done;refine call_tuple_list `kj (λh' kp=>?_) `Px;have I1:`E3:=`Hk (t':=`cK) kp;have I2:`zX `tT `NC ((`ga s (`am? (`ij `mX `aWg)))):=
   `Sz (t':=`cK) (`Gn) `bQ (show `h7 `cF X.w _ _ _ `NC from #[hz,its,r',`amL])
  exact#[`U `tT,_,I2,rfl,q _ (`Rv)]
 ·apply `am9
  done;exact call_tuple_same pl (`hv `g_ q)
def tyV(K:`y)(T:`bE)(x:V)(H:Hp):Prop:=match x with
 | `cn=>T = `kl
 | `c2=>T = `lp
 | `g_=>(T = `g0/\∃xs,`afj)∨(T = `eX/\∃o,`hs p=`aG/\`SR/\`SS) ∨
   (T = `No/\((∃kvs,`aja)∨∃kvs,H p=`ana))∨(T = "set"/\∃S n,H p=`c (.set S n))
 | _=>`b_
def O40{σ:St}{s:`v}{T:`bE}{x:V}{v:`A}(I:`C)(r:`lQ)(ty:tyV X.K T x H):
  `sM v T/\∀a,`Ln->∃ob,`LY=`aeT/\`aWh:=by
 skip;cases x with
 | str z=>
  apply `kd;cases (show T = `kl from ty);done;exact#[R1 s z t,λ_ e=>nomatch e]
 | int i=>
  apply `kd;cases (show T = `lp from ty);done;exact#[b5 s i t,λ_ e=>nomatch e]
 | ref p=>
  cases r;rcases ty with⟨rfl,xs,hq⟩|⟨rfl,o,hk,hc,hd⟩|⟨rfl,hk⟩|⟨rfl,S,n,hk⟩
  ·let#[its,_,pl,_]:=`tc
   done;refine#[`aVT,λa e=>?_];skip;cases e;let#[o,n,e,c,hd,_]:=pl;done;exact#[o,e,hd]
  ·done;refine#[#[o,`fy p o hk,hc],λa e=>?_]
   cases e;exact#[o,`fy _ o hk,hd]
  ·have z:∃o,`es p=`aG/\`aFT:=by
    rcases hk with⟨kvs,hk⟩|⟨kvs,hk⟩
    ·skip;apply `aWi
     done;exact`aWj
    ·skip;apply `aWi
     done;exact`aWj
   let#[o,e,ex]:=z;done;apply `aWk;cases e2;exact`aWl
  ·let#[o,_,_,_,e,ex,_]:=`aGB
   done;apply `aWk;cases e2;exact`aWl
 | _=>done;exact `fU ty
def x01(K:`y)(T:`bE)(r:`ki)(to:TE):TE:=`zS to (`aWm/\r x [] H1 Q)
def tBM(K:`y)(T:`bE)(r:`ki)(to:TE)(t:TA):TE:=`zS to (`aWm/\t σ H1 λxs H2=>r x xs H2 Q)
variable{to:TE}{t:TA}{T id:`bE}{r:`ki}
def Py0(pa:PlainAttrs T)(slot:`aWn)(hty:`anb)(hm:`anc)(ho:`alo)
  (hbase:`and) (hline:`fZ):PE X (`qz `ane []) (x01 X.K T r to):=by
 apply `bg;refine wpAny_Call_method0_late `hj `jI (thn `Ho λv s1 hq45=>?_);skip;let#[x,H1,I1,r1,ty,q1]:=hq45;let#[h1,h2]:=O40 I1 r1 ty;done;exact`aWo (A50 rfl (PySem.evalArgs_none (hm `t s1 σ H1 x [] v [] Q I1 r1 `_ q1)))
def nc0(pa:PlainAttrs T)(slot:`aWn)(hty:`anb)(hm:`anc)(ho:`alo)(ha:`q2)
  (hbase:`and)
  (hfew:`G ((`Lr `aad
  &&`abx `anf)=`f) Aa)
  (hline:`fZ) (hs:`dk) (hplain:`G (`aWp=`l) Aa):
  PE X (`qz `ane `g2) (tBM X.K T r to t):=by
 apply `bg;refine wpAny_Call_method_late `hj `pt `jI rfl (thn `Ho λv s1 hq46=>?_);skip;let#[x,H1,I1,r1,ty,q1]:=hq46;let#[h1,h2]:=O40 I1 r1 ty;done;refine`aWo ?_;have hA:=ha `kL `t s1 σ H1 _ I1 q1;rw[hs] at hA ⊢;refine A50 (by show (`l||`aWp)=`l;rw[`sP]<;>rfl) (A60 ?_);exact thn hA λus s2 #[vs,H2,I2,r2,q2]=>hm `t s2 σ H2 x vs v us Q I2 r1 r2 q2
omit z
def MtM(X:Cx)(id:`bE)(r:`ki):Prop:=
 ∀(pins:`az) (s:`v) (σ:St) (H:Hp) (x:V) (xs:`S) (v:`A) (us:`N) (Q:VK),`C->`lQ->`ea->`aVJ ->
  `aVK
def Vals.one:∀{x:V} {us:`N},`aTe->`aTf:=by
 intro x us h
 cases h with
 | cons r t=>cases t;exact`SP
def Vals.two:∀{x y:V} {us:`N},`aTg->∃u v,us=[u,v]/\`iC/\`dG y v:=by
 intro x y us h
 cases h with
 | cons r t=>cases t with
  | cons q t=>cases t;exact`gM r q
def Vals.zero:∀{us:`N},`bV [] us->us=[]:=by
 intro us h;cases h;rfl
def Vals.dropLast(h:`ea):`bV `ac2 us.dropLast:=by
 induction h with
 | nil=>exact `_
 | cons r t ih=>
  cases t with
  | nil=>exact `_
  | cons q t'=>exact `G3
def Vals.reverse(h:`ea):`bV `af9 us.reverse:=by
 induction h with
 | nil=>exact `_
 | cons r t ih=>rw[`eh,`eh];exact `aWq ih (`ai r `_)
def Vals.rep(h:`ea):∀k:Nat,`bV `aWr (`jT k us):=by
 intro z;induction z with
 | zero=>exact `_
 | succ k ih=>rw[`fk,`fk,`hK,`hK];exact `aWq h (ih)
def Ri0(l:`bn):l.eraseIdx (`bT - 1)=`aWs:=(List.eraseIdx_length_sub_one)
theorem foldl_rep(its:`N):∀(k:Nat) (acc:`N),
  List.foldl (λx1 x2=>x1++x2) `aWt (`bG k `b3)=(`iy (acc++`aWu))
 | 0,acc=>`bO
 | k+1,acc=>by
  have e:`aWt++`b3=(`iy `ang):=`bO
  have e2:(`ang)++`aWu=acc++(`jT `cX its):=by
   rw[`fk,`hK,`km]
  rw[← e2,← foldl_rep its k (`ang),← e,`fk,List.foldl_cons]
section
variable{σ:St}{s:`v}{l b:`d}{ys zs:`S}
def Inv.lset{its its':`N}{n:Nat}{f:`a8->`a8}{t':Nat}(I:`C)(hH:`Py)
  (e:`es l=`SU) (hf:f `b3=its'.toArray) (hv:`bV ys its') (hz:`am'):
  `zX l `pE ((`h_ (`Fz l (`tU f)) t')):=by
 have q:=PySem.IsL.update e f;rw[hf] at q;refine `amf (x:=l) (e:=l) (`o hH `ny) `du (λb' u hb hu=>(F4 `ay (`tU f) (B0 hb)).trans hu) `kn ?_;exact#[hz,its',_,hv,q]
def Inv.lnew{its:`N}{t':Nat}(I:`C)(hv:`aWd)(hz:`am'):
  `zX `Z `pE ((`h_ (`ib (`ij `mK `aWg)) t')):=(
 `tb `anh `bQ #[hz,its,0,hv,`hn])
def Inv.fresh(I:`C):H `Z=`e:=(`abF)
def Inv.lstM(I:`C)(hH:`Py):`akg (`ax=`p'/\`es l=`SU):=by
 let#[z,its,n,r,e]:=`b1 l _ hH;exact#[z,its,n,r,`bm,e]
def Kl0(h:`z4):`Ud n=`l:=by
 apply `aWv;exact `amZ
omit z
def Hs0:`ki:=`aWw [y] (`ax<`R/\`EV `x (`s (xs++[y])))
def p90:MtM X `aWx Hs0:=by
 apply `Ue;skip;let#[l,xs,y,rfl,rfl,hH,hz,q]:=h;cases rx;apply `ani;apply `anj;done;refine S0 F.slot_list_append `ank F.entry_list_append (F.args_list_append_2 _ _) (PySem.list_append l `b3 n u `HJ) `aWy;refine`aWz [u] (`ai ru `_);rw[`W,`e8];lia
def yw1:`ki:=`aWw [] (xs[`ax - 1]?=`gZ/\`EV y `anl)
def Og0:MtM X "list.pop" yw1:=by
 apply `Ue;skip;let#[l,xs,y,rfl,rfl,hH,hy,q]:=h;cases rx;have O:=rv.zero;subst O;apply `anj;let#[u,hu,ru]:=`q4 hy;have U:`b3[`jP - 1]?=`bC:=by
  show `b3[`p' - 1]?=`bC;rw[← `aWA,← hl];exact hu
 done;refine S0 F.slot_list_pop `ank F.entry_list_pop (F.args_list_pop_1 _) (MeetsSeq.list_pop_last l `b3 n u U `HJ) `aWy;refine#[y,_,I.lset (its':=its.dropLast) hH e ?_ r.dropLast ?_,ru,q]
 ·show its.toArray.eraseIdxIfInBounds (`jP - 1)=its.dropLast.toArray
  rw[`b8,List.eraseIdxIfInBounds_toArray,Ri0]
 ·rw[List.length_dropLast]
  lia
def len_rep(xs:`bn)(k:Nat):(`aca `aGC)=k*`ax:=by
 induction k with
 | zero=>simp
 | succ k ih=>rw[`fk,`hK,`W,ih,Nat.succ_mul,Nat.add_comm]
omit L2
namespace Att
open PySem.W PySem.Calls PyProof.Rows
def bj0{P:`afp}{h:`D}:∀(ns:`aB) (vs:`N),WellAll P h vs (`oV WData.int)->`HK:=by
 intro ns
 induction ns with
 | nil=>
  intro vs w;rw[`pR] at w;cases w;exact `_
 | cons n ns ih=>
  intro vs w;rw[`av] at w;cases w with
  | cons a b=>
   cases a;exact `ai _ _ (ih _ b)
def M90{l:`anm}(hn:`Uf){P:`afp}{h:`D}{args:`aWB}{vals:`N}
  (hpre:l.row.toRowW.claim.pre `iX=`f) (hwl:WellAll P h `jv `iX):
  ∃a vs ns,`jv=[`r3]/\`iX=[WData.list (`oV WData.int)]/\`je=`c `Pz/\`HK/\`PC:=by
 skip;have U:WShape.hasAll [] `iX [.list `g]=`f:=(`aWC).1;have hc:l.pre.holds [] { args:=`iX }=`f:=(`aWC).2;let#[d,r,rfl,h1,h2]:=hasAllW_cons U;obtain rfl:=hasAllW_nil h2;let#[xs,rfl,h3]:=hasW_list h1;let#[ns,rfl]:=items_int h3;have O:`PC:=by
  delta OpenLaw.pre at hc;have h4:(WTm.not (.lt (.lit `vP) (.len (.arg 0)))).holds [] { args:=[.list `aAV] }=`f:=by
   have h4:=(holds_andW hc).1;rw[hn] at h4;exact h4
  have h5:=condW_of h4 (w_not (w_lt w_lit (w_len_list (w_arg rfl))));rw[`T] at h5;refine A70 λq=>?_
  have q':`aW<(`aM `ct):=`em
  first
   | (rw[`ar q'] at h5;exact `J h5 `u)
   | (simp at h5;omega)
 cases hwl with
 | cons w1 w2=>
  cases w2;cases w1 with
  | list ho hall=>done;exact#[_,_,ns,rfl,rfl,ho,bj0 ns _ hall,O]
def Ox0(l:`anm)(args:`aWB):l.row.toRowW.claim.post `iX `GJ `iX=`f:=(
 postW_of (r:=`aFi) (X:=`aWD)
  (show `aWE [] `GJ `dJ=`f by first|rfl|decide|simp[`aWE,WShape.arms,WShape.armsAll])
  (show (WTm.eq .res (.lit `GJ)).value [] { args:=`iX,res:=`c `GJ,after:=`iX }=`c (`dJ `aWD) from w_eq_bool (w_res rfl) w_lit) rfl)
def T60{l:`anm}{n:Nat}{q:`aj}{loose:`i}{XP:`GT}{YP:`GU}{d:DefRec}
  (hn:`Uf) (hdf:`ann)
  (call:∀(w:`M) (s₀ s₁:`v) (mg mb:`a2) (fa:`d) (o:Obj) (pm cd doc:`A) (a:`d) (vs:`N) (ns:`aB),
   Ground q loose [] XP w s₀ mg mb `pd->YP w `pd ->
   `afn fa=`aG->`p0=`wX (docDef `ac3 d.params d.body d.scope pm cd doc)->s₁.heap.CodeRec cd `ac3->`ano ->
   `aWF->`HK->`PC->`aWG ->
   `aGD (`BX `hU w)):
  `aGE WalkO:=by
 intro w s₀ s₁ mg mb G Y fa o pm cd doc dV kV ho hd a4 hD a3 hg args vals as a1 a5 a7 a2 a6;skip;obtain rfl:dV=`aY:=Dflts.none hD hdf;obtain rfl:kV=`aY:=Dflts.noKw hD;let#[a,vs,ns,rfl,rfl,U,O,Z]:=M90 hn a1 a2;done;refine enter_call (I0 (`eH w s₀ `eF mg mb fa o pm cd doc a vs ns G Y ho (fd_plain hd) a4 a3 U O Z hg) `E8);let#[rfl,h2,h3,h4]:=hq;exact#[`m #[`L7,`L7,[],rfl,`gK,`L7,Ox0 l _,λ_=>#[`aWH,λ_ hm=>(nomatch hm)]],h2,h3,h4]
omit Att
open Y
def Zg0{vs:`N}{ns:`aB}(hI:`HK):`bV `D_ vs:=by
 induction hI with
 | nil=>exact `_
 | cons n t h ih=>exact `ai `Ug ih
def Only(H:Hp):Prop:=∀b,`dd∨∃o xs,H b=`N1
def K40{P:`aj}{w:`M}{K:`y}{mg mb:`a2}{CX:CXT}{k:Nat}{fa a:`d}{fd:`fK}{x:Str}{sp:Sp}{s₁:`v}{vs:`N}{ns:`aB}
  (KX:K.In `pd) (hns:`anp `f9 mg) (hb:`anp `akF mb) (hbb:`aQv) (hlim:s₁.heap.NoLimit) (hg:`aWG)
  (ha:`aWF) (hi:`HK) (hl:`aTw) (hr:`anq)
  (F:∀base:`D,`akE->`PB->`kA P w K mg `aP CX k fa fd [x] sp) (hbind:`anr)
  (hsp:∀H:Hp,Only H->`ans->sp `eb H `afq `wZ)
  (hCX:∀H e s',CX [] H `eF `HL e s'->`b_):
  `aWI:=by
 have rv:=Zg0 hi;have a2:=hi.length;have Y:∀H:Hp,Only H->`ans->HOk P w H `pd->(∀b,`Uh->b=a)->(H a≠`e->`hs a=`e) ->
   `aWI:=by
  intro H hO hS hok hA hK;have O:∀{b:`d} {o:Obj},`aWJ->`dd->`z5 `HM:=λe n=>Ls0 e n
  have a3:∀{b:`d} {o:Obj} {es:`BV DictEntry} {ep:Nat},`aWJ->`aFU->`dd:=λ{b o es ep} e d=>by
   cases q:H b with
   | none=>rfl
   | some u=>
    have e':b=a:=`aWK;subst e';rw[ha] at e;cases e;have d':Data.seq `sz _=Data.dict es ep:=d;cases d'
  have U:∀{b:`d} {m:`a2},`anp b m->(`HM).Ns b m:=λ{b m} #[o,es,ep,e,d,r]=>#[o,es,ep,O e (a3 e d),d,r]
  have Z:K.In (`HM):=λb o e=>O (KX b o e) (by
   cases q:H b with
   | none=>rfl
   | some u=>
    have e':b=a:=`aWK;subst e';rw[hK (`afo)] at e;cases e)
  have hM:Mod K mg (`HM):=#[Z,U hns,#[mb,U hb,hbb],let #[mc,h1,h2]:=hlim;#[mc,U h1,h2]];have e0:Env0 P w K mg (`HM) `NY [] `eF H:=#[rfl,hM,`kW (Fp0 e),Y3 (P00 _ _),`ny,λb hb=>`sg `afa hb `a?,hok,.of_eq hg];refine I0 ((F _ Z (U hns)).run `NY [] `eF H `aFh `eb `eb _ _ hr e0 (hbind `eF `cf) `ant (hsp H hO hS)) λr s' h=>?_
  skip;cases r with
  | error e=>done;exact(hCX H e s' h).elim
  | ok fl=>
   cases fl with
   | next=>done;exact `fU h
   | brk=>done;exact `fU h
   | cont=>done;exact `fU h
   | ret u=>
    let#[v,H',os,bare,un,a1,r',q]:=h;have q':v=`h2:=q;subst q';obtain rfl:u=`Ui:=r';done;refine#[rfl,OldK.of_keep `anu,os,bare];skip;cases q:H b with
    | none=>done;exact un.keep b o e q (by intro z;exact `aUI) `a?
    | some u=>
     rcases hO b with z|⟨ob,xs,z⟩
     ·rw[q] at z;cases z
     ·have z2:=un.frzs b ob _ z
      let#[e1,_]:=hok b _ z;let#[e2,_]:=a1 b _ z2;rw[e] at e1;cases e1;done;exact e2
 cases hk:`hs a with
 | some o=>
  have e:=KX a o hk;rw[ha] at e;cases e;refine Y (`zH) (λ_=>`ml) (`p #[_,`sz,_,hk,rfl,rfl,rfl,`d? `b8 a2 hl,`aR3]) (λb u z=>by have z':(`e:`us)=`bC:=z;cases z') (λb z=>`aWL) λz=>`aWL
 | none=>
  refine Y (λb=>`ba (b=a) (`pm `Pz (`s `D_))) (λb=>?_) (`m (`p #[`Pz,`a_])) (λb u z=>?_) (`afY) λ_=>hk
  ·apply `nP
   ·exact `p #[_,_,`f_]
   ·exact `m (`eP)
  ·apply `nP
   ·have z':=(`f_).symm.trans z
    cases z';subst hb;exact#[ha,`aJY,vs,_,rv,ha]
   ·have z':=(`eP).symm.trans z
    cases z'
  ·apply `nP
   ·exact hb
   ·exact `J (`eP) z
def Gy0{l:`anv}{n k:Nat}{q:`aj}{loose:`i}{XP:`GT}{YP:`GU}{d:DefRec}{K:`aWM}{CX:`M->CXT}{sp:`M->Sp}{x:Str}
  (hn:`Uf) (hn2:`z4) (hdf:`ann) (hr:`anq)
  (hY:`aWN)
  (F:∀(w:`M) (mg:`a2) (fa:`d) (h:`D),`PA h->`zD->`ano ->
   ∃fd:`fK,(`anr) /\
    `aWO (CX w) w)
  (hsp:`aWP (Only H->`aWQ w))
  (hCX:∀(w:`M) (H:Hp) (s:`v) (e:`A) (s':`v),CX w [] H s `HL e s'->`b_):
  `aWR:=by
 refine Att.T60 hn hdf λw s₀ s₁ mg mb fa o pm cd doc a vs ns G Y ho hd a2 a1 Z U O hg=>?_
 have KX:=hY w _ Y;let#[fd,hb,hF]:=F w mg fa _ KX G.T.g a1;exact K40 KX G.T.g G.T.b G.T.builtins G.T.nolimit hg Z U (B7 O hn2) hr hF hb (λH hO hS=>hsp w H a ns O hO hS) λH e s'=>hCX w H `eF e s'
def wv0(s:`aO):Arguments:=match s with
 | `anw a _ _=>a
 | _=>{ posonlyargs:=[],args:=[],vararg:=`e,kwonlyargs:=[],kw_defaults:=[],kwarg:=`e,defaults:=[] }
def xu0(s:`aO):`bb:=match s with
 | `anw _ b _=>b
 | _=>[]
def o5(s:`aO):`c1:=match s with
 | `anw _ _ sc=>sc
 | _=>{ kind:=`tr,names:=[],isGenerator:=`l,isCoroutine:=`l }
abbrev CX0:CXT:=λ_ _ _ _ _ _=>`b_
abbrev E0:XK:=`wZ
def k20:l20 CX0 X E0:=(λ_ _ _ _ _ _ _ h=>`fE)
structure Fun(K:`y)(x qual:Str)(st:`aO)(f:`d)(fd:`fK):Prop where
 ex:∃(oc:`A) (od:`bp) (kV doc pm:`A) (an:`bp) (cdv ct:`A) (osl:`j?),
  fd=`Uj/\`HC fd/\`amw
 kp:`zW
section
variable{P:`aj}{w:`M}
def Fun.ok{st:`aO}{f:`d}{k:Nat}{sp:Sp}(F:`aWS)(S:`z6)(len:`amm)
  (hbody:∀(cdv:`A) (A:`ck) (outer:`eN) (s:`v) (H:Hp) (vs:`S) (Q:VK) (E:XK),`ajD `sh f->`NT ->
   ∃t,PSs (`OS CX0 N f).nox `MH t/\`aUN):`Uk `cX ps sp:=by
 skip;let#[oc,od,kV,doc,pm,an,cdv,ct,osl,rfl,lk,U]:=F.ex;done;refine R60 lk U S len λA outer s H vs Q E hr O=>?_
 let#[t,h,q]:=hbody cdv A `da s H vs Q E hr O;exact#[t,h.nox,q]
def Fun.binds{st:`aO}{f:`d}{ps:`i}(F:`aWS)
  (h:∀(kV doc pm:`A) (an:`bp) (cdv ct:`A) (us:`N),`aUb->`tq (`Uj) `E7=`aUc):`Eb:=by
 skip;let#[oc,od,kV,doc,pm,an,cdv,ct,osl,rfl,lk,O]:=F.ex;done;exact .all (h kV doc pm an cdv ct)
def f80{st:`aO}{f:`d}{kV:`A}(l:`HC (`Uj))
  (c:`amw) (k:`zW):Fun K x `jt st f (`Uj):=(#[#[oc,od,kV,doc,pm,an,cdv,ct,osl,rfl,l,c],k])
omit z
def z9{k:Nat}(hr:`HA):`HN:=(S2 (Nat.add_le_add_left (`aV:1<=64) _) `ajy)
structure Same(H H':Hp):Prop where
 old:`aWT
 nf:∀b o xs,`aWU
instance{H H':Hp}:`fl `aZ `aWT:=#[Same.old]
def Same.refl(H:Hp):`cE H H:=(#[λ_ _ h=>h,λ_ _ _ h=>h])
def Same.trans{H1:Hp}(a:`cE H H1)(b:`Ul):`cE H H2:=(#[λc o h=>b c o (a c o h),λc o xs h=>a.nf c o xs (b.nf c o xs h)])
def Same.free(e:`aZ){l:`d}(h:H' l=`aWV):H l=`aWV:=by
 cases q:H l with
 | none=>rfl
 | some o=>
  rw[e l o q] at h;cases h
def Its(x:Str):It:=#[λi _=>i<`HO,λi H v H'=>H'=H/\∃c,`anx=`d_/\v=`yG,λi _=>`HO<=i]
theorem W90{P:`aj}{w:`M}{K:`y}{tg:`K}(it:`d)(T:`bE)(hT:T = `aWW∨T = `aWX)(x:Str)(t:Tok):
  `Tl (Its x) (h.IsStrIter it T x t i) where
 mem:=`bO
 obj:=λi h st b hb=>by
  apply `G?
  subst e;apply `alH;apply `alI
 keep:=λi h h' st k=>by
  let#[o,e,r]:=st;exact#[o,`aF7,r]
 item:=by
  apply `lO;skip;apply `lP;have Y:i<`HO:=hg;have hx:`anx=`c x.cps[i]:=by simp[Y]
  apply `qX;have fin:∀h',h'.IsStrIter it T x t `eA->`E0 it ->
    ∃u,(`c (`O! `aWY `cK))=`bC/\`aN `ek X.A `alB (λ_ s2=>∃x_1 H',`alC/\`dG x_1 u/\(Its x).yld i H x_1 H'/\s2.heap.IsStrIter it T x t `eA/\∀b∈[it],`p2) E `Um:=by
   intro h' O sb;have I1:`br H `Um:=`ad7 `aio f0 f1 f3 f4 f5;apply `alM;refine`qZ (Xi0 (s:=`Um) (n:=T) e c d (`aEU hT) #[`r `aWY,H,I1,`Y,#[rfl,_,hx,rfl],O,`ae0])
  rcases hT with rfl|rfl
  ·done;exact wpAny_pyNext_ascii_item st hx `aWZ
  ·done;exact wpAny_pyNext_wide_item st hx `aWZ
 done:=by
  apply `lO;skip;apply `lP;have U:`HO<=i:=hg;have hx:`anx=`e:=by simp[U]
  apply `qX;rcases hT with rfl|rfl
  ·done;exact wpAny_pyNext_ascii_end `ke st hx `Hq
  ·done;exact wpAny_pyNext_wide_end `ke st hx `Hq
 self:=λ_ _ _ _ _ st h=>by
  rcases hT with rfl|rfl
  ·exact wpAny_pyIter_striter_ascii st h
  ·exact wpAny_pyIter_striter_wide st h
def xb1(te:TE):TI:=`Tn te λv H1=>∃x,`Un/\R (Its x) H1
def Bs0(he:`gL):PI X tg e (xb1 te):=by
 apply `Hr;refine thn `k' λv s1 hq47=>?_;skip;let#[y,H1,I1,r1,q1]:=hq47
 let#[x,rfl,q]:=q1;apply `amG;have fp:∀(o:Obj),∀b∈`ae1,`MK H1:=λo b hb=>by
  have e:b=`m':=`wW
  subst e;apply `Hs
 cases ha:x.cps.all (·<128) with
 | true=>
  done;exact `aW_ wpAny_pyIter_ascii `aWW `du
 | false=>
  done;exact `aW_ wpAny_pyIter_wide `aWX `kk
def xi0(X:Cx)(scope:`c1)(cl:`uO)(N':`i)(s:`v)(H:Hp)(ex:`aK):Cx:=
 { X with N:=N',s₀:=s,H₀:=H,env:=compEnvC `ep cl `Z `P,outer:=`g!,ex:=ex,fn:=λ_=>`l,pn:=[],xe:=`oN }
structure CompOk(sc scope:`c1)(N N':`i)(n:Nat)(caps:`j):Prop where
 kind:`aW0
 nocell:∀y∈`ht,`aW1
 loc:∀y∈`ht,`aW2
 free:∀y∈`ht,`aW3
 nd:N'.Nodup
 len:`any=n+`yF
 cap:∀k∈`aW4,`aW5
def u40(n:Nat)(caps:`j)(σ:St):St:=`bG n `e++`aW6
def Ob0(n:Nat)(caps:`j)(σ:St):`aW7=n+`yF:=`fg u40
def my0{env:Env}:∀(names:`aa (`anz)),(∀x∈`z7,`aW8)->∀acc:`uO,
  ∃cl:`uO,(`E? `z7 acc (λ(x:`anz) (cs:`uO)=>if (x.2==`kM)=`f then do let a ← cellOf env x.1;`bW (`Sy ((x.1,a)::cs)) else `bW (`Sy cs)):Sem (`uO))=`bW cl /\
   (∀y c,`anA->`aW9∨`aW')/\(∀x∈`z7,`anB)/\(∀y c,`aW'->∃c',`N_ y=`c c'):=by
 intro z;induction z with
 | nil=>intro _ acc;exact#[acc,rfl,λ_ _ h=>`p h,(λ_ h=>nomatch h),λ_ c h=>#[c,h]]
 | cons zp r ih=>
  let#[n,k]:=zp
  intro h acc
  skip;cases hk:(`aeb) with
  | true=>
   have hk':k=`kM:=`bA hk
   let#[c,hc]:=h `D1 A7 hk';let#[cl,e,h1,h2,h3]:=ih (`abs) ((n,c)::acc);done;refine#[cl,?_,`aW!,`aW?,`aW!]
   ·rw[`aga]
    simp only[hk,`nC,cellOf,hc,pure_bind];exact e
   ·rcases h1 y d hy with z|z
    ·exact `h5
    ·rw[`gN] at z
     cases q:(y==n) with
     | true=>
      rw[q] at z;cases z;have:y=n:=`alP
      subst this;exact `m hc
     | false=>
      rw[q] at z;exact `L_
   ·apply `HP
    ·exact h3 n c (`fg `gN)
    ·exact `aXa
   ·by_cases q:y=n
    ·subst q
     exact h3 y c (`fg `gN)
    ·refine h3 y d ?_
     have:(y==n)=`l:=`alP
     rw[`gN,`F];exact hy
  | false=>
   let#[cl,e,h1,h2,h3]:=ih (`abs) acc;done;refine#[cl,?_,h1,`aW?,h3]
   ·rw[`aga]
    simp only[hk,`uP,`kK,pure_bind];exact e
   ·apply `HP
    ·have:k=`kM:=hf
     rw[`F] at hk;exact `J hk `u
    ·exact `aXa
def ly0{env:Env}(h:∀x∈`ht,`aW8):
  ∃cl:`uO,`aXb `ep env=`bW cl/\(∀y c,`anA->`aW9)/\∀x∈`ht,`anB:=by
 let#[cl,e,h1,h2,_]:=my0 `ht h [];refine#[cl,?_,λy c hy=>(h1 y c hy).elim id `r2,h2];simp only[`aXb];rw[← bind_pure (`E? _ _ _)] at e
 first
  | exact e
  | (refine Eq.trans ?_ e;rfl)
theorem ou0{env:Env}:∀(names:`aa (`anz)) (x:Str),
  (`C7 `anC).lookup x =
   (names.lookup x).map λk=>`aGH
 | [],_=>rfl
 | `D1::r,x=>by
  have ih:=@ou0 env r x;have l1:`iW x ((`D1::r).map `anC) =
    `iW x ((`w `aXc (n,`D0) `D1)::r.map `anC):=rfl
  rw[l1,`gN (as:=r)]
  by_cases hc:`aXc
  ·rw[`Uo,`gN]
   cases hx:x==n with
   | true=>
    have e:x=n:=`aXd
    subst e;show `c `D0=`aXe;rw[`Uo]
   | false=>exact ih
  ·rw[`z8,`gN]
   cases hx:x==n with
   | true=>
    have e:x=n:=`aXd
    subst e;show `gF=`aXe;rw[`z8]
   | false=>exact ih
section
variable{w:`M}{R:`ka}{s:`v}
def Va0{elt target iter:`K}{ifs:`bB}{scope:`c1}{pos:Pos}{it acc:`A}{env:Env}(I:`anD)
  (turn:∀n s,I n s->`aN `dt A (`OL it) (λr s₁=>match r with
   | `e=>R `aXf `eF
   | `bR=>`aN `dt A (`aKJ `R' it v) (λ_ s₁'=>`aN `dt A (`jF `R' env v) (λ_ s₂=>
     `aN `dt A (`aXg (`OQ c env (`bX c env))) (λok s₃=>
      if ok=`f then `aN `dt A (`bX elt env) (λx s₄=>
       `aN `dt A (`eH (`b6 `aWx) [acc,x]) (λ_ s₅=>∃m,m<n/\I m s₅) `q6 s₄) `q6 s₃
      else ∃m,m<n/\I m s₃) `q6 s₂) `q6 s₁') `q6 `eF) `q6 s)
  (n:Nat) (h:I n s):
  `qI (.compLoop `aXh 0 it acc env) s:=by
 refine codeAny_loop rfl I (λn s hI=>?_) n h;show `aN _ A ((compTurn `aXh 0 it acc env).onRaise (λx=>do `HQ x env;theTreesLotGoes x)) _ _ s;refine wpAny_noted ?_;rw[compTurn_list];refine `lJ P8 (C9 (turn n s hI) (λr s₁ h₁=>?_) `aBP);cases r with
 | none=>exact A2 h₁
 | some v=>
  refine `HR h₁ λ_ s₁' O=>?_;refine `HR O λ_ s₂ h₂=>`HR h₂ λok s₃ h₃=>?_;cases ok with
  | false=>exact A2 #[rfl,h₃]
  | true=>
   exact A0 (`HR h₃ λx s₄ h₄=>`HR h₄ λ_ s₅ h₅=>A2 (A2 #[rfl,h₅]))
omit z
def PF(X:Cx)(ifs:`bB)(t:TT):Prop:=
 ∀(pins:`az) (s:`v) (σ:St) (H:Hp) (Q:`Hc),`C->`sK ->
  `de (`aXg (`OQ c `P (`bX c `P))) `ak4
def Dz0:PF X [] λ_ H Q=>Q `f H:=(`uy (wpAny_tests_nil #[H,I,h]))
def Ef0{c:`K}{t:TT}(h:PT X c t):PF X [c] t:=(λpins s σ H Q I q=>wpAny_tests_one (`bZ h Q q))
def Wk(σ σ':St):Prop:=`akV/\∀(j:Nat) (v:V),`HS->σ'[j]?=`pc
def Xs0(n:Nat)(caps:`j)(wi:TI)(g:TG)(tt:TT)(te:TE):TE:=fun σ H Q=>wi σ H λJ H1=>∀D,H1 D=`e ->
 ∃W:`Up,(`aXi H1)/\∀i m ys H2,`anE ->
  `aXj∨(J.go i H2/\∀x H3,`aXk->g x `fP H3 fun σ4 H4=>`aXl/\tt σ4 H4 λb H5=>
   `aXm)
section
variable{wi:TI}{g:TG}{tt:TT}
def y21(X:Cx)(pins:`az)(H:Hp)(C:`d):Prop:=
 H C=`e/\C≠`gj/\`pJ<=C/\(`OO C)/\∀p∈`wS,p.1≠C
def Zl0{pins:`az}{σ:St}{H2:Hp}{s2:`v}{it:`d}{fp:`aK}{tn:`Tj}{J:It}{cl:`uO}{Q:VK}{RR:`A->`d->`ka}{E:`ap}
  (hc:`dH) (hsc:`o_) (ok:`uQ)
  (hcl1:∀y c,`anA->`aQx) (hcl2:∀x∈`ht,`anB)
  (hg:∀s H ex,`aGM) (ht:∀s H ex,`aGN) (he:∀s H ex,`aGO)
  (I2:`aSQ) (T:`aSc) (st2:`aSd) (f2:∀b∈fp,`MK H2)
  (q:∀D,H2 D=`e->∃W:`Up,(`aXi H2)/\∀i m ys H2,`anE ->
   `aXj∨(J.go i H2/\∀x H3,`aXk->g x `fP H3 fun σ4 H4=>`aXl/\tt σ4 H4 λb H5=>
    `aXm))
  (hend:∀(D C:`d) (H':Hp) (s':`v) (m:`a2),`nQ->y21 X `t H' C->s'.heap.Ns C m->Q `ug H'->RR `ug C `aXf s'):
  `aN `ek X.A (`anF) (λacc s₃=>`aN `ek X.A (newFunctionEnv `ep `aeV cl [] X.env.qual `e `aY (`c `P)) (λcenv s₄=>
   `oE `ek X.A (.compStart `p! 0 `yy acc { cenv with scope:=`aBF }) (RR acc cenv.locals) s₄) E s₃) E s2:=by
 refine K0 (wpAny_newFunctionEnv ok.nocell (by intro y hy;simp at hy) (λh₁ Z Y=>?_) `E1);dsimp only at Z Y ⊢;obtain⟨D,hD⟩:∃D,D=`HT:=`Y;have I3:`br (upd H2 `HT `h9) `aXn:=I2.lnew (its:=[]) (t':=`afw) `_ `yZ;have e4:H2 `HT=`e:=I2.fresh;let#[W,#[m0,w0],c3]:=q `HT e4;generalize hs3:(`aXn:`v)=s3 at *;have a9:`aGI=s3.heap:=`Uq
 have k3:`afw=s3.toks:=`Uq
 rw[a9] at Z Y ⊢;generalize hH3:upd H2 `HT (HO.lst [])=H3 at *;rw[← hD] at c3 hH3 e4 ⊢;have old:∀b o,`aXo->`anG:=`kW (Y.extBut b o `aln (`o8))
 have c4:∀b o,s2.heap.get? b=`aG->`aXo:=`kW (`cu a9 `o8)
 have f0:∀b∈fp,b<`uL:=λb hb=>by
  apply `aXp;exact A6 `aXq
 have g6:∀b∈fp,b≠D:=λb hb z=>by
  apply `aXp;rw[z,hD] at e;exact `J `C6 `aA6
 obtain⟨X',O⟩:∃X',X'=`aXr:=`Y;have okX:X'.Ok:=by
  subst O;refine#[I3.ok.mod,`E1,I3.ok.glob,I3.ok.blt,`gW,λx y c h1 h2=>I3.ok.inj x y c (hcl1 x c h1) (hcl1 y c h2),`uR,λx c h _=>`J h (`fg xi0),I3.ok.hd,I3.ok.frames,`ml,
   λb hb=>#[`aXs,`aXt],`kW (I3.bs b o e),B7 I3.ok.bsz I3.sz,λb o e hb=>?_,λb hb hf=>?_,I3.stack,I3.stkFree]
  ·have a4:(`Fa=`ld)∨(`Fa=`nt):=hx
   have q2:=ou0 (env:=`P) `ht x;have q3:`aXu:=q2
   cases e:`sA x with
   | none=>
    rw[q3,e] at a4;rcases a4 with z|z<;>cases z
   | some k=>
    have hk:k=`kM:=by
     rw[q3,e] at a4;have nc:=ok.nocell (x,k) (F3 e);cases k<;>first
      | rfl
      | exact `J rfl nc
      | (rcases a4 with z|z<;>simp at z)
    subst hk;exact hcl2 `anH (F3 e) rfl
  ·rcases `aXv with z|z
   ·exact I3.ok.noex b o e z
   ·exact `qS (A6 (I3.ok.bs b o e).1) z
  ·apply `aXw
   ·exact`anI z
   ·exact(`m!).2.2.1 z
 have I4:Inv X' [] `fP H3 `aXx:=by
  refine#[okX,?_,?_,?_,?_,`zl,?_,`zl,`lD,(`RS (I3.hok.kept old)),?_]
  ·subst O;rfl
  ·exact I3.bare
  ·subst O;exact `SZ old
  ·subst O
   refine#[_,Z,`akP];skip;have hi:n<=i:=by
    by_cases hi:i<n
    ·delta u40 at e2
     rw[`TW,`iZ,`I hi] at e2;cases e2
    ·lia
   obtain⟨k,rfl⟩:∃k,i=n+k:=#[i - n,`E];have hk:k<`yF:=by
    have:=(`ch e1).1;have e5:(`aXr).N.length=n+`yF:=ok.len;lia
   let#[c1,c2]:=ok.cap k (`y1 hk);have e9:`afr=`c8:=e1;delta u40 at e2;rw[`mu `a?,`kh,`HU,`dl] at e2;obtain⟨j,hj⟩:∃j,`aaS=`T9:=#[`cj[k],by simp[hk]];rw[hj] at e2 c1;have k0:`aXy:=by rw[← e9,c1];rfl
   have a3:`afs=`bR:=A4 e2;have f4:`HS:=by
    cases q:`w_ with
    | none=>rw[q] at a3;cases a3
    | some o=>rw[q] at a3;rw[show o=`bR from a3]
   rw[e9] at c2;have U:`sA x=`nt:=`bA c2
   have c0:=ok.free `anH (F3 U) rfl;let#[m,hn,hl]:=I3.loc;let#[u,ru,l]:=hl j x v k0 f4 (by
    rcases c0 with z|z
    ·apply `ko `aXz
    ·apply `gO `aXz)
   done;refine#[u,ru,`p `hL]
   ·have q3:`aXu:=ou0 `ht x
    rw[U] at q3;show `Fa=_∨`Fa=_;rw[q3]
    by_cases hcc:(`acw==`acw&&`aGK&&`aGL)=`f
    ·left;simp only[`ls,`I hcc]
    ·right;simp only[`ls,`Q hcc]
   ·skip;let#[c',e7]:=hcl2 `anH (F3 U) rfl
    rcases l with⟨f7,_⟩|⟨_,c,g7,c8⟩
    ·have b3:`Ly:=f7
     rw[hsc] at b3;done;rcases c0 with z|z<;>(rw[b3] at z;cases z)
    ·have:=hcl1 x c' e7
     apply `aT g7;cases `F;let#[o,ho,hd]:=c8;done;exact#[_,e7,o,`aXA,hd]
  ·apply `aXB
   let#[v,o,ho,hd]:=I3.cell x c (hcl1 x c e');exact#[v,o,`aXA,hd]
  ·subst O;exact I3.hok.fresh `bQ
  ·apply `aXB
   exact I3.freeC x c (hcl1 x c e')
  ·subst O;exact `aXC
  ·subst O
   show _=`any;rw[Ob0,ok.len]
 have a7:X'.calm=`f:=`RS hc
 have a2:`aSM (lj0 X' [] H' b):=λ{H'} hn b hb=>by
  subst O;refine#[hn b hb,`aXs,λhf=>?_,`anJ,`aXt,λp hp=>`aXC];apply `aXw
  ·exact`anI z
  ·exact(`m!).2.2.1 z
 have h4:∀b∈fp,H3 b=`e:=λb hb=>by rw[← hH3,Y4 (g6 b hb)];exact(`m!).1
 have d2:tn 0 h₁:=`alT st2 (old b o `aXq)
 have loop:∀s4:`v,s4=`aXx ->
   `oE `ek X.A (.compLoop `p! 0 `yy `ug X'.env) (RR `ug `uL) s4:=by
  rintro s4 rfl;refine Va0 (λk s'=>∃i ys H',Inv X' [] `fP H' s'/\`aSN/\`Tq k ys) ?_ m0 #[0,[],H3,I4,d2,h4,w0];rintro k s5 ⟨i,ys,H5,I5,d1,e8,w5⟩;have eP:X'.prog=`cF:=`HV
  have ew:X'.w=X.w:=`HV
  have eK:X'.K=X.K:=`HV
  have eA:X'.A=X.A:=`HV
  rcases c3 i k ys H5 w5 with⟨stop,qe⟩|⟨go,step⟩
  ·have T':=T.done X' eP ew eK a7 i [] s5 `fP H5 `q6 I5 (a2 e8) d1 stop
   rw[eA] at T';refine thn T' λr s6 hq48=>?_;let#[hr,I6]:=hq48
   subst hr;have g3:Un (`zO) fp H3 H5 s3.heap s6.heap:=`Ur I6.base
   have h3:s6.os=s3.os:=`Ur I6.os
   have f3:`xG H5 s6.heap:=`Ur I6.hok
   have IX:`br H5 s6:=I3.call' h3 g3 f3 I6.bare λb hb=>#[`aXv,`anI,`aGJ,(`m!).2.2.2.2.2]
   let#[m6,i0,_]:=I6.loc;have f6:s6.heap.Ns `uL m6:=`RS i0
   refine hend D `uL H5 s6 m6 IX #[`Ur I6.free,C8 I3.lt,I3.sz,`alx,`aly] f6 qe
   ·let#[v,qc]:=I3.cell x c e
    exact `qS qc.lt `aXD
   ·exact `qS (A6 (I3.pin p hp).1) `aXD
  ·have T':=T.item X' eP ew eK a7 i [] s5 `fP H5 `q6 I5 (a2 e8) d1 go
   rw[eA] at T';refine thn T' λr s6 hq49=>?_;let#[u,hr,h6]:=hq49
   subst hr;refine thn h6 λ_ s7 hq50=>?_;skip;let#[x,H7,I7,r7,y7,b2,h0]:=hq50
   have g4:=I7.pinned (a2 h0) (`Gy _ _ b2);have e6:=hg s3 H3 fp;have e0:=ht s3 H3 fp;have d3:=he s3 H3 fp;rw[← O] at e6 e0 d3;have g1:=e6 _ s7 `fP H7 x u _ g4 r7 (step x H7 y7);rw[eP,ew,eA] at g1;have a5:X'.xe=`oN:=`HV
   rw[a5] at g1;done;refine thn g1 λ_ s8 hq51=>?_;let#[σ8,H8,I8,a6,q8]:=hq51
   have t1:=e0 _ s8 σ8 H8 _ I8 q8;rw[eP,ew,eA,a5] at t1;refine thn t1 λb s9 hq52=>?_;let#[H9,I9,q9]:=hq52
   have back:∀{σa:St} {Ha:Hp} {sa:`v} {b1:`S} {ma:Nat},Inv X' ([]++f90 fp s7.heap) σa Ha sa->σa.length=`aW7->(∀(j:Nat) v,`fP[j]?=`pc->σa[j]?=`pc)->W `eA ma b1 Ha ->
     ∃i ys H',Inv X' [] `fP H' sa/\tn i sa.heap/\`Tq ma ys:=λ{σa Ha sa b1 ma} Ia hl hw wa=>by
    refine#[i+1,b1,Ha,(Ia.weak hl.symm hw).unpinned,`alT b2 (`aXE).1,`eB,wa];let#[o,e,d]:=`Gy _ _ b2 b hb;exact(`aXE).2.1
   cases b with
   | false=>
    rw[`lN];rw[`lN] at q9;let#[m',hm,w9]:=q9;exact#[m',hm,back I9 a6.1 a6.2 w9]
   | true=>
    rw[`a_];rw[`a_] at q9;have e1:=d3 _ s9 σ8 H9 _ I9 q9;rw[eP,ew,eA,a5] at e1;refine thn e1 λv g5 hq53=>?_;skip;let#[y,i9,h7,h8,f5,f1,m',hm,j1]:=hq53
    have a1:=p90 (X:=X') _ g5 σ8 i9 `ug [y] `ug [v] (λ_ H'=>W `eA m' (ys++[y]) H') h7 rfl (`ai h8 `_) #[D,ys,y,rfl,rfl,f5,f1,j1];rw[eP,ew,eA,a5] at a1;done;refine thn a1 λ_ k5 hq54=>?_;let#[_,k4,j2,_,h5]:=hq54
    exact#[m',hm,back j2 a6.1 a6.2 h5]
 subst O;exact codeAny_compStart_list (loop _ (`Uq)) (T.self X.A 0 _ _ _ d2 (loop _ (`Uq)))
def ai0(hc:`dH)(hsc:`o_)(ok:`uQ)(hi:`alQ)
  (hg:`aXF) (ht:`aXG) (he:`aXH)
  (hs:`fX):
  PE X `p! (Xs0 n `cj wi g tt te):=by
 apply `bg;let#[cl,O,Y,U]:=ly0 (env:=`P) (scope:=`ep) λx hx hf=>`ak0 x.1 (by
  rcases ok.free x hx hf with z|z
  ·apply `aXI
  ·apply `aXJ)
 rw[eval_ListComp];refine hy0 (use:=`e) rfl hs O `E1 ok.loc (`Tf `Ht λa2 s2 h2=>?_);skip;apply `aXK;done;refine `aXL Q `e `hu;intro D C H' s' m IX as hn qe;refine#[m,hn,λh' sb=>#[`U D,H',`aXM IX.turned s'.toks `aio,rfl,qe]]
def cc0{py spos:Pos}(hN:`dh)(hiN:`aA7)(hy:`aAM)(hc:`dH)(hsc:`o_)(ok:`uQ)(hi:`alQ)
  (hg:`aXF) (ht:`aXG) (he:`aXH)
  (hsw:`aXN)
  (hs:`fX)
  (hf:`gP):
  PS X `aXO (`iP (Xs0 n `cj wi g tt te σ H `aXP)):=by
 apply `iU;let#[cl,O,Y,U]:=ly0 (env:=`P) (scope:=`ep) λx hx hf=>`ak0 x.1 (by
  rcases ok.free x hx hf with z|z
  ·apply `aXI
  ·apply `aXJ)
 rw[exec_Assign_Name_used _ _ _ _ hsw];refine A0 (P8 `SF);show `aN _ X.A (do let _ ← comprehension `p! `ep `P _ (`anF) `l (`bX `kC `P) `aXQ) _ _ s;refine A0 (C9 (hy0 (use:=`aGR) (Q:=`aXR) rfl hs O `E1 ok.loc
  (`Tf `Ht λa6 s2 h2=>?_)) (λ_ s' hq=>A2 (A2 hq)) `akS)
 skip;apply `aXK;done;refine `aXL `aXP `aXQ (`aXR);intro Da C H' s' m IX as hn qe;show `aN _ X.A (`jF `LZ `P (`U Da)) _ _ _;refine `aR1 (Yg0 IX hN hiN hy (v:=`U Da) rfl (λa2 a4 hq55=>?_) hf);let#[a,sb,ha]:=hq55;have a5:C≠a:=by
  rcases ha with z|z
  ·rw[z];exact as.2.1
  ·exact B0 (`aGP y a z)
 refine#[m,`aRf sb a5,λh' a3=>#[_,H',`aXM a4.turned a2.toks (`sn ((a3.2 b hb).trans e)),qe]]
omit z
omit L2
namespace DL
open V
inductive D where
 | non|bl (b:`B)|int (i:Int)|str (x:Str)|tup (ds:`k)|lst (ds:`k)|dct (ks:Sum (`anK) (`aa (`anK))) (ds:`k)|fn (ks:`anK) (ds:`k)
 deriving Inhabited
variable{l items ns ds:`MV}{q:`Us}{d0 d' b' n':DL.D}{f':`aXS}{bg:`aa (`Us)}
def unl:D->D
 | `H [_,d]=>d
 | d=>d
def isL:`dR
 | `HW=>`f
 | _=>`l
inductive Sl where
 | un|sh (d:D)|ow (d:D)
 | ex (c:Str) (n:`aI)
variable{s1 s0:DL.Sl}
abbrev Ds:=`aa Sl
inductive Res where
 | nx (δ:Ds)|rt (d:D)|bk (δ:Ds)|ct (δ:Ds)|rf (d:D)
variable{f:`aXT}{g ge gb:`aXU}{gt:`aXV}{δ' δ1:`tI}{gA gi:`aXW}
abbrev GE:=`dm
abbrev GB:=`i_
variable{gk g0 go g1:DL.GE}
abbrev GA:=`hM
variable{g':DL.GB}
abbrev GS:=`kp
def asB:D->`rR
 | `gk=>`it
 | _=>`e
variable{G Gh:DL.GS}
def asI:D->`aI
 | `bs=>`CH
 | _=>`e
def gv(i:Nat):GE:=fun δ=>match `bY with
 | `Ut=>`aX
 | _=>`e
def gc(d:D):GE:=λ_=>`aX
def o2(ga gb:GE)(f:`bx):GE:=`HX λx=>`Uu λy=>f x y
def ob(g:GE):GB:=`uS asB
def yo0(g:GB):GB:=`z9 (!·)
def xd0(gt gu:GB):GB:=`Fb `PF (gu δ) `bu
def wg0(gt gu:GB):GB:=`Fb `PF `dz (gu δ)
def qx0(ga gb:GE):GE:=`Fb `aXX `dy `j2
def orG(ga gb:GE):GE:=`Fb `aXX `iL `dy
def Mz0(ga:GE):GE:=`aXY (`afx).map (.bl (!t))
def v6:GA:=`anL
def z7(g:GE)(gA:GA):GA:=`nX ((`e0).map λds=>`b0)
def vw0(gA:GA):GE:=`HY λds=>`w `uT `Uv `e
def zm0(gA:GA):GE:=`HY λds=>`w `uT `uU `e
def oA(gA:GA)(f:`O):GE:=`HY f
def te0(f:`dR)(g:GE):GE:=`z9 λd=>.bl (f d)
def w70(d:D):`cD:=match d with
 | `bs=>`lV (-i)
 | _=>`e
def unG(f:`BW)(g:GE):GE:=`uS f
def u6(G1 G2:GS):GS:=fun δ=>match `d! with
 | `eD=>`xi
 | r=>r
def t8:GS:=`aXZ
def yp0(g:GE):GS:=`z9 .rt
def gN(i:Nat):`a9:=λd δ=>`c `Uw
def O6(f:`a9)(g:GE):GS:=`nX ((`xM).map .nx)
def ifD(gt:GB)(Ga Gb:GS):GS:=`aX_
def u50(f:`a9)(G:GS):`k->`kp
 | [],δ=>`tJ
 | `b0,δ=>match `aX0 G with
  | `eD=>`aX1
  | `ag?=>`aX1
  | `aha=>`eD
  | r=>r
def sh0(gi:GA)(f:`a9)(G:GS):GS:=fun δ=>`z' λitems=>`anM
def Js0:`HZ
 | `et=>`oO
 | _=>`e
def J90:`HZ
 | `c'=>`oO
 | _=>`e
def signs(x:Str):`k:=x.cps.toList.map `aX2
def Tq0:`HZ
 | `cw=>`c (`lW x)
 | _=>`e
def dp0(g:GE):GA:=`uS Js0
def tupI(g:GE):GA:=`uS J90
def oi0(g:GE):GA:=`uS Tq0
def uy0(lo hi:Int):`k:=(`bJ `yz).map λk=>`g (lo+(k:Nat))
def Q20(ds:`k):`v_:=match ds with
 | [`h?]=>`ba (-(`hI)<=j/\j<`hI) (uy0 0 j)
 | _=>`e
def tz0(gA:GA):GA:=`HY Q20
def noT:GB:=λ_=>`dz
def e00:`H_->Sl
 | `Ut=>`cJ
 | _=>.un
def uu0(n:Nat)(caps:`j)(δ:Ds):Ds:=`aX3++`aX4
def sa0(f:`a9)(gt:GB)(ge:GE)(δ:Ds):`Ux
 | []=>`m?
 | `b0=>match `xM with
  | `e=>`e
  | `D2=>match `PH with
   | `e=>`e
   | `bu=>`aX5
   | `dz=>match `PG with
    | `e=>`e
    | `gZ=>(`aX5).map λr=>y::r
def vq0(n:Nat)(caps:`j)(gi:GA)(f:`a9)(gt:GB)(ge:GE):GE:=
 fun δ=>`z' λitems=>`w `uV (`aX6 `s) `e
def xw0(N:`i)(ds:`k):Ds:=ds.map .sh++`anN `cy
def isInt:`dR
 | `c2=>`f|`cl=>`f|_=>`l
open A
def isStr:`dR
 | `cn=>`f|_=>`l
def isBool:`dR
 | `cl=>`f|_=>`l
def isTup:`dR
 | `HW=>`f|_=>`l
def ii(f:Int->Int->`cD):`bx
 | `bs,`h?=>f i j
 | _,_=>`e
def w50:`bx:=`kq (`c (`aGd))
def c7:`bx:=`kq (`dM `Tv (`ae4))
def f9:`bx:=`kq (`w (0<j) `anO `e)
def pk0:`bx:=`kq (`dM `alY (`aGe))
def ltD:`bx:=`kq (`i0 (i<j))
def leD:`bx:=`kq (`c (`aDE))
def gtD:`bx:=`kq (`i0 (j<i))
def geD:`bx:=`kq (`c (`aDF))
open B
def eqS(x y:D):`rR:=match x with
 | `x=>(match y with|`x=>`dz|`c2=>`bu|`cl=>`bu|`cn=>`bu|_=>`e)
 | `bs=>(match y with|`x=>`bu|`h?=>`anP|`cn=>`bu|_=>`e)
 | .bl i=>(match y with|`x=>`bu|.bl j=>`anP|`cn=>`bu|_=>`e)
 | `r i=>(match y with|`x=>`bu|`c2=>`bu|`cl=>`bu|`r j=>`anP|_=>`e)
 | _=>`e
def eqD(x y:D):`cD:=(eqS x y).map .bl
def Az0:`dR
 | `x=>`f|_=>`l
open A
def jn0(x y:D):`cD:=match y with
 | `x=>`B4 (Az0 x)
 | _=>`e
def ixN(n:Nat)(i:Int):`T8:=`aVF
def atI{α:Type}(xs:`bn)(i:Int):`SA:=`aVG
def ixD:`bx
 | `d2,`bs=>`OX
 | `g9,`bs=>`OX
 | `oT,`bs=>`w `yE ((`aVN).map `aX2) `e
 | _,_=>`e
def sIx(n d:Nat):`aUV
 | `e=>d
 | `bR=>`TY
def cutD(xs:`k)(lo hi:`aI):`k:=(`s8 (`anQ)).take (`aX7 - `anQ)
abbrev GO:=`z!
def wt0:GO:=λ_=>`gX
def someO(g:GE):GO:=`nX ((asI d).map `c)
def ys0:`O
 | `Pw=>`dM `yE (`afl)
 | `OC=>`c (`g `ax)
 | [`g9]=>`c (`g `ax)
 | _=>`e
def c30:`k->`aH (`i)
 | []=>`m?
 | `zd::ds=>(c30 ds).map λr=>b::r
 | _=>`e
def Xn0(d:D)(ds:`k):`cD:=match d,ds with
 | `r sep,`OC=>(c30 xs).bind λys=>`dM `aX8 `aX9
 | _,_=>`e
def ib0(g:GE)(gA:GA):GE:=`nX (`pf λds=>Xn0 d ds)
open B
def ns0:`O
 | `z?=>`Uv
 | [`c']=>`Uv
 | _=>`e
def pw0{gt:GB}{ge:GE}{δ:Ds}(p:`dR)(h:D->D):∀{items:`k},(∀d∈`bf,∃δ',`anR/\`PH=`c (p d)/\(p d=`f->`aX')) ->
  `aX!=`c ((`aX? p).map h):=by
 intro z;induction z with
 | nil=>intro _;exact rfl
 | cons d ds iq=>
  intro H
  let#[δ',e1,e2,e3]:=H d A7;have ih:=iq λd hd=>H d (B3 _ hd)
  delta sa0;rw[e1];dsimp only;rw[e2];cases hp:p d with
  | false=>
   dsimp only;rw[List.filter_cons_of_neg (`anS)];exact ih
  | true=>
   dsimp only;rw[e3 hp,ih,List.filter_cons_of_pos hp];rfl
def ll0{gt:GB}{ge:GE}{δ:Ds}(h:D->D)(H:∀d∈`bf,∃δ',`anR/\`aYa/\`aX'):`aX!=`c (items.map h):=by
 have:=pw0 (f:=f) (gt:=gt) (ge:=ge) (δ:=δ) (`TV) h (items:=`bf) λd hd=>by
  let#[δ',a,b,c]:=H d hd;exact#[δ',a,b,λ_=>c]
 apply `aT (List.filter_eq_self.mpr `a?);exact `F
theorem strs_map(h:α->Str):∀l:`bn,`aYb=`c (`cY h)
 | []=>rfl
 | a::l=>by
  show (`aYb).map (λr=>h a::r)=_;rw[strs_map h l];rfl
def jm0(P:Nat->Ds->Prop):∀(items:`k) (i:Nat) (δ:Ds),(∀j d δ,`bf[j]?=`aX->P (i+j) δ->∃δ1 δ2,`anT/\`aYc/\P (i+j+1) δ2)->P i δ ->
  ∃δ',`anM=`eD/\P (i+`c?) δ':=by
 intro z;induction z with
 | nil=>intro i δ _ h;exact#[δ,rfl,h]
 | cons d ds ih=>
  intro i δ H h
  skip;let#[δ1,δ2,e1,e2,h2]:=H 0 d δ rfl h;let#[δ',e3,h3]:=ih `eA δ2 (λj d δ hj hp=>by
   have q:i+`pW=i+1+j:=`E
   let#[a,b,c,d',e]:=H `pW d δ (`H0) (`o q hp);exact#[a,b,c,d',by rw[q] at e;exact e]) h2
  have q:i+`Uy=i+1+`cy:=`TB
  done;refine#[δ',?_,`o q h3];delta u50;rw[e1];simp only[`h,e2];exact e3
def Er0{G1 G2:GS}{δ:Ds}(h:`anU):`Uz=`xi:=`anV
def O9{G1 G2:GS}{δ:Ds}{d:D}(h:`d!=`pU):`Uz=`pU:=`anV
def xa0{g:GE}{δ:Ds}{d:D}(h:`kr):yp0 g δ=`pU:=by delta yp0;rw[h];rfl
def yn0{g:GE}{δ:Ds}{d:D}(h:`kr):O6 (gN i) g δ=`af `Uw:=by delta O6;rw[h];rfl
def wl0{g:GB}{Ga Gb:GS}{δ:Ds}(h:`UA):`aYd=Ga δ:=`aYe
def yu0{g:GB}{Ga Gb:GS}{δ:Ds}(h:`UB):`aYd=`Fc:=`aYe
def pc0{gi:GA}{gt:GB}{ge:GE}{δ:Ds}{out:`k}(h1:`UC)(h2:`uV)(h3:`afy=`c out):vq0 n `cj gi f gt ge δ=`c (`s out):=by
 delta vq0;rw[h1];show (`w `uV (`aX6 `gy) `e)=_;rw[`anW,h3];rfl
def q70{gi:GA}{δ:Ds}{r:`B6}(h1:`UC)(h2:`anM=r):sh0 gi f G δ=r:=by
 delta sh0;rw[h1];exact h2
def cons_of{g:GE}{gA:GA}{δ:Ds}{d:D}(h1:`kr)(h2:`q7):z7 g gA δ=`c `pY:=by delta z7;rw[h1,h2];rfl
def N6{gA:GA}{δ:Ds}{f:`O}(h:`q7):oA gA f δ=f ds:=by delta oA;rw[h];rfl
def n6{ga gb:GE}{δ:Ds}{x y:D}{f:`bx}(h1:`df=`c8)(h2:`dy=`gZ):`aYf=f x y:=by delta o2;rw[h1,h2];rfl
def Ia0{g:GE}{gA:GA}{δ:Ds}{x:D}(h1:`au=`c8)(h2:`q7):ib0 g gA δ=Xn0 x ds:=by delta ib0;rw[h1,h2];rfl
def sx0{xs:`bn}{i:Int}(h0:`jS)(h1:`uM)(d:α):`OX=`c (`UD `ix d):=by
 delta atI ixN;rw[`amP,`T'];show xs[i.toNat]?=_;have:`ix<`ax:=`em
 simp[`bz,`F]
omit DL
variable{f:`aXT}{l items ns ds:`MV}{g ge gb:`aXU}{s1 s0:DL.Sl}{q:`Us}{gt:`aXV}{G Gh:DL.GS}{δ' δ1:`tI}{gA gi:`aXW}{g':DL.GB}{d0 d' b' n':DL.D}{f':`aXS}{gk g0 go g1:DL.GE}{bg:`aa (`Us)}
open X
abbrev BS:=`f0
abbrev St:=L2.St
variable{B B' B₀:DL.BS}
structure NB(o:`us):Prop where
 ne:o≠`e
 nf:∀ob u,o=`akm->∃xs,u=`d2
 nt:∀xs,o≠`jG
instance{o:`us}:`fl (NB o) (o=`e->`b_):=#[λh e=>h.ne e]
def NB.of{o:`us}{u:HO}(h:o=`bC)(n:∀ob u',u≠`aDv)(t:∀xs,u≠`g9):NB o:=by
 subst h;exact#[`aYg,λob u' z=>`J `H1 (n ob u'),λxs z=>t xs `H1]
def NB.keep(q:`H2)(h:`oW):NB (H' a):=by
 cases e:H a with
 | none=>exact `J e h.ne
 | some o=>rw[q o e,← e];exact h
def NB.same(q:`aZ)(h:`oW):NB (H' a):=(h.keep λo e=>q a o e)
def SqT'(K:`y)(H:Hp)(B:BS)(a:`d)(xs:`S):Prop:=`tK/\H a=`jG
def SqL'(K:`y)(H:Hp)(B:BS)(a:`d)(xs:`S):Prop:=(`aYh)∨`b_
def SqT'.to(h:`PI):`qU:=(`m (`m h.2))
def SqL'.at(h:`Fd):`aYh:=(`fE id `fU)
def SqL'.to(h:`Fd):`tA:=(`m h.at.2)
def Gr(H H':Hp)(B B':BS):Prop:=∀b o,`Fk->`aek->¬B' b/\`aFj
def SqT'.mono(g:`dS)(h:`PI):SqT' K H' B' a xs:=(`aYi)
def SqL'.mono(g:`dS)(h:`Fd):SqL' K H' B' a xs:=by
 obtain⟨n,h|⟨o,h⟩⟩:=h.at
 ·exact `m #[(`UE).1,`m (`UE).2]
 ·exact `m #[(`UE).1,`p #[o,(`UE).2]]
def Gr.same(s:`aZ):`aYj:=(λb o n h=>#[n,s b o h])
def Gr.less(h:`Aa):Gr H H B B':=(λb o n e=>#[λz=>n (h b z),e])
abbrev KS:=Sum (`jj) (`aYk)
def dOb:KS->`S->HO
 | `Cm,xs=>`yH
 | `H3,xs=>`anX
def dLn:KS->Nat
 | `Cm=>`h6
 | `H3=>`h6
def Al0(fd:`fK)(x y:Str)(c cd:`d):Prop:=
 ∃p1 p2 p3,fd.body=.expr (`kS (`bP x p1) (`bP y p2) p3)/\fd.scope.isCoroutine=`l/\fd.scope.isGenerator=`l/\fd.scope.kind=`tr/\`aYl y=`kE/\`aYl x=`nt /\
  (∀z∈fd.scope.names,z.2≠`v8)/\fd.closure=[(x,c)]/\fd.code=`U cd/\fd.globals=`f9/\`aAA/\`aAF/\`aAZ /\
  ∀u:`A,`tq fd `ac4=`bW [(y,u)]
def rk(n:Nat):`jj:=`adG λ(i:Nat)=>`ts `wH
def TelO(K:`y)(H:Hp)(B:BS)(p:`d)(kvs:`hD):Prop:=(¬B p/\`aja)∨∃xs,SqL' K H B p xs/\kvs=(rk `ax).zip xs
def TelO.mono{p:`d}(g:`dS)(h:`aYm):TelO K H' B' p kvs:=by
 rcases h with h|⟨xs,h,e⟩
 ·exact `m (`aYi)
 ·exact `p #[xs,h.mono g,e]
def FnAtH(K:`y)(H:Hp)(B:BS)(f:`d)(kvs:`hD):Prop:=
 ∃(oF oC oK:Obj) (fd:`fK) (c cd p:`d) (x y:Str),(¬B f/\`ST f oF f)/\(oF.cls=`wn/\oF.data=`wX fd/\Al0 fd x y c cd)/\(¬B c/\`ST c oC c)/\oC.data=`v8 `afZ /\
  (¬B cd/\`ST cd oK cd)/\(∃vs t,oK.data=`CD/\`Pi=`c (`r fd.qualname t))/\`aYm
def FnAtH.mono{f:`d}(g:`dS)(h:FnAtH K H B f kvs):FnAtH K H' B' f kvs:=by
 skip;let#[oF,oC,oK,fd,c,cd,p,x,y,#[b1,h1],a,#[b2,h2],e,#[b3,h3],q,h4]:=h;done;exact#[oF,oC,oK,fd,c,cd,p,x,y,g _ _ b1 h1,a,g _ _ b2 h2,e,g _ _ b3 h3,q,h4.mono g]
mutual
def Rp(K:`y)(H:Hp)(B:BS):`aYn
 | `x,v=>`zj
 | `gk,v=>v=`gk
 | `bs,v=>`H4
 | `cw,v=>`Un
 | `c',v=>`aYo
 | `et,v=>`aYp
 | `lX,v=>`aYq
 | `uW,v=>`aYr
def Rps(K:`y)(H:Hp)(B:BS):`aYs
 | [],xs=>`z2
 | `b0,xs=>`aYt
end
mutual
theorem Rp.mono(g:`dS):`H5 `aYu
 | `x,_,h=>`UF
 | `cl,_,h=>`UF
 | `c2,_,h=>`UF
 | `cn,_,h=>`UF
 | `c',_,h=>by
  apply `Dh;apply `UG;exact`aYv
 | `et,_,h=>by
  apply `Dh;apply `UG;exact`aYv
 | `lX,_,h=>by
  apply `Dh;skip;let#[a,xs,e,n,q,l,r]:=h;done;exact#[a,xs,e,(g _ _ n q).1,(g _ _ n q).2,l,`afC]
 | `uW,_,h=>by
  apply `Dh;let#[a,xs,e,q,l,r]:=h;exact#[a,xs,e,`afB,l,`afC]
theorem Rps.mono(g:`dS):`lY `anY
 | [],_,h=>by delta Rps at h ⊢;exact h
 | `b0,_,h=>by
  delta Rps at h ⊢;apply `H6;exact#[x,r,e,`ac6 g h1,`acz g h2]
end
def w90:`jb `x=(`zj):=`UH
def xn0{b:`B}:`jb `s?=(v=`gk):=`UH
def zk0{i:Int}:`jb `e!=(`H4):=`UH
def w40:`jb `jD=(`Un):=`UH
def wu0:`jb `pr=`aYo:=`UI
def w60:`jb `wx=`aYp:=`UI
def jc0{ks:KS}:`jb (`lX)=`aYq:=`UI
def I40:`jb (`uW)=`aYr:=`UI
def fe0:`jb `M5=`p? `tK (`yl `yH/\`afz):=(jc0)
def ay0{ks:`aYk}:`jb (`b4 (`H3) ds)=`p? `tK (`yl `anX/\`afz):=(jc0)
def O8:`oq []=(`z2):=by delta Rps;rfl
def W5{d:D}:`oq `pY=`aYt:=by conv=>lhs;delta Rps
def Rps.length:`lY (`bv->`ax=`cy):=by
 intro z;induction z with
 | nil=>intro _ h;rw[O8] at h;subst h;rfl
 | cons d ds ih=>
  intro _ h
  rw[W5] at h;let#[x,r,rfl,_,h2]:=h;simp[ih h2]
def Rps.get:∀{ds:`k} {xs:`S} {i:Nat} {d:D},`bv->ds[i]?=`aX->∃x,`p5/\`Fe:=by
 intro z;induction z with
 | nil=>intro _ _ _ _ e;simp at e
 | cons d ds ih=>
  intro _
  intro z2;cases z2 with
  | zero=>
   intro d' h e
   rw[W5] at h;let#[x,r,rfl,h1,_]:=h;simp at e;subst e;exact`H7
  | succ i=>
   intro d' h e
   skip;rw[W5] at h;let#[x,r,rfl,_,h2]:=h;let#[y,e1,e2]:=ih (i:=i) h2 `aYw;done;exact#[y,`aYx,e2]
def Rps.snoc:∀{ds:`k} {xs:`S} {d:D} {x:V},`bv->`Fe->`H8 (ds++[d]) `anZ:=by
 intro z;induction z with
 | nil=>
  intro _ _ _ h r
  rw[O8] at h;subst h;rw[`q8,`q8,W5];exact`H9 _ r
 | cons d ds ih=>
  intro _ _ _ h r
  rw[W5] at h;apply `UJ;rw[`Ab,`Ab,W5];exact`aYy
def Rps.append:∀{ds es:`k} {xs ys:`S},`bv->`aYz->Rps K H B `aG? `DZ:=by
 intro z;induction z with
 | nil=>intro _ _ _ h r;rw[O8] at h;subst h;exact r
 | cons d ds ih=>
  intro _ _ _ h r
  rw[W5] at h;apply `UJ;rw[`Ab,`Ab,W5];exact`aYy
def Rps.drop:`aYA `agw `ake:=by
 intro ds xs n;induction n generalizing ds xs with
 | zero=>exact id
 | succ n ih=>
  intro h;cases ds with
  | nil=>rw[O8] at h;subst h;simpa [O8]
  | cons d ds=>rw[W5] at h;apply `UJ;exact ih h2
def Rps.take:`aYA ds.take (`SQ):=by
 intro ds xs n;induction n generalizing ds xs with
 | zero=>intro h;simp[O8]
 | succ n ih=>
  intro h;cases ds with
  | nil=>rw[O8] at h;subst h;simp[O8]
  | cons d ds=>rw[W5] at h;apply `UJ;rw[`aYB,`aYB,W5];exact#[y,_,rfl,h1,ih h2]
def Rps.same(s:`aZ)(h:`bv):`Dl H' xs:=(`acz `yI h)
def Rp.same{d:D}(s:`aZ)(h:`cz):`ad5:=(`ac6 `yI h)
def RpO(K:`y)(H:Hp)(B:BS)(d:D)(a:`d):Prop:=match d with
 | `et=>∃xs,H a=`Df/\`bv
 | `lX=>∃xs,`aGX
 | _=>`b_
def RpO.same{d:D}(s:`aZ)(h:`ks):RpO K H' B d a:=by
 apply `UK
 ·apply `nY;exact#[xs,`an_,`UL]
 ·apply `an0;exact#[xs,`an_,l,`UL]
def RpO.rp{d:D}(l:`Aa)(n:¬B' a)(h:`ks):Rp K H B' d `cf:=by
 apply `UK
 ·apply `nY
  rw[w60];exact#[a,xs,rfl,`m #[n,`uF],`an1]
 ·let#[xs,e,q,r]:=h
  rw[jc0];exact#[a,xs,rfl,n,e,q,`an1]
def RpO.live{d:D}(h:`ks):`oW:=by
 apply `UK
 ·apply `nY;apply `aYC
 ·let#[xs,e,q,r]:=h;refine .of e (λ_ _ z=>?_) λ_ z=>?_<;>(delta dOb at z;split at z<;>cases z)
def RpX(K:`y)(H:Hp)(B:BS)(ks vs:`k)(a:`d):Prop:=∃(ts:`j)(xs:`S),ks=[]/\`yl (.dX (ts.zip xs))/\`an2=`ax/\`oq vs
def s20:`k->`T8
 | [`cw,`bs]=>`w (x = "@") `aGv `e
 | _=>`e
mutual
def RpN(K:`y)(H:Hp)(B:BS)(as:`aK):`aYn
 | `x,v=>`zj
 | `gk,v=>v=`gk
 | `bs,v=>`H4
 | `cw,v=>`Un
 | `c',v=>`aYD
 | d,v=>`cz
def RpNs(K:`y)(H:Hp)(B:BS)(as:`aK):`aYs
 | [],xs=>`z2
 | `b0,xs=>`aYE
end
open A
mutual
theorem RpN.mono(g:`dS)(l:`aYF):`H5 (`gQ->RpN K H' B' as' d v)
 | `x,_,h=>`UM
 | `cl,_,h=>`UM
 | `c2,_,h=>`UM
 | `cn,_,h=>`UM
 | `c',_,h=>by
  apply `abY;skip;rcases h with⟨k,a,e,q,r⟩|⟨n,a,xs,e,q,r⟩
  ·done;exact `m #[k,a,e,l k a q,r]
  ·done;exact `p #[n,a,xs,e,`afB,`an3 g l r]
 | `et,_,h=>`an4
 | `lX,_,h=>`an4
 | `uW,_,h=>`an4
theorem RpNs.mono(g:`dS)(l:`aYF):`lY (`fQ->`Li K H' B' as' ds xs)
 | [],_,h=>by delta RpNs at h ⊢;exact h
 | `b0,_,h=>by
  delta RpNs at h ⊢;apply `H6;exact#[x,r,e,RpN.mono g l h1,`an3 g l h2]
end
def mi0{F G:`lL}(h:`akl){l:`bn}{m:`lM}(hI:`nZ):`an5:=by
 induction hI with
 | nil=>exact `_
 | cons r t ih=>exact `aYG
def NodeOk(K:`y)(H:Hp)(B:BS)(as:`aK)(n:D)(so:`dw):Prop:=match n with
 | `et=>∃xs,`an6/\`fQ
 | `MD=>`aYH
 | `aYI=>`aYJ
 | _=>`b_
def NodeOk.mono(g:`dS){n:D}(h:`H'):`an7 as:=by
 apply `an8;split at h
 ·apply `nY;exact#[xs,e,`an9]
 ·apply `an0;exact#[xs,e,l,`an9]
 ·skip;let#[C,dx,ns,xs,e,f,l,c,q,r]:=h;done;exact#[C,dx,ns,xs,e,f,l,c,q,`an9]
 ·exact `fE
structure RpW(K:`y)(H:Hp)(B:BS)(ns:`k)(a:`d)(as:`aK)(sos:`uX):Prop where
 hd:`aYK
 nd:`uY
 at':`aD6
 own:∀b∈as,b=a∨(`Fk/\`Nz)
 len:`UN
 all:`aYL
 ins:`an'
def RpD(K:`y)(H:Hp)(B:BS)(ns:`k)(a:`d):Prop:=∃as sos,`ei
def RpD.mono(s:`H2)(g:`dS)(h:`afG):RpD K H' B' ns a:=by
 let#[as,sos,h]:=h;exact#[as,sos,h.hd,`iD,s _ `Ac,`aiC λz=>g b _ z.1 z.2,`qg,`an! `qh,h.ins]
def RpD.live(h:`afG):`oW:=by
 let#[as,sos,h]:=h;exact .of `Ac `an? λ_ z=>nomatch z
def RpG(K:`y)(H:Hp)(B:BS)(d:D)(a:`d):Prop:=match d with
 | `H es=>`aYM
 | d=>`ks
def RpO.toG{d:D}(h:`ks):`n_:=by
 cases d with
 | tup es=>apply `aoa
 | _=>exact h
def RpG.toO{d:D}(n:`NH)(h:`n_):`ks:=by
 cases d with
 | tup es=>cases n
 | _=>exact h
def RpG.same{d:D}(s:`aZ)(h:`n_):RpG K H' B d a:=by
 cases d with
 | tup es=>apply `aob;exact`aYN
 | _=>exact(RpO.same s `UO).toG
def RpG.live{d:D}(h:`n_):`oW:=by
 cases d with
 | tup es=>apply `aob;exact `uZ
 | _=>exact RpO.live `UO
def RpO.plain{d:D}(h:`ks):`aoc:=by
 intro o ys z;cases d with
 | lst ds=>apply `nY;rw[e] at z;cases z
 | dct ks ds=>
  apply `nY;rw[e] at z;delta dOb at z;split at z<;>cases z
 | _=>apply `aoa
def RpG.plain{d:D}(h:`n_):`aoc:=by
 skip;cases d with
 | tup es=>let#[x,ns,e,as,sos,r]:=h;done;intro o xs z;rw[r.at'] at z;cases z
 | _=>done;exact RpO.plain `UO
def RpL(K:`y)(H:Hp)(B:BS)(d:D)(a:`d):Prop:=match d with
 | `H es=>(∃d',es=[`sd,d']/\`Lf d')∨(∃ks vs,es=[`s ks,`wM]/\RpX K H B ks vs a)∨`aYM
 | d=>`ks
def RpO.toL{d:D}(h:`ks):`nu:=by
 cases d with
 | tup es=>apply `aoa
 | _=>exact h
def RpL.toO{d:D}(n:`NH)(h:`nu):`ks:=by
 cases d with
 | tup es=>cases n
 | _=>exact h
def RpG.toL{d:D}(h:`n_):`nu:=by
 cases d with
 | tup es=>exact `aYO
 | _=>exact h
def RpL.same{d:D}(s:`aZ)(h:`nu):`aYP:=by
 skip;cases d with
 | tup es=>
  apply `aod
  ·done;exact `m #[d',q,`UL]
  ·done;apply `ko #[ks,vs,q,ts,xs,q1,`an_,q2,`UL]
  ·done;apply `gO `aYN
 | _=>done;exact(RpO.same s `H!).toL
def RpL.live{d:D}(h:`nu):`oW:=by
 skip;cases d with
 | tup es=>
  apply `aod
  ·done;exact `uZ
  ·done;apply `aYC
  ·done;exact `uZ
 | _=>done;exact RpO.live `H!
def RpL.plain{d:D}(h:`nu):`aoc:=by
 skip;cases d with
 | tup es=>
  rcases h with⟨d',q,r⟩|⟨ks,vs,q,ts,xs,q1,e,q2,r⟩|⟨x,ns,_,as,sos,r⟩
  ·done;exact r.plain
  ·done;intro o ys z;rw[e] at z;cases z
  ·done;intro o xs z;rw[r.at'] at z;cases z
 | _=>done;exact RpO.plain `H!
def jk0(a C:`d)(od:`bp):`pb:=λh=>∃oe,`je=`NK/\`aPn/\(∀dx,`UP->`acR=`sw)/\∃vs,`zF
def J30(H:Hp)(B:BS)(od:`bp):`aoe
 | `e=>`hE
 | `sI=>∃dx,`UP/\¬B dx/\H dx=`c `zf
def XcR(K:`y)(H:Hp)(B:BS)(c:Str)(n:`aI)(a:`d):Prop:=∃C od,`tK/\`aYQ/\`iv/\`aYR
def XcR.mono{n:`aI}(g:`dS)(h:`aof):XcR K H' B' c n a:=by
 let#[C,od,h1,h2,h3,h4]:=h;refine#[C,od,(`aYS).1,(`aYS).2,h3,?_];cases n with
 | none=>trivial
 | some n=>let#[dx,e,q1,q2]:=h4;exact#[dx,e,(`aYT).1,(`aYT).2]
def SlR(K:`y)(H:Hp)(B:BS)(o:`dL):Sl->Prop
 | .un=>`hE
 | `cJ=>∃v,o=`bR/\`cz
 | `rX=>∃a,o=`o4/\`aYU
 | `ph=>∃a,o=`o4/\`aof
def Pd.get{F:`lL}:∀{l:`bn} {m:`lM} {i:Nat} {b:β},`nZ->`aog->∃a,`H?/\`ED:=by
 intro l m i b p;induction p generalizing i with
 | nil=>intro e;cases e
 | cons r t ih=>
  cases i with
  | zero=>intro e;cases e;exact`SP
  | succ i=>exact ih
def Pd.imp{F G:`lL}(h:`akl){l:`bn}{m:`lM}(hI:`nZ):`an5:=by
 induction hI with
 | nil=>exact `_
 | cons r t ih=>exact `aYG
def Pd.set{F:`lL}{a:α}{b:β}(r:`ED):∀{l:`bn} {m:`lM} (i:Nat),`nZ->`bH F (`aoh) `aYV:=by
 intro l m i p;induction p generalizing i with
 | nil=>exact `_
 | cons q t ih=>
  cases i with
  | zero=>exact `ai r t
  | succ i=>exact `ai q (ih i)
def Pd.len{F:`lL}:∀{l:`bn} {m:`lM},`nZ->`bT=`g3:=by
 intro l m p;induction p with
 | nil=>rfl
 | cons _ _ ih=>exact congrArg (·+1) ih
def Pd.app{F:`lL}:∀{l l':`bn} {m m':`lM},`nZ->`bH F l' m'->`bH F (l++l') (m++m'):=by
 intro l l' m m' p s
 induction p with
 | nil=>exact s
 | cons r t ih=>exact `G3
structure Env(K:`y)(H:Hp)(B:BS)(σ:St)(δ:Ds):Prop where
 all:`aoi
 bad:`wd
 own:∀(i j:Nat) (a:`d) (ds es:D),`bY=`Fg->`lr=`aYW->`jM->`w_=`B5->i=j
section
variable{σ σ':St}{δ:Ds}
def SlR.same{o:`dL}{s:Sl}(q:`aZ)(h:`Ia):SlR K H' B o s:=by
 cases s with
 | un=>trivial
 | sh d=>apply `i1;exact#[v,e,`MX q]
 | ow d=>let#[a,e,b,r]:=h;exact#[a,e,b,`MX q]
 | ex c n=>let#[a,e,r]:=h;exact#[a,e,`c! (`aaJ q)]
def Env.same(q:`aZ)(e:`a3):`hV H' δ:=(
 #[`uh (λ_ _ h=>`UQ q) `lh,(λa b=>(`pM a b).same q),`yp])
def Env.free(e:`a3){p:`d}(h:`hw):¬B p:=(λz=>`pM p z h)
def Env.get(e:`a3){d:D}(h:`bY=`Ut):∃v,`G9/\`cz:=by
 let#[o,h1,v,rfl,r]:=`aYX;exact#[v,h1,r]
def Env.set(e:`a3)(i:Nat){d:D}(r:`cz):Env K H B `E_ `Uw:=by
 refine`aoj `aYY `ai6;have hj:j≠i:=by
  rintro rfl
  by_cases hl:j<`m9
  ·rw[`Ad] at h1;cases h1
  ·rw[`Ib] at h1;cases h1
 have hk:k≠i:=by
  rintro rfl
  by_cases hl:k<`m9
  ·rw[`Ad] at h2;cases h2
  ·rw[`Ib] at h2;cases h2
 rw[`qT] at h1 h3;rw[`aYZ] at h2 h4;apply `UR
omit z
def yl0{p:`d}{o:HO}(h:`hw)(hz:`aY_:=by intro _ _ z;cases z):`cE H `aok:=(#[λb u e=>`FB e h e,λb ob xs e=>by
 by_cases z:b=p
 ·subst z
  rw[Y7] at e;exact `J (A4 e) (hz ob xs)
 ·rw[Y4 z] at e;exact e])
def tD(K:`y)(B:BS)(δ:Ds)(g:`dm):TE:=`c0 (∃d,`a3/\`kr/\`u_)
structure PD(X:Cx)(e:`K)(g:`dm):Prop where
 mk::go:`aY0
instance{X:Cx}{e:`K}{g:`dm}:`fl `c3 `aY0:=#[PD.go]
def tDT(K:`y)(B:BS)(δ:Ds)(g:`i_):TT:=`c0 (∃b,`a3/\`au=`it/\∀H',`aZ->Q b H')
structure PTD(X:Cx)(e:`K)(g:`i_):Prop where
 mk::go:`aY1
instance{X:Cx}{e:`K}{g:`i_}:`fl (PTD X e g) `aY1:=#[PTD.go]
structure PWD(X:Cx)(e:`K)(g:`i_):Prop where
 mk::go:`aY2
instance{X:Cx}{e:`K}{g:`i_}:`fl (PWD X e g) `aY2:=#[PWD.go]
def tDA(K:`y)(B:BS)(δ:Ds)(g:`hM):TA:=`c0 (∃ds,`a3/\`au=`oO/\∀vs H',`aZ->`Dl H' vs->`Ta)
structure PDA(X:Cx)(es:`bB)(g:`hM):Prop where
 mk::go:`aY3
instance{X:Cx}{es:`bB}{g:`hM}:`fl (PDA X es g) `aY3:=#[PDA.go]
def cj0{d:D}{b:`B}(h:asB d=`it):d=`gk:=by
 apply `D' d asB
 subst h;rfl
def Op2(K:`y)(r:R2)(f:`bx):Prop:=∀(H:Hp) (B:BS) (x y:V) (dx dy d:D) (Q:VK),`nv->`aol->`aY4->f dx dy=`aX->(`u_)->`R7
def FnR(K:`y)(r:`ms)(f:`O):Prop:=∀(H:Hp) (B:BS) (xs:`S) (ds:`k) (d:D) (Q:VK),`nv->`bv->`PL->(`u_)->`Tr
section
variable{a c:`K}{ga:`dm}{gu:`i_}{rest:`bB}
def _root_.L2.PE.imp{t t':TE}(h:PE X e t)(q:`US):PE X e t':=(`aY5)
def _root_.L2.PT.imp{t t':TT}(h:`Tb)(q:`US):PT X e t':=(`aY5)
def _root_.L2.PW.imp{t t':TT}(h:PW X e t)(q:`US):PW X e t':=(λw pins s σ H Q I z=>h w `t s σ H Q I `afJ)
def _root_.L2.PA.imp{t t':TA}(h:`zY)(q:`US):PA X es t':=(λp pins s σ H Q I z=>h p `t s σ H Q I `afJ)
def As0{δ:Ds}{d:D}(h:gv i δ=`aX):`bY=`Ut:=by
 delta gv at h;split at h
 ·cases h;assumption
 ·cases h
def n8(i:Nat)(hN:`c4)(hv:`dT)(hd:`aL)
  (hcd:`di):PD X `lo (gv i):=(.mk λB δ=>`aY6 fun σ H Q hq56=>by
 apply `b2 hq56
 let#[v,e,r]:=en.get (As0 h);exact#[v,e,k v H `ox r])
def j6{i:Int}:`UT PD `e! (gc `e!):=(`fm Ab0.imp fun σ H Q hq57=>`Ae hq57 `yN)
def y40{i:`B}:PD X (`Cr (`dJ i) j pos) (gc (.bl i)):=(`fm zs1.imp fun σ H Q hq58=>`Ae hq58 `UU)
def y60:`UT PD `aY `qx:=(`fm N20.imp fun σ H Q hq59=>`Ae hq59 (`h8 `k!))
def b7:`UT PD `jD (gc `jD):=(`fm Cd0.imp fun σ H Q hq60=>`Ae hq60 `UV)
def g8(hm:∃t,`oF=`aY7)(hg:`fn)(hd:`aL):PD X `lo (gc `O?):=(.mk λB δ=>by
 let#[t,hm]:=hm;exact(`aiA `pp `Ug).imp fun σ H Q hq61=>`Ae hq61 `UV)
def v8{i:Int}(hm:∃t,`oF=`c `yk)(hg:`fn)(hd:`aL):PD X `lo (gc `e!):=(.mk λB δ=>by
 let#[t,hm]:=hm;exact(`aiA `bs `Ug).imp fun σ H Q hq62=>`Ae hq62 `yN)
def bp0{r:R2}{f:`bx}(hf:Op2 K r f){δ:Ds}{σ:St}{Q:VK}(h:`nn tD K `Ic):tOp r (`Id ga) (`Id gb) σ H Q:=by
 skip;apply `Af;delta o2 at h;cases e1:`df with
 | none=>rw[e1] at h;cases h
 | some x=>
  cases e2:`dy with
  | none=>apply `dn;cases h
  | some y=>
   apply `dn;done;apply `Ag;exact hf H2 B v1 v2 x y d Q `aom `xk r2 h λv H' s r=>k v H' (`LD s) r
def ia0{op:`Tt}{r:R2}{f:`bx}(ho:`aSR)(hf:`Ah)(ha:`cC)(hb:`cU):PD X `aSS `Ic:=(`fm (J70 ho `bD `fo).imp `aon)
def t6{op:`hH}{r:R2}{f:`bx}(ho:`q0)(hf:`Ah)(ha:`cC)(hb:`cU)(hm:`aoo):PD X `uz `Ic:=(
 `fm (Gg0 ho `bD `fo hm).imp `aon)
def Aj0{r:R2}{f:`bx}(ho:`amR)(hf:`Ah)(ha:`cC)(hb:`cU)(hs:`UW):PD X `uN `Ic:=(
 `fm (Rt0 ho `bD `fo hs).imp `aon)
def z8{op:`hH}{r:R2}{f:`bx}(ho:`q0)(hf:`Ah)(ha:`cC)(hb:`cU)(hm:`aoo):`Ie `uz `Ic:=(
 .mk λB δ=>(fu0 ho `bD `fo hm).imp fun σ H Q hq63=>by
  apply `n0 hq63
  delta ob at h;cases e:`aYf with
  | none=>rw[e] at h;cases h
  | some d=>
   rw[e] at h;cases cj0 h;exact bp0 hf `aop)
def S5(h:`c3)(he:`ak'):`Ie e g:=(
 .mk λB δ=>(Nl0 `dC he).imp fun σ H Q hq64=>by
  apply `n0 hq64
  delta ob at h;cases e:`au with
  | none=>rw[e] at h;cases h
  | some d=>
   rw[e] at h;cases cj0 h;exact`aop)
def N5(h:`If):PTD X `Hi (yo0 gt):=(
 .mk λB δ=>(Ps0 `dC).imp fun σ H Q hq65=>by
  apply `n0 hq65
  delta yo0 at h;cases e:`g' with
  | none=>rw[e] at h;cases h
  | some b=>
   rw[e] at h;cases h;exact#[b,en,e,λH' s=>`N3])
def W7(h:`If):PWD X `ak! gt:=(`fm Sj0 `dC)
def M9(h:`If):PWD X `ak? gt:=(`fm On0 `dC)
def O7(ha:`If)(hb:PWD X `He gu):PWD X `Hf (xd0 gt gu):=(
 .mk λB δ=>(Ol0 `bD `fo).imp fun σ H Q hq66=>by
  apply `n0 hq66
  delta xd0 at h;cases e:`g' with
  | none=>rw[e] at h;cases h
  | some b=>
   rw[e] at h;refine`aY8;cases b with
   | true=>apply `aY9
   | false=>
    simp at h;subst h;rw[`lN];exact `N3)
def zp0(ha:`If)(hb:PWD X `Hg gu):PWD X `Hh (wg0 gt gu):=(
 .mk λB δ=>(Jr0 `bD `fo).imp fun σ H Q hq67=>by
  apply `n0 hq67
  delta wg0 at h;cases e:`g' with
  | none=>rw[e] at h;cases h
  | some b=>
   rw[e] at h;refine`aY8;cases b with
   | false=>apply `aY9
   | true=>
    simp at h;subst h;rw[`a_];exact `N3)
def PWD.pt(h:PWD X e gt):`aY':=(.mk λB δ=>(`aae).pt)
def y30{op}(h:PD X a g):PD X `aRE g:=(`fm Dl0 `dC)
def zw0(ha:`cC)(hb:PD X `He gb):PD X `Hf (qx0 ga gb):=(
 .mk λB δ=>(Fw0 `bD `fo).imp fun σ H Q hq68=>by
  apply `b2 hq68
  delta qx0 ob at h;cases e:`df with
  | none=>rw[e] at h;cases h
  | some x=>
   rw[e] at h;apply `aoq;cases x with
   | bl c=>
    rw[xn0] at r;refine`aY!;cases c with
    | true=>apply `aY?
    | false=>
     simp[asB] at h;rw[`lN];exact `aor
   | _=>simp[asB] at h)
def yx0(ha:`cC)(hb:PD X `Hg gb):PD X `Hh (orG ga gb):=(
 .mk λB δ=>(zu1 `bD `fo).imp fun σ H Q hq69=>by
  apply `b2 hq69
  delta orG ob at h;cases e:`df with
  | none=>rw[e] at h;cases h
  | some x=>
   rw[e] at h;apply `aoq;cases x with
   | bl c=>
    rw[xn0] at r;refine`aY!;cases c with
    | false=>apply `aY?
    | true=>
     simp[asB] at h;rw[`a_];exact `aor
   | _=>simp[asB] at h)
def yd0(ha:`cC):PD X `Hi (Mz0 ga):=(
 .mk λB δ=>(Br0 `bD).imp fun σ H Q hq70=>by
  apply `b2 hq70
  delta Mz0 ob at h;cases e:`df with
  | none=>rw[e] at h;cases h
  | some x=>
   rw[e] at h;apply `aoq;cases x with
   | bl c=>
    rw[xn0] at r;simp[asB] at h;exact#[c,r,`aor]
   | _=>simp[asB] at h)
def j5:PDA X [] v6:=(`fm vj0.imp fun σ H Q hq71=>by let#[ds,en,h,k]:=hq71;cases h;exact k [] H `ox (`k_))
def o9(ha:`c3)(hr:`Ai)(hs:`dk):PDA X `g2 (z7 g gA):=(
 .mk λB δ=>(wa0 `bD (hr B δ) hs).imp fun σ H Q hq72=>by
  skip;let#[ds,en,h,k]:=hq72
  delta z7 at h;cases e1:`au with
  | none=>rw[e1] at h;cases h
  | some d=>
   cases e2:`e0 with
   | none=>apply `dn;cases h
   | some es'=>
    apply `dn;cases h;done;refine`UX d #[es',`io,e2,λvs H2 s2 r2=>k _ H2 `jH ?_];rw[W5];exact#[v,vs,rfl,`r?,r2])
def zh0{x1}(h:`Ai):PD X (`TL es) (vw0 gA):=(
 .mk λB δ=>(Wx0 `dC).imp fun σ H Q hq73=>by
  apply `b2 hq73
  delta vw0 at h;cases e1:`e0 with
  | none=>rw[e1] at h;cases h
  | some ds=>
   rw[e1] at h
   by_cases hl:`uT
   ·apply `aos
    cases h;apply `aZa;rw[wu0];exact#[p,vs,rfl,#[(`io).free hp,Y7],`aZb]
   ·apply `aot
    cases h)
def zj0(h:`Ai):PD X `aml (zm0 gA):=(
 .mk λB δ=>`aZc fun σ H Q hq74=>by
  apply `b2 hq74
  delta zm0 at h;cases e1:`e0 with
  | none=>rw[e1] at h;cases h
  | some ds=>
   rw[e1] at h
   by_cases hl:`uT
   ·apply `aos
    cases h;apply `aZa;rw[w60];exact#[p,vs,rfl,`m #[(`io).free hp,`aou],`aZb]
   ·apply `aot
    cases h)
def Ww0{f:`O}(hf:FnR K r f){δ:Ds}{σ:St}{Q:VK}(h:`nn tD K `Md):tCB r (tDA K B δ gA) σ H Q:=by
 apply `Af;delta oA at h;cases e1:`e0 with
 | none=>rw[e1] at h;cases h
 | some ds=>
  rw[e1] at h;exact#[ds,en,e1,`OT (hf H1 B vs ds d Q `aov r1 h `aZd)]
def m8{id:`bE}{p:Pos}{f:`O}(hc:`aUP)(hf:`UY)(hm:`nR)(hv:`xh=`afe)(ha:`lZ)(hg:`fn)
  (hn:`nS) (hdb:`aL) (he:`dk) (hpl:`eO):
  `Ig:=(`aZe lg0)
def u5{T:`bE}{p:Pos}{f:`O}(hc:`amy)(hf:`UY)(hm:`nR)(hv:`TX)(ha:`lZ)(hg:`fn)
  (hn:`nS) (hdb:`aL) (he:`dk) (hpl:`eO):
  `Ig:=(`aZe k40)
def spD(K:`y)(f:`O):Sp:=`aZf `u_
def G20{k:Nat}{p:Pos}{f:`O}(F:`LM CX0 fa (spD X.K f))(hr:`nU)(hm:`oF=`NX)(hk:`LU X.K `MA=`f)(hb:`aZg)
  (ha:`lZ) (hg:`fn) (hdb:`aL) (he:`dk) (hpl:`eO):
  `Ig:=(.mk λB δ=>(`Ih hr hk `bD).imp fun σ H Q h=>by
 apply `Af;delta oA at h;cases e1:`e0 with
 | none=>rw[e1] at h;cases h
 | some ds=>
  rw[e1] at h;refine`aZh;show spD X.K f `Qo H1 Q E0;rw[`cT];exact#[B,ds,d,`aov,r1,h,`aZd])
omit z
omit DL
variable{B B' B₀:DL.BS}
open X
structure EnvS(K:`y)(H₀:Hp)(B₀:BS)(H:Hp)(σ:St)(δ:Ds):Prop where
 same:`UZ
 ex:∃B:BS,`aCs/\`aCt/\`a3
 fr:`aZi
 b0:`aow
def Bg0(K:`y)(H₀:Hp)(B₀:BS)(D:`fO):Res->Prop
 | `Co=>`aZj
 | .rt d=>∀v H,`UZ->Rp K H `al d v->`aH0
 | .bk δ=>∀σ H,`cm->D.bk σ H
 | .ct δ=>∀σ H,`cm->D.ct σ H
 | .rf d=>∀p H,`aox->`UZ->RpL K H (λa=>`oA∨a=p) d p->D.rt `hZ H
def tDS(K:`y)(H₀:Hp)(B₀:BS)(δ:Ds)(G:`kp):TS:=`U_ `cm Bg0 K
structure PSD(X:Cx)(st:`aO)(G:`kp):Prop where
 mk::go:`aZk
instance{X:Cx}{st:`aO}{G:`kp}:`fl `aoy `aZk:=#[PSD.go]
structure PSsD(X:Cx)(st:`bb)(G:`kp):Prop where
 mk::go:`aZl
instance{X:Cx}{st:`bb}{G:`kp}:`fl (`nb X st G) `aZl:=#[PSsD.go]
section
variable{σ:St}{δ:Ds}
def EnvS.grow(e:`cm)(s:`aZ):`ja K H' δ:=(#[`aoz s,let #[B,b1,b2,en]:=e.ex;(`uj (`f' s)),e.fr,e.b0])
omit z
structure Wr(idx:`j)(σ σ':St)(δ δ':Ds):Prop where
 len:`akV
 oth:∀j,j∉idx->σ'[j]?=`w_/\`ajE=`lr
 own:∀j∈idx,∀ds,`ajE≠`Fg
def tDG(K:`y)(idx:`j)(f:`a9)(B:BS)(d:D)(δ:Ds):TG:=`sc (∃δ',`cz/\`a3/\`anR/\∀σ',`aZm->Env K H B σ' δ'->Q σ' H)
structure PGD(X:Cx)(tg:`K)(idx:`j)(f:`a9):Prop where
 mk::go:`aZn
instance{X:Cx}{tg:`K}{idx:`j}{f:`a9}:`fl `Ii `aZn:=#[PGD.go]
def _root_.L2.PG.imp{t t':TG}(h:PG X tg t)(q:∀v σ H Q,t' v σ H Q->`aRY):PG X tg t':=(λpins s σ H v u Q I r z=>h `t s σ H v u Q I r (q v σ H Q z))
def Xv0{σ:St}{δ:Ds}{d:D}:Wr [i] σ `E_ δ `Uw:=by
 refine#[`bO,`Aj,λj hj ds h=>?_]
 ·have:j≠i:=`H0
  rw[`aZo,`aZo];exact`nT
 ·have:j=i:=`H0
  subst this
  by_cases hl:j<`m9
  ·rw[`Ad] at h;cases h
  ·rw[`Ib] at h;cases h
def u0(i:Nat){pos:Pos}(hN:`dh)(hi:`c4)(hx:`aoA)
  (hf:`uw):PGD X `lo [i] (gN i):=(.mk λB d δ=>(`U0).imp λv σ H Q hq75=>by
 let#[δ',r,en,e,k]:=hq75
 cases e;exact k _ Xv0 (en.set i r))
section
variable{st:`aO}{rest:`bb}{G G1 G2 Ga Gb:`kp}{c:`K}{as bs body:`bb}
def X7:`nb X [] t8:=(.mk λH₀ B₀ δ pins s σ H D I hq76=>by
 apply `gR hq76
 cases e;apply `U1)
def Z5(h1:PSD X st G1)(h2:`nb X `aA G2):`U2 `nb u6:=(.mk λH₀ B₀ δ pins s σ H D I hq77=>by
 skip;apply `gR hq77
 delta u6 at e;cases e1:`d! with
 | none=>rw[e1] at e;cases e
 | some r1=>
  rw[e1] at e;cases r1 with
  | nx δ'=>done;exact xv0 `aKw (h2 `as `al δ') `t s σ H D I `aFB
  | rt d=>cases e;done;apply `U3
  | bk δ'=>cases e;done;apply `U3
  | ct δ'=>cases e;done;apply `U3
  | rf d=>cases e;done;apply `U3)
def J0(h:`c3):`U4 yp0 g:=(.mk λH₀ B₀ δ pins s σ H D I hq78=>by
 skip;apply `a4 hq78
 delta yp0 at e1;apply `aU;cases e2:`au with
 | none=>apply `ac;cases e1
 | some d=>
  apply `ac;cases e1;done;exact `q9 `dC #[d,env,e2,`GL (k v H' (`Qj s') (`c! (`lg b1)))])
def EnvS.wr{σ σ':St}{δ:Ds}(e:`cm)(b1:`jY)(b2:`jZ)(s:`aZ)(w:`aZm)(en:Env K H' B σ' δ'):`aZp:=by
 refine#[`aoz s,(`uj en),`aLH,e.b0]
 by_cases hi:i∈idx
 ·exact `J h1 (w.own i hi ds)
 ·rw[(`aZq).2] at h1
  rw[(`aZq).1] at h2;exact `aZr
def T9(h:`c3)(hg:`Ii)(hs:`alr)(hw:`als)
  (h1:`alt):PSD X `alu (O6 f g):=(.mk λH₀ B₀ δ pins s σ H D I hq79=>by
 skip;apply `a4 hq79
 delta O6 at e1;apply `aU;cases e2:`au with
 | none=>apply `ac;cases e1
 | some d=>
  apply `ac;apply `fp;cases e3:`xM with
  | none=>apply `cb;cases e1
  | some δ'=>
   apply `cb;cases e1;done;exact `aZs (hg B d δ) (`GL #[δ',r,`jd s',e3,`aZt H' en.wr s']))
def zl0(hc:`Ij)(ha:`aZu)(hb:`aZv):`U5 PSD ifD:=(.mk λH₀ B₀ δ pins s σ H D I hq80=>by
 skip;apply `a4 hq80
 delta ifD at e1;apply `aU;cases e2:`g' with
 | none=>apply `ac;cases e1
 | some t=>
  apply `ac;done;refine e90 `U6 (`wI ha) (`wI hb) `t s σ H D I `aZw;cases t with
  | true=>apply `U7
  | false=>apply `U7)
structure ItD(K:`y)(B:BS)(J:It)(items:`k)(H₁:Hp):Prop where
 go:∀i H,`aoB->`Ik->`alA
 yld:∀i H x H',`aoB->`alD->`Ik->`aZ/\∃d,`bf[i]?=`aX/\∀B':BS,Gr H₁ H' B B'->(∀a,B' a->`oW)->Rp K H' B' d x
 stop:∀i H,`aoB->`c?<=i->`alE
def tDI(K:`y)(B:BS)(δ:Ds)(g:`hM):TI:=fun σ H R=>∃items,`a3/\`au=`MW/\∀J H',`aZ->ItD K B J `bf H'->R J H'
structure PID(X:Cx)(tg e:`K)(g:`hM):Prop where
 mk::go:`aZx
instance{X:Cx}{tg e:`K}{g:`hM}:`fl (PID X tg e g) `aZx:=#[PID.go]
def _root_.L2.PI.imp{t t':TI}(h:PI X tg e t)(q:∀σ H R,t' σ H R->t σ H R):PI X tg e t':=(λpins s σ H R I z=>`bZ h R (q σ H R z))
def S9(h:`c3):`aoC dp0:=(.mk λB δ=>`Il (am0 `dC) fun σ H R hq81=>by
 apply `Im hq81
 delta dp0 at e1;cases e2:`au with
 | none=>apply `ac;cases e1
 | some d=>
  apply `ac;cases d<;>simp[Js0] at e1
  subst e1;apply `aoD;rw[w60] at r;apply `aoE;apply `aZy
  ·have:`uM:=`N4
   apply `aoF
  ·let#[e3,y]:=y
   apply `aoG;have:=`aoH;apply `aT e4;cases `F;subst e3;apply `aoI
  ·exact`aoJ)
def J2(h:`c3):`aoC tupI:=(.mk λB δ=>`Il (Dr0 `dC) fun σ H R hq82=>by
 apply `Im hq82
 delta tupI at e1;cases e2:`au with
 | none=>apply `ac;cases e1
 | some d=>
  apply `ac;cases d<;>simp[J90] at e1
  subst e1;apply `aoD;rw[wu0] at r;apply `aoE;apply `aZy
  ·have:`uM:=`N4
   apply `aoF
  ·let#[e3,y]:=y
   apply `aoG;have:=`aoH;apply `aT e4;cases `F;subst e3;apply `aoI
  ·exact`aoJ)
def Zd0(x:Str):(`z (`lW x))=`HO:=`fg `lW
def J1(h:`c3):`aoC oi0:=(.mk λB δ=>`Il (Bs0 `dC) fun σ H R hq83=>by
 apply `Im hq83
 delta oi0 at e1;cases e2:`au with
 | none=>apply `ac;cases e1
 | some d=>
  apply `ac;cases d<;>simp[Tq0] at e1
  subst e1;apply `aoD;rw[w40] at r;refine#[_,r,`aLG]
  ·rw[Zd0] at hi;exact hi
  ·let#[e3,c,hc,rfl]:=y
   subst e3;refine#[`Lv,`yG,?_,λB' gB _=>`aB6];delta signs;rw[`dl,`aWA,hc];rfl
  ·rw[Zd0] at hi;exact hi)
def i80(lo hi:Int):(`z (uy0 lo hi))=`yz:=`fg uy0
def Gj0(lo hi:Int):ItD K B (Itr lo `yz) (uy0 lo hi) H:=by
 refine`aex
 ·rw[i80] at hi;exact hi
 ·let#[e3,rfl]:=y
  rw[i80] at hi;subst e3;exact#[`Lv,`alG,by simp[uy0,hi],λB' gB _=>`LT]
 ·rw[i80] at hi;exact hi
open T in
def Z9{a:`K}{p:Pos}(hm:`aSG)(ha:`aZz)(hg:`G (`aSF) Aa)(hs:`To):PID X tg `aSI (tz0 gA):=(
 .mk λB δ=>`Il (Mb0 hg hm `bD hs) fun σ H R hq84=>by
 apply `Im hq84
 delta tz0 at e1;cases e2:`e0 with
 | none=>apply `ac;cases e1
 | some ds=>
  apply `ac;apply `fp;delta Q20 at e1;split at e1
  ·split at e1
   ·rename_i j hj
    cases e1;apply `aZA;rw[W5] at r;apply `In;rw[O8] at r2;subst r2;rw[zk0] at r1;subst r1;refine#[j,rfl,hj.1,hj.2,k _ H' s' ?_];have:=Gj0 (K:=X.K) (B:=B) (H:=H') 0 j;apply `aT Int.sub_zero;exact `F
   ·cases e1
  ·cases e1)
def EnvS.lower{H₁:Hp}{σ:St}{δ:Ds}(e:`kF K H₁ `al H σ δ)(s:`aZB)(b0:`aow):`cm:=by
 apply `aoK;exact#[`aK9 e.same,#[B,b1,`aZC,en],λi ds a h1 h2=>`afL (`aZr),b0]
open Classical in
def j8(hp:`zP)(hc:`dH)(hi:`l_)(hg:`Ii)(hb:`aZD)
  (hs:`fX):PSD X `alR (sh0 gi f G):=(.mk λH₀ B₀ δ pins s σ H D I hq85=>by
 apply `a4 hq85
 delta sh0 at e1;apply `aU;cases e2:`wF with
 | none=>apply `ac;cases e1
 | some items=>
  apply `ac;apply `fp;apply `aZE
  have a9:`U8 (`iP (`aoL `aZF)):=`aZG `aZH
  apply `aZI;apply `aZJ
  apply `aZK
  apply `aZL
  apply `aZM
  have a3:`aZN:=#[λb o h=>by
   by_cases z:`CN
   ·rw[`aZO] at h;cases h
   ·rw[U] at h
    have h':(`Fj)=`aG:=h;rw[`cc] at h';exact h',λb o xs h=>by
   by_cases z:`CN
   ·apply `aZP
    apply `aZQ;cases h0
   ·rw[U]
    show (`Fj)=_;rw[`cc];exact h]
  have hS:`aZR:=#[λb o h=>by
   have h1:=`aZS
   by_cases z:B b
   ·rcases b2 b z with q|q
    ·rw[`U9];exact h1
    ·rw[h] at q;cases q
   ·rw[Y b z];exact h1,`aZT]
  have Z:=`gq;have start:`aZU:=by
   apply `aZV
   ·by_cases q:`oA
    ·exact `mU
    ·exact `aZW
   ·have hn:=`aZX
    have nb:¬`oA:=λz=>`qa a z hn
    apply `aZY;rw[h2] at e3;cases e3;cases e4;exact `aZZ
   ·rw[a4 a z]
    exact `aZ_
  obtain⟨W,hW⟩:∃W:`aSK,∀i m σ H,`aSL↔`aZ0 u50:=`aoM;refine#[W,#[_,`u0 #[rfl,`b7,δ,`k5,e1]],?_];intro i m σi Hi w0;let#[hm,c0,δi,O,ei]:=`aoN;clear w0;subst hm;apply `aZ1
  by_cases hlt:`Ik
  ·refine `aZ2 u50 #[`U',`em,`u0 #[rfl,hlt,δn,en',e']]
   apply `aZ3;apply `aZ4;have a6:`aZ5:=rd B' (λb o n h=>by
    have h':Hh b=`aG:=`ai3
    apply `aZ6;rcases c2 b z with q|q
    ·exact `aZ7
    ·rw[h'] at q;cases q) env0.bad
   have a5:=`aZ8
   replace O:=`Fq sm
   have a2:`aZ9:=by
    apply `U!;congr 1;rw[`U?] at hd;exact A4 hd
   rw[a2] at ei;delta u50 at ei;cases e3:f d δi with
   | none=>rw[e3] at ei;cases ei
   | some δ2=>
    rw[e3] at ei;simp only[`h] at ei;apply `aZ';apply `aZ!;cases e4:G δ2 with
    | none=>rw[e4] at ei;cases ei
    | some rb=>
     rw[e4] at ei;apply `aZ?;cases rb with
     | nx δn=>apply `Va
     | ct δn=>apply `Va
     | bk δn=>
      cases ei;apply `a_a
     | rt d'=>
      cases ei;apply `a_b
     | rf d'=>
      cases ei;apply `a_c
  ·have e:i=`c?:=`em
   subst e;apply `a_d;rw[`Io] at ei;cases ei;exact `a_e)
structure PFD(X:Cx)(ifs:`bB)(g:`i_):Prop where
 mk::go:`a_f
instance{X:Cx}{ifs:`bB}{g:`i_}:`fl (PFD X ifs g) `a_f:=#[PFD.go]
def p10:PFD X [] noT:=(.mk λB δ pins s σ H Q I hq86=>by
 let#[b,en,e,k]:=hq86
 cases e;exact `bZ Dz0 Q (`Vb))
def Ts0(h:`Ij):PFD X [c] gt:=(`fm Ef0 `dC)
def Wr0{σ:St}(h:j<n):`fP[j]?=`gX:=by
 delta u40;rw[`fa `nc,`iZ,`cA]
def ms0:`q' (`bH `N2 (`bG n (`e:`dL)) (`a_g)):=by
 intro z;induction z with
 | zero=>exact `_
 | succ n ih=>exact `ai `ny (ih)
theorem Up0{σ:St}{δ:Ds}(en:`a3):∀caps:`j,`bH `N2 (`aW6) (`aX4)
 | []=>`_
 | j::`cj=>by
  refine `ai ?_ (Up0 en `cj);show SlR K H B `afs (e00 `lr);cases h:`lr with
  | none=>trivial
  | some sl=>
   cases sl with
   | un=>trivial
   | ow ds=>trivial
   | ex c n=>trivial
   | sh d=>
    let#[v,e,r]:=en.get h;rw[e];exact`aYY
def Mj0{o:`H_}{ds:D}(h:e00 o=`aa1):`b_:=by
 cases o with
 | none=>cases h
 | some s=>cases s<;>cases h
def qz0{δ:Ds}{ds:D}(h:`m7[i]?=`Fg):`b_:=by
 delta uu0 at h
 by_cases hi:i<n
 ·rw[`TW,`iZ,`I hi] at h
  cases h
 ·rw[`amv,`dl] at h
  cases q:`cj[i - (`z `a_g)]? with
  | none=>rw[q] at h;cases h
  | some j=>
   rw[q] at h;exact Mj0 (A4 h)
def Env.comp{σ:St}{δ:Ds}(en:`a3)(n:Nat)(caps:`j):Env K H B `fP `m7:=(
 #[`w? (ms0 n) (Up0 en `cj),`Vc,`aoO])
def SlR.gr{o:`dL}{s:Sl}(g:`dS)(no:∀ds,s≠`aa1)(h:`Ia):SlR K H' B' o s:=by
 cases s with
 | un=>trivial
 | sh d=>apply `i1;apply `Ip
 | ow ds=>exact `J rfl (no ds)
 | ex c n=>let#[a,e,r]:=h;exact#[a,e,`qh]
def Pd.impG(g:`dS):∀{σ:St} {δ:Ds},(`a_h)->`aoi->`bH (SlR K H' B') σ δ:=by
 intro σ δ no p
 induction p with
 | nil=>exact `_
 | cons r t ih=>exact `ai (r.gr g λds z=>no 0 ds (`Vd z)) (ih λi ds z=>no `eA ds `a_i)
def tDF(K:`y)(B:BS)(δ:Ds)(g:`dm):TE:=`c0 (∃d,`a3/\`kr/\`a_j)
structure PDF(X:Cx)(e:`K)(g:`dm):Prop where
 mk::go:`a_k
instance{X:Cx}{e:`K}{g:`dm}:`fl `Ak `a_k:=#[PDF.go]
def tD.toF{δ:Ds}{σ:St}{Q:VK}(h:`nn tD K g):`nn tDF K g:=by
 let#[d,en,e,k]:=h;exact#[d,en,e,λp H' hp s r=>k _ H' s (r.rp (λa z=>`h5) (en.free hp))]
def PDF.pd(h:`Ak):`c3:=(`fm (`aae).imp fun σ H Q z=>z.toF)
def gn0{K:`y}{B:BS}{δ:Ds}{σ:St}{H:Hp}{Q:VK}{caps:`j}{gi:`hM}{f:`a9}{gt:`i_}{ge:`dm}(hidx:∀j∈idx,j<n)
  (h:`nn tDF K `afP):
  Xs0 n `cj (tDI K B δ gi) `a_l (`xz tDT K gt) (`xz tD K ge) σ H Q:=by
 apply `Af;delta vq0 at h;cases e1:`wF with
 | none=>rw[e1] at h;cases h
 | some items=>
  rw[e1] at h;apply `f1
  by_cases hsz:`uV
  ·rw[`I hsz] at h
   cases e2:`afy with
   | none=>rw[e2] at h;cases h
   | some out=>
    rw[e2] at h;cases h;refine#[`bf,en,e1,`a_m];skip;have Y:=`io;have a9:¬B L:=Y.free hL;obtain⟨Bp,O⟩:∃Bp:BS,Bp=λa=>B a∨a=L:=`Y
    have a6:Bp L:=`o O `rT
    have b1:∀a,B a->Bp a:=λa z=>`o O `h5
    have a2:∀a,Bp a->B a∨a=L:=λa z=>`Ve O z
    have gr:∀{H2:Hp},`Ul->`a_n:=λ{H2} s2 b o nb hb=>#[(λz=>by
     rcases a2 b z with q|q
     ·exact nb q
     ·subst q;rw[hL] at hb;cases hb),s2 b o hb]
    obtain⟨W,hW⟩:∃W:`Up,∀i m ys H2,`anE↔m=`c? - i/\`aG3/\`a_o/\`Ul/\`d5<=i/\∃pre rest,out=pre++`aA/\`a_p/\`DP `m7 (`pq i)=`c `aA:=`aoM;done;refine#[W,#[_,`u0 #[rfl,`b7,Y7,yl0 hL,`gW,[],out,rfl,`k_,e2]],?_];intro i m ys H2 w0;skip;let#[hm,b3,hD,s2,b2,pre,rest,ho,rp,ec]:=`aoN;clear w0;subst hm;have U:Env K H2 Bp `fP `m7:=by
     refine#[`a_q Y.comp,`iN,`aoO];rcases a2 a z with q|q
     ·exact(Y.same s2).bad a q
     ·subst q;rw[hD];exact .of rfl `an? λ_ z=>nomatch z
    by_cases hlt:`Ik
    ·done;refine `p #[it.go i H2 `aoP hlt,`a_r]
     let#[sm,dx,a1,rx]:=`afO i H2 x H3 `aoP y hlt;have a3:`a_s:=rx Bp (gr (`Nv sm)) U.bad
     replace U:=U.same sm
     replace s2:=`Nv sm
     replace hD:=sm _ _ hD
     replace rp:=rp.same sm
     have Z:`pq i=dx::`PP:=by
      apply `U!;congr 1;rw[`U?] at a1;exact A4 a1
     rw[Z] at ec;delta sa0 at ec;cases e3:f dx `m7 with
     | none=>rw[e3] at ec;cases ec
     | some δ'=>
      rw[e3] at ec;dsimp only at ec;refine#[Bp,dx,`Lb,δ',a3,U,e3,`a_t λj v z=>?_]
      ·by_cases hj:j∈idx
       ·rw[Wr0 (`jO j hj)] at z;cases z
       ·rw[(`Fi j hj).1];exact z
      ·cases e4:`PH with
       | none=>rw[e4] at ec;cases ec
       | some t=>
        rw[e4] at ec;refine#[Bp,δ',t,en4,e4,`a_u];cases t with
        | false=>
         rw[`lN];exact#[`U',`E,`u0 #[rfl,hlt,s5 _ _ hD,`Nv s5,`E,pre,`aA,ho,rp.same s5,ec]]
        | true=>
         rw[`a_];dsimp only at ec;cases e5:`PG with
         | none=>rw[e5] at ec;cases ec
         | some yd=>
          rw[e5] at ec;dsimp only at ec;cases e6:`DP `m7 (`PP) with
          | none=>rw[e6] at ec;cases ec
          | some rest'=>
           rw[e6] at ec;cases ec;refine#[Bp,δ',yd,`a_v,e5,λv H6 s6 r6=>?_];have a5:`a_w:=s6 _ _ (s5 _ _ hD);have g6:`a_x:=λb o nb hb=>#[nb,by
            rw[`Vf nb a6];exact hb]
           refine#[a5,`E,`U',`E,`u0 #[rfl,hlt,Y7,#[λb o hb=>?_,λb ob zs hb=>?_],`aax,pre++[yd],rest',`pD ho,?_,e6]]
           ·have a7:b≠L:=λz=>by rw[z,hL] at hb;cases hb
            rw[Y4 a7];exact s6 _ _ (s5 _ _ (s2 _ _ hb))
           ·by_cases z:b=L
            ·rw[z,Y7] at hb;cases hb
            ·rw[Y4 z] at hb
             exact s2.nf _ _ _ (s5.nf _ _ _ (s6.nf _ _ _ hb))
           ·exact(`yP ((rp.same s5).same s6) r6).mono g6
    ·have e:i=`c?:=`E
     subst e;done;refine `a_y `aoP;rw[`Io] at ec;have a4:`a_z:=A4 ec;subst a4;rw[`cT] at ho;subst ho;refine k L H2 (`nm hL) `jH #[ys,hD,?_];rw[O] at rp;exact rp
  ·rw[`Q hsz] at h;cases h
def U80{sc scope:`c1}{elt iter:`K}{ifs:`bB}{N':`i}{n:Nat}{caps:`j}{gi:`hM}{idx:`j}{f:`a9}{ge:`dm}
  (hc:`dH) (hsc:`o_) (ok:`uQ) (hidx:∀j∈idx,j<n) (hi:`l_)
  (hg:`l0) (ht:`Iq) (he:`Al)
  (hs:`fX):
  `a_A:=(.mk λB δ=>
 (ai0 hc hsc ok (hi B δ) (g:=`yK) (tt:=`af4) (te:=`aoQ)
  `Ir
  `a_B
  `aoR hs).imp fun σ H Q h=>gn0 `jO h)
def If0{sc scope:`c1}{elt iter:`K}{ifs:`bB}{N':`i}{n:Nat}{caps:`j}{gi:`hM}{idx:`j}{f:`a9}{ge:`dm}
  (hc:`dH) (hsc:`o_) (ok:`uQ) (hidx:∀j∈idx,j<n) (hi:`l_)
  (hg:`l0) (ht:`Iq) (he:`Al)
  (hs:`fX):
  `a_C:=((`aoS U80 ok).pd)
omit z
def p20{N:`i}:∀{ds:`k} {vs:`S},`PK->`bH `N2 (`aUC) (ds.map `yY):=by
 intro z;induction z with
 | nil=>intro _ h;rw[O8] at h;subst h;exact `_
 | cons d ds ih=>
  intro _ h
  rw[W5] at h;apply `u1;exact `ai `H7 (ih h2)
def p50{es:D}(h:`B8[i]?=`aYW):`b_:=by
 delta xw0 at h
 by_cases hi:i<`cy
 ·rw[`TW,`dl] at h
  cases q:ds[i]? with
  | none=>rw[q] at h;cases h
  | some d=>rw[q] at h;cases h
 ·rw[`amv,`iZ] at h
  apply `aoT
section
variable{P:`aj}{w:`M}
def okD{st:`aO}{k:Nat}{f:`O}{G:`kp}(F:`Am)(S:`z6)
  (body:`aoU)
  (hf:∀ds d,`PL->`a_D/\`a_E):
  `c5 `cX ps f:=by
 apply `Vg
 ·skip;apply `a_F;done;rw[`bm];exact(`Is).1
 ·skip;apply `a_G;done;apply `a_H
  skip;have en:`aoV:=by
   apply `a_I;delta L2.start xw0;rw[`bm];exact `a_J
  rcases (`Is).2 with e|⟨rfl,δ,e⟩|⟨e,hn⟩
  ·done;exact`a_K
  ·done;exact#[_,en,e,`tM (q `x H' `RX `k!)]
  ·done;exact#[_,en,e,`RT (q _ H' s' ((r'.toO hn).rp (λa z=>`h5) (λz=>hb p z hp)))]
def spN(K:`y)(f:`O):Sp:=`aZf `a_j
def okN{st:`aO}{k:Nat}{f:`O}{G:`kp}(F:`Am)(S:`z6)
  (body:`aoU)
  (hf:∀ds d,`PL->`a_D/\`ai4):
  `kt `cX ps f:=by
 apply `Vg
 ·skip;apply `a_F;done;rw[`bm];exact(`Is).1
 ·skip;apply `a_G;done;apply `a_H
  have en:`aoV:=by
   apply `a_I;delta L2.start xw0;rw[`bm];exact `a_J
  exact#[_,en,(`Is).2.1,`RT (q p H' hp s' (r'.toO (`Is).2.2))]
omit z
omit DL
open Y
def T00:∀{ys:`i} {us:`N},`a_L->StrsAre us ys:=by
 intro z;induction z with
 | nil=>intro _ r;rw[`pR] at r;cases r;exact `_
 | cons y ys ih=>
  intro _ r
  rw[`av] at r;cases r with
  | cons r1 r2=>
   let#[t,e]:=r1;subst e;exact `ai y t (ih r2)
def Is0:MtR X "str.join" (λx xs H Q=>∃(sep:Str) (p:`d) (ys:`i),x=`r sep/\`CW/\SqL X.K H p `Fl/\`aX8/\Q `aX9 H):=by
 apply `a_M;skip;let#[sep,p,ys,rfl,rfl,hq,hz,q]:=h;apply `dj;let#[u,rfl,ru]:=rs.one;cases ru;let#[its,rv,pl,_]:=`tc;done;exact join_list `kj (`bA (T00 rv)) hz `a_N
def part_of{o:`aI}(p:`De u o):∃l:`aH (Int×Tok),u=partValue l/\`cY `gc=o:=by
 cases p with
 | none=>exact#[`e,rfl,rfl]
 | int i t=>exact#[`c (i,t),rfl,rfl]
def Fy0:SlR X (`T4 (∃z,x=`oT/\`yE/\Q `a_O H)):=by
 apply `T6;skip;let#[z,rfl,hz,q]:=h;apply `dj;let#[l,rfl,rfl]:=part_of pl;let#[u,rfl,rfl]:=part_of pu;done;refine#[`kl,_,F.slot_str_getitem.lookup,R1 _ _ _,wpAny_getItem_str_slice (l:=l) (u:=u) (st:=`e) ?_ rfl (post_val_or_str #[B7 (Txt.slice_le z _ _) hz,`a_N])];let#[o,h1,h2,h3]:=hs;exact#[o,h1,h2,h3]
omit L2
open X
def tyD:D->`bE
 | `x=> "NoneType"|`cl=> `An|`c2=> `lp|`cn=> `kl|`HW=> `eX|`eE=> `g0|`u2=> `No|`Ao=> `wA
def okT(T:`bE)(f:`dR):Prop:=∀(K:`y) (d:D),W.kitOne K (`bj (tyD d)) `mY=`c (f d)
def z40:okT `lp `RO:=(`Vh)
def zb0:okT `kl isStr:=(`Vh)
def Q6:okT `An `F9:=(`Vh)
def V9:okT `eX `L8:=(`Vh)
section
def Mt0{T:`bE}{f:`dR}(hT:okT T f):`z3 `GZ (∃B d x,xs=[x,.ty T]/\`Vi/\Q (.bl (f d)) H):=by
 apply `a_P;skip;let#[B,d,x,rfl,r,q]:=h;let#[u,c,rfl,ru,rc]:=rs.two;obtain rfl:c=`nz T:=rc;have fin:∀tk,`tF (`dJ (f d)) ((`Ch tk)):=λtk=>#[`cl,H,`LC tk,rfl,q]
 have e:=hT X.K d;cases d with
 | non=>rw[w90] at r;subst r;cases (`GM (u=`nB));done;exact `qF W.kitx_none `mW
 | bl y=>rw[xn0] at r;subst r;cases (`GM (u=`Dg y));done;exact `qF W.kitx_bool `mW
 | int i=>rw[zk0] at r;subst r;let#[t,rfl]:=(`GM `RP);done;exact `qF W.kitx_int `mW
 | str y=>rw[w40] at r;subst r;let#[t,rfl]:=(`GM (∃t,u=`O! y t));done;exact `qF W.kitx_str `mW
 | tup ds=>
  rw[wu0] at r;apply `aoW;apply `Vj;let#[its,_,p,_]:=`mT `q!;let#[o,h1,h2,_]:=p;done;exact `qF W.kitx_tuple `a_Q
 | lst ds=>
  rw[w60] at r;apply `aoW;apply `Vj;let#[its,_,p,_]:=`g6 `q!;let#[o,n,h1,h2,_]:=p;done;exact `qF W.kitx_list `a_Q
 | dct ks ds=>
  rw[jc0] at r;let#[a,xs,rfl,_,hq,_]:=r;apply `Vj;cases ks with
  | inl ks=>
   let#[_,_,vs,_,p]:=(`a_R `yH);let#[o,es,ep,h1,h2,_]:=p;done;apply `a_S
  | inr ks=>
   let#[_,_,vs,_,o,es,ep,h1,h2,_]:=(`a_R `anX);done;apply `a_S
 | fn ks ds=>
  rw[I40] at r;apply `aoW;apply `Vj;let#[oF,_,_,_,_,_,_,_,_,#[_,h1],#[h2,_],_]:=hq;done;exact `qF KfT.kit #[oF,(`b1 a _ h1).1,h2]
def t7{T:`bE}{f:`dR}{Tn:Str}{p p2 pos:Pos}(hT:okT T f)(hb:`eu Tn=`aCq)(hm:`aoX)(hmT:`cx Tn=`e)(h:`c3)(hg:`aoY)(hgT:`iu Tn)
  (hn:`P8 Tn) (hd:`sN Tn)
  (he:`hi [e,`N6] (`vQ::`aoZ)) (he2:`BZ `aoZ (`ih (`N6)))
  (hpl:`mn (`pj `aoZ)):
  `ao_ [e,`N6] (te0 f g):=(
 .mk λB δ=>(lg0 (Mt0 hT) hg hm PyProof.Rows.boot_isinstance (wa0 `dC (wa0 (Hh0 (v:=.ty T) hgT hmT hb rfl hn hd) vj0 he2) he) `u `u he hpl).imp fun σ H Q hq87=>by
  apply `b2 hq87
  delta te0 at h;cases e1:`au with
  | none=>rw[e1] at h;cases h
  | some x=>
   rw[e1] at h;cases h;exact`UX x #[B,x,v,rfl,r1,k _ H1 s1 `Dj])
open T in
def cl0{C:`alV}[∀i j,`f2 (C i j)]{g:`Ts}{g':`a_T}(hg:`a_U):Op2 K (rI C g) (`kq (`w (C i j) `a_V `e)):=by
 apply `n1;apply `a_W
 rename_i i j;split at h
 ·cases h
  rw[zk0] at rx ry;subst rx ry;exact#[i,j,rfl,rfl,`vV,`a_X]
 ·cases h
open T in
def gy0{g:`Ts}{g':`a_T}(hg:`a_U):`It g (`kq `a_V):=by
 apply `n1;apply `a_W
 rename_i i j;rw[zk0] at rx ry;subst rx ry;exact#[i,j,rfl,rfl,`a_X]
instance decDiv(i j:Int):`f2 (L80 i j):=inferInstanceAs (`f2 (`Tv))
instance decPow(i j:Int):`f2 (Li0 i j):=inferInstanceAs (`f2 (`alY))
variable{a:`K}{ga:`dm}
def zs0(ha:`cC)(hb:`cU):`l1 (`tB .Sub) w50:=(ia0 Ei0 (gy0 (g':=`aS_) `ac9) ha hb)
def U5(ha:`cC)(hb:`cU):`l1 (`tB .FloorDiv) c7:=(`ao0 Gz0 L80 `aS2)
def R3(ha:`cC)(hb:`cU):`l1 (`tB .Mod) f9:=(`ao0 Eq0 `aS3 `aS4)
def y20(ha:`cC)(hb:`cU):`l1 (`tB .Pow) pk0:=(`ao0 Bo0 Li0 `aS5)
omit z
omit DL
open Y
def I60(K:`y):R2:=`ef (∃l b xs zs,`afm/\`HG/\`Lu l/\`a_Y/\`a_Z/\`z1 `Vk)
def Tm0:`amO I60:=by
 apply `hJ;skip;apply `a__;cases rx;cases ry;let#[its,r,p1,z1]:=`g6 hH;apply `a_0;apply `a_1;let#[#[a4,a1,data2,a3],Z,Y,n2,U]:=`ao1;simp only at hc hd Y U;subst hc hd Y U;have e:`b3++`ao2=(`iy (its++O)):=`bO
 have a2:`a_2:=by
  rw[`b8,`b8,← `bm,← `nd];exact hz
 done;refine l4 `uJ #[_,Z,rfl] noFill_list_add seq_list_add PySem.F.slot_list_add PySem.F.entry_list_add (PySem.F.args_list_add_2 _ _) (list_addW l b `b3 `ao2 n n2 dd a1 sl a3 a2) #[ho,Z,?_];rw[e];exact`a_3 (`NU r2) (`aVE)
omit L2
open X
section
variable{a:`K}{p:Pos}{ga:`dm}
def Y20(hb:`wd){p:`d}(h:`hw):¬B p:=(λz=>hb p z h)
def j30{p:`d}(hb:`wd)(h:`hw)(r:`bv):Rp K (upd H p `kV) B `wx `hZ:=by
 rw[w60];exact#[p,xs,rfl,`m #[Y20 hb h,`aou],`a_4]
def af0{p:`d}(hb:`wd)(h:`hw)(r:`bv):Rp K (upd H p `v1) B `pr `hZ:=by
 rw[wu0];exact#[p,xs,rfl,#[Y20 hb h,Y7],`a_4]
def Z0:`It `al_ ltD:=(`Vl `al_)
def v7:`It `al0 leD:=(`Vl `al0)
def Z1:`It `al1 gtD:=(`Vl `al1)
def yf0:`It `al2 geD:=(`Vl `al2)
def By0{x y:V}{dx dy:D}{b:`B}(rx:`aol)(ry:`aY4)(h:eqS dx dy=`it):`aS7/\`ae5=b:=by
 cases dx<;>cases dy<;>simp only[eqS] at h<;>try cases h
 all_goals
  simp only[w90,xn0,zk0,w40] at rx ry;subst rx ry;refine`SH;simp
def d8:Op2 K rEq eqD:=by
 apply `n1;delta eqD at h;cases e:eqS dx dy with
 | none=>rw[e] at h;cases h
 | some b=>
  rw[e] at h;cases h;let#[h1,h2]:=By0 rx ry e;exact#[h1,`o h2 `UU]
def zc0:Op2 K `aS9 jn0:=by
 apply `n1;have hy:dy=`x:=by cases dy<;>first|rfl|cases h
 subst hy;cases h;rw[w90] at ry;refine#[ry,`Vm];rw[xn0];cases dx<;>simp only[w90,xn0,zk0,w40,wu0,w60,jc0,I40] at rx
 all_goals first
  | (subst rx;rfl)
  | (let#[a,xs,rfl,_]:=rx;rfl)
def M80(xs:`bn)(i:Int):`aG9=DL.atI xs i:=(rfl)
def kl0(n d:Nat)(o:`aI):`k6 n d o=sIx n d o:=`ain o
def Ty0{i:Int}{d:D}(r:`bv)(h:`a_5):∃v,`a_6/\`cz:=by
 rw[M80];delta DL.atI at h ⊢;rw[`bm];cases e:DL.ixN `cy i with
 | none=>rw[e] at h;cases h
 | some j=>
  rw[e] at h;exact `q4 h
def Ct0:Op2 K (rIx K) ixD:=by
 apply `n1;cases dx<;>cases dy<;>simp only[ixD] at h<;>try cases h
 ·split at h
  ·rename_i hz
   rw[w40] at rx;rw[zk0] at ry;subst rx ry;let#[c,hc,rfl]:=`Vn;apply `gO #[_,_,c,rfl,rfl,hz,hc,`UV]
  ·cases h
 ·skip;rw[wu0] at rx
  rw[zk0] at ry;subst ry;apply `Vo rx;let#[v,hv,rv]:=Ty0 r h;done;exact `p (`a_7)
 ·skip;rw[w60] at rx
  rw[zk0] at ry;subst ry;apply `Vo rx;let#[v,hv,rv]:=Ty0 r h;done;exact `a_7
def M4(ha:`cC)(hb:`cU)(hs:`UW):`l1 `uN ixD:=(Aj0 Bu0 Ct0 ha hb hs)
structure PDO(X:Cx)(e:`se)(g:`z!):Prop where
 mk::go:`a_8
instance{X:Cx}{e:`se}{g:`z!}:`fl (PDO X e g) `a_8:=#[PDO.go]
def S7:PDO X `e wt0:=(.mk λB δ pins s σ H Q I hq88=>by
 let#[o,en,h,k]:=hq88
 cases h;exact `bZ Hf0 Q (`Vb))
def S8(h:`c3):PDO X (`sm) (`fD g):=(.mk λB δ pins s σ H Q I hq89=>by
 let#[o,en,hq,k]:=hq89
 delta someO at hq;cases e1:`au with
 | none=>rw[e1] at hq;cases hq
 | some d=>
  rw[e1] at hq;cases d<;>simp[asI] at hq
  subst hq;exact Hx0 `dC `t s σ H Q I #[_,en,e1,`GL #[_,`a_9,k H' s']])
def Sp0(r:`bv)(lo hi:`aI):Rps K H B (cutD ds lo hi) `HF:=by
 delta cutD g90;rw[`bm,kl0,kl0];exact(r.drop _).take _
def t50{d:D}(h:`oq [d]):∃v,xs=[v]/\`cz:=by
 rw[W5] at h;apply `u1;rw[O8] at h2;subst h2;exact`H7
def Ad0:`Vp ((`aWa)∨`HI (`a_'/\Q (`afk) H)) ys0:=by
 apply `q?;delta ys0 at h;split at h
 ·split at h
  ·cases h
   apply `i2;rw[w40] at r1;subst r1;exact `m #[_,rfl,`vV,`yN]
  ·cases h
 ·skip;cases h
  apply `i2;rw[w60] at r1;apply `u3;done;exact `p #[a,ys,rfl,`ao3,`a_!]
 ·skip;cases h
  apply `i2;rw[wu0] at r1;apply `u3;done;exact `p #[a,ys,rfl,`ao4,`a_!]
 ·cases h
def M5(hm:`a_?)(ha:`Vq)(hg:`a0a)(he:`f3)(hpl:`l2):
  PD X `a0b (oA gA ys0):=(m8 (Vj0.or gf0) Ad0 hm A8 ha hg `u `u he hpl)
def U70:∀{ds:`k} {xs:`S} {bs:`i},`bv->c30 ds=`c bs->xs=bs.map `DF:=by
 intro z;induction z with
 | nil=>
  intro _ _ r h
  cases h;rw[O8] at r;exact r
 | cons d ds ih=>
  intro _ bs r h
  rw[W5] at r;apply `In;cases d<;>simp only[c30] at h<;>try cases h
  let#[t',e,rfl]:=`Vn;rw[w40] at r1;rw[r1,ih r2 e];rfl
def J6{apos cpos:Pos}(ho:PD X o g)(ha:`Vq)(hbase:`Ds "join")
  (hfew:`G ((`ra
  &&`ao5)=`f) Aa)
  (hline:`fZ) (hs:`f3) (hplain:`l3):
  PD X (`Iu o "join" [e]) (ib0 g gA):=(.mk λB δ=>
 (`a0c F.slot_str_join F.type_str_join Is0).imp fun σ H Q hq90=>by
  skip;apply `b2 hq90
  delta ib0 at h;cases e1:`au with
  | none=>rw[e1] at h;cases h
  | some x=>
   cases e2:`e0 with
   | none=>apply `dn;cases h
   | some ds=>
    apply `dn;apply `f1;delta Xn0 at h;split at h
    ·cases e3:c30 _ with
     | none=>rw[e3] at h;cases h
     | some ys=>
      rw[e3] at h;apply `f1;split at h
      ·cases h
       done;refine`a0d;rw[w40] at r1;subst r1;refine`a0e;skip;let#[w,rfl,r3]:=t50 r2;rw[w60] at r3;let#[a,zs,rfl,q,rr]:=r3;have:=U70 rr e3;subst this;done;exact#[_,a,ys,rfl,rfl,`fJ,`vV,k _ H2 `jH `MY]
      ·cases h
    ·cases h)
def zo0:`Vp (`HI ((`aG'/\`aMy)∨(`aG!/\Q `hZ H))) ns0:=by
 apply `q?;delta ns0 at h;split at h
 ·skip;cases h
  apply `i2;rw[w60] at r1;apply `u3;done;exact#[a,ys,rfl,`m #[`fJ,`aHk af0]]
 ·skip;cases h
  apply `i2;have O:=r1;rw[wu0] at r1;apply `u3;done;exact#[a,ys,rfl,`p #[`fJ,k _ H `ox O]]
 ·cases h
omit z
section
variable{a:`K}{p:Pos}{ga:`dm}
def zn0(h:`cC):PD X (`abj .USub a pos) (unG w70 ga):=(.mk λB δ=>(y71 Dm0 `dC).imp fun σ H Q hq91=>by
 apply `b2 hq91
 delta unG at h;cases e1:`df with
 | none=>rw[e1] at h;cases h
 | some x=>
  rw[e1] at h;apply `D' x w70
  subst h;exact#[_,en,e1,`D7 #[_,`a_9,k _ H' s `CA]])
def FnD(P:`aj)(w:`M)(K:`y)(mg:`a2)(base:`D)(x:Str)(k:Nat)(ps:`i)(f:`O):Prop:=
 `ao6 (`c5 k ps f)
def yk0{k:Nat}{f:`O}(C:`a0f)(hr:`rb)(hk:k<=m)(ha:`lZ)(hg:`fn)(hdb:`aL)
  (he:`dk) (hpl:`eO):`Ig:=by
 apply `Vr;exact G20 F `i3 hm kp hb ha hg hdb he hpl
def fn0{sc scope:`c1}{elt iter tg:`K}{ifs:`bB}{N N':`i}{n:Nat}{caps:`j}{gi:`hM}{idx:`j}{f:`a9}{gt:`i_}{ge:`dm}
  (ok:`u4) (hidx:∀j∈idx,j<n) (hi:`l_)
  (hg:`l0) (ht:`Iq) (he:`Al)
  (hc:`l4) (hsc:`Ap) (hN:`Aq) (hs:`fX):
  `a_C:=(`aoS If0 `Ar)
omit z
open V
def fz:D->Sl
 | `H [`eE,`eE]=>.un
 | `H (`cn::_)=>.un
 | `H [`c2,`HW]=>.un
 | d=>.sh (unl d)
open B
def Ub0:Sl->Sl
 | `rX=>fz d
 | s=>s
def frz(δ:Ds):Ds:=δ.map Ub0
def flat:`dR
 | `x=>`f|`cl=>`f|`c2=>`f|`cn=>`f|_=>`l
open A
def ph0(g:GE):GE:=`a0g `ku
def Qv0(g:GE):GE:=fun δ=>`xO
def sy0(i:Nat)(g:GE):GS:=`z9 λd=>.nx `tP
abbrev GX:=`wG (D×Ds)
def Y9(g:GE):GX:=`z9 λd=>(d,δ)
variable{gx:DL.GX}
def w80(gx:GX)(ft:`a9):GS:=`rc `Vs ((ft r.1 r.2).map .nx)
def T8(gx:GX):GS:=`rc `Iv (.nx r.2)
def owL(i:Nat)(δ:Ds):`v_:=match `bY with
 | `a0h=>`oO
 | _=>`e
def sg0(i:Nat)(g:GE):GX:=fun δ=>`ao7 λds=>`kD λd=>`dM (`cy<`R) (`x,`a0i)
def rs0(i:Nat)(g:GE):GX:=fun δ=>`ao7 λds=>`kD λd=>match d with
 | `mP=>`dM (`cy+`ip<=`R) (`x,`a0j)
 | _=>`e
def dy0(i:Nat):GX:=fun δ=>`ao7 λds=>(`a0k).map λd=>(d,`a0l)
abbrev v80:=`ac5
open B
def uk0:D->`aH v80
 | `bs=>`c (`m i)
 | `cw=>`c (`qR)
 | _=>`e
def qn0:`k->`a0m
 | []=>`m?
 | `b0=>`Vt λk=>(`Vu).map (k::·)
def l90:D->`a0m
 | `c'=>`Vu
 | _=>`e
def si0{κ:Type}[`l5]:`nA->`k->κ->`cD
 | `n2,`b0,q=>`w (k=q) `aX `af'
 | _,_,_=>`e
def um0{κ:Type}[`l5](ks:`nA)(k:κ):`B:=ks.any λq=>`X (q=k)
def uh0{κ:Type}[`l5](ks:`nA)(k:κ):`nA:=`w `a0n ks (ks++[k])
def ui0{κ:Type}[`l5](ks:`nA)(ds:`k)(q:κ)(v:D):`k:=`w `a0o (`aLL (`aCu)) (ds++[v])
def a80(i:Nat)(δ:Ds):`aH (`a0p):=match `bY with
 | `pQ `M5=>`c (ks,ds)
 | _=>`e
open A
def putAt(i:Nat)(g:GE):`a9:=λv δ=>`a0q λr=>`kD λd=>`Vt λk=>
 `ba (r.1.length<`R) (`gA (`b4 (`m (uh0 r.1 k)) (ui0 r.1 r.2 k v)))
def yt0:`bx
 | `lX,d=>match ks with
  | `Cm=>`Vt `a0r
  | `H3=>(l90 d).bind `a0r
 | _,_=>`e
def q30(neg:`B):`bx
 | d,`lX=>match ks with
  | `Cm=>(`MZ).map `a0s
  | `H3=>(l90 d).map `a0s
 | _,_=>`e
def vy0(gt:GB)(G:GS):Nat->`kp
 | 0,_=>`e
 | n+1,δ=>match `g' with
  | `bu=>`tJ
  | `dz=>match `gx with
   | `eD=>`a0t
   | `ag?=>`a0t
   | `aha=>`eD
   | r=>r
  | `e=>`e
def gm0(i j:Nat):`a9
 | `a0u,δ=>`c ((`el i (`v?)).set j (.sh b))
 | _,_=>`e
open B
mutual
def deq:D->`dR
 | `x,y=>`am0
 | .bl a,y=>`am1
 | `T?,y=>`am2
 | `lt,y=>`am3
 | `g9,y=>(match y with|`ME=>`ao8|_=>`l)
 | `d2,y=>(match y with|`wj=>`ao8|_=>`l)
 | _,_=>`l
def qu0:`k->`xm
 | [],[]=>`f
 | x::xs,y::ys=>deq x y&&`ao8
 | _,_=>`l
end
mutual
def lean:D->`ao9
 | `u2,_=>`l
 | `Ao,_=>`l
 | `g9,n+1=>`ao'
 | `d2,n+1=>`ao'
 | `HW,0=>`l
 | `eE,0=>`l
 | _,_=>`f
def leans:`k->`ao9
 | [],_=>`f
 | x::xs,n=>`g? x n&&`ao'
end
open A
def m00(x y:D):`cD:=`ba (`Vv/\`g? y 50=`f) (.bl (deq x y))
def eqF:D->`dR
 | `x,y=>`am0
 | .bl a,y=>`am1
 | `T?,y=>`am2
 | `lt,y=>`am3
 | _,_=>`l
def ta0(neg:`B):`bx
 | x,`wj=>`a0v
 | x,`ME=>`a0v
 | _,_=>`e
def L00:`O
 | `aMt=>`c `aMs
 | _=>`e
def intOfD:`O
 | [`bs]=>`Hj
 | [`zr]=>`c `aMu
 | _=>`e
def ss0:`O
 | `z?=>`uU
 | [`c']=>`uU
 | _=>`e
open B
def mkF(n:Nat)(N:`i)(G:GS)(ds:`k):`cD:=if `rd then (match `le with
 | `pU=>`aX
 | `pH=>`a0w
 | `c (.nx _)=>`c `x
 | _=>`e) else `e
def vc0{d:D}(h:`a0x):`rd/\`a_E:=by
 delta mkF at h;split at h
 ·rename_i hl
  refine`ao!;split at h
  ·rename_i e;cases h;exact `uF
  ·rename_i e
   split at h
   ·cases h
   ·rename_i hn
    cases h;apply `gO `a0y
  ·rename_i e;cases h;apply `ko #[rfl,_,e]
  ·cases h
 ·cases h
def mkN(n:Nat)(N:`i)(G:GS)(ds:`k):`cD:=if `rd then (match `le with
 | `pH=>`a0w
 | _=>`e) else `e
open A
def qm0{d:D}(h:`a0z):`rd/\`ai4:=by
 delta mkN at h;split at h
 ·rename_i hl
  refine`ao!;split at h
  ·rename_i e
   split at h
   ·cases h
   ·rename_i hn
    cases h;exact`a0y
  ·cases h
 ·cases h
def v40{d:D}(hl:`rd)(h:`le=`pH)(hn:`G (`NH) Aa):`a0z:=by
 delta mkN;rw[`na,h];simp only[];rw[hn];rfl
def v10(g:GE):GS:=`z9 .rf
def go0(i:Nat):GS:=fun δ=>match `bY with
 | `m8=>`pH
 | _=>`e
def wd0{G1 G2:GS}{δ:Ds}{d:D}(h:`d!=`pH):`Uz=`pH:=`anV
def ud0{g:GE}{δ:Ds}{d:D}(h:`kr):v10 g δ=`pH:=by delta v10;rw[h];rfl
def xo0{d:D}(hl:`rd)(h:`le=`pU):`a0x:=by
 delta mkF;rw[`na,h]
def m5{G1 G2:GS}{δ:Ds}{r:`B6}(h:`anU)(k:`Vw):`Uz=r:=((Er0 h).trans k)
def Z7:`bx
 | `bs,`h?=>`c (`Pn)
 | `cw,`pp=>`ba (`yQ+`Qb<=`R) (`r (x++y))
 | `d2,`wj=>`a0A
 | `g9,`ME=>`dM `PV (`amN)
 | _,_=>`e
def yr0:`bx
 | `bs,`h?=>`a0B
 | _,_=>`e
def slA(d:D)(lo hi:`aI):`cD:=match d with
 | `oT=>`dM `yE `a_O
 | `d2=>`n3 `ao?
 | `g9=>`so `ao?
 | _=>`e
def wz0(g:GE)(gl gh:GO):GE:=`nX (`a0C λl=>`a0D λh=>slA d l h)
omit DL
variable{gx:DL.GX}
namespace Dep
open V
section
variable{w:`M}{K:Type}[`K! K]{knd:`a0E}{s:`v}{d:`d}{xs:`a0F}{k:K}{v:`A}{Q:`dQ}
def At(knd:`a0E)(h:`D)(d:`d)(xs:`a0F):Prop:=
 ∃o es ep,`f! d=`aG/\`aP6 knd ((∀x∈xs,knd.is h x.1 x.2.1)/\`aP7)
def At.old{h:`D}(x:At knd h d xs):h.DictOfH knd d xs:=by skip;let#[o,es,ep,a,b,c,e,f,g,_]:=x;done;exact#[o,es,ep,a,b,c,e,f,g]
def put(hu:knd.room A)(hkey:`a0G)(hm:`a0H)
  (hQ:`a0I) (hsz:`s9):
  `cL (`a0J) s:=by
 skip;let#[o,es,ep,ho,hc,hd,he,O,hn,hp]:=hm;done;delta dictSet
 apply `HD
 apply `iR knd.pyHash hu hkey;delta dictSetHashed
 apply `HD
 refine A0 (wpAny_dictFind_heap (s:=`apa) hu hkey ho hd he O hn ?_ ?_)
 ·intro Y
  have U:=atKey_none_of_get Y;have Z:k∉`aFV:=not_mem_keys_of_get Y;refine A0 (L9 (wpAny_updateDictKeys (hz:=by have e:=size_of_entries he;lia) (s:=`apa) ho hd (hQ _ ?_ `ac!)));rw[storedH_new U];refine#[_,_,ep+1,E4 _ ho (`a0K (`a0L)),hc.mapDictKeys _,`a0L,by simp[he,`aeQ],`uR,?_,`anS]
  ·rcases `apb with hx|hx
   ·exact `apc (O x hx)
   ·rw[`gs hx];exact `apc hkey
  ·rw[`aQ,`Iw]
   exact#[hn,`bO,λx hx y hy e=>Z (by rw[`av,`pR,`apd] at hy;have e2:x=k:=`amc hy;rw[← e2];exact hx)]
 ·intro j p hj
  have a1:=atKey_of_get hn hj;refine `lJ L9 (wpAny_updateDict (s:=`apa) ho hd (l6 (hQ _ ?_ `ac!)));rw[storedH_old a1];refine#[_,_,ep,E4 _ ho (`a0K (`a0M)),hc.mapDict _,`a0M,?_,`uR,?_,`anS]
  ·have:=modify_map_putAt (`aeQ knd) (λe:DictEntry=>{ e with val:=v }) k v (`a0N) hn hj
   rw[← he] at this;let#[l]:=es
   apply `dX `F
  ·let#[y,hy,rfl]:=`eZ hx
   delta putAt;split<;>exact `apc (O y hy)
  ·rw[keys_map_putAt];exact hn
def set(hu:knd.room `g1)(hkey:`a0G)(hm:`a0H)
  (hQ:`a0I) (hsz:`s9):
  `cL (`L! (`U d) `cf v) s:=by
 have ty:=hm.old.typeIs;delta setItem
 apply `HD
 apply `iR A20 ty `u;refine A0 (b4 (name:=`yO `a0O) ty `a0P (L8 `a0P ty entry_dict_setitem ?_ (args_dict_setitem _ _ _)));show `dN (Builtin.Dict.notOrdered `a0O #[[`U d,`a',v],[]]>>=_) s;apply `lI wpAny_notOrdered_dict ty;show `dN (`a0J>>=_) s;exact A0 (put hu hkey hm (λh' U O=>A2 #[`aY,rfl,A2 (hQ h' U O)]) hsz)
omit z
omit Dep
open Y
section
variable[`l5]
def t10(kvs:`hF)(k:κ):`dL:=`tO (kvs.find? `ab0)
def putK(kvs:`hF)(k:κ)(v:V):`hF:=
 if `Vx=`f then `RU (λkv=>`ai5 v) else kvs++[`R8]
def l40{p:`K1}{r:`hF}{k:κ}(e:p.1=k):`a0Q=`yw:=`a0R
def mv0{p:`K1}{r:`hF}{k:κ}(e:¬p.1=k):`a0Q=t10 r k:=`a0R
theorem V50(k:κ):∀kvs:`hF,`Vx=(`mZ).isSome
 | []=>rfl
 | p::r=>by
  rw[`nW]
  apply `Ix
  ·simp only[l40 e,`ar e,`a0S,Option.isSome_some]
  ·rw[mv0 e,`G2,`ape];exact V50 k r
def nd0(kvs:`hF)(k:κ)(v:V):`aDW<=`mG+1:=by
 delta putK;split
 ·rw[`T];lia
 ·rw[`W,`an,`jn];lia
def RelO.isSome_eq{o:`dL}{u:`gV}(r:RelO o u):`Iy=u.isSome:=by
 cases o with
 | none=>cases u with
  | none=>rfl
  | some _=>apply `TE
 | some _=>cases u with
  | none=>apply `TE
  | some _=>rfl
def KV.val{kvs:`hF}{vs:`zL}(r:`pZ)(k:κ):RelO `Vy (`a0T):=by
 delta KV at r
 induction r with
 | nil=>exact `mW
 | @cons p q ps qs h t ih=>
  let#[h1,h2]:=h
  apply `Ix
  ·have e':q.1=k:=`ait
   have b:`a0U=`c q.2:=`a0V
   rw[l40 e,b];exact h2
  ·have e':¬q.1=k:=`Vz
   have b:`a0U=`PX qs k:=`a0V
   rw[mv0 e,b];exact ih
def KV.any{kvs:`hF}{vs:`zL}(r:`pZ)(k:κ):`Vx=`a0W:=by
 delta KV at r
 induction r with
 | nil=>rfl
 | cons h t ih=>rw[`nW,`nW,ih,h.1]
def KV.repl{kvs:`hF}{vs:`zL}(r:`pZ)(k:κ){y:V}(ry:`fW):
  KV `a0X (`C2 λkv=>`ai5 u):=by
 delta KV at r ⊢
 induction r with
 | nil=>exact `_
 | @cons p q ps qs h t ih=>
  rw[`av,`av];refine `a0Y;let#[h1,h2]:=h
  apply `Ix
  ·rw[`gS,`a0Z];exact#[h1,ry]
  ·rw[`fq,`Q (`Vz)];exact`a0_
def KV.put{kvs:`hF}{vs:`zL}(r:`pZ)(k:κ){y:V}(ry:`fW):KV (`Nu y) (stored vs k u):=by
 delta putK stored;rw[r.any k]
 by_cases e:(`a0W)=`f
 ·rw[`gS,`gS];exact `a00
 ·rw[`fq,`fq];exact `a01 r #[rfl,ry]
def KV.length{kvs:`hF}{vs:`zL}(r:`pZ):`mG=`fe:=(`akd r)
omit z
def ie0{P:`aj}{w:`M}{k:Key}(r:`a02):(u20 P w).is k u=`f:=by
 cases k with
 | inl i=>apply `aTD;subst e;exact T20 P w i t
 | inr x=>apply `aTE;subst e;exact T50 P w x t
def Zn0{P:`aj}{w:`M}:∀{ks:`jj} {us:`N},`bV (`Iz) us->ItemsAre `C! ks us:=by
 intro z;induction z with
 | nil=>intro _ r;rw[`pR] at r;cases r;exact `_
 | cons k ks ih=>
  intro _ r
  rw[`av] at r;cases r with
  | cons h t=>exact `ai (ie0 h) (ih t)
abbrev KT(H:Hp):`lK->`ut->Prop:=`bH λp q=>`aP5
def KT.val{kvs:`lK}{xs:`ut}(r:`As)(k:`jj):RelO `Vy (`a03):=by
 induction r with
 | nil=>exact `mW
 | @cons p q ps qs h t ih=>
  let#[h1,_,h2]:=h
  apply `Ix
  ·have e':q.1=k:=`ait
   have b:`a04=`c q.2:=`a05
   rw[l40 e,b];exact h2
  ·have e':¬q.1=k:=`Vz
   have b:`a04=`O_ qs k:=`a05
   rw[mv0 e,b];exact ih
def KT.repl{kvs:`lK}{xs:`ut}(r:`As)(k:`jj){y:V}(ry:`fW):
  KT H `a0X (`aef (`Gs k u)):=by
 induction r with
 | nil=>exact `_
 | @cons p q ps qs h t ih=>
  rw[`av,`av];refine `a0Y;let#[h1,h2,h3]:=h;delta putAt
  apply `Ix
  ·rw[`gS,`a0Z];exact#[h1,h2,ry]
  ·rw[`fq,`Q (`Vz)];exact#[h1,h2,h3]
def KT.put{kvs:`lK}{xs:`ut}(r:`As)(k:`jj){b:`d}{y:V}(hb:`IA)(ry:`fW):
  KT H (`Nu y) (storedH xs k b u):=by
 have e:`Vx=`a06:=by
  rw[V50,(r.val k).isSome_eq,`apf]
 delta putK storedH;rw[e]
 by_cases q:`a06=`f
 ·rw[`gJ,`gJ];exact `a00
 ·rw[`fj,`fj];exact `a01 r #[rfl,hb,ry]
def KT.keeps{kvs:`lK}{xs:`ut}(r:`As)(ht:∀b ys,H b=`agh->`fw=`agh):KT H' kvs xs:=(
 `aQf r λ_ _ z=>`aQg)
section
variable{P:`aj}{w:`M}{h:`D}
def Jw0{u:HO}(ok:`fV)(e:Rd H a u):`aQl:=(e.ok ok)
def ee0(ok:`fV)(e:`apg):`akj:=(
 `a07 `Nk)
def Xo0(ok:`fV)(e:`IB):`akj:=(ee0 ok (`uF))
def f10(ok:`fV)(e:H a=`so `Iz):`a08 h ks a:=by
 skip;let#[_,its,r,o,h1,h2,n,h3,_]:=(show `DY (`H (`Iz)) from ok a _ e);done;exact#[o,`b3,n,h1,h2,h3,`bA (Zn0 r)]
def N90{kvs:`lK}(ok:`fV)(e:`VA):`xD/\`xE /\
  ∃xs,`As/\Dep.At (`PY) h a xs:=by
 skip;let#[z,y,xs,r,o,es,ep,h1,h2,h3,h4,h5,h6]:=(`a07 (.dT kvs));done;refine#[z,y,xs,r,o,es,ep,h1,h2,h3,h4,`uR,h5,h6];have all:∀{l:`lK} {m:`ut},KT H l m->∀x∈m,`a08 h x.1 x.2.1:=by
  intro l m q
  induction q with
  | nil=>intro x hx;exact nomatch hx
  | @cons p q ps qs hq t ih=>
   intro x hx;rcases `abk with e|hx
   ·subst e
    exact f10 ok (`cu hq.1 hq.2.1)
   ·exact ih x hx
 exact all r x hx
def bl0{kvs:`lK}(ok:`fV)(e:`VA):`xD/\`xE /\
  ∃xs,`As/\h.DictOfH (`PY) a xs:=by
 let#[z,y,xs,r,d]:=N90 ok e;exact#[z,y,xs,r,d.old]
omit z
def DGet(H:Hp)(a:`d)(y:V)(r:`dL):Prop:=
 (∃kvs k,`apg/\y=kV k/\r=`mZ)∨∃kvs k b,`VA/\`HG/\`IA/\r=`mZ
def DPut(H:Hp)(a:`d)(y v:V)(H':Hp):Prop:=
 (∃kvs k,`IB/\y=kV k/\`IC/\H'=`aph) ∨
 ∃kvs k b,H a=`ana/\`HG/\`IA/\`IC/\H'=upd H a (.dT (`ac?))
def DGet.k{k:Key}(e:`IB):DGet H a `afV `Vy:=(`m #[kvs,k,`uF,rfl,rfl])
def DGet.t{b:`d}{kvs:`lK}{k:`jj}(e:H a=`ana)(eb:`IA):DGet H a `P2 `Vy:=(`p #[kvs,k,b,`uF,rfl,eb,rfl])
def DPut.k{k:Key}(e:`IB)(hl:`IC):DPut H a `afV v (`aph):=(`m #[kvs,k,e,rfl,hl,rfl])
section
variable{σ:St}{s:`v}{y:V}{r:`A}{o:`dL}
def Inv.big(I:`C):`LF<`Z:=by
 have h:`f9<`Z:=(`aLy).lt;exact N3 `u h
def Op0(hu:`HN)(I:`C)(g:DGet H a y `r0)(ry:`fW)(h:`a09 v):
  `p7 (`p8 `cf u):=by
 skip;apply `api
 ·subst ey
  let#[z,hd,vs,U,dd]:=`PZ;let#[w',hw,O]:=`aip `a0T `a0';done;exact wpAny_getItem_of `ID `apj hw (`a0!)
 ·subst ey
  apply `VB;let#[z,hd,xs,U,dd]:=`P_;let#[w',hw,O]:=`aip `a03 `a0';let#[p,hp,Y]:=S3.mp hw;done;refine wpAny_getItem_heap `VC `VD dd hp ?_;rw[Y];exact `a0!
def xk1(hu:`HN)(I:`C)(g:`apk)(ry:`fW)(h:∀s',`Pp->Q (`dJ `Iy) s'):
  `p7 (`K2 .In u `cf):=by
 skip;apply `api
 ·subst ey
  apply `a0?;done;refine wpAny_in_of `ID hd `apj ?_;rw[← `VE,← l];exact `VF
 ·subst ey
  apply `VB;apply `a1a;done;refine wpAny_in_heap `VC `VD hd dd ?_;have q:=`VE;rw[`apf] at q;rw[← q,← l];exact `VF
def Gh0(hu:`HN)(I:`C)(g:`apk)(ry:`fW)(h:∀s',`Pp->Q (`dJ (!`Iy)) s'):
  `p7 (`K2 `Hv u `cf):=by
 skip;apply `api
 ·subst ey
  apply `a0?;done;refine wpAny_notIn_of `ID hd `apj ?_;rw[← `VE,← l];exact `VF
 ·subst ey
  apply `VB;apply `a1a;done;refine wpAny_notIn_heap `VC `VD hd dd ?_;have q:=`VE;rw[`apf] at q;rw[← q,← l];exact `VF
def fp0{t':Nat}{ob:HO}(I:`C)(mu:Mut (H a))(hs:`aQ6)(he:`aHd)(new:`Ha (upd H a ob) a ob):
  `zX a ob `pK:=(
 `amf (x:=a) (e:=a) mu `du (λb q hb z=>`zJ b hb z) he new)
def W70{P:`aj}{w:`M}{H':Hp}{vs:`apl}(z:`xD)(hd:`xE)(rel:`pZ)(dd:h'.DictOf `C! a vs):
  `h7 P w H' h' a `Nk:=(#[z,hd,vs,rel,dd])
def O50{Q:`dQ}(hu:`HN)(I:`C)(g:DPut H a y v H')(ry:`fW)(rv:`dG v r)(h:∀s',`nQ->`Hb):
  `p7 (`L! `cf u r):=by
 skip;rcases g with⟨kvs,k,e,ey,l,eH⟩|⟨kvs,k,b,e,ey,eb,l,eH⟩
 ·subst ey eH
  apply `a1b;apply `a1c
  apply `apm
  done;refine wpAny_setItem_pairs (hsz:=hz) `ID dd `a1d
  apply `a1e
  exact `a1f
 ·subst ey eH
  apply `VB;let#[z,hd,xs,O,dd]:=N90 `b1 (`uF);have hz:`s9:=`cu (`akd O) z
  apply `apm
  done;refine Dep.set `VC `VD dd (`a1d) hz;skip;let#[q,es,ep,hq,h2,h3,h4,_,h5]:=U;done;refine fp0 I `P0 hs `aFy #[hl,hd,_,(O.put k eb rv).keeps λc ys ec=>?_,q,es,ep,hq,h2,h3,h4,h5];rw[Y4 (An0 ec e `r2)];exact ec
omit z
def an0(i:`K):Prop:=∀ov iv,`O4 i `l ov iv=`ajH [ov,iv] (`p8 ov iv)
def Gx0{prog:`aj}{w:`M}{A:`ck}{E:`ap}{s:`v}{env:Env}{value slice:`K}{pos:Pos}{T id:`bE}{Q:`ap}
  (hl:`aVj) (hs:an0 `tE)
  (h:`TH (`bX `gz env) λo s₁=>`aN `dt A (`bX `tE env) (λi s₂=>s₂.TypeIs o T/\`cL (`p8 o i) s₂) E `eF):
  `cL (`bX (`kS `gz `tE pos) env) s:=by
 refine `T5 (C9 h (λo s₁ h₁=>C9 h₁ (λi s₂ h₂=>?_) `ur) `ur);let#[hT,h₂]:=h₂;delta subscriptTail;refine `sF;rw[getitemInPython_of_ne hT.not_modules];apply `iR E6 hT hl;have fin:`aN `dt A (`O4 `tE `l o i) (λr s₃=>`cL (letTemporaryGo `gz o r>>=λ_=>`bW r) s₃) E s₂:=by
  rw[hs o i];exact wpAny_operating (C9 h₂ (λr s₃ h₃=>A0 (wpAny_letTemporaryGo (A2 h₃))) `ur)
 first
  | exact `a1g
  | exact A0 (`a1g)
  | exact A0 fin
def T80{σ:St}{s:`v}{y:V}{o:`dL}(I:`C)(g:`apk):`a1h:= by
 skip;rcases g with⟨kvs,k,e,_,_⟩|⟨kvs,k,b,e,_,_,_⟩
 ·let#[_,_,vs,_,dd]:=`PZ
  done;exact `P1
 ·let#[_,_,xs,_,dd]:=`P_
  done;exact `P1
def z21(td ty:TE):TE:=`cS td (`zR ty λy H2=>∃a v,`eJ/\DGet H2 a y `r0/\Q v H2)
def xi1(ty td:TE):TE:=`cS ty λy H1=>`a1i `Iy
def Iw0(ty td:TE):TE:=`cS ty λy H1=>`a1i (!`Iy)
section
variable{i:`K}
def fl0(hu:`fr)(ho:`VG)(hi:`apn)(hs:an0 i):PE X `alp (z21 td ty):=by
 apply `bg;refine Gx0 PySem.F.slot_dict_getitem.lookup hs (thn `Ho λu s1 hq92=>?_);let#[x,H1,I1,rx,q1]:=hq92;refine thn `aR4 λiv s2 hq93=>?_;skip;let#[y,H2,I2,ry,a,v,ex,g,q2]:=hq93;subst ex;apply `q1;done;exact#[T80 I2 g,Op0 hu I2 g ry λw' s3 I3 O=>#[v,H2,I3,O,q2]]
def Cg0(hu:`fr)(hi:`apn)(ho:`VG):PC X .In i o (xi1 ty td):=by
 apply `bg;refine thn `Ht λiv s1 hq94=>?_;let#[y,H1,I1,ry,q1]:=hq94;refine thn `a1j λu s2 hq95=>?_;skip;let#[x,H2,I2,rx,a,ov,ex,g,q2]:=hq95
 subst ex;apply `q1;done;exact `a1k xk1 ov.isSome
def N70(hu:`fr)(hi:`apn)(ho:`VG):PC X `Hv i o (Iw0 ty td):=by
 apply `bg;refine thn `Ht λiv s1 hq96=>?_;let#[y,H1,I1,ry,q1]:=hq96;refine thn `a1j λu s2 hq97=>?_;skip;let#[x,H2,I2,rx,a,ov,ex,g,q2]:=hq97
 subst ex;apply `q1;done;exact `a1k Gh0 (!ov.isSome)
omit z
def Vf0{P:`aj}{w:`M}(h:`D)(hb:`LF<`dB):`h7 P w H (h.push `abS) `dB (`At):=(
 #[`b7,`nN (B0 (B5 hb)),[],`_,Heap.DictOf.new h])
def Bd0:TE:=λ_ H Q=>`z1 (`At)
def Ld0:PE X (`CC [] [] pos) Bd0:=(λpins s σ H Q I h=>
 wpAny_Dict_empty #[`mr,_,`tb (a:=`Z) (o:=`At) (t':=`cK) `anh `bQ (Vf0 `ay I.big),rfl,h _ `NV])
def gp0:`IE->`yx `a1l
 | [],_,H,Q=>Q [] H
 | (tk,tv)::r,σ,H,Q=>tk σ H (`zR tv λy H2=>gp0 r σ H2 λps H3=>Q ((x,y)::ps) H3)
abbrev VV:`nx->`aa (`A×`A)->Prop:=`bH λp q=>`dG p.1 q.1/\`aPZ
def PPs(X:Cx)(pos:Pos)(keys:`zB)(values:`bB)(trs:`IE):Prop:=
 ∀(pins:`az) (s:`v) (σ:St) (H:Hp) (Q:`a1l),`C->`aIq ->
  `de (evalPairs (pairTrees `ju values `P pos)) (λvs s'=>∃ps H',`nQ/\VV ps vs/\Q ps H')
def Sv0:PPs X pos [] [] []:=(`apo (pairTrees_nil_walk `aT1))
def do0{k v:`K}{ks:`zB}{vs:`bB}{tk:TE}{trs:`IE}(hk:PE X k tk)(hv:PE X v tv)(hr:PPs X pos ks vs trs):
  PPs X pos (`gF::ks) (v::vs) ((tk,tv)::trs):=(λpins s σ H Q I h=>
 pairTrees_cons_walk (thn (`bZ hk _ h) λu s1 z9=>by
  let#[x,H1,I1,rx,q1]:=z9;refine thn (`nr hv _) λw2 s2 z9=>?_;let#[y,H2,I2,ry,q2]:=z9;refine thn (`RR hr σ) λws s3 z9=>?_;let#[ps,H3,I3,O,q3]:=z9;exact#[(x,y)::ps,H3,I3,`ai #[rx,ry] O,q3]))
def qo0(kvs more:`hD):`hD:=more.foldl (λacc kv=>putK acc kv.1 kv.2) kvs
def KV.merge:∀{more:`hD} {rs:`apl} {kvs:`hD} {vs:`apl},KV more rs->`pZ->KV (`a1m) (merged vs rs):=by
 intro more rs kvs vs r;delta KV at r
 induction r generalizing kvs vs with
 | nil=>intro q;exact q
 | @cons p q ps qs h t ih=>
  intro r0;have e:KV `app (stored vs q.1 q.2):=by
   have:=r0.put p.1 h.2;rw[← h.1];exact `F
  exact ih e
def it0:∀(more kvs:`hD),(`z `a1m)<=`mG+more.length:=by
 intro z;induction z with
 | nil=>intro kvs;show `mG<=`mG+0;lia
 | cons p r ih=>
  intro kvs
  have h1:=ih `app;have h2:=nd0 kvs p.1 p.2;show (`z (qo0 `app r))<=_;rw[`an];lia
theorem cf0{P:`aj}{w:`M}:∀{kvs:`hD} {ws:`aa (`A×`A)},VV (`RU `apq) ws->∃rs,Carries `C! ws rs/\KV kvs rs
 | [],_,r=>by rw[`pR] at r;cases r;exact#[[],`mW,`_]
 | p::kvs,_,r=>by
  rw[`av] at r;cases r with
  | @cons a b as bs h t=>
   let#[rs,c,q]:=cf0 (P:=P) (w:=w) t;let#[b1,b2]:=b;exact#[(p.1,b2)::rs,#[ie0 h.1,rfl,c],`ai #[rfl,h.2] q]
def yg1(trs:`IE):TE:=`c0 (∀p,`hw->gp0 trs σ (upd H p (`At)) λps H2=>H2 p=`c (`At)/\∃kvs:`hD,ps=`RU (`apq)/\`mG<=15/\Q `hZ (upd H2 p (.dK (`a1n))))
def by0{values:`bB}{trs:`IE}(h:PPs X pos `ju values trs)(hall:`aEc)(hl:`Og=values.length)(h0:`aEd)
  (h15:`Og<=15):PE X (`CC `ju values pos) (yg1 trs):=by
 intro pins s σ H Q I q;have hn:=`s1 (A3 `Z);have I1:=`tb (a:=`Z) (o:=`At) (h':=`SL) (t':=`cK) `anh `bQ (Vf0 `ay I.big);refine wpAny_Dict_walk (knd:=`a1o) hall hl h0 h15 (thn (h `t _ σ _ _ I1 (q _ hn)) λws s2 hq98=>?_);skip;let#[ps,H2,I2,U,e,kvs,ep,lk,q2]:=hq98;subst ep;let#[rs,c,rk]:=cf0 (P:=`cF) (w:=X.w) U;let#[z,hd,Y,r0,dd]:=Xo0 I2.hok e;cases r0;done;refine#[rs,c,dd,λh' O hs=>#[`mr,_,?_,rfl,q2]];have hz:(`z `a1n)<=`R:=by
  have h1:=it0 kvs [];rw[`jn] at h1;rw[`zI];lia
 have he:∃q,`am!=`dY:=`aLJ O
 exact fp0 I2 `P0 hs he (W70 hz hd (rk.merge `_) O)
structure M2(X:Cx)(o:`K)(m:Str)(apos:Pos)(e f:`K)(cpos:Pos):Prop where
 base:`wK o m `P `aaW=`o9
 few:(`a1p
 &&`a1q)=`f
 line:`aAK
 trees:`a1r
def IsD(H:Hp)(a:`d):Prop:=(∃kvs,`apg)∨∃kvs,`VA
def Cs0{σ:St}{s:`v}(I:`C)(d:IsD H a):
  `a1h/\(∀b,`r3=`wY->∃ob,`vY=`aeT/\`aWh)/\`xE:=by
 rcases d with⟨kvs,e⟩|⟨kvs,e⟩
 ·let#[_,hd,vs,_,dd]:=`PZ
  refine`a1s;skip;cases q;apply `a1t;done;exact`a1u
 ·let#[_,hd,xs,_,dd]:=`P_
  refine`a1s;skip;cases q;apply `a1t;done;exact`a1u
omit L2
open X
section
variable{σ σ':St}{δ:Ds}
def Gr.fresh{p:`d}{o:HO}(h:`hw):Gr H `aok B `pS:=(λb u n e=>by
 have hb:`tQ:=xh0 e h;exact#[λz=>`cO n hb,`o (Y4 hb) e])
def Gr.own{o:HO}(h:B a):Gr H `hx B B:=(`IF #[n,`o (`Vf n h) e])
def RpO.mono{d:D}(s:`H2)(g:`dS)(h:`ks):RpO K H' B' d a:=by
 apply `UK
 ·apply `nY;exact#[xs,s _ e,`qh]
 ·apply `an0;exact#[xs,s _ e,l,`qh]
def RpG.mono{d:D}(s:`H2)(g:`dS)(h:`n_):RpG K H' B' d a:=by
 cases d with
 | tup es=>apply `aob;exact`a1v
 | _=>exact(RpO.mono s g `UO).toG
def RpL.mono{d:D}(s:`H2)(g:`dS)(h:`nu):RpL K H' B' d a:=by
 skip;cases d with
 | tup es=>
  apply `aod
  ·done;exact `m #[d',q,`apr s g r]
  ·done;apply `ko #[ks,vs,q,ts,xs,q1,s _ e,q2,`qh]
  ·done;apply `gO `a1v
 | _=>done;exact(RpO.mono s g `H!).toL
def Pd.get'{F:`lL}:∀{l:`bn} {m:`lM} {i:Nat} {a:α},`nZ->`H?->∃b,`aog/\`ED:=by
 intro l m i a p;induction p generalizing i with
 | nil=>intro e;cases e
 | cons r t ih=>
  cases i with
  | zero=>intro e;cases e;exact`SP
  | succ i=>exact ih
def Pd.impI{F G:`lL}:∀{l:`bn} {m:`lM},(∀(i:Nat) a b,`H?->`aog->`aDt)->`nZ->`an5:=by
 intro l m h p
 induction p with
 | nil=>exact `_
 | cons r t ih=>exact `ai (h 0 _ _ rfl rfl r) (ih λi a b e1 e2=>h `eA a b (`aYx) (`bA e2))
def Vv0:∀{l:`bn} {i:Nat} {a:α},`H?->`aoh=l:=by
 intro z;induction z with
 | nil=>intro _ _ h;simp at h
 | cons x l ih=>
  intro z1;cases z1 with
  | zero=>intro a h;simp at h;subst h;rfl
  | succ i=>intro a h;rw[List.set_cons_succ,`aps]
def Pd.setR{F:`lL}{a:α}{b:β}(r:`ED){l:`bn}{m:`lM}(e:`H?)(h:`nZ):`bH F l `aYV:=by
 have:=`D5 r i h
 rwa [Vv0 e] at this
def get_set{l:`bn}{a b:α}(h:(`aoh)[j]?=`it):(i=j/\a=b/\j<`bT)∨(`y5/\l[j]?=`it):=by
 by_cases e:i=j
 ·subst e
  by_cases hl:i<`bT
  ·rw[`Ad] at h
   exact `m #[rfl,A4 h,hl]
  ·rw[`Ib] at h;cases h
 ·rw[`h0 e] at h
  exact `p #[e,h]
def Env.len(e:`a3):`s!=`m9:=(`wD `lh)
def Env.at(e:`a3){d:D}(h:`bY=`m8):∃a,`jM/\`aYU:=by
 let#[o,h1,a,rfl,hb,r]:=`aYX;exact#[a,h1,hb,r]
def Env.mut(e:`a3){d:D}{o:HO}(hi:`IG)(hs:`jM)(r:RpL K `hx B d a):`a1w:=by
 apply `a1x;rw[hs] at h1;cases h1;refine`a1y
 ·
  have h0:`a1z `hx:=`uh (λo' s h=>by
   cases s with
   | un=>exact `a1A
   | ex c n=>apply `i1;exact `a1B
   | sh d=>apply `i1;exact `a1B
   | ow d=>
    apply `VH
    by_cases z:b=a
    ·subst z;exact `a1C
    ·exact `m #[b,e,U,`c! (λo h=>`o (Y4 z) h) `tu]) `lh
  apply `a1D;apply `a1E;apply `a1F
  ·exact h
  ·skip;apply `a1G
   ·cases e3;done;exact`RV
   ·done;apply `a1H
 ·by_cases z':b=a
  ·subst z';exact `uZ
  ·rw[Y4 z'];exact `apt
 ·have q1:`a1I:=by
   skip;apply `VI
   ·done;exact`VJ
   ·done;exact`VK
  have q2:`a1J:=by
   skip;apply `a1K
   ·done;exact`VJ
   ·done;exact`VK
  let#[d1,q1]:=q1;let#[d2,q2]:=q2;exact `a1L
def EnvS.mut(en:`cm)(s:`aZ)(b1:`jY)(b2:`jZ){d:D}{o:HO}(hi:`IG)(hs:`jM)
  (env:`hV (upd H' a o) `tP):`Fh (upd H' a o) σ `tP:=by
 have h0:=`a1M;have O:i<`m9:=`Gx;apply `a1N
 ·apply `a1O
  rw[`Au];exact s _ _ `a1P
 ·by_cases z:b=a
  ·apply `a1Q
   rw[hs] at e1;cases e1;rw[z] at h;exact `a1R
  ·rw[Y4 z] at h
   exact `aem b ob xs (s.nf b ob xs h)
 ·skip;apply `VI
  ·rw[hs] at h2;cases h2;done;exact h0
  ·done;exact `a1S
def EnvS.take(en:`cm)(b1:`jY)(b2:`jZ)(e:`a3)(i:Nat){d:D}{p:`d}(hp:`hw)(s:`aZ)
  (r:`aG4):`a1T:=by
 apply `apu
 have O:`aox:=`apv;have live:`a1U:=λ{j d' b} h1 h2=>by
  apply `a1V;rw[h2] at q1;cases q1;apply `a1W
 apply `a1X
 ·apply `VL
  ·exact `afK
  ·exact `p O
 ·refine `a1Y r.toL
  cases sl with
  | un=>trivial
  | ex c n=>apply `i1;apply `Ip
  | sh d=>apply `i1;apply `Ip
  | ow d=>apply `VH;apply `a1Z
 ·apply `VL
  ·exact`apw
  ·exact `uZ
 ·skip;apply `VM
  ·apply `VN
   ·done;rfl
   ·apply `a1_
    ·cases e3
     apply `IH;done;exact `a10
    ·done;exact `VO
  ·apply `VN
   ·apply `a11
    ·cases e4
     rw[`re] at h3;done;exact `a12
    ·done;exact `a13
   ·rw[`re] at h3
    apply `IH;done;apply `UR
 ·skip;apply `VM
  ·apply `a14
   ·cases e3;done;exact O
   ·done;exact `VO
  ·rw[`re] at h2
   done;exact `a15
def zj1{d e:D}(h:DL.fz d=.ow e):`b_:=by
 skip;cases d with
 | tup l=>
  rcases l with _|⟨x,_|⟨y,_|⟨z,l⟩⟩⟩
  ·cases h
  ·done;cases x<;>cases h
  ·done;apply `a16
  ·done;apply `a16
 | _=>cases h
def S90{s:Sl}{e:D}(h:Ub0 s=.ow e):`b_:=by
 cases s with
 | ow d=>exact zj1 h
 | un=>cases h
 | sh d=>cases h
 | ex c n=>cases h
def RpL.fz{d:D}(l:`Aa)(n:¬B' a)(h:`nu):SlR K H B' (`o4) (DL.fz d):=by
 skip;cases d with
 | tup es=>
  rcases h with⟨d',rfl,r⟩|⟨ks,vs,rfl,_⟩|⟨x,ns,rfl,_⟩
  ·cases d' with
   | tup es=>done;trivial
   | _=>done;exact`qZ (RpO.rp l n (RpG.toO rfl r))
  ·done;trivial
  ·done;trivial
 | _=>done;exact`qZ (RpO.rp l n `H!)
def Env.frz(e:`a3):∃B':BS,(`Aa)/\(∀a,B a->B' a∨`af_)/\Env K H B' σ `a17:=by
 refine#[`a18,`af1,`iN,?_,λa z=>`pM a z.1,`aIl]
 ·by_cases q:`af_
  ·exact `p q
  ·exact `a19
 ·have:`bH (λo s=>SlR K H (`a18) o (Ub0 s)) σ δ:=`RW (λi o s e1 e2 h=>by
   cases s with
   | un=>trivial
   | ex c n=>apply `i1;exact`a1'
   | sh d=>apply `i1;exact`a1'
   | ow d=>
    let#[a,rfl,hb,r]:=h;exact r.fz (`af1) λz=>z.2 #[i,d,e2,e1]) `lh
  have mp:∀{l:St} {m:Ds} {F:`dL->Sl->Prop},`bH (λo s=>F o (Ub0 s)) l m->`bH F l (m.map Ub0):=by
   intro l m F h
   induction h with
   | nil=>exact `_
   | cons r t ih=>exact `G3
  exact mp `F
 ·delta DL.frz at h1
  rw[`dl] at h1;cases q:`bY with
  | none=>rw[q] at h1;cases h1
  | some s=>rw[q] at h1;exact`a1!
def EnvS.frz(en:`cm):`ja K H `a17:=by
 skip;apply `aU;let#[B',c1,c2,O]:=env.frz;done;refine#[`f',#[B',`iN,λa z=>b2 a (c1 a z),O],λi ds a h1 _=>?_,`qa]
 ·skip;rcases c2 a `afN with q|⟨i,d,q1,q2⟩
  ·done;exact q
  ·done;exact `J (`yL i d a q1 q2) (`qa a z)
 ·delta DL.frz at h1
  rw[`dl] at h1;cases q:`bY with
  | none=>rw[q] at h1;cases h1
  | some s=>rw[q] at h1;exact`a1!
def p80{d:D}(h:`ku)(r:`cz):`afA:=by
 apply `apx
 ·apply `i4 w90;exact r
 ·apply `i4 xn0;exact r
 ·apply `i4 zk0;exact r
 ·apply `i4 w40;exact r
omit z
section
variable{st:`aO}{g:GE}{gt:GB}
def y90(h:`c3):PD X e (ph0 g):=(.mk λB δ pins s σ H Q I hq99=>by
 skip;let#[d,en,hq,k]:=hq99
 apply `apy;delta ph0 at hq;cases e1:`xO with
 | none=>rw[e1] at hq;cases hq
 | some x=>
  rw[e1] at hq
  by_cases hf:`aHb
  ·apply `VP `u5
   cases hq;done;exact `a1? (p80 hf r)
  ·apply `VP `II
   cases hq)
def J4{gA:GA}(h:`Ai):PDF X `aml (zm0 gA):=(
 .mk λB δ=>`aZc fun σ H Q hq100=>by
  apply `b2 hq100
  delta zm0 at h;cases e1:`e0 with
  | none=>rw[e1] at h;cases h
  | some ds=>
   rw[e1] at h
   by_cases hl:`uT
   ·apply `aos
    cases h;refine#[ds,en,e1,`OT #[`aMB,λp hp=>k _ _ (`nm hp) `aMA #[vs,Y7,r1.mono `P!]]]
   ·apply `aot
    cases h)
def U4:PDF X (`CC [] [] pos) `aiM:=(.mk λB δ=>Ld0.imp fun σ H Q hq101=>by
 apply `b2 hq101
 cases h;exact λp hp=>k p _ hp `iA #[[],Y7,rfl,`k_])
def J3(i:Nat){px:Pos}(h:`Ak)(hN:`dh)(hi:`c4)(hx:`aoA)
  (hs:`NQ `VQ e `m0) (hw:`NR `VQ e)
  (h1:`NS `VQ `k1)
  (hf:`uw):PSD X (`gB `VQ e pos) (sy0 i g):=(.mk λH₀ B₀ δ pins s σ H D I hq102=>by
 skip;apply `a4 hq102
 delta sy0 at e1;apply `aU;cases e2:`au with
 | none=>apply `ac;cases e1
 | some d=>
  apply `ac;cases e1;done;exact `aZs (`U0) λp H' hp s' r=>k _ H' (en.take b1 b2 env i hp s' r))
omit z
omit DL
open Y
open PySem.AutoSeq1 (wpAny_loadPart')
def Rk0(p:`d)(xs:`a8)(k:Nat)(q:`d)(ys:`a8)(m:Nat)(dq:`bp)(sq:`j?)(h0:¬(!`apz&&`Ud (`a2a))=`f)(h1:`CJ<=`R)(h2:`a2a<=`R+1):
  Meets (Builtin.«list.extend» #[[`g_,`U q],[]]) (λ_ R s=>`es p=`EI xs k/\`es q=`c { cls:=`mK,dict:=dq,data:=`jy ys m,slots:=sq }/\`qQ `nB ((`ga s (`Fz p (`tU λz=>z++ys))))):=(
 .of_wp λprog w A R s h=>by
  skip;let#[hp,g,d,tk,os]:=s;let#[hl,hb,h]:=h;have f1:=AutoSeq1.idx_int;have f2:=AutoSeq1.sub_tuple_tuple;have f3:=AutoSeq1.sub_list_list;have f4:=AutoSeq1.sub_tuple_list;have f5:=AutoSeq1.sub_list_tuple;have O:(xs++ys).size<=`R+1:=`o Array.size_append h2
  done;wp_walk using (c5 hl rfl (hz:=h1) (_hz':=O)),A80 hl,A80 hb
  exact`a2b)
def Lq0(K:`y):`ki:=λx vs H Q=>∃l b xs zs,`afm/\vs=[`wY]/\`Py/\`a_Y/\`a_Z/\`EV `x `Vk
def bk0:MtM X "list.extend" (Lq0 X.K):=by
 apply `Ue;skip;apply `a__;cases rx;apply `ani;cases ru;apply `anj;apply `a_0;let#[#[a5,a1,data2,a3],a4,Z,n2,Y]:=`ao1;simp only at Z Y;subst Z Y;have hl2:=`nd;have a2:`a_2:=`a2c
 have U:¬(!`apA&&`Ud (`aG8))=`f:=by
  rw[Kl0 a2,`aHi];exact C0
 done;refine S0 F.slot_list_extend `ank F.entry_list_extend (F.args_list_extend_2 _ _)
  (Rk0 l `b3 n b `ao2 n2 a1 a3 U `HJ `n) #[e,a4,?_]
 refine`aWz O r2;rw[`W];lia
def Fr0:`aR_:=λo i v H Q=>∃a H',o=`a'/\DPut H a i v H'/\Q H'
def set_dict(hu:`fr):Qd0 X Fr0:=by
 intro pins s σ H o i v ov iv u Q I ro ri rv h;let#[a,H',rfl,g,q]:=h;cases ro;exact O50 hu I g ri rv λs3 I3=>#[H',I3,q]
omit L2
open X
section
variable{σ σ':St}{δ:Ds}
def Rps.dropLast(h:`bv):Rps K H B `aHa `ac2:=by
 rw[`a2d,`a2d,h.length];exact h.take _
structure EnvV(K:`y)(H₀:Hp)(B₀:BS)(H:Hp)(σ:St)(δ:Ds)(d:D)(v:V):Prop where
 same:`UZ
 ex:∃B:BS,`VR `cz
 fr:`aZi
 b0:`aow
def EnvV.s{d:D}(h:`FF):`cm:=(#[`UQ,let #[B,b1,b2,e,_]:=h.ex;(`uj e),h.fr,h.b0])
def EnvV.mk'{d:D}(h:`cm)(b1:`jY)(b2:`jZ)(e:`a3)(r:`cz):`FF:=(#[`UQ,#[B,b1,b2,e,r],h.fr,h.b0])
omit z
def tX(K:`y)(H₀:Hp)(B₀:BS)(δ:Ds)(gx:GX):TE:=`c0 (∃r,`cm/\`gr=`bK/\`a2e K r.1)
structure PX(X:Cx)(e:`K)(gx:GX):Prop where
 mk::go:`a2f
instance{X:Cx}{e:`K}{gx:GX}:`fl `n4 `a2f:=#[PX.go]
def tTG(K:`y)(H₀:Hp)(B₀:BS)(ft:`a9)(d:D)(δ:Ds):TG:=`sc (∃δ',`FF/\ft d δ=`D2/\∀σ' H',`aZp->`aMr)
structure PTG(X:Cx)(tg:`K)(ft:`a9):Prop where
 mk::go:`a2g
instance{X:Cx}{tg:`K}{ft:`a9}:`fl `a2h `a2g:=#[PTG.go]
section
variable{st:`aO}{g:GE}{gt:GB}
def X3(h:`c3):PX X e (Y9 g):=(.mk λH₀ B₀ δ pins s σ H Q I hq103=>by
 skip;apply `a4 hq103
 delta Y9 at e1;apply `aU;cases e2:`au with
 | none=>apply `ac;cases e1
 | some d=>
  apply `ac;cases e1;done;exact `yU h #[d,env,e2,`GL (k v H' (`tY `ah0 (`jd s') r))])
def Ws0{δ:Ds}(h:`td=`oO):`bY=`a0h:=by
 delta owL at h;split at h
 ·cases h;assumption
 ·cases h
def Sg0{δ:Ds}{r:`a0p}(h:`PT=`bK):`bY=`pQ (`b4 (`m r.1) r.2):=by
 delta a80 at h;split at h
 ·cases h;assumption
 ·cases h
def y70(i:Nat)(h:`c3)(hN:`c4)(hv:`dT)(hd:`aL)(hcd:`di)
  (hbase:`IJ `M6)
  (hfew:`G ((`ra
  &&`IK)=`f) Aa)
  (hline:`fZ) (hs:`f3) (hplain:`l3):
  `VS `M6 [e] (sg0 i g):=(.mk λH₀ B₀ δ pins s σ H Q I hq104=>by
 skip;apply `a4 hq104
 delta sg0 at e1;apply `aU;cases e2:`td with
 | none=>apply `ac;cases e1
 | some ds=>
  cases e3:`au with
  | none=>apply `Av;cases e1
  | some d=>
   apply `Av;apply `fp;split at e1
   ·rename_i hz
    cases e1;have hi:=Ws0 e2;apply `apB;done;refine nc0 F6 c6 c9 p90 `k? `a2i `hj `pt `jI hs `sP `t s σ H Q I
     #[_,O,`apC,d,env,e3,`aa3 #[a,xs,v,rfl,rfl,`ai8,`o `apD hz,?_]]
    have U:`VT `a2j `a0i:=`a2k `yP r1;apply `a2l
   ·cases e1)
open T in
def yb0(i:Nat)(h:`c3)(hN:`c4)(hv:`dT)(hd:`aL)(hcd:`di)
  (hbase:`IJ `VU)
  (hfew:`G ((`ra
  &&`IK)=`f) Aa)
  (hline:`fZ) (hs:`f3) (hplain:`l3):
  `VS `VU [e] (rs0 i g):=(.mk λH₀ B₀ δ pins s σ H Q I hq105=>by
 apply `a4 hq105
 delta rs0 at e1;apply `aU;cases e2:`td with
 | none=>apply `ac;cases e1
 | some ds=>
  cases e3:`au with
  | none=>apply `Av;cases e1
  | some d=>
   apply `Av;apply `fp;cases d<;>try cases e1
   rename_i es;dsimp only at e1;split at e1
   ·rename_i hz
    cases e1;have hi:=Ws0 e2;apply `apB;refine nc0 F6 n50 nb0 bk0 `k? `a2i `hj `pt `jI hs `sP `t s σ H Q I
     #[_,O,`apC,_,env,e3,`Fn]
    rw[w60] at r1;let#[b,zs,rfl,hq,rz]:=r1;refine#[a,b,xs,zs,rfl,rfl,`ai8,`q!,`d? `apD rz.length hz,?_];have U:`VT `Vk `a0j:=`a2k Rps.append rz;apply `a2l
   ·cases e1)
def ya0(i:Nat)(hN:`c4)(hv:`dT)(hd:`aL)(hcd:`di)
  (hbase:`IJ "pop") (hline:`fZ):
  `VS "pop" [] (dy0 i):=(.mk λH₀ B₀ δ pins s σ H Q I hq106=>by
 skip;apply `a4 hq106
 delta dy0 at e1;apply `aU;cases e2:`td with
 | none=>apply `ac;cases e1
 | some ds=>
  apply `ac;apply `fp;cases e3:`a0k with
  | none=>apply `cb;cases e1
  | some d=>
   apply `cb;cases e1;have hi:=Ws0 e2;apply `apB;rw[List.getLast?_eq_getElem?] at e3;let#[y,hy,ry]:=rx.get e3;done;refine Py0 F6 ne0 np0 Og0 `k? `hj `jI `t s σ H Q I
    #[_,O,`apC,a,xs,y,rfl,rfl,hx,`o `apD hy,?_]
   have U:`s5 (upd H a `anl) (`a0l):=env.mut hi O #[_,Y7,rx.dropLast.mono `tu];exact k _ _ (`tY (`zs `tV b1 b2 hi O U) U (ry.mono `tu)))
def zq0(h:`Ii):PTG X tg f:=(.mk λH₀ B₀ d δ pins s σ H v u Q I r hq107=>by
 skip;let#[δ',en,e1,k]:=hq107
 apply `VV;done;exact h B d δ `t s σ H v u Q I r #[δ',rv,env,e1,`aZt H en.s.wr `tV])
def X8{ft:`a9}(h:`n4)(hg:`a2h)(hs:`alr)(hw:`als)
  (h1:`alt):PSD X `alu (w80 gx ft):=(.mk λH₀ B₀ δ pins s σ H D I hq108=>by
 skip;apply `a4 hq108
 delta w80 at e1;cases e2:`gr with
 | none=>apply `ac;cases e1
 | some q=>
  apply `ac;apply `fp;cases e3:ft q.1 q.2 with
  | none=>apply `cb;cases e1
  | some δ'=>
   apply `cb;cases e1;done;exact gk0 (`wI h) (hg `as `al q.1 q.2) hs hw h1 `t s σ H D I (`xU λv H' O=>#[δ',O,e3,fun σ' H'' en''=>k σ' H'' en'']))
def X6(h:`n4)(hs:`ali):PSD X `alj (T8 gx):=(.mk λH₀ B₀ δ pins s σ H D I hq109=>by
 apply `a4 hq109
 delta T8 at e1;cases e2:`gr with
 | none=>apply `ac;cases e1
 | some q=>
  apply `ac;cases e1;exact `VW (`wI h) (`xU λv H' O=>k σ H' O.s))
def U0(n:Nat){c:`K}{body:`bb}(hp:`zP)(hc:`Ij)(hb:`aZD):PSD X `alv (vy0 gt G n):=(.mk λH₀ B₀ δ pins s σ H D I hq110=>by
 apply `a4 hq110
 apply `a2m
 have Y:`U8 (`iP (∃δ,`aZF)):=`a2n `aZH
 refine `a2o `a2p;apply `a2q;skip;cases m with
 | zero=>cases e2
 | succ m=>
  delta vy0 at e2;apply `a2r;cases e3:gt δ1 with
  | none=>rw[e3] at e2;cases e2
  | some t=>
   rw[e3] at e2;done;apply `a2s;cases t with
   | false=>
    rw[`lN];cases e2;exact `a2t
   | true=>
    rw[`a_];dsimp only at e2;refine`a2u `a2p;cases e4:G δ1 with
    | none=>rw[e4] at e2;cases e2
    | some rb=>
     rw[e4] at e2;refine`a2v;cases rb with
     | nx δn=>apply `apE
     | ct δn=>apply `apE
     | bk δn=>cases e2;exact `tM (k σ' H' en')
     | rt d'=>cases e2;exact `aFm k
     | rf d'=>cases e2;exact `RT (k p H' hp s' r'))
open T in
def R8(i j:Nat){p2 p3:Pos}{kk}(hN:`dh)(hij:`y5)(hc:`l4)(hi:`c4)(hj:`hN)
  (hx:`aoA) (hy:`hO)
  (hf:`uw) (hf2:`gP)
  (hs1:`G (`tO `apF=`jF (`aE6) `P::`a2w) Aa) (hs2:`G (`a2w=`jF (`aea) `P::`tO (`su [] `P)) Aa)
  (hn:`G ((`z `apF)=2) Aa) (hst:`aR2 `apF):
  PGD X (`xf `aDX kk pos) [i,j] (gm0 i j):=(.mk λB d δ=>(Bj0 hc (Uw0 (`U0) (Uw0 (je0 (i:=j) hN hj hy hf2) Gd0 hs2) hs1) hn hst).imp λv σ H Q hq111=>by
 let#[δ',r,en,e1,k]:=hq111
 delta gm0 at e1;split at e1
 ·rename_i da db
  cases e1;rw[wu0] at r;let#[p,xs,rfl,hq,rs]:=r;rw[W5] at rs;let#[va,t1,rfl,ra,rs]:=rs;rw[W5] at rs;let#[vb,t2,rfl,rb,rs]:=rs;rw[O8] at rs;subst rs;refine#[p,_,rfl,`q!,rfl,va,[vb],rfl,vb,[],rfl,rfl,k _ ?_ ((en.set i ra).set j rb)];refine#[`bO,`a2x,λq hq ds h=>?_]
  ·have h1:q≠i:=λz=>hq `apG
   have h2:q≠j:=λz=>hq (`o z (B3 _ A7))
   rw[`a2y,`a2z,`a2y,`a2z];exact`nT
  ·rcases `jx h with⟨rfl,e3,_⟩|⟨n1,e3⟩
   ·cases e3
   ·rcases `jx e3 with⟨rfl,e4,_⟩|⟨n2,e4⟩
    ·cases e4
    ·simp at hq
     rcases hq with z|z
     ·exact n2 `tH
     ·exact n1 `tH
 ·cases e1)
omit z
omit DL
namespace HT
open PyProof.Rows
section
variable{w:`M}{s:`v}
def h80{t sl:`d}{items:`a8}{lo hi:`aI}{Q:`ap}(ht:`aU5)(hs:`T0)(pl:`T1)(pu:`T2)
  (hw:`aU6) (h:Q `p9 s):`aU8:=by
 let#[os,Y,Z,a1]:=id hs;have U:`aU':= #[os,Y,Z];delta getItem
 apply `HD
 first|refine `G0|try fail
 refine `aU!;refine A0 (b4 (name:=`yO `afd) `uf Q2
  `aU?)
 apply `aVa;refine `aVb;apply `lI L6 U;rw[`SG];refine `aVc;have O:`ai1:=by
  rw[hw.1,hw.2];simp
 apply `aVd;rw[`I O];delta Builtin.Tuple.tupleIsExact;refine A0 (A0 (L6 `uf `L'));rw[`SG];exact A0 (L9 `afc)
omit z
omit HT
open Y
def Ay0(K:`y):`uK:=`T4 (∃a xs,`eJ/\`qU/\`aVu/\Q `cf H)
def Gv0:SlR X (Ay0 X.K):=by
 apply `T6;skip;apply `aVv;cases rx;apply `aVw;apply `aVx
 done;exact#[`eX,_,Q2.lookup,`uf,HT.h80 ht hs pl pu `aVy (`hv `a' q)]
def Os0(K:`y):R2:=`ef (∃a b ys,`eJ/\`HG/\SqT K H a []/\`aVB/\Q `P2 H)
def Kd0:`amO Os0:=by
 apply `hJ;skip;let#[a,b,ys,rfl,rfl,ha,hb,q]:=h;cases rx;cases ry;apply `aVC;let#[Z,r2,p2,_]:=`mT hb;have e:its=[]:=r1.zero;subst e;apply `afR (id p1);let#[#[a3,a1,data2,a2],Y,U,n2,O]:=id p2;simp only at hc hd U O;subst hc hd U O;done;exact l4 `uJ `a2A y6 y8 y9 A00 (A10 _ _)
  (tuple_addW0 a b _ Z.toArray n n2 dd a1 sl a2 rfl) #[ho,Y,(`hv `wY q)]
omit L2
open X
mutual
theorem jw0:∀(d:D) (n:Nat),`Aw->deq d d=`f
 | `x,_,_=>`a2B
 | `gk,_,_=>`apH
 | `oI,_,_=>`apH
 | `zd,_,_=>`apH
 | `c',0,h=>by apply `Fr;cases h
 | `c',n+1,h=>`a2C
 | `et,0,h=>by apply `Fr;cases h
 | `et,n+1,h=>`a2C
 | `u2,n,h=>by apply `Fr;cases h
 | `Ao,n,h=>by apply `Fr;cases h
theorem gu0:∀(ds:`k) (n:Nat),`Ax->qu0 ds ds=`f
 | [],_,_=>by delta qu0;rfl
 | `b0,n,h=>by
  delta leans at h;apply `rf;delta qu0;rw[jw0 d n h.1,gu0 ds n h.2];rfl
end
theorem pl0:∀ds es:`k,`add=((`bJ (`a2D)).all (`adb)&&`a2E)
 | [],[]=>`apI
 | [],_::_=>`apI
 | _::_,[]=>`apI
 | `b0,`B0=>by
  delta qu0;rw[pl0 ds es];have h1:min `Uy `anf=`a2D+1:=`apJ `an
  rw[h1,`apK,`lU,`a2F];have h2:(`Uy==`anf)=(`a2E):=by
   rw[`q_];simp
  rw[h2,Bool.and_assoc];rfl
def nj0:∀{ds:`k} {n j:Nat} {d:D},`Ax->ds[j]?=`aX->`Aw:=by
 intro z;induction z with
 | nil=>intro _ _ _ _ h;simp at h
 | cons d ds ih=>
  intro n
  intro z2;cases z2 with
  | zero=>
   intro _ h e
   delta leans at h;apply `rf;simp at e;subst e;exact h.1
  | succ j=>
   intro _ h e
   delta leans at h;apply `rf;exact ih (j:=j) h.2 `aYw
section
variable{σ:St}{s:`v}
inductive V6 (X:Cx) (s:`v) (H:Hp) (B:BS):Nat->D->V->`adf
 | non (n:Nat):`CO `x `x `aY
 | bl (n:Nat) (b:`B):`CO `s? `s? `Pg
 | int (n:Nat) (i:Int) (t:Tok):`CO `e! `e! `yk
 | str (n:Nat) (z:Str) (t:Tok):`CO `tW `tW `a2G
 | tup (n:Nat) (ds:`k) (a:`d) (xs:`S) (its:`N) (l:`Ax) (q:SqT' X.K H B a xs) (r:`VX) (v:`xC) (p:`aF9):`a2H `pr
 | lst (n:Nat) (ds:`k) (a:`d) (xs:`S) (its:`N) (l:`Ax) (q:SqL' X.K H B a xs) (r:`VX) (v:`xC) (p:`Mg a `b3):`a2H `wx
def view(I:`C){d:D}{x:V}(l:`Aw)(h:`Vi)(r:`iC):`Fs:=by
 skip;cases d with
 | non=>rw[w90] at h;subst h;cases r;done;exact `x _
 | bl b=>rw[xn0] at h;subst h;cases r;done;exact .bl _ b
 | int i=>rw[zk0] at h;subst h;apply `kd;done;exact `g _ i t
 | str z=>rw[w40] at h;subst h;apply `kd;done;exact `r _ z t
 | tup ds=>
  rw[wu0] at h;let#[a,xs,rfl,q,rr]:=h;let#[its,rv,p,_]:=`mT `fJ;cases n with
  | zero=>apply `Ay;cases l
  | succ m=>apply `Ay;cases r;done;exact `H m ds a xs its l q rr rv p
 | lst ds=>
  rw[w60] at h;let#[a,xs,rfl,q,rr]:=h;let#[its,rv,p,_]:=`g6 `fJ;cases n with
  | zero=>apply `Ay;cases l
  | succ m=>apply `Ay;cases r;done;exact `s m ds a xs its l q rr rv `Tm
 | dct a b=>apply `Ay;cases l
 | fn a b=>apply `Ay;cases l
def Uj0(I:`C){es:`k}{its:`N}(ih:`a2I)(l:`Ax)(l':`a2J)(r:`VX)(r':Rps X.K H B' es xs)(v:`xC):ds=es:=by
 refine i6 (`xN `bm `qy) `a2K
 skip;let#[x,ex,rx]:=`q4 (C4 h1);let#[y,ey,ry]:=r'.get (C4 h2);rw[ex] at ey;cases ey;let#[u,_,ru]:=v.get ex;done;exact ih (view I (nj0 l (C4 h1)) rx ru) (view I (nj0 l' (C4 h2)) ry ru)
def V6.inj(I:`C):`a2I:=by
 induction n with
 | zero=>
  intro m d e x u h h';cases h<;>cases h'<;>rfl
 | succ n ih=>
  intro m d e x u h h';cases h with
  | tup _ ds a xs its l q r v p=>
   cases h' with
   | tup _ es _ ys _ l' q' r' _ _=>
    have:=`aSu `fJ q'.to;subst this;rw[`a2L]
   | lst _ es _ ys _ _ _ _ _ p'=>exact `J rfl (nx0 p' p)
  | lst _ ds a xs its l q r v p=>
   cases h' with
   | lst _ es _ ys _ l' q' r' _ _=>
    have:=`aF8 `fJ q'.to;subst this;rw[`a2L]
   | tup _ es _ ys _ _ _ _ _ p'=>exact `J rfl (nx0 p p')
  | _=>cases h'<;>rfl
def in1_units:A.in1.units=`pe+1:=(rfl)
def i30{es:`k}{ys:`S}{ws:`N}{A:`ck}(ld:`Ax)(le:`a2J)(r1:`VX)(r2:Rps X.K H B' es ys)(v1:`ea)(v2:`aPX)
  (ih:∀d e x y u w,`Aw->`a2M->`Vi->`a2N->`iC->`apL->`apM):
  ∀j (h1:j<us.toArray.size) (h2:j<ws.toArray.size),`xP A s us.toArray[j] `z0[j] (`aDY):=by
 intro j h1 h2;skip;have l1:j<`cy:=by rw[← `pP,v1.length];apply `dX h1
 have l2:j<`ip:=by rw[← `nd,v2.length];apply `dX h2
 let#[x,ex,rx]:=r1.get (C4 l1);let#[y,ey,ry]:=r2.get (C4 l2);let#[u,eu,ru]:=v1.get ex;let#[w,ew,O]:=v2.get ey;have hu:us.toArray[j]=u:=by
  have:us[j]?=`bC:=eu;simp at h1;apply `aT (`ik h1)
  apply `dX `Fx
 have hw:`z0[j]=w:=by
  have:ws[j]?=`DA:=ew;simp at h2;apply `aT (`ik h2)
  apply `dX `Fx
 done;rw[hu,hw];have e1:`aER=ds[j]:=by simp[`bz,l1]
 have e2:`aES=es[j]:=by simp[`bz,l2]
 rw[e1,e2];exact ih _ _ _ _ _ _ (nj0 ld (C4 l1)) (nj0 le (C4 l2)) rx ry ru O
def V6.step(I:`C){d e:D}{x y:V}{w:`A}(hu:`a2O)(ih:∀k,n=k+1->∀{m:Nat} {d e:D} {x y:V} {u w:`A},V6 X s H B k d x u->`VY->`ada `xP `g1)(h:`Fs)(h':`VY):`apM:=by
 cases h with
 | tup k ds a xs its l q r v p=>
  cases h' with
  | tup k' es a' ys its' l' q' r' v' p'=>
   by_cases hab:a=a'
   ·subst hab
    rw[← `a2P `H `H,jw0 `pr `cX l];exact .same _
   ·refine `a2Q
    have:=`apN x0 `a2R;show `apO;rw[pl0]
    simpa [← `ade,← `aKL,`bm,`qy] using `F
  | _=>show `a2S;first|apply `L (SeqAt.EqAt.tuple_none p hu)|apply `L (SeqAt.EqAt.tuple_bool _ p hu)|apply `L (`i5 SeqAt.EqAt.tuple_int)|apply `L (`i5 SeqAt.EqAt.tuple_str)|apply `L (`Az SeqAt.EqAt.tuple_list)
 | lst k ds a xs its l q r v p=>
  cases h' with
  | lst k' es a' ys its' l' q' r' v' p'=>
   by_cases hab:a=a'
   ·subst hab
    rw[← `a2P `s `s,jw0 `wx `cX l];exact .same _
   ·refine `a2Q
    apply `apP
    apply `apQ
    show `apO;rw[pl0]
    by_cases hl:`cy=`ip
    ·have:=`apR `a2T `a2R
     apply `aT s1;rw[hl] at this ⊢
     apply `dX `F
    ·have:=`a2U
     apply `a2V;exact `F
  | _=>show `a2S;first|apply `L (SeqAt.EqAt.list_none p hu)|apply `L (SeqAt.EqAt.list_bool _ p hu)|apply `L (`i5 SeqAt.EqAt.list_int)|apply `L (`i5 SeqAt.EqAt.list_str)|apply `L (`Az SeqAt.EqAt.list_tuple)
 | _=>cases h'<;>dsimp only [deq]<;>first|apply `L (i7 _)|apply `L (`aV1 _ _)|apply `L (u8 _ _ _ _)|apply `L (w8 _ _ _ _)|apply `L (`aV2 _ _ _)|apply `L (`aV4 _ _ _)|apply `L (`aV_ _)|apply `L (u3 _ _)|apply `L (u4 _ _)|apply `L (`aV0 _)|apply `L (`aV3 _ _ _)|apply `L (u7 _ _)|apply `L (i8 _ _ _ _)|apply `L (v3 _ _)|apply `L (`aV5 _ _ _)|apply `L (j0 _ _ _ _)|apply `L (SeqAt.EqAt.none_list `eo hu)|apply `L (`AA SeqAt.EqAt.bool_list)|apply `L (`i6 SeqAt.EqAt.int_list)|apply `L (`i6 SeqAt.EqAt.str_list)|apply `L (SeqAt.EqAt.none_tuple `eo hu)|apply `L (`AA SeqAt.EqAt.bool_tuple)|apply `L (`i6 SeqAt.EqAt.int_tuple)|apply `L (`i6 SeqAt.EqAt.str_tuple)
def V6.eq(I:`C):∀{m:Nat} {d e:D} {x y:V} {u w:`A} {A:`ck},`apS->`Fs->`VY->`apM:=by
 induction n with
 | zero=>exact λhu=>V6.step I `n λk z=>nomatch z
 | succ n ih=>
  intro m d e x y u w A hu;refine V6.step I `n λk z=>?_
  cases z;exact ih `aMM
omit z
section
variable{σ:St}{s:`v}
def V6.rc(I:`C){d e:D}{x y:V}{w:`A}(hn:`apS)(h:`Fs)(h':`VY):`a2W:=by
 have hu:`a2O:=`E
 cases h with
 | tup k ds a xs its l q r v p=>
  cases h' with
  | tup k' es a' ys its' l' q' r' v' p'=>
   apply `a2X
   apply `apP
   apply `apQ
   have q1:=`apN x0 O;have q2:=`apN SeqAt.RcNeAt.tuples O;rw[s1,s2,← pl0] at q1 q2;exact`Qp
  | _=>show `a2Y;constructor<;>first|apply `L (SeqAt.RcAt.tuple_none p hu)|apply `L (SeqAt.RcAt.tuple_bool _ p hu)|apply `L (`i5 SeqAt.RcAt.tuple_int)|apply `L (`i5 SeqAt.RcAt.tuple_str)|apply `L (`Az SeqAt.RcAt.tuple_list)|apply `L (SeqAt.RcNeAt.tuple_none p hu)|apply `L (SeqAt.RcNeAt.tuple_bool _ p hu)|apply `L (`i5 SeqAt.RcNeAt.tuple_int)|apply `L (`i5 SeqAt.RcNeAt.tuple_str)|apply `L (`Az SeqAt.RcNeAt.tuple_list)
 | lst k ds a xs its l q r v p=>
  cases h' with
  | lst k' es a' ys its' l' q' r' v' p'=>
   apply `a2X
   apply `apP
   apply `apQ
   show `apO/\`O1 A s _ _ (!`add);rw[pl0]
   by_cases hl:`cy=`ip
   ·have q1:=`apR `a2T O
    have q2:=`apR `a2Z O;rw[s1] at q1 q2;rw[hl] at q1 q2 ⊢;simp only[`aaH,`zE,Bool.and_true];exact`Qp
   ·have q1:=`a2U
    have q2:=r20 (A:=A) p p' `aHh hu;apply `a2V;exact`Qp
  | _=>show `a2Y;constructor<;>first|apply `L (SeqAt.RcAt.list_none p hu)|apply `L (SeqAt.RcAt.list_bool _ p hu)|apply `L (`i5 SeqAt.RcAt.list_int)|apply `L (`i5 SeqAt.RcAt.list_str)|apply `L (`Az SeqAt.RcAt.list_tuple)|apply `L (SeqAt.RcNeAt.list_none p hu)|apply `L (SeqAt.RcNeAt.list_bool _ p hu)|apply `L (`i5 SeqAt.RcNeAt.list_int)|apply `L (`i5 SeqAt.RcNeAt.list_str)|apply `L (`Az SeqAt.RcNeAt.list_tuple)
 | _=>cases h'<;>dsimp only [deq]<;>(try change _/\`aHj)<;>(try change _/\`O1 A s _ _ `l)<;>constructor<;>first|apply `L SeqAt.RcAt.none_none|apply `L (SeqAt.RcAt.bool_bool _ _)|apply `L (SeqAt.RcAt.int_int _ _ _ _)|apply `L (SeqAt.RcAt.str_str _ _ _ _)|apply `L (SeqAt.RcAt.bool_int _ _ _)|apply `L (SeqAt.RcAt.int_bool _ _ _)|apply `L (SeqAt.RcAt.none_bool _)|apply `L (SeqAt.RcAt.none_int _ _)|apply `L (SeqAt.RcAt.none_str _ _)|apply `L (SeqAt.RcAt.bool_none _)|apply `L (SeqAt.RcAt.bool_str _ _ _)|apply `L (SeqAt.RcAt.int_none _ _)|apply `L (SeqAt.RcAt.int_str _ _ _ _)|apply `L (SeqAt.RcAt.str_none _ _)|apply `L (SeqAt.RcAt.str_bool _ _ _)|apply `L (SeqAt.RcAt.str_int _ _ _ _)|apply `L (SeqAt.RcAt.none_list `eo hu)|apply `L (`AA SeqAt.RcAt.bool_list)|apply `L (`i6 SeqAt.RcAt.int_list)|apply `L (`i6 SeqAt.RcAt.str_list)|apply `L (SeqAt.RcAt.none_tuple `eo hu)|apply `L (`AA SeqAt.RcAt.bool_tuple)|apply `L (`i6 SeqAt.RcAt.int_tuple)|apply `L (`i6 SeqAt.RcAt.str_tuple)|apply `L SeqAt.RcNeAt.none_none|apply `L (SeqAt.RcNeAt.bool_bool _ _)|apply `L (SeqAt.RcNeAt.int_int _ _ _ _)|apply `L (SeqAt.RcNeAt.str_str _ _ _ _)|apply `L (SeqAt.RcNeAt.bool_int _ _ _)|apply `L (SeqAt.RcNeAt.int_bool _ _ _)|apply `L (SeqAt.RcNeAt.none_bool _)|apply `L (SeqAt.RcNeAt.none_int _ _)|apply `L (SeqAt.RcNeAt.none_str _ _)|apply `L (SeqAt.RcNeAt.bool_none _)|apply `L (SeqAt.RcNeAt.bool_str _ _ _)|apply `L (SeqAt.RcNeAt.int_none _ _)|apply `L (SeqAt.RcNeAt.int_str _ _ _ _)|apply `L (SeqAt.RcNeAt.str_none _ _)|apply `L (SeqAt.RcNeAt.str_bool _ _ _)|apply `L (SeqAt.RcNeAt.str_int _ _ _ _)|apply `L (SeqAt.RcNeAt.none_list `eo hu)|apply `L (`AA SeqAt.RcNeAt.bool_list)|apply `L (`i6 SeqAt.RcNeAt.int_list)|apply `L (`i6 SeqAt.RcNeAt.str_list)|apply `L (SeqAt.RcNeAt.none_tuple `eo hu)|apply `L (`AA SeqAt.RcNeAt.bool_tuple)|apply `L (`i6 SeqAt.RcNeAt.int_tuple)|apply `L (`i6 SeqAt.RcNeAt.str_tuple)
def Dk0(I:`C)(n m:Nat)(d e:D)(x y:V)(u w:`A)(A:`ck)(hu:`apS)(ld:`Aw)(le:`a2M)(hx:`Vi)(hy:`a2N)(rx:`iC)(ry:`apL):
  `a2W:=(V6.rc I hu (view I ld hx rx) (view I le hy ry))
omit z
section
variable{a:`K}{p:Pos}{ga:`dm}
def Fs0(K:`y)(neg:`B):R2:=`ef (∃B B' dx dy,`aol/\Rp K H B' dy y/\`IL dx/\`IL dy/\Q (`PU (deq dx dy)) H)
def Z4(hu:`aaj+64<`os):`h1 .Eq (Fs0 X.K `l):=by
 apply `hJ;skip;let#[B,B',dx,dy,hx,hy,lx,ly,q]:=h;done;exact(Dk0 I 50 50 dx dy x y v u X.A `n lx ly hx hy rx ry).1 _ _ _ _ (`hv `cl (by rw[`tS] at q;exact q))
def d7:Op2 K (Fs0 K `l) m00:=by
 apply `n1;delta m00 at h;split at h
 ·rename_i hl
  cases h;exact#[B,B,dx,dy,rx,ry,hl.1,hl.2,`h8 (by rw[xn0,`tS])]
 ·cases h
def L10:Op2 K (`ef (rI0 (`aSZ) x y H Q∨(`aTd)∨`HH I60∨`HH Jf0∨`HH Os0)) Z7:=by
 apply `n1;cases dx<;>cases dy<;>simp only[Z7] at h<;>try cases h
 ·rw[zk0] at rx ry
  subst rx ry;exact `m #[_,_,rfl,rfl,`yN]
 ·split at h
  ·cases h
   rw[w40] at rx ry;subst rx ry;apply `ko #[_,_,rfl,rfl,`vV,`UV]
  ·cases h
 ·split at h
  ·skip;rename_i hz
   cases h;have U:=ry;have Y:=rx;rw[wu0] at rx ry;apply `apT;apply `a2_
   by_cases he:`z2
   ·subst he
    have e:`a20=`a20:=rfl;have hn:=`pP;simp at hn;have O:=`apU;subst O;done;exact `l6 (`p #[a,b,ys,rfl,rfl,q1.to,q2.to,`h8 (`o `q8 U)])
   ·done;refine `l6 (`m #[a,b,xs,ys,rfl,rfl,q1.to,q2.to,he,`apV,`iO,λz p hp=>k _ _ `iA (af0 hb hp (`T7))])
    subst z;have hn:=`nd;simp at hn;have O:=`apU;subst O;exact `h8 (`o `cT Y)
  ·cases h
 ·split at h
  ·skip;rename_i hz
   cases h;rw[w60] at rx ry;apply `apT;apply `a2_;done;apply `gO (`m #[a,b,xs,ys,rfl,rfl,q1.to,q2.to,`apV,`GK `iA (j30 hb hp (`T7))])
  ·cases h
def T3(ha:`cC)(hb:`cU):`l1 `a21 Z7:=(ia0 (Cf0.or (Rl0.or (Tm0.or (H80.or Kd0)))) L10 ha hb)
def Tr0(h:`bv):∀k:Nat,Rps K H B (`jT k ds) `aWr:=by
 intro z;induction z with
 | zero=>simp[O8]
 | succ k ih=>rw[`fk,`fk,`hK,`hK];exact h.append (ih)
instance decMul(i j:Int):`f2 (CMul i j):=inferInstanceAs (`f2 (`afU))
def N7(ha:`cC)(hb:`cU):`l1 `a22 yr0:=(ia0 Eb0 ((show (`kq `a0B)=yr0 from by funext x y;cases x<;>cases y<;>rfl)▸cl0 (C:=CMul) (g':=`aS1) `ac9) ha hb)
def Md0{xs:`k}{lo hi:`aI}(h:`anQ=0/\`aX7=`ax):`ao?=xs:=by
 delta cutD;rw[h.1,h.2];simp
open T in
def W2{lo hi:`se}{gl gh:`z!}{p2:Pos}(he:`c3)(hl:`a23)(hh:`a24):
  PD X `aVo (wz0 g gl gh):=(.mk λB δ=>
 (K00 (Fy0.or (Il0.or (Do0.or Gv0))) (he B δ) (hl B δ) (hh B δ)).imp fun σ H Q hq112=>by
  apply `b2 hq112
  delta wz0 at h;cases e1:`au with
  | none=>rw[e1] at h;cases h
  | some x=>
   cases e2:gl δ with
   | none=>apply `dn;cases h
   | some l=>
    cases e3:`yM with
    | none=>rw[e1,e2,e3] at h;cases h
    | some u=>
     rw[e1,e2,e3] at h;apply `f1;refine`UX x (`a25 `ac7 ?_);have S:=`w1;have r3:=(`r?).same s3;have hb:=(`apW).bad;cases x<;>simp only[slA] at h<;>try cases h
     ·split at h
      ·cases h
       rw[w40] at r3;exact `m #[_,r3,`vV,k _ H3 S `MY]
      ·cases h
     ·have r4:=r3
      rw[wu0] at r3;apply `Vo r3;rename_i dxs
      by_cases hw:sIx `VZ 0 l=0/\sIx `VZ `VZ u=`VZ
      ·refine `l6 #[a,xs,rfl,`fJ,`a26,k _ _ S ?_]
       rw[Md0 hw];exact r4
      ·apply `gO (`m #[a,xs,rfl,`fJ,`a26,`a27 af0])
     ·rw[w60] at r3
      apply `Vo r3;apply `ko #[a,xs,rfl,`fJ,`a27 j30])
def G40{d:D}(h:`oq [d,d']):∃v v',xs=[v,v']/\`cz/\Rp K H B d' v':=by
 skip;rw[W5] at h;apply `u1;let#[y,rfl,h3]:=t50 h2;done;exact#[x,y,rfl,h1,h3]
def Co0:FnR K `aTi L00:=by
 apply `q?;delta L00 at h;split at h
 ·skip;cases h
  let#[v,v',rfl,r1,r2]:=G40 r;rw[zk0] at r1 r2;subst r1 r2;done;exact#[_,_,rfl,`yN]
 ·cases h
def y80:FnR K `aTk intOfD:=by
 apply `q?;delta intOfD at h;split at h
 ·cases h
  apply `i2;rw[zk0] at r1;subst r1;exact `m `a28
 ·cases h
  apply `i2;rw[xn0] at r1;subst r1;exact `p `a28
 ·cases h
def ze0:`Vp (`HI (`a_'/\`aWc)) ss0:=by
 apply `q?;delta ss0 at h;split at h
 ·skip;cases h
  apply `i2;rw[w60] at r1;apply `u3;done;exact#[a,ys,rfl,`ao3,`a29]
 ·skip;cases h
  apply `i2;rw[wu0] at r1;apply `u3;done;exact#[a,ys,rfl,`ao4,`a29]
 ·cases h
omit z
open V
def mw0:`bx
 | `d2,`wj=>`a0A
 | _,_=>`e
def rj0{gA:GA}{δ:Ds}(h:`q7)(hl:`uT):vw0 gA δ=`Uv:=by
 delta vw0;rw[h,`h,`na]
def Cn0{gA:GA}{δ:Ds}(h:`q7)(hl:`uT):zm0 gA δ=`uU:=by
 delta zm0;rw[h,`h,`na]
def Ik0{n:Int}{d:D}(h:d∈`AB):∃k:Nat,`cv<n/\d=`hb:=by
 let#[k,hk,rfl]:=`eZ h;have:=`apX;exact#[k,`E,by rw[`V_]]
def Fn0(f:D->α)(n:Int):(`AB).map f=`a2' λ(k:Nat)=>f `B':=by
 delta uy0;rw[`f4];have:n - 0=n:=`E
 rw[`F];refine `apY
 show f (`g (0+`cv))=_;rw[`V_]
def oj0(n:Int):(`z `AB)=`tR:=by delta uy0;simp
def S10{n:Int}{d:D}(h:(`AB)[j]?=`aX):j<`tR/\d=`e3:=by
 have hj:j<`tR:=by
  have:=`V0
  rwa [oj0] at this
 refine#[hj,?_];delta uy0 at h;rw[`dl,List.getElem?_range (`H0)] at h;have:=A4 h;rw[← `F];show `bU (0+`cG)=_;rw[`V_]
def Vo0{gt:GB}{ge:GE}{δ:Ds}{n:Int}(h:Nat->D)(H:∀k:Nat,`cv<n->∃δ',gN 0 `B' δ=`D2/\`aYa/\`PG=`c (h k)):
  sa0 `cM gt ge δ (`AB)=`c (`a2' h):=by
 rw[ll0 (`V1 `h? (h `py)) (λd hd=>by
  let#[k,hk,rfl]:=Ik0 hd;exact H k hk),Fn0]
 rfl
section
variable{a:`K}{p:Pos}{ga:`dm}
def z90(ha:`cC)(hb:`cU):PDF X `a21 (o2 ga gb mw0):=(.mk λB δ=>(J70 Tm0 `bD `fo).imp fun σ H Q hq113=>by
 skip;apply `b2 hq113
 delta o2 at h;cases e1:`df with
 | none=>rw[e1] at h;cases h
 | some x=>
  cases e2:`dy with
  | none=>apply `dn;cases h
  | some y=>
   apply `dn;apply `f1;done;apply `Ag;cases x<;>cases y<;>simp only[mw0] at h<;>try cases h
   split at h
   ·skip;rename_i hz
    cases h;have r1:=`r?;rw[w60] at r1 r2;let#[a,xs,rfl,q1,r1]:=r1;let#[b,ys,rfl,q2,r2]:=r2;done;exact#[a,b,xs,ys,rfl,rfl,q1.to,q2.to,`apV,λp hp=>k p _ (`apZ hp) (`LD `iA) #[_,Y7,(`T7).mono `P!]]
   ·cases h)
def Q4(hm:`nR)(hv:`xh=`c `Ft)(ha:`c3)(hg:`fn)
  (hn:`nS) (hdb:`aL) (he:`f3) (hpl:`l2):
  PDF X `a2! (oA `F0 ss0):=(.mk λB δ=>(`ap_ k40 Z2 (`V2 `bD)).imp fun σ H Q hq114=>by
 apply `b2 hq114
 delta oA z7 v6 at h;cases e1:`au with
 | none=>rw[e1] at h;cases h
 | some x=>
  rw[e1] at h;simp only[`h,`ls] at h;refine#[x,en,e1,`Fn];cases x<;>simp only[ss0] at h<;>try cases h
  ·rw[wu0] at r1
   apply `a2?;exact#[q,xs,rfl,`p `q!,`a3a]
  ·rw[w60] at r1
   apply `a2?;exact#[q,xs,rfl,`m `q!,`a3a])
omit z
section
variable{p:Pos}
def FnN(P:`aj)(w:`M)(K:`y)(mg:`a2)(base:`D)(x:Str)(k:Nat)(ps:`i)(f:`O):Prop:=
 `ao6 (`kt k ps f)
def zu0{k:Nat}{f:`O}(C:`a3b)(hr:`rb)(hk:k<=m)(ha:`lZ)(hg:`fn)(hdb:`aL)
  (he:`dk) (hpl:`eO):PDF X `pg `Md:=by
 apply `Vr;exact .mk λB δ=>(`Ih `i3 kp `bD).imp fun σ H Q h=>by
  apply `Af;delta oA at h;cases e1:`e0 with
  | none=>rw[e1] at h;cases h
  | some ds=>
   rw[e1] at h;refine`aZh;show spN X.K f `Qo H1 Q E0;rw[`cT];exact#[B,ds,d,`aov,r1,h,λp H' hp s r=>k p H' (`nm hp) (`oy s) r]
def y00{k:Nat}{f:`O}(C:`a3b)(hr:`rb)(hk:k<=m)(ha:`lZ)(hg:`fn)(hdb:`aL)
  (he:`dk) (hpl:`eO):`Ig:=((zu0 C hr hk ha hg hdb he hpl).pd)
def T4(h:`Ak):`U4 v10 g:=(.mk λH₀ B₀ δ pins s σ H D I hq115=>by
 skip;apply `a4 hq115
 delta v10 at e1;apply `aU;cases e2:`au with
 | none=>apply `ac;cases e1
 | some d=>
  apply `ac;cases e1;done;exact `q9 `dC #[d,env,e2,λp H' hp s' r=>k p H' (`apv) (`Qj s') (`c! `a3c (`lg λa z=>z.imp (b1 a) id)).toL])
open T in
def R9(i:Nat){px:Pos}(hN:`c4)(hv:`dT)(hd:`aL)(hcd:`di):
  PSD X (`CU (`c `k1) pos) (go0 i):=(.mk λH₀ B₀ δ pins s σ H D I hq116=>by
 apply `a4 hq116
 delta go0 at e1;apply `aU;split at e1
 ·rename_i d hi
  let#[a,hs,hb,ro]:=`pO;cases e1;exact `q9 `k? #[_,hs,k a H (`yL i d a hi hs) `f' (ro.mono `a3c (`lg λb z=>`cO (b1 b) λq=>`o q hb))]
 ·cases e1)
omit z
def R30:`O
 | [`et,`mP]=>`so (`a3d `a3e)
 | _=>`e
def kh0:`O
 | `z?=>`c (`s `a3f)
 | _=>`e
def pi0(ds:`k):`k:=(`bJ `cy).map λ(k:Nat)=>`H [`hb,ds.getD k `x]
def Um0:`Ux
 | `z?=>`c (pi0 ds)
 | _=>`e
def jp0(gA:GA):GA:=`HY Um0
open B
mutual
def tree:`dR
 | `eE=>`l
 | `u2=>`l
 | `Ao=>`l
 | `c'=>`ap0
 | _=>`f
def trees:`xm
 | []=>`f
 | `b0=>tree d&&`ap0
end
open A
def hf0(g:GE):GE:=`a0g `ap1
def bv0{g:GE}{δ:Ds}{d:D}(h:`xO=`aX)(ht:`ap1):hf0 g δ=`aX:=by
 delta hf0;rw[h,`h,`I ht]
def bb0(g:GE)(gA:GA)(f:`V3):GE:=`nX (`pf λds=>f d ds)
def oh0:`V3
 | `lt,[`zd]=>`c `aMQ
 | _,_=>`e
def ml0{gA:GA}{δ:Ds}{n:Int}(h:`e0=`c `V4)(h1:-(`hI)<=n)(h2:n<`hI):tz0 gA δ=`c (`AB):=by
 delta tz0;rw[h,`h];simp only[Q20];rw[`I `a0_]
omit DL
namespace RevL
open V
def R50:`lq `V5 "__len__"=`MG:=`zC
def Lp0:`lq `V5 `af6=`bW (`c (`b6 "list_reverseiterator.__length_hint__")):=`zC
def Ho0:`ajO `V5 `V5=`ael:=by rw[`aj?];kernel_rfl
section
variable{w:`M}{s:`v}{R:`ka}
variable{wr:`aK}{G:`a3g}{P:`ap2}{St:`anD}
def Fd0(W:`a3h)(hT:`ap3)(C:`d)(res:`A)(c0:Nat)(st:St 0 s)(hC:C∉fp)(hI:I∈fp)
  (gC:`es C=`c (`ij `mK (`jy ⟨⟩ c0)))
  (hR:`a3i (`qQ res s')) (hn:`z4):
  `aN `dt `g1 (`af7 `bl `N9 res)
   `aj9 `aj' s:=by
 have ne:C≠I:=λe=>hC (e▸hI)
 apply `a3j;refine A0 (L6 `V6 (by
  have q1:`V7 `bl `N9=`l:=by simp[`V7,ne]
  have q2:(`nz `M0==`a3k)=`l:=`aV
  have q3:(`nz `M0==`a3l)=`l:=`aV
  simp only[q1,q2,q3,`SD,`uP,`kK];refine A0 (W.self 0 _ _ _ st (A0 (D2 (by
   apply `a3m;refine A0 (E6 `V6 R50 (by
    show `j1 (`a3n I) _;apply `iR E6 `V6 Lp0;apply `iR x3 `V6 Ho0;rw[`d6];dsimp only;rw[`I `c7,`d6];refine `k3;rw[`Q `c7];refine A2 #[N4 PySem.F.plain_extend_loop _,?_];exact codeAny_extend_loopS W hn _ hC _ n 0 _ _ _ rfl `yZ st gC (ItemsOf.nil P) λs' acc' c' m e O=>hR s' acc' c' m e O))))))))
def Lx0(W:`a3h)(hT:`ap3)(C:`d)(st:St 0 s)(hC:C∉fp)(hI:I∈fp)
  (gC:`es C=`c `P6)
  (hR:`a3i (`qQ `aY s')) (hn:`z4):
  `aN `dt `g1 (Builtin.«list.__init__» #[[`eU,`U I],[]])
   `aj9 `aj' s:=by
 show `j1 (do let old ← Builtin.List.listItems `bl;Builtin.List.listUpdate `bl `a3o;letGo old.toList.reverse;`a3p) s;refine A0 (by
  delta Builtin.List.listItems;refine A0 (j3 gC rfl (A2 (by
   show `j1 (`V8 C `a3o>>=λ_=>letGo (⟨⟩:`a8).toList.reverse>>=λ_=>`a3p) s;have g2:=E4 `a3q gC rfl;have oth:∀b o,b≠C->`hp->`z5 (`Fz C `a3q):=`a3r
   refine A0 (c5 gC rfl (A0 (`a3s (Fd0 W hT C `aY _ (`a3t λb hb o e=>oth b o (λh=>hC (h▸hb)) e) hC hI g2 (λs' acc' c' m e O=>?_) hn))));exact hR s' acc' c' (Moved.trans W.gtrans ((Moved.refl W.grefl).then_heap `bQ λb o hb e=>oth b o (λh=>hb (h▸A7)) e) m) e O))))
omit z
section
variable{w:`M}{s:`v}
variable{wr:`aK}{G:`a3g}{P:`ap2}{St:`anD}
def Yt0{Q:`ap}(W:`aHm A.in1.in1)(hT:`ap3)(st:St 0 s)(hfp:∀b∈fp,b<`Z)(hI:I∈fp)
  (hQ:∀s' acc' c',Moved (`Z::wr) G `a3u s' ->
   `aOb `Z=`aOc->`aHn->Q `j0 s') (hn:`z4):
  `cL (`eH `Ft [`U I]) s:=by
 have hC:`Z ∉fp:=λz=>D9 _ (hfp _ z)
 refine `a3v (Q₁:=λob s1=>ob=`mr/\s1=`a3u) PySem.F.called_list (PySem.F.typeCall_list_1 _) PySem.F.entry_list_init (code_list_new _ `nT) λob s1 h1=>?_
 let#[rfl,rfl]:=h1;have gC:(`ib `P6).get? `Z=`c `P6:=`hn;exact#[#[_,gC,rfl],PySem.F.args_list_init_2 _ _,Lx0 W hT _ (`a3t λb _ o e=>`o8) hC hI gC (λs' acc' c' m e O=>#[rfl,hQ s' acc' c' m e O]) hn]
def X50{l:`d}{its:`a8}{Q:`ap}(hh:`kg)(hl:`Mg l its)(hz:`aeY)
  (h:∀(h':`D) (tk c:Nat) (a:`d),`S2->`id a=`EI `ap4 c->(∀b o,`aa4)->Q `cf `uD):
  `a3w (`eH `a3x [`pN]) `Ft:=by
 refine call_reversed_list hl ?_;let#[ol,gl,_,_]:=id hl;have Y:l<`Z:=A6 gl;have a1:A.in1.in1.handled=`e:=`ap5
 have Wk:=(Walks.listRev (prog:=`m5) (w:=w) a1 `Z l (B5 Y) its).toS;refine Yt0 Wk (λi s x=>x.2.1.typeIs) #[`b7,#[_,`hn,rfl,by
  show `aSw ⟨`pN,`qW (`V9)⟩=_;have z:`V9 - `yA=`V9:=`em
  rw[z]],hl.push _] `S9 `a? (λs' O c' m e U=>?_) hz
 ·show b<`ap6
  rw[`V'];apply `a3y;rcases hb with rfl|rfl
  ·exact H0 _
  ·exact r50 Y
 ·skip;let#[h',g',d',a2,Z]:=s'
  obtain rfl:g'=`EY:=m.gens;obtain rfl:d'=`S8:=m.drawn;obtain rfl:Z=s.os:=m.os;have ea:O=`ap4:=by
   apply Array.ext
   ·rw[U.1,Array.size_reverse]
   ·intro i h1 h2
    have q:its[`M1 - 1 - i]?=`c O[i]:=U.2 i O[i] (X0 h1);have hi:i<`M1:=`cu U.1 h1
    rw[Array.getElem?_eq_getElem `c_] at q;rw[Array.getElem_reverse];exact(A4 q).symm
  subst ea;have a3:(`ib (revObj l (`V9))).objs.size=`rL:=x9 ..;done;refine h h' a2 c' _ ?_ e λb o eb=>?_
  ·show `Z<=`ap6
   rw[`V'];exact E5 _
  ·have lb:=A6 eb
   refine m.heap b o ?_ (A9 _ (A9 _ eb));simp only[`hq,`te,`tf,not_or];refine#[?_,B5 lb];show b≠`ap6;rw[`V'];exact B5 (r50 lb)
omit z
omit RevL
open X
def Rps.reverse:`lY (`bv->Rps K H B `a3f `af9):=by
 intro z;induction z with
 | nil=>intro _ h;rw[O8] at h;subst h;simp[O8]
 | cons d ds ih=>
  intro _ h
  rw[W5] at h;apply `u1;rw[`eh,`eh];exact `yP (ih h2) h1
section
variable{p:Pos}
def T40:`eu `s4=`c `a3x:=`bc
def Iq0:`a3z:=`bc
def Fj0(hc:`dH)(hl:`a3A)(hs:`a3B)(he:`gL)(hgl:`a3C)(hgs:`a3D)
  (e1:`a3E) (e2:`f3)
  (h1:`l2) (h2:`a3F):
  PE X `a3G (`cS te λv H'=>∃q xs,v=`U q/\SqL X.K H' q xs/\∀l,H' l=`e->Q (`pN) (upd H' l (`a3H))):=by
 apply `bg;refine F2 (ql0 I hgl hl Iq0 ?_ `u `u);refine `a3I;rw[e1];show `TK `aHo `K';refine N2 ?_;refine F2 (ql0 I hgs hs T40 ?_ `u `u);refine N1 ?_ e2 h2;rw[e2];show `TK `vQ `aHp;refine N2 (thn `k' λu s1 hq117=>?_);skip;let#[v,H1,I1,r1,q,xs,ev,hq,k]:=hq117;done;refine Q1 ?_;subst ev;obtain rfl:u=`e1 q:=r1;let#[its,rv,pl,hz]:=I1.list hq;have O:=`qV;refine thn (RevL.X50 (I1.ok.hd hc) `kj (`amY O hz) (Q:=`aAI) (E:=`hW) λh' tk c a ha ga hk=>?_) `a3J
 have hf:H1 a=`e:=`abQ ha;refine#[`a',_,`Sz (a:=a) (o:=`a3H) (t':=tk) hk ha ?_,rfl,k a hf];exact#[`o `lx hz,`ap4,c,rv.reverse,`pD ga]
def R5(hl:`a3A)(hs:`a3B)(he:`c3)(hc:`l4)(hgl:`a3C)(hgs:`a3D)
  (e1:`a3E) (e2:`f3)
  (h1:`l2) (h2:`a3F):
  PDF X `a3G (oA `F0 kh0):=(.mk λB δ=>
 (Fj0 hc hl hs (he B δ) hgl hgs e1 e2 h1 h2).imp fun σ H Q hq118=>by
  apply `b2 hq118
  delta oA z7 v6 at h;cases e3:`au with
  | none=>rw[e3] at h;cases h
  | some x=>
   rw[e3] at h;simp only[`h,`ls] at h;cases x<;>simp only[kh0] at h<;>try cases h
   refine#[_,en,e3,λv H1 s1 r=>?_];rw[w60] at r;let#[q,xs,rfl,hq,rr]:=r;exact#[q,xs,rfl,`q!,`aHl rr.reverse.mono])
omit z
def sz0[`l5]:∀{ks:`nA} {ds:`k} {xs:`S} {q:κ},`bv->(∀d,`a3K->∃x,`ai7=`c8/\`Fe)/\`a3L:=by
 intro z;induction z with
 | nil=>
  intro ds xs q h
  refine#[λd e=>?_,`IM]
  ·delta si0 at e;cases e
  ·rfl
 | cons k ks ih=>
  intro z1;cases z1 with
  | nil=>
   intro xs q h
   rw[O8] at h;subst h;refine#[λd e=>?_,`iO]
   ·delta si0 at e;cases e
   ·simp at z
  | cons d ds=>
   intro xs q h
   skip;rw[W5] at h;apply `u1;let#[i1,i2]:=ih (q:=q) h2
   apply `AC
   ·subst e
    done;refine#[`a3M,`IM]
    ·delta si0 at e'
     rw[`a_] at e';cases e';exact#[x,l40 rfl,h1]
    ·rw[`dU,l40 rfl]
     delta um0;simp
   ·done;refine#[`a3M,`iO]
    ·delta si0 at e'
     rw[`fq] at e';rw[`dU,mv0 e];exact i1 d' e'
    ·rw[`dU,mv0 e,i2 `a_i]
     delta um0;simp[e]
theorem Sz0[`l5]:∀{ks:`nA} {xs:`S} {q:κ},`xy->((`aaV).any λkv=>`X (kv.1=q))=`qb
 | [],_,_,_=>rfl
 | `n2,[],_,h=>`amd
 | `n2,x::xs,q,h=>by
  rw[`dU,`nW,Sz0 `nc];rfl
def kv0[`l5]{ks:`nA}{q:κ}(h:`xy):∃ys,putK `Cz q v=`aMX/\(`z `ah2)=`d5/\(`a0o->ys=`V!)/\(`qb=`l->ys=`abL):=by
 delta putK uh0;rw[Sz0 h];cases hk:`qb with
 | true=>
  rw[`a_,`a_];refine#[`V!,?_,`a3N,`gK,λz=>by cases z];clear hk
  induction ks generalizing xs with
  | nil=>rfl
  | cons k ks ih=>
   cases xs with
   | nil=>simp at h
   | cons x xs=>
    rw[`dU,`av,`av,`dU,`aps]
    by_cases e:k=q<;>simp[e]
 | false=>
  rw[`hP,`hP];refine#[`abL,?_,`a3N,`aYg,`gK];rw[List.zip_append h];rfl
theorem i70[`l5]{q:κ}{d:D}(hv:`cz):`a3O (`bv->`H8 `a3P `V!)
 | [],_,_,_=>by simp[O8]
 | `n2,[],xs,h=>by rw[O8] at h;subst h;simp[O8]
 | `n2,d'::ds,xs,h=>by
  rw[W5] at h;apply `u1;rw[`dU,`dU,`av,`av,W5];refine`gM ?_ (i70 hv h2)
  apply `AC
  ·simp only[e,`nC];exact hv
  ·apply `lE e;exact h1
section
variable{a:`K}{p:Pos}{ga:`dm}
def qp0{d:D}{k:v80}(h:`MZ=`gF)(r:`cz):v=kV k:=by
 apply `D' d uk0
 ·subst h;rw[zk0] at r;subst r;rfl
 ·subst h;rw[w40] at r;subst r;rfl
def nm0:∀{ds:`k} {ks:`eI} {xs:`S},`Vu=`c ks->`bv->xs=`Iz:=by
 intro z;induction z with
 | nil=>intro ks xs h r;cases h;rw[O8] at r;exact r
 | cons d ds ih=>
  intro ks xs h r
  skip;delta qn0 at h;rw[W5] at r;apply `V?;cases e1:`MZ with
  | none=>rw[e1] at h;cases h
  | some k=>
   cases e2:`Vu with
   | none=>apply `dn;cases h
   | some l=>
    apply `dn;cases h;done;rw[qp0 e1 h1,ih e2 h2];rfl
def Wo0{d:D}{k:`eI}(h:l90 d=`gF)(r:`cz):∃b,v=`wY/\`IA:=by
 cases d<;>simp only[l90] at h<;>try cases h
 rw[wu0] at r;let#[a,xs,rfl,q,rr]:=r;exact#[a,rfl,`cu (nm0 h rr) q.2]
open T in
def R0(hu:`fr)(ha:`cC)(hb:`cU)(hs:`Wa):`l1 `uN yt0:=(.mk λB δ=>(fl0 hu `bD `fo hs).imp fun σ H Q hq119=>by
 apply `b2 hq119
 delta o2 at h;cases e1:`df with
 | none=>rw[e1] at h;cases h
 | some x=>
  cases e2:`dy with
  | none=>apply `dn;cases h
  | some y=>
   apply `dn;apply `f1;apply `Ag;cases x<;>simp only[yt0] at h<;>try cases h
   rename_i ks ds;have r1:=`r?;cases ks with
   | inl ks=>
    apply `AD;cases e3:uk0 y with
    | none=>rw[e3] at h;cases h
    | some q=>
     rw[e3] at h;apply `f1;rw[fe0] at r1;apply `a3Q;apply `a3R;have:=`Wb;subst this;exact#[p,v,rfl,`cu hv `ap7,`Wc]
   | inr ks=>
    apply `AD;cases e3:l90 y with
    | none=>rw[e3] at h;cases h
    | some q=>
     rw[e3] at h;apply `f1;rw[ay0] at r1;apply `a3Q;apply `a3R;let#[b,rfl,hb]:=Wo0 e3 r2;exact#[p,v,rfl,`cu hv `ap8,`Wc])
open T in
def z50(hu:`fr)(ha:`cC)(hb:`cU)(hm:`G (`CL .In b=`l) Al):`Ie (`aaC .In) (o2 ga gb `aLd):=(.mk λB δ=>(Bt0 (Cg0 hu `bD `fo) hm).imp fun σ H Q hq120=>by
 apply `n0 hq120
 delta ob o2 at h;cases e1:`df with
 | none=>rw[e1] at h;cases h
 | some x=>
  cases e2:`dy with
  | none=>apply `dn;cases h
  | some y=>
   apply `dn;apply `f1;apply `Ag;apply `a3S
   rename_i ks ds;cases ks with
   | inl ks=>
    apply `AD;cases e3:uk0 x with
    | none=>rw[e3] at h;cases h
    | some q=>
     rw[e3] at h;apply `a3T;cases h;rw[fe0] at r2;apply `Wd;have:=qp0 e3 r1;subst this;refine#[p,_,rfl,`ap7,_,rfl,?_];rw[`We];exact `a3U
   | inr ks=>
    apply `AD;cases e3:l90 x with
    | none=>rw[e3] at h;cases h
    | some q=>
     rw[e3] at h;apply `a3T;cases h;rw[ay0] at r2;apply `Wd;let#[b,rfl,hb]:=Wo0 e3 `xk;refine#[p,_,rfl,`ap8,_,rfl,?_];rw[`We];exact `a3U)
def M3(i:Nat)(hu:`fr)(h:`c3)(hN:`c4)(hv:`dT)(hd:`aL)(hcd:`di)
  (ha:`G (∀v,`a3V=(do
   let ov ← `a3W
   let iv ← `Wf
   `Hl
   `Hm
   `Hn)) Ad):PTG X `af! (`Gs i g):=(.mk λH₀ B₀ d δ pins s σ H v u Q I r hq121=>by
 skip;let#[δ',en,e1,k]:=hq121
 delta putAt at e1;apply `VV;cases e2:`PT with
 | none=>apply `ac;cases e1
 | some pr=>
  cases e3:`au with
  | none=>apply `Av;cases e1
  | some dk=>
   apply `Av;apply `fp;cases e4:`Dp with
   | none=>rw[e4] at e1;cases e1
   | some q=>
    rw[e4] at e1;apply `fp;split at e1
    ·rename_i hz
     cases e1;have hi:=Sg0 e2;let#[a,O,hb,xs,hx,hl,rx]:=`pO;have hl:`ap9=`ax:=hl;done;apply `a3X;have:=qp0 e4 r1;subst this;apply `a3Y;apply `a3Z;have rr:Rps X.K H1 B `adh ys:=by
      delta ui0;cases hk:`ags with
      | true=>rw[`a_,Y hk];exact `a3_
      | false=>rw[`hP,Z hk];exact `a30
     rw[hy];have U:`VT `a31 `ap':=`af2 hi O `a32;apply `a33
    ·cases e1)
omit z
section
variable{a:`K}{p:Pos}{ga:`dm}
def W30{sc scope:`c1}{elt iter tg:`K}{ifs:`bB}{N N':`i}{n:Nat}{caps:`j}{gi:`hM}{idx:`j}{f:`a9}{gt:`i_}{ge:`dm}
  (ok:`u4) (hidx:∀j∈idx,j<n) (hi:`l_)
  (hg:`l0) (ht:`Iq) (he:`Al)
  (hc:`l4) (hsc:`Ap) (hN:`Aq) (hs:`fX):
  `a_A:=(`aoS U80 `Ar)
def O20{d:D}(h:`ku)(r:`cz):o00 v=`f/\∀e u,`Wg->Rp K H B e u->eqV v u=eqF d e:=by
 apply `apx
 ·rw[w90] at r;subst r
  apply `Wh;apply `Wi
 ·rw[xn0] at r;subst r
  apply `Wh;apply `Wi
 ·rw[zk0] at r;subst r
  apply `Wh;apply `Wi
 ·rw[w40] at r;subst r
  apply `Wh;apply `Wi
theorem Nr0{d:D}(h:`ku)(r:`cz):`lY (`a34->`bv->`Ub/\inV v xs=ds.any λy=>eqF y d)
 | [],_,_,rs=>by rw[O8] at rs;subst rs;exact`nT
 | e::ds,_,ha,rs=>by
  skip;rw[W5] at rs;let#[x,t,rfl,r1,r2]:=rs;rw[`lU,`b5] at ha;let#[i1,i2]:=Nr0 h r ha.2 r2;let#[f1,f2]:=O20 ha.1 r1;done;refine#[by rw[`lU,f1,i1];rfl,?_];delta inV at i2 ⊢;rw[`nW,`nW,f2 d v h r,i2]
def o6(neg:`B):Op2 K (rIn K neg) (ta0 neg):=by
 apply `n1;have O:∀(ds:`k) (xs:`S),`bv->`cH dx=`f/\`a34->d=`PU (ds.any λy=>eqF y dx)->∀p,y=`g_->`aV7->rIn K neg x y H Q:=by
  intro ds xs rs hf hd p hp hq;let#[f1,f2]:=Nr0 hf.1 rx hf.2 rs;refine#[p,xs,hp,hq,(O20 hf.1 rx).1,f1,`Vm];rw[hd,xn0,f2];cases neg<;>simp
 cases dy<;>simp only[ta0] at h<;>try cases h
 ·split at h
  ·rename_i hf
   have hd:=`a35;rw[wu0] at ry;let#[p,xs,e,q,rs]:=ry;exact O _ xs rs hf hd p e (`ao4)
  ·cases h
 ·split at h
  ·rename_i hf
   have hd:=`a35;rw[w60] at ry;let#[p,xs,e,q,rs]:=ry;exact O _ xs rs hf hd p e (`ao3)
  ·cases h
omit z
omit DL
namespace ZipL
open V
abbrev IsZ(h:`D)(z TI TO a:`d)(f:`B):Prop:=
 `f! z=`aBA `aBU (`o6 ⟨`qW a,`dJ f,`aeI,`U TI,`U TO⟩)
section
variable{w:`M}{s:`v}
def alive{o:Obj}{Q:`aj7->`ej}(ho:`FA)(h:Q (`aG) s):`cL (`a36 a) s:=by
 have h':Q (`LY) s:=`o ho h
 exact λ_ _ _=>h'
def Wd0{TI TO:`d}{f:`B}{Q:`ajN}(hz:`IN)(ha:`IO)
  (hQ:∀h',`ap!->`E0 z->Q `l `kX):`cL (`aMO) s:=by
 delta Builtin.SmallTypes.ownedTupleIsFree;refine A0 (`Sb (`qW a));show `dN (`a36 ((a:Int).toNat)>>=_) _;rw[`b?];apply `lI alive ha;simp only[Option.isNone_some,`uP,`kK];refine A0 (`Sb (`dJ f));cases f with
 | true=>
  rw[`Q (show ¬((`Ui != `Ui)=`f) from C0)];exact A2 (hQ _ hz (Heap.SameBut.refl _ _))
 | false=>
  rw[`I (`a0 ((`Dg `l != `Ui)=`f))];exact A0 (wpAny_setField_rec hz `a? λh3 U O=>A2 (hQ h3 U O))
def K20{TI TO a:`d}{f:`B}{oa:Obj}{k1 k2:Nat}{xs ys:`a8}{x y:`A}{Q:`ap}(D:`n5)
  (hz:`IN) (ha:`IO) (hTI:`Wj)
  (h1:`Wk) (h2:`Wl) (hl1:`IP) (hl2:`IQ) (hx:`a37) (hy:`a38)
  (hQ:∀h',`ap!->`a39->`a3'->`ap?->`tT=`rL ->
   `Wm->Q `j0 `kX):
  `TH `a3! λfin s'=>∃v,fin=`a3?/\Q v s':=by
 apply `a4a;apply `a4b;apply `a4c;apply `a4d;refine `a4e;apply `a4f;refine A0 (Wd0 hz ha λh₁ a4 O=>?_);apply `lE `uP;refine `sF;apply `a4g;apply `Wn;show `a4h;refine A0 (A90 `aqa `aqb hx λh₂ a5 U=>`k3);refine `k3;apply `Wn;show `a4i;refine A0 (A90 `a4j `a4k hy λh₄ a2 Z=>`k3);refine A2 `L';refine A0 (wpAny_newTuple (hsz:=`aaQ) ?_);have Y:`a4l=`Z:=by rw[Z.1,U.1,O.1]
 have a3:`Mf h₄ `f:=`aqc _ _ D.i2z.symm (`Gz _ _ D.i1z.symm a4);have a1:∀c o,`M3->`ad8->`ad9->`aEX->h₄.get? c=`aG:=λc o c1 c3 c4 e=>`aqc _ _ c4 (`aqd `Gz e)
 refine A2 #[_,rfl,?_];show Q (`U `a4l) _;have hq:=hQ (h₄.push (`tw ⟨x,y⟩)) (A9 _ a3) ((a5.extBut `aqc D.i12).at `a4m) (a2.at `a4m)
  (`cu Y `hn) (by rw[`V',Y]) λc o c1 c3 c4 e=>A9 _ (a1 c o c1 c3 c4 e)
 rw[Y];exact hq
def Hc0{TI TO a:`d}{f:`B}{oa:Obj}{k1 k2:Nat}{xs ys:`a8}{Q:`un}(hh:`kg)(D:`n5)
  (hz:`IN) (ha:`IO) (hTI:`Wj)
  (h1:`Wk) (h2:`Wl) (hl1:`IP) (hl2:`IQ) (hend:`a4n)
  (hE:∀h' e,`Wm->(∃o,`id e=`aG/\`oC=`bj `a4o)->E `iz `kX):
  `cL `a3! s:=by
 apply `a4a;apply `a4b;apply `a4c;apply `a4d;refine `a4e;apply `a4f;refine A0 (Wd0 hz ha λh₁ Z O=>?_);apply `lE `uP;refine `sF;apply `a4g;apply `Wn;show `a4h;cases hx:`af? with
 | none=>
  refine A0 (`a4p hh `aqa `aqb hx λh₂ e U he=>?_);exact hE h₂ e (λc o c1 c3 _ x=>`aqd U x) he
 | some x=>
  have hy:`aHv:=by rcases hend with h|h;rw[hx] at h;cases h;exact h
  refine A0 (A90 `aqa `aqb hx λh₂ a1 U=>`k3);refine `k3;apply `Wn;show `a4i;refine A0 (`a4p hh `a4j `a4k hy λh₄ e Y he=>?_);exact hE h₄ e (λc o c1 c3 c4 x=>Y _ _ c4 (`aqd `Gz x)) he
def Qs0{TI TO a:`d}{f:`B}{oa:Obj}{k1 k2:Nat}{xs ys:`a8}{x y:`A}{Q:`qL}(D:`n5)
  (hz:`IN) (ha:`IO) (hTI:`Wj)
  (h1:`Wk) (h2:`Wl) (hl1:`IP) (hl2:`IQ) (hx:`a37) (hy:`a38)
  (hQ:∀h',`ap!->`a39->`a3'->`ap?->`tT=`rL ->
   `Wm->`a4q):
  `Wo:=by
 have hT:`Wp:= `aqe;delta pyNext;exact A0 (`a4r (b4 (name:=`a4s) hT l9
  (L8 l9 hT `a4t
   (K20 D hz ha hTI h1 h2 hl1 hl2 hx hy λh' a1 a3 a4 a5 a6 a7=>A2 (hQ h' a1 a3 a4 a5 a6 a7)) `a4u)))
def ag0{TI TO a:`d}{f:`B}{oa:Obj}{k1 k2:Nat}{xs ys:`a8}{Q:`qL}(hh:`kg)(D:`n5)
  (hz:`IN) (ha:`IO) (hTI:`Wj)
  (h1:`Wk) (h2:`Wl) (hl1:`IP) (hl2:`IQ) (hend:`a4n)
  (hQ:∀h',`Wm->`a4v):`Wo:=by
 have hT:`Wp:= `aqe;delta pyNext;refine A0 (`a4r (b4 (name:=`a4s) hT l9
  (L8 l9 hT `a4t (Hc0 hh D hz ha hTI h1 h2 hl1 hl2 hend λh' e hk he=>?_) `a4u)))
 let#[o,ho,hc]:=he;refine A0 (x3 (T:= `a4o) (b:=`f) #[o,ho,hc] isSubtype_stop ?_);exact A2 (hQ _ hk)
omit z
structure ZSt(h:`D)(z TI TO i1 i2 l1 l2 S:`d)(xs ys:`a8)(i:Nat):Prop where
 own:(i=0/\IsZip h z TI TO `aY/\∃p q,`Dn h TO p q)∨∃a f oa,`Mf h f/\`je=`c oa/\a≠z/\a≠i1/\a≠i2/\a≠S
 hTI:`Dn h TI `ab1 `ab2
 h1:`ae_ i1 l1 i
 h2:`ae_ i2 l2 i
 hl1:h.IsList l1 xs
 hl2:h.IsList l2 ys
structure ZLow(z TI TO i1 i2 l1 l2 S:`d):Prop where
 z:z<S
 TI:TI<S
 TO:TO<S
 i1:i1<S
 i2:i2<S
 l1:l1<S
 l2:l2<S
structure ZG(xs ys:`a8)(S:`d)(h:`D)(as:`aK):Prop where
 rise:as.Pairwise (·<·)
 above:∀a∈as,S<a
 pairs:`a4w h
section
variable{w:`M}{s:`v}{TI TO S:`d}{xs:`a8}{h:`D}
def ZG.there(g:`a4x)(ha:a∈as):a<`dB:=by
 let#[j,hj]:=B00.mp ha;let#[_,_,_,_,e]:=`a4y;exact `ew
def ZSt.keep(x:`a4z)(L:`a4A)(hk:∀b o,b≠S->`P7):`Fv h' i:=by
 refine#[?_,hk _ _ (B5 L.TI) x.hTI,`Wq x.h1.at L.i1,`Wq x.h2.at L.i2,`Wq x.hl1.at L.l1,`Wq x.hl2.at L.l2];skip;rcases x.own with⟨e,hz,p,q,hp⟩|⟨a,f,oa,hz,ha,n1,n2,n3,n4⟩
 ·done;exact `m #[e,`a4B,p,q,hk _ _ (B5 L.TO) hp]
 ·done;exact `p #[a,f,oa,`a4B,hk _ _ n4 ha,n1,n2,n3,n4]
def ye1{x y:`A}{Q:`qL}(D:`n5)(st:`a4C)(hS:S<`Z)(hx:`p5)(hy:ys[i]?=`gZ)
  (hQ:∀h',`Fv h' `eA->`ap?->`a4D->`a4q):
  `Wo:=by
 skip;let#[o1,e1,_]:=id st.h1;let#[o2,e2,_]:=id st.h2;apply `a4E
 ·done;refine wpAny_pyNext_zip_item D hz `AE hp st.h1 st.h2 `Wr `Ws hx hy λh' a1 a2 a3 a4 a5 a6 hk=>hQ h' #[`p #[_,`l,_,a1,a5,C8 (A6 hz),C8 (A6 e1),C8 (A6 e2),C8 hS],hk _ _ D.TIz D.TITO D.TIi1 D.TIi2 `AE,a3,a4,
   st.hl1.at λo e=>hk _ o D.l1z D.l1TO D.l1i1 D.l1i2 e,st.hl2.at λo e=>hk _ o D.l2z D.l2TO `aix D.l2i2 e] a5 hk
 ·done;refine Qs0 D hz ha `AE st.h1 st.h2 `Wr `Ws hx hy λh' a1 a3 a4 a5 a6 hk=>hQ h' #[`p #[a,`f,oa,a1,hk _ _ n1 n2 n3 ha,n1,n2,n3,n4],hk _ _ D.TIz D.TIi1 D.TIi2 `AE,a3,a4,
   st.hl1.at λo e=>hk _ o D.l1z D.l1i1 D.l1i2 e,st.hl2.at λo e=>hk _ o D.l2z `aix D.l2i2 e] a5 `a4F
def zo1{Q:`qL}(hh:`kg)(D:`n5)(st:`a4C)(hend:`a4G)
  (hQ:∀h',`a4D->`a4v):`Wo:=by
 skip;apply `a4E
 ·done;exact wpAny_pyNext_zip_end hh D hz `AE hp st.h1 st.h2 `Wr `Ws hend hQ
 ·done;exact ag0 hh D hz ha `AE st.h1 st.h2 `Wr `Ws hend λh' hk=>hQ h' `a4F
omit z
section
variable{w:`M}{s:`v}{R:`ka}{TI TO S lo:`d}{xs:`a8}{h₁:`D}
def Av0(hh:`kg)(D:`n5)(L:`a4A)(hlo:`aqf)(hn:`Wt)(res:`A)
  (hR:∀h' tk acc c as,(∀b o,b<lo->`anG->`sG)->`id S=`a4H->`aqg->ZG xs ys S h' as ->
   acc.toList=`tv->`qQ res `uD):
  ∀(k i:Nat) (h:`D) (tk c:Nat) (acc:`a8) (as:`aK),`Do - i=k->i<=`Do->`a4z->(∀b o,b<lo->`anG->`oL) ->
   `f! S=`a4H->acc.toList=`tv->`fF=i->`a4x ->
   `qI (`b6 `a4I #[[`U S,`v',res],[]]) `aqh:=by
 have c1:=hlo.1;have c0:lo<S:=S2 hlo.1 L.z;have lk:`a4J (b<lo):=λh h' hk b o hb e=>
  hk b o (`Wu hlo.1) (`Wu hlo.2.1) (`Wu hlo.2.2.1) (`Wu hlo.2.2.2) e
 have Z:`a4J (S<=b):=λh h' hk b o hb e=>
  hk b o (`Hp L.z) (`Hp L.TO) (`Hp L.i1) (`Hp L.i2) e
 intro k
 induction k with
 | zero=>
  apply `a4K;have b2:`a4G:=by
   rcases `amB `CJ `LX with q|q
   ·exact `m (sc0 `n)
   ·exact `p (sc0 `n)
  refine `a4L;rw[`u6 m4 _];show `a4M;refine A0 (zo1 (s:=`aqh) (A:=`g1) hh D a4 b2 λh' he=>?_);refine A2 (hR h' tk acc c as (λb o h1 e=>`a4N he) (Z h h' he S _ `bQ hS) `n #[hG.rise,`Wv,`a4O] U);let#[x,y,e1,e2,e3]:=hG.pairs j a hj;exact#[x,y,e1,e2,Z h h' he a _ (M0 (`Wv a (D3 hj))) e3]
 | succ k ih=>
  apply `a4K;have a3:i<`Do:=`E
  have a6:i<`CJ:=C1 a3 (`a4P ..);have a7:i<`LX:=C1 a3 (a30 ..);have a9:acc.size=i:=by rw[← `Ti,U,`T,Y]
  have a2:S<`dB:=A6 hS;refine `a4L;rw[`u6 m4 _];show `a4M;refine A0 (ye1 (s:=`aqh) D a4 a2 (X0 a6) (X0 a7) λh' b3 ht a1=>?_);dsimp only at ht a1 ⊢;have b1:=Z h h' a1 S _ `bQ hS;have up:∀b o,b≠S->`sG->`z5 (h'.update S (`tU `a4Q)):=`a3r
  show `j1 (`V8 S `a4Q>>=_) _;refine `sF;refine c5 b1 rfl (A2 #[N4 m4 _,ih `eA _ tk _ (`a4R) `a4S `n a3 (b3.keep L up)
   (λb o h1 e=>up b o (B5 (N3 h1 c0)) (`a4N a1)) (E4 _ b1 rfl) (by rw[Array.toList_push,U,`aQ];rfl) (`b9 `W Y) #[?_,?_,?_]]) (`ci a9) (by show (`a4R).size<=`R+1;rw[Array.size_push,a9];lia)
  ·refine List.pairwise_append.mpr #[hG.rise,List.pairwise_singleton _ _,λa ha b hb=>?_]
   rw[`Ww];exact hG.there ha
  ·intro a ha
   rcases `d9 ha with ha|ha
   ·exact `Wv a ha
   ·rw[`gs ha];exact a2
  ·intro j b hj
   rcases Nat.lt_trichotomy j `fF with h1|h1|h1
   ·rw[`fa h1] at hj
    let#[x',y',e1,e2,e3]:=hG.pairs j b hj;have hb:=`Wv b (D3 hj);exact#[x',y',e1,e2,up b _ (C8 hb) (Z h h' a1 b _ (M0 hb) e3)]
   ·subst h1
    have hb:`dB=b:=`H0
    subst hb;exact#[_,_,`o Y (X0 a6),`o Y (X0 a7),up _ _ (C8 a2) ht]
   ·have a5:`a4S[j]?=`e:=`aBR (`F_)
    rw[a5] at hj;cases hj
omit z
def Q40:`lq `IR "__len__"=`MG:=`zC
def Tk0:`lq `IR `af6=`MG:=`zC
section
variable{w:`M}{s:`v}{TI TO lo:`d}{xs:`a8}
def El0(xs ys:`a8)(lo:`d)(s:`v)(h':`D)(as:`aK):Prop:=
 (`Fy (b<lo))/\`aqg/\ZG xs ys `Z h' as
def Tg0{Q:`N->`ej}(hh:`kg)(D:`n5)(hlo:`aqf)
  (st:`a4T) (hn:`Wt) (L:`a4U)
  (hT:`Wp) (hI:`a4V)
  (hQ:`a4W (Q (`tv) `uD)):`cL (collect `m_) s:=by
 have Y:`Z≠z:=C8 L.z;let#[f0,hI]:=hI;delta collect;refine A0 (wpAny_runValue (E8 F.entry_proto_collect ?_));rw[`u6 F.plain_proto_collect _];show `j1 (`anF>>=λl=>again (`b6 "list.__iadd__" #[[l,`v'],[]])) s;refine A0 (K0 ?_);refine A2 #[N4 `a4X _,E8 F.entry_list_iadd ?_];rw[`u6 `a4X _];have U:(`age).get? `Z=`c `NB:=`hn;have a1:=A9 `NB hI;have O:Shared.TypeIs `a4Y `m_ `ps:= #[_,a1,rfl];show `j1 (`af7 `j0 `m_ `j0) _;apply `a3j;apply `lI L6 O;have h1:`V7 `j0 `m_=`l:=by simp[`V7,Y]
 have h2:(`a4Z==`a3k)=`l:=`aV
 have h3:(`a4Z==`a3l)=`l:=`aV
 simp only[h1,h2,h3,`SD,`uP,`kK];refine A0 (wpAny_pyIter_zip (s:=`a4Y) a1 ?_);refine `aMP;apply `a3m;apply `iR E6 O Q40;show `j1 (`a3n z) _;apply `iR E6 O Tk0;refine `k3;show `aN _ `g1 (rule "list.extend.makes-room">>=λ_=>Builtin.List.listTouch `j0>>=λ_=>
  again (`b6 `a4I #[[`mr,`v',`mr],[]])) _ _ _
 refine `aqi;refine `sF;show `j1 (`V8 `Z (`agc `aY)>>=λ_=>`V8 `Z `aHx) _;apply `iR c5 U rfl;have a2:=E4 `a4_ U rfl;refine c5 a2 rfl ?_;have a4:=E4 `a40 a2 rfl;have oth:∀b o,b≠`Z->`hp ->
   `z5 (((`age).update `Z `a4_).update `Z `a40):=
  `sn (`af8 (`af8 (`o8)))
 refine A2 #[N4 m4 _,Av0 (s:=s) (lo:=lo) (h₁:=`ay) hh D L hlo hn _ (λh' tk a5 c as hk Z hl hG a3=>?_) _ 0 _ `cK _ ⟨⟩ [] rfl `yZ
  ((st _ Y (C8 L.i1) (C8 L.i2)).keep L oth) (`sn (oth b o `aln e)) a4 rfl rfl #[`aWH,(λ_ ha=>nomatch ha),(λj a hj=>by simp at hj)]]
 show `aN _ A (load `Z>>=_) _ _ _;apply `lI `aSg Z;refine `k3;have:=hQ h' tk as #[hk,hl,hG] (A6 Z);rw[← a3] at this;exact `F
omit z
section
variable{w:`M}{s:`v}{TI TO lo:`d}{xs:`a8}
def gr0{Q₁:`ap}(hh:`kg)(D:`n5)(hlo:`aqf)
  (st:`a4T) (hn:`Wt) (L:`a4U)
  (hT:`Wp) (hI:`a4V)
  (h:`a4W (Q₁ (`U `tT) (`h_ (`am? `a41) tk))):
  `oE `dt A (`nk (`b6 `aqj) `aqk) (wants Q₁ E) s:=by
 refine `aPm;show `j1 (do `GX `aqj `aqk;again (`b6 `aqj `aqk)) s;refine A0 (wpAny_of_eq (F.newCall_tuple_1 _) (A2 #[N4 `a42 _,E8 F.entry_tuple_new ?_]));rw[`u6 `a42 _];have Z:=sub_tuple_self;have Y:=init_tuple_lookup;have a1:=madeHere_tuple;have U:A.in1.handled=`e:=`ap5
 wp_walk using L6 hT,Tg0 (lo:=lo) U D hlo st hn L hT hI
 intro h' tk as hz O;show `dN (`aDb `aHy>>=λv=>ret v) _;delta Builtin.Tuple.tupleExact;refine A0 (K0 ?_ (by show (`tv).toArray.size<=`R;rw[`b8,`T,hz.2.1];exact hn));exact A2 (h h' tk as hz O)
def Od0{Q:`ap}(hh:`kg)(hl1:`IP)(hl2:`IQ)(hn:`Wt)
  (h:∀(h':`D) (tk:Nat) (as:`aK) (t:`d),(∀b o,`aa4)->`aqg->(∀a∈as,`S2/\a<t)->`uY->`Z<=t ->
   (`a4w h')->`id t=`c `a41->Q `p9 `uD):
  `a3w (`eH `IR [`U l1,`U l2]) `Qr:=by
 have a1:l1<`Z:=`a43 hl1
 have a2:l2<`Z:=`a43 hl2
 refine call_zip_2 hl1 hl2 λh1 hz hTI a5 Y a3 a4 hk=>?_
 have U:h1.IsList l1 xs:=hl1.at `a44
 have O:h1.IsList l2 ys:=hl2.at `a44
 have H:∀k,k<5->`Z+k<h1.objs.size:=λk hk=>`o a4 (Nat.add_lt_add_left hk _)
 refine `a3v (Q₁:=λobj s₁=>s₁.TypeIs obj `eX/\Q obj `eF) F.called_tuple (F.typeCall_tuple_1 _) F.entry_object_init
  (gr0 (lo:=`Z) (xs:=xs) (ys:=ys) (`ap5) (zipApart_new a1 a2) #[d4 _ 4,d4 _ 3,`gW,d4 _ 1] (λS n1 n2 n3=>#[`m #[rfl,hz,_,_,a5],hTI,Y,a3,U,O]) hn
   #[H 4 `u,H 2 `u,H 3 `u,H 0 `u,H 1 `u,N3 a1 `Wx,N3 a2 `Wx]
   `aqe `a45 λh' tk as ze Z=>#[#[_,`hn,rfl],?_]) λobj s₁ h₁=>?_
 ·let#[k1,k2,g]:=ze
  refine h (`am? _) tk as `tT (`kW (A9 _ (k1 b o `C6 (hk b o e)))) k2 (λa ha=>#[?_,g.there ha]) (g.rise.imp λh=>B5 h) ?_ (`a4O) (`hn)
  ·exact M0 (N3 `Wx (g.above a ha))
  ·exact M0 (N3 `Wx Z)
  ·let#[x,y,e1,e2,e3]:=`a4y
   exact#[x,y,e1,e2,A9 _ e3]
 ·exact#[h₁.1,F.args_object_init_2 obj _,object_init_meets F.called_tuple.init.lookup F.called_tuple.made `u `m5 w `g1 _ `eF #[h₁.1,rfl,h₁.2]]
omit z
omit ZipL
open Y
def oy0(H:Hp):`AF->Hp
 | []=>H
 | p::l=>upd `Fw p.1 p.2
def di0{b:`d}:∀{l:`AF},(∀p∈l,p.1≠b)->`aql=H b:=by
 intro z;induction z with
 | nil=>intro _;exact rfl
 | cons p l ih=>
  intro h
  show `a46=_;rw[Y4 (B0 (h p A7)),`a47]
def gx0{b:`d}{u:HO}:∀{l:`AF},`aql=`bC->(∃p∈l,p.1=b/\p.2=u)∨`Lx:=by
 intro z;induction z with
 | nil=>intro e;exact `p e
 | cons p l ih=>
  intro e
  by_cases h:b=p.1
  ·subst h
   have e':upd `Fw p.1 p.2 p.1=`bC:=e;rw[Y7] at e';exact `m #[p,A7,rfl,A4 e']
  ·have e':`a46=`bC:=e
   rw[Y4 h] at e';rcases ih e' with⟨q,hq,x⟩|x
   ·exact `m #[q,B3 _ hq,x]
   ·exact `qR
def c40:∀{l:`AF},(`cY `agg).Nodup->∀p∈l,oy0 H l p.1=`yw:=by
 intro z;induction z with
 | nil=>intro _ p h;exact nomatch h
 | cons q l ih=>
  intro n p h
  rw[`av,`aqm] at n;show upd `Fw q.1 q.2 p.1=_;apply `aqn
  ·rw[Y7]
  ·rw[Y4 (λz=>n.1 (`cu z (X1 h))),ih n.2 p h]
section
variable{s:`v}
def Inv.laidL{l:`AF}{t':Nat}(I:`C)(k:`akU)
  (hl:∀p∈l,`Z<=p.1/\∃xs,p.2=`g9/\`Ha H p.1 `v1):`br `Fw `pK:=by
 have O:∀b,b<`Z->`aql=H b:=λb hb=>di0 λp hp z=>by
  have:=(hl p hp).1;apply `aT z;exact D9 _ (C1 hb `F)
 refine I.un #[`aQp,`aQq,`akB (O b (A6 q)),`aQr,`G8 `a48,
  λb u xs q=>`a48,`akC `aHz] `akT
 skip;rcases gx0 e with⟨p,hp,rfl,rfl⟩|e'
 ·let#[_,xs,ex,ok]:=hl p hp
  done;rw[ex];exact ok
 ·done;exact(`b1 b u e').stay `aQk (λc q=>`aqo) (λc xs q=>`aqo) λc ob u' q=>`aqo
omit z
def V40(X:Cx)(f1 f2:`A)(r:`ms):Prop:=
 ∀(pins:`az) (s:`v) (σ:St) (H:Hp) (xs:`S) (us:`N) (Q:VK),`C->`ea->`Tr ->
  `de (`eH f2 us) (λv s1=>`uC (`eH f1 [v]) `hu s1)
section
variable{p:Pos}{x1:Str}{T1 T2:`bE}{t:TA}
def Pr0(hc:`a49)(hg1:Gl X x1)(hg2:Gl X x2)(hm1:`a4')(hm2:`a4!)(hv1:`a4?)(hv2:`a5a)(ha:`q2)
  (hn1:`a5b) (hd1:`a5c) (hn2:`a5d) (hd2:`a5e)
  (e1:`a5f) (h1:`l2)
  (he:`dk) (hpl:`a5g):
  PE X `a5h (tCB r t):=by
 apply `bg;refine F2 (ql0 I hg1 hm1 hv1 ?_ hn1 hd1);refine `a3I;rw[e1];show `TK `aHC `K';refine N2 ?_;refine F2 (ql0 I hg2 hm2 hv2 ?_ hn2 hd2);refine N1 (thn (ha pos2 `t s σ H _ I h) λus s1 hq122=>?_) he hpl;apply `Tp hq122;exact thn (`aMw) `a3J
omit z
omit L2
open X
section
variable{p:Pos}{x1:Str}{T1 T2:`bE}{f:`O}
def V0(hc:`a49)(hf:`UY)(hm1:`a4')(hm2:`a4!)(hv1:`a4?)(hv2:`a5a)(ha:`lZ)(hg1:`iu x1)(hg2:`iu x2)
  (hn1:`a5b) (hd1:`a5c) (hn2:`a5d) (hd2:`a5e)
  (e1:`a5f) (h1:`l2)
  (he:`dk) (hpl:`a5g):
  PD X `a5h `Md:=(
 `fm (Pr0 hc hg1 hg2 hm1 hm2 hv1 hv2 `bD hn1 hd1 hn2 hd2 e1 h1 he hpl).imp `a5i)
omit z
open B
def tw0:`aK->`nx->`AF
 | a::as,p::ps=>(a,`af5)::`agf
 | _,_=>[]
def Zt0:∀{as:`aK} {ps:`nx},`fF=`aS->`a5j=as:=by
 intro z;induction z with
 | nil=>
  intro z1;cases z1 with
  | nil=>intro _;exact rfl
  | cons _ _=>intro h;simp at h
 | cons a as ih=>
  intro z1;cases z1 with
  | nil=>intro h;simp at h
  | cons p ps=>
   intro h
   show a::`a5j=_;rw[`aps]
def Yl0:∀{as:`aK} {ps:`nx} {q:`aaP},q∈`agf->∃(j:Nat) (p:V×V),as[j]?=`c q.1/\`a5k/\q.2=`af5:=by
 intro z;induction z with
 | nil=>intro _ q h;simp[tw0] at h
 | cons a as ih=>
  intro z1;cases z1 with
  | nil=>intro q h;simp[tw0] at h
  | cons p ps=>
   intro q h
   apply `aqn
   ·exact#[0,p,rfl,rfl,rfl]
   ·let#[j,p',h1,h2,h3]:=ih h
    exact#[j+1,p',`RQ,`air,h3]
def Jb0(K:`y):`ms:=λvs H Q=>∃q1 q2 xs ys,vs=[`U q1,`U q2]/\`Lu q1/\SqL K H q2 ys /\
 ∀(t:`d) (as:`aK),`aqp->`uY->t∉as->`aqq->(∀a∈as,`zN)->Q `p9 (oy0 H ((t,`H `ML)::`a5l))
def Zz0:∀as:`aK,`bV `ML (`tv):=by
 intro z;induction z with
 | nil=>exact `_
 | cons a as ih=>exact `ai rfl (ih)
def j9(hc:`l4):V40 X `Qr `IR (Jb0 X.K):=by
 apply `all;skip;let#[q1,q2,xs,ys,rfl,h1,h2,k]:=h;cases r with
 | cons r1 r=>
  cases r with
  | cons r2 r=>
   cases r;obtain rfl:=r1;obtain rfl:=r2;let#[us1,v1,p1,z1]:=`g6 h1;let#[us2,v2,p2,z2]:=`g6 h2;have l1:=v1.length;have l2:=v2.length;done;refine ZipL.Od0 `ke `Fm `ao1 (`a2c) λh' tk as t hk hl ha Y ht hp gt=>?_
   rw[`b8,`b8] at hl;have U:`aqp:=`fB `oX hl
   refine#[`Lm,_,I.laidL (t':=tk) hk λp O=>?_,rfl,k t as U Y (λz=>D9 _ (ha t z).2) (`s1 ht) λa h=>`s1 (ha a h).1];rcases `cg O with rfl|O
   ·refine#[ht,_,rfl,?_,`tv,Zz0 as,(`acS gt)]
    rw[`T,hl];lia
   ·skip;let#[j,#[x,y],e1,e2,e3]:=Yl0 O
    let#[u,w,f1,f2,f3]:=hp j p.1 e1;done;have hz:=List.getElem?_zip_eq_some.mp e2;skip;let#[u',g1,g2]:=v1.get hz.1;let#[w',g3,g4]:=v2.get hz.2;have eu:u'=u:=by
     have:us1.toArray[j]?=`c u':=`bA g1
     apply `aT f1;exact`a5m
    have ew:w'=w:=by
     have:us2.toArray[j]?=`c w':=`bA g3
     apply `aT f2;exact`a5m
    subst eu;subst ew;done;exact#[(ha p.1 (D3 e1)).1,_,e3,`AG,[u',w'],`ai g2 (`ai g4 `_),(`acS f3)]
theorem Y00:∀{ds es:`k} {xs ys:`S} {as:`aK},`bv->`aYz->`aqp->(∀p∈`a5l,`OU=`yw/\¬B p.1) ->
  Rps K H B (`a3d λp=>`j4 `aDe) `ML
 | [],es,xs,ys,as,r1,r2,hl,h=>by
  rw[O8] at r1;subst r1;simp at hl;subst hl;simp[O8]
 | `b0,[],xs,ys,as,r1,r2,hl,h=>by
  rw[O8] at r2;subst r2;simp at hl;subst hl;simp[O8]
 | `b0,`B0,xs,ys,as,r1,r2,hl,h=>by
  skip;rw[W5] at r1 r2;let#[x,xs',rfl,a1,a2]:=r1;let#[y,O,rfl,b1,b2]:=r2;cases as with
  | nil=>simp at hl
  | cons a as=>
   have h0:=h (a,`P') A7;done;rw[`dU,`av,`av,W5];refine`gM ?_ (Y00 a2 b2 `Mc λp hp=>h p (B3 _ hp));rw[wu0];apply `l7 a `MM #[h0.2,h0.1];rw[W5];refine`gM a1 ?_;rw[W5];exact`gM b1 `k_
def Tl0:∀{as:`aK} {zs:`nx} {p:`aaP},p∈tw0 as zs->∃xs,p.2=`g9:=by
 intro z;induction z with
 | nil=>intro _ _ h;simp[tw0] at h
 | cons a as ih=>
  intro z1;cases z1 with
  | nil=>intro _ h;simp[tw0] at h
  | cons z zs=>
   intro p h
   delta tw0 at h;apply `aqn
   ·exact`Y
   ·exact ih h
def Ib0{t b:`d}{o:HO}{zs:`nx}{ob:Obj}(ho:`aY_)(h:oy0 H ((t,o)::tw0 as zs) b=`c (`afH)):H b=`c (`afH):=by
 skip;rcases gx0 h with⟨p,hp,_,e⟩|h
 ·rcases `cg hp with rfl|hp
  ·done;exact `J e (ho _ _)
  ·let#[ys,e']:=Tl0 hp
   rw[e] at e';cases e'
 ·done;exact h
open T in
def V4:FnR K (Jb0 K) R30:=by
 intro H B xs ds d Q bad r h k;delta R30 at h;apply `aqr
 rename_i ds es;rw[W5] at r;let#[x,r',rfl,r1,r]:=r;rw[W5] at r;let#[y,r',rfl,r2,r]:=r;rw[O8] at r;subst r;rw[w60] at r1 r2;apply `a5n;let#[q2,ws,rfl,s2,t2]:=r2;refine#[q1,q2,us,ws,rfl,s1.to,s2.to,λt as hl U ht ft fa=>?_];have O:(`a5o)=t::as:=by rw[`av,Zt0 hl]
 have hN:(`a5o).Nodup:=`o O (`DW #[ht,U])
 have fr:∀p∈(`P9),`aF_:=λp hp=>by
  have:p.1∈t::as:=`cu O (X1 hp)
  rcases `cg `F with e|e
  ·rw[e];exact ft
  ·exact fa _ e
 have sm:`cE H (oy0 H (`P9)):=#[λb u e=>by
  rw[di0 λp hp z=>by rw[← z,fr p hp] at e;cases e];exact e,λb ob xs e=>Ib0 (by intro _ _ z;cases z) e]
 have nb:∀p∈(`P9),¬B p.1:=λp hp z=>bad _ z (fr p hp)
 refine k _ _ sm ?_;rw[wu0];refine#[t,`aB5,rfl,#[nb _ A7,c40 hN _ A7],Y00 (t1.same sm) (t2.same sm) hl λp hp=>#[c40 hN p (B3 _ hp),nb p (B3 _ hp)]]
omit DL
open Y
section
variable{s:`v}
def Inv.turnedL(I:`C)(hf:∀b∈fp,`Pm)(k:`a5p):`akQ:=by
 have O:`uu (b∉fp):=λb u e z=>by rw[(hf b z).1] at e;cases e
 refine `S7 (g':=`EY) (d':=`S8) (ch:=fp) (λb hb=>#[(`ta).2.2.2.1,(`ta).2.1,(`ta).2.2.2.2.1,(`ta).2.2.2.2.2]) (`S' `aqs) (`S' #[`G1,`aqs]) `aQY
  (λb o hc e=>#[o,`aqs]) (`akS) (λ_ _ _ e=>e) `aQZ (λm hm=>?_) (`akT) `h4
 ·let#[o,es,ep,ho,r]:=hm
  exact#[o,es,ep,k _ o (λz=>(hf _ z).2.1 rfl) ho,r]
 ·apply `aQ_
  rcases hc with z|z
  ·rw[z];exact O b u e
  ·exact O c _ z
def Inv.turnedNew{t':Nat}{x y:V}{w:`A}(I:`C)(hf:∀b∈fp,`Pm)(rx:`iC)(ry:`apL)(hlt:∀b∈fp,b<`Z)
  (hob:`am!=`c `aHD) (k:`a5p):
  `br `a5q `pK/\∀b∈fp,`a5r:=by
 have ne:∀b∈fp,b≠`Z:=λb hb=>B5 (hlt b hb)
 have fr:∀b∈fp,`a5r:=λb hb=>`Gw (Y4 (ne b hb)) (`ta).1
 have I1:`br `a5q `a5s:=
  `tb (`Gn) `bQ #[`AG,[u,w],`ai rx (`ai ry `_),`akf]
 refine#[Inv.turnedL (s:=`a5s) (t':=t') (fp:=fp) I1 (λb hb=>#[fr b hb,(`ta).2]) λb o hb e=>?_,fr];rcases Heap.get?_push_cases e with⟨rfl,rfl⟩|e
 ·exact hob
 ·exact k b o hb e
omit z
def Ite(K:`y)(a:`d):It:=
 #[`aSi,
   λi H v H'=>∃t x,v=`Lm/\`aqq/\H'=upd H t (`H [`AH,x])/\`aSj,
   `aSk]
theorem N10{P:`aj}{w:`M}{x1}{e:`d}(hei:e≠it):Turn P w K (`TL elts) (Ite K a) [e,it] e
  (λi h=>(∃old,IsEnum h e it i old)/\`aSl) where
 mem:=`bO
 obj:=λi h st c hc=>by
  skip;let#[#[old,he],#[o1,e1,c1,d1]]:=st;apply `aqt;rcases hc with rfl|rfl
  ·done;exact#[_,he,λv z=>nomatch z]
  ·done;exact#[_,e1,λv z=>by rw[d1] at z;cases z]
 keep:=λi h h' st k=>by
  apply `aqu;exact#[#[old,k e `a? _ he],h1.at λo x=>k it `a? o x]
 item:=by
  apply `lO;skip;apply `lP;apply `aqu;apply `alJ;apply `a5t;apply `alK;done;refine wpAny_pyNext_enum_item he h1 `Fm (x:=u) `alL hei λh' a1 a2 a3 a4 hk=>?_
  refine`qZ (wpAny_letOwnedTupleGo_enum (s:=`Um) a1 λO b1 hs=>?_);have le:=A6 he;let#[o1,e1,_]:=id h1;have l1:=A6 e1;let#[I1,fr]:=I.turnedNew (h':=O) (t':=`wb) (fp:=[e,it]) (x:=`AH) (u:=`g i `cK) hf `Y ru (λc hc=>by
   apply `aqt;rcases hc with rfl|rfl<;>assumption) (`zJ _ (C8 le) a3) (λc o hc x=>by
   apply `a5u;exact`zJ _ hc.1 (hk c o hc.1 hc.2 x))
  exact#[`mr,_,I1,rfl,#[_,x,rfl,`abF,rfl,`aSr],#[#[_,`bA b1],a2.at λo y=>`zJ it hei.symm y],fr]
 done:=by
  apply `lO;skip;apply `lP;apply `aqu;let#[xs,hq,U]:=hg;apply `a5t;have l1:=`qV;done;refine wpAny_pyNext_enum_end `ke he h1 `Fm `qY λh' hk=>#[rfl,I.turnedL (t':=`cK) (fp:=[e,it]) hf λc o hc x=>?_]
  apply `a5u;exact hk c o hc.2 x
 self:=λ_ _ _ _ _ st h=>by
  let#[#[old,he],_]:=st;exact `a5v he h
def Pk0:`eu `qe=`c (`bj `qe):=`bc
def zd1(K:`y)(ta:TA):TI:=`Tn ta λvs H1=>∃a,vs=`eb/\`aSy/\R (Ite K a) H1
def Hb0{a:`K}{ta:TA}{p pos:Pos}(hg:`a5w)(hm:`a5x)(ha:`aSH)(hs:`To):
  PI X `a5y `a5z (zd1 X.K ta):=by
 apply `Hr;refine `aSJ Pk0 λus s1 hq123=>?_;skip;apply `Tp hq123;let#[qa,e,#[xs,h1],q]:=q1;subst e;cases r1 with
 | cons r rr=>
  cases rr;obtain rfl:=r;let#[us1,v1,p1,z1]:=I1.list h1;done;refine call_enumerate_list `Fm λh' hz O U hk=>?_
  refine `a5v (s:=(`ga s1 h')) hz ?_;refine#[_,_,_,_,H1,rfl,`Ru (t':=`ahY) hk,N10 (C8 (H0 _)),#[`a45,O],`eB,q];apply `a3y;rcases hb with rfl|rfl
  ·exact `aKt (d4 _ 1) (`abQ (d4 _ 1))
  ·apply `Hs
omit L2
open X
section
variable{a:`K}{p:Pos}
def Hv0{t:`d}{x y:V}{d e:D}(hn:¬B t)(ht:H t=`c (`P'))(r1:`Fe)(r2:Rp K H B e y):Rp K H B (`H [d,e]) `p9:=by
 rw[wu0];apply `l7 t `MM #[hn,ht];rw[W5];refine`gM r1 ?_;rw[W5];exact`gM r2 `k_
open T in
def R6(hm:`a5x)(ha:`aZz)(hg:`G (`a5w) Aa)(hs:`To):
  PID X `a5y `a5z (jp0 gA):=(.mk λB δ=>`Il (Hb0 hg hm `bD hs) fun σ H R hq124=>by
 apply `Im hq124
 delta jp0 at e1;cases e2:`e0 with
 | none=>apply `ac;cases e1
 | some ds=>
  apply `ac;apply `fp;delta Um0 at e1;split at e1<;>try cases e1
  rename_i ds;apply `aZA;rw[W5] at r;let#[x,t,rfl,r1,r]:=r;rw[O8] at r;subst r;rw[w60] at r1;apply `a5n;have O:(`z (pi0 ds))=`tC:=by delta pi0;simp[t1.length]
  refine#[q1,rfl,#[us,s1.to],k _ H' s' #[`Ny,λi H2 v H3 g2 y hi=>?_,`Ny]]
  ·rw[O] at hi
   exact#[us,us[i],`aqv,`a5A]
  ·let#[t,x,rfl,ht,rfl,hx]:=y
   rw[O,t1.length] at hi;let#[x',e4,rx]:=t1.get (i:=i) (C4 hi);have ex:=hx us `aqv;rw[e4] at ex;cases ex;refine#[yl0 ht,`H [`AH,ds[i]],by delta pi0;simp[hi],λB' gB hb=>?_];exact Hv0 (λz=>hb t z ht) Y7 `CA (rx.mono gB)
  ·rw[O] at hi
   exact#[us,`aqv,hi])
omit z
section
mutual
theorem Sn0(hB:`a5B):∀(d:D) (v:V),`ap1->Rp K H B' d v->`cz
 | `x,v,_,r=>`IS w90
 | `cl,v,_,r=>`IS xn0
 | `c2,v,_,r=>`IS zk0
 | `cn,v,_,r=>`IS w40
 | `eE,v,h,_=>by delta tree at h;cases h
 | `u2,v,h,_=>by delta tree at h;cases h
 | `Ao,v,h,_=>by delta tree at h;cases h
 | `c',v,h,r=>by
  delta tree at h;apply `i4 wu0;apply `aoE;refine#[a,xs,rfl,?_,V70 hB ds xs h rs];let#[n,q]:=q;refine#[`iO,q];exact(hB a z).elim n λz=>z _ q
theorem V70(hB:`a5B):∀(ds:`k) (vs:`S),`ap0=`f->Rps K H B' ds vs->`PK
 | [],vs,_,r=>`IS O8
 | `b0,vs,h,r=>by
  delta trees at h;apply `rf;apply `i4 W5;apply `In;exact#[x,t,rfl,Sn0 hB d x h.1 r1,V70 hB ds t h.2 r2]
end
omit z
def G7{g:GE}(h:`c3):PD X e (hf0 g):=(.mk λB δ pins s σ H Q I hq125=>by
 skip;let#[d,en,hq,k]:=hq125
 apply `apy;delta hf0 at hq;cases e1:`xO with
 | none=>rw[e1] at hq;cases hq
 | some x=>
  rw[e1] at hq
  by_cases hf:tree x=`f
  ·apply `VP `u5
   cases hq;done;refine `a1? (Sn0 (`iN) _ _ hf r);skip;rcases c2 a z with q|⟨i,d',h1,h2⟩
   ·done;exact `mU
   ·let#[o,h3,a',e4,_,ro]:=`sp `abn h1
    rw[h2] at h3;cases h3;cases e4;done;exact `p λys z=>(ro.live.same s').nt ys z
  ·apply `VP `II
   cases hq)
omit DL
open Y
def P60:MtR X "str.startswith" `a5C:=by
 apply `a_M;skip;let#[a,b,rfl,rfl,q]:=h;apply `dj;cases rs with
 | cons r rr=>
  cases rr;let#[u,rfl]:=r;done;exact SC.startswith (`hv `cl q)
omit L2
open X
section
variable{name:`Sc}{id:`bE}{r:`ki}{f:`V3}
def MfR(K:`y)(r:`ki)(f:`V3):Prop:=∀(H:Hp) (B:BS) (dx:D) (xs:`S) (ds:`k) (d:D) (Q:VK),`nv->`bv->f dx ds=`aX->(`u_)->∃a,dx=`lt/\r (`lt) xs H Q
def K10(slot:Slot `kl `dc id)(hty:`anb)(hm:`anc)(hf:MfR X.K r f)(hstr:∀d ds e,f d ds=`sm->`a5D)(ho:PD X o g)(ha:`Vq)(hbase:`and)
  (hfew:`G ((`ra
  &&`ao5)=`f) Aa)
  (hline:`fZ) (hs:`f3) (hplain:`l3):
  PD X (`qz `ane [e]) (bb0 g gA f):=(.mk λB δ=>
 (`a0c slot hty hm).imp fun σ H Q hq126=>by
  skip;apply `b2 hq126
  delta bb0 at h;cases e1:`au with
  | none=>rw[e1] at h;cases h
  | some x=>
   cases e2:`e0 with
   | none=>apply `dn;cases h
   | some ds=>
    apply `dn;apply `f1;let#[a,rfl]:=hstr x ds d h;done;refine`a0d;rw[w40] at r1;subst r1;refine`a0e;let#[a',e',q]:=hf H2 B (`lt) vs ds d Q `aom r2 h λv H' s' r'=>k v H' (`LD s') r'
    cases e';exact q)
def Gr0{y:`Sc}(r:`oq [`pp]):xs=[`pp]:=by
 rw[W5] at r;apply `In;rw[O8] at r2;rw[w40] at r1;rw[r1,r2]
def Pd0:MfR K `a5C oh0:=by
 intro H B dx xs ds d Q bad r h k;delta oh0 at h;apply `aqr
 exact#[_,rfl,_,_,rfl,Gr0 r,`UU]
def Qr0(d:D)(ds:`k)(e:D)(h:oh0 d ds=`sm):`a5D:=by
 delta oh0 at h;apply `aqr
 exact`Y
omit z
def vl0(ga gb gc:GE)(f f':`bx):GE:=`HX λx=>`Uu λy=>`a5E (f x y) (`aJZ λz=>f' y z)
section
variable{a c:`K}{ga gc:`dm}
def Y50{r:R2}{f:`bx}(hf:Op2 K r f)(hf':Op2 K r' f'){δ:Ds}{σ:St}{Q:VK}(h:`nn tD K `aqw):Wz0 r r' (`Id ga) (`Id gb) (`Id gc) σ H Q:=by
 skip;apply `Af;delta vl0 at h;cases e1:`df with
 | none=>rw[e1] at h;cases h
 | some x=>
  cases e2:`dy with
  | none=>apply `dn;cases h
  | some y=>
   apply `dn;apply `f1;cases e3:f x y with
   | none=>rw[e3] at h;cases h
   | some t=>
    rw[e3] at h;apply `f1;cases e4:asB t with
    | none=>rw[e4] at h;cases h
    | some kb=>
     rw[e4] at h;apply `f1;cases cj0 e4;done;apply `Ag;refine hf H2 B v1 v2 x y _ _ `aom `xk r2 e3 `aqx
     rw[xn0] at r3;refine#[kb,r3,?_];cases kb with
     | false=>
      rw[`lN] at h ⊢;cases h;exact k _ H3 `IT `Dj
     | true=>
      rw[`a_] at h ⊢;cases e5:gc δ with
      | none=>rw[e5] at h;cases h
      | some z=>
       rw[e5] at h;apply `f1;refine#[z,`apW,e5,λv4 H4 s4 r4=>?_];exact hf' H4 B v2 v4 y z d _ ((`apW).same s4).bad ((`a5F).same s4) r4 h λv' H5 s5 r5=>k v' H5 (((`w1).trans s4).trans s5) r5
def O1{op op':`hH}{r:R2}{f:`bx}(ho:`q0)(hf:`Ah)(ho':`Tx)(hf':`a5G)(ha:`cC)(hb:`cU)(hc:PD X c gc)
  (hm:`Ty):PD X `Tz `aqw:=(
 `fm (K90 ho ho' `bD `fo `U6 hm).imp fun σ H Q h=>Y50 hf hf' h)
def o8{op op':`hH}{r:R2}{f:`bx}(ho:`q0)(hf:`Ah)(ho':`Tx)(hf':`a5G)(ha:`cC)(hb:`cU)(hc:PD X c gc)
  (hm:`Ty):`Ie `Tz `aqw:=(
 .mk λB δ=>(Kf0 ho ho' `bD `fo `U6 hm).imp fun σ H Q hq127=>by
  apply `n0 hq127
  delta ob at h;cases e:vl0 ga gb gc f f' δ with
  | none=>rw[e] at h;cases h
  | some d=>
   rw[e] at h;cases cj0 h;exact Y50 hf hf' `aop)
open Builtin Builtin.Str Builtin.Int in
def Aw0{prog:`aj}{w:`M}{A:`ck}{E:`ap}{s:`v}{x:Str}{n:Int}{t u:Tok}{Q:`ap}(hr:(`X (n < `aVW)||`X (n ≥ 2 ^ 63))=`l)
  (hb:¬n<1->`a5H->¬((`yQ:Int) > (`Pv - 1)/n)) (hl:¬n<1->`a5H->tooLong (`yQ*`tR)=`l)
  (h:(`w (n<1) (Made.str `Po) (`w ((n==1||`yQ==0)=`f) (Made.val `SO) (Made.str #[`a5I `tR x.cps]))).post Q s):
  `cL (`CM .Mult (`g n u) `SO) s:=(
 PySem.lm_binaryOp_repeat_right (T:= `kl) (U:= `lp) `u (λs'=>b5 s' n u) `a5J PySem.F.fills_int_mul PySem.noFill_str_mul w30 PySem.lm_noRepeat_int PySem.repeat_str PySem.F.slot_int_index.lookup
  (`a5K w30 (b5 s n u) PySem.F.entry_int_mul (PySem.F.args_int_mul_2 _ _) (PySem.AutoIntG3.int___mul___int_str_0 n u x t)
   #[rfl,R1 _ x t,`a5K PySem.F.slot_str_mul `a5J PySem.F.entry_str_mul (PySem.F.args_str_mul_2 _ _) (gives_str_mul x n t u hr hb hl) h]))
omit z
section
variable{σ:St}{δ:Ds}
def Env.fresh{p:`d}{o:HO}(e:`a3)(hp:`hw)(no:∀ob u,o≠`acT:=by exact λ_ _ z=>nomatch z)(nt:∀xs,o≠`g9:=by exact λ_ z=>nomatch z):Env K `aok `pS σ δ:=by
 refine#[`uh (λv s h=>?_) `lh,`iN,`yp]
 ·cases s with
  | un=>trivial
  | ex c n=>apply `Wy;exact`a5L
  | sh d=>apply `Wy;exact`a5L
  | ow d=>
   let#[a,q,hb,r]:=h;exact#[a,q,`anJ,`c! (λo ho=>`FB ho hp ho) `P!]
 ·apply `IU
  ·have:=`pM a z
   by_cases q:a=p
   ·rw[q,Y7];exact `a5M
   ·rw[Y4 q];exact `F
  ·rw[z,Y7];exact `a5M
omit z
def flats(ds:`k):`B:=`aHs
def jj0(g:GE):GE:=fun δ=>`a5N λd=>match d with
 | `et=>`w `AI `uU `e
 | _=>`e
def Tw0{g:GE}{δ:Ds}(h:`xO=`uU)(hf:`AI):jj0 g δ=`uU:=by
 delta jj0;rw[h,`h];simp only[];rw[`u5]
section
variable{g:GE}
def tf0:`lY (`AI->`anY):=by
 intro z;induction z with
 | nil=>intro xs _ r;apply `i4 O8;exact r
 | cons d ds ih=>
  intro xs h r
  apply `i4 W5;let#[x,r',e1,r1,r2]:=r;delta flats at h;rw[`lU,`b5] at h;exact#[x,r',e1,p80 h.1 r1,ih h.2 r2]
def V3(h:`Ak):`U4 v10 (Qv0 g):=(.mk λH₀ B₀ δ pins s σ H D I #[r,en,hq,k]=>
 T4 h `as `al `LG `t s σ H D I #[r,en.frz,hq,k])
def Q7(h:`Ak):PDF X e (jj0 g):=(.mk λB δ pins s σ H Q I hq128=>by
 skip;let#[d,en,hq,k]:=hq128
 apply `apy;delta jj0 at hq;let#[x,e1,hq]:=bdS hq;cases x with
  | lst ds=>
   simp only[] at hq
   by_cases hf:`AI
   ·rw[`u5] at hq
    cases hq;done;exact h B' `LG `t s σ H Q I #[_,O,e1,λp H' hp s' r=>k p H' hp s' (by
     let#[xs,e5,r5]:=r;exact#[xs,e5,tf0 hf r5])]
   ·rw[`II] at hq;cases hq
  | non=>cases hq
  | bl _=>cases hq
  | int _=>cases hq
  | str _=>cases hq
  | tup _=>cases hq
  | dct _ _=>cases hq
  | fn _ _=>cases hq)
omit z
omit DL
namespace L2
def Tbk(ok:`f0)(h:`D)(e:`d)(v:`A):Prop:=∃T oT ts,v=`U T/\T≠e/\ok T/\`f! T=`c oT/\oT.data=`o6 ts/\3<ts.size
def Lie(ok:`f0)(h:`D)(C:`A)(od:`bp)(e:`d):Prop:=∃oe vs,`aj3/\`Ph=C/\`aj4/\`zF/\`SI/\ok e /\
 ∃v,`a5O/\(v=`aY∨`aqy)
def LieT(ok:`f0)(h:`D)(C:`A)(od:`bp)(e:`d):Prop:=∃oe vs,`aj3/\`Ph=C/\`aj4/\`zF/\`SI/\ok e /\
 ∃v,`a5O/\`aqy
def LieT.lie{ok:`f0}{h:`D}{C:`A}{e:`d}(l:`agj h):`a5P:=by
 skip;apply `a5Q;done;exact#[oe,vs,h1,h2,h3,h4,h5,h6,v,h7,`p h8]
structure Noted(ok:`f0)(F:`aK)(h h':`D):Prop where
 keep:`qM (¬ok b->b∉F->`sG)
 slot:`qM (¬ok b->`akx)
 there:`qM `aky
section
variable{M:`eM}{s:`v}
def Sq0{base:`D}{ok:`f0}{env:Env}{outer:`eN}{L e:`d}{oe:Obj}{vs:`a8}{head:`A}{hadNext:`B}{Q:`dQ}
  (hfr:`aqz) (hl:`aqA) (hf:`aqB) (he:`a5R) (hd:`zF) (hsz:`SI) (oke:ok e)
  (new:`aqC)
  (h:∀h',`aqD->LieT ok h' `Ph `acR e->`P?):
  `hr M (do let a ← frameOf env;let pl ← entryPlaceOf L hadNext;let b ← EntryCells.newEntry head a `aY (`qW L) `aY pl;setField `iz 1 b):=by
 have off:e∉`aD0:=λz=>by
  let#[_,o,q,n]:=hl.mem z;rw[he] at q;cases q;exact n vs hd
 refine A0 (wpAny_frameOf_fun hfr hl hf λg sl=>A0 (wpAny_entryPlaceOf λpl hp=>?_));delta EntryCells.newEntry newFields;refine A0 (K0 ?_ (hp.sizeOk5 _ _ _ _ _));skip;obtain⟨ar,O⟩:∃ar,ar=(`iy ([head,`yd,`aY,`qW L,`aY]++(`w pl.isEmpty (`bG 6 `nB) pl))):=`Y;have U:3<ar.size:=by rw[O];simp only[`b8,`W,`an,`jn];lia
 done;rw[← O];have ge:g.get? e=`NK:=(sl.2.1 e off).trans he;have nT:`Sd≠e:=C8 (A6 ge);have pe:=A9 (h:=g) `aHF ge;have d3:=P6 hd `aKM;have e3:=E4 `aqE pe (Y2 d3);have t3:=(F4 (`a5S) `aqE (B0 nT)).trans (C6 g rfl);refine P5 pe hd hsz `a5T
 ·have oth:∀b o,g.get? b=`aG->`EX->`z5 ((`a5S).update e `aqE):=λb o q n=>by
   apply `aPq;exact `xu
  refine#[λb o q n1 n2=>oth b o ((sl.2.1 b n2).trans q) `a5U,λb o q n1=>?_,λb o q=>?_]
  ·let#[x,hx]:=sl.2.2 b o q
   exact#[x,oth b _ hx `a5U]
  ·by_cases z:b=e
   ·subst z
    exact#[_,e3]
   ·let#[x,hx]:=sl.2.2 b o q
    exact#[_,oth b _ hx z]
 ·refine#[_,_,e3,`aPp,?_,d3,`a5V,oke,`U `Sd,`a5V,`Sd,_,_,rfl,nT,new _ (`o sl.1 `gW),t3,rfl,U]
  let#[c,d,dt,x]:=oe;cases dt<;>rfl
def Noted.refl{ok:`f0}{F:`aK}{h:`D}:`tg ok F h h:=(#[λb o z _ _=>z,λb o z _=>#[`G1,z],λb o z=>#[o,z]])
def Sh0{ok:`f0}{C:`A}{e:`d}{f:`bp}{Q:`dQ}(lie:`agj `ay)
  (h:∀h',`a5W->`a5X):`hr M (`ah1 `iz f):=by
 skip;let#[oe,vs,he,rfl,rfl,hd,Y,U,v,q,T,oT,ts,rfl,nT,okT,hT,O,q3]:=id lie;done;delta setFlight;apply `IV;rw[`a5Y];refine P5 hT O q3 `a5T
 ·have oth:∀b o,`hp->b≠T->`z5 (`Fz T (`agk (`Qa 3 (f.elim `nB λf=>`qW f)))):=λb o z n=>(`a5Z).trans z
  refine#[λb o z n _=>`a5_,λb o z n=>#[`G1,`a5_],λb o z=>?_]
  by_cases w:b=T
  ·subst w
   exact`a50
  ·exact#[o,oth b o z w]
 ·exact#[oe,vs,(F4 _ _ nT).trans he,rfl,rfl,hd,Y,U,_,q,T,_,_,rfl,nT,okT,`aHG,P6 O _,by simp[q3]]
def flight{ok:`f0}{C:`A}{e:`d}{Q:`dQ}(lie:`aqF)
  (h:∀h',`a5W->`a51):`aqG:=by
 skip;let#[oe,vs,he,hc,Y,hd,O,U,v,q,q2]:=id lie;rcases q2 with rfl|t
 ·done;delta setFlight
  apply `IV;rw[`d6];exact A2 (h _ .refl lie)
 ·done;exact Sh0 #[oe,vs,he,hc,Y,hd,O,U,v,q,t] λh' n l=>h h' n l.lie
def y01{base:`D}{ok:`f0}{env:Env}{outer:`eN}{L e:`d}{C:`A}{od:`bp}{Q:`dQ}
  (hfr:`aqz) (hl:`aqA) (hf:`aqB) (lie:`aqF)
  (new:`aqC)
  (h:∀h',`aqD->`a5X):
  `hr M (`HQ `iz env):=by
 skip;let#[oe,vs,he,rfl,rfl,hd,Y,U,v,q,q2]:=id lie;done;delta noteFrame;simp only[hf];skip;rcases q2 with rfl|⟨T,oT,ts,rfl,nT,okT,hT,O,q3⟩
 ·done;apply `IV
  rw[`d6];exact Sq0 hfr hl hf he hd Y U new h
 ·done;apply `IV
  rw[`a5Y];refine A0 (D6 hT O (X0 q3) ?_)
  by_cases hin:(ts[3]==`qW L)=`f
  ·rw[`I hin]
   exact A2 (h _ .refl #[oe,vs,he,rfl,rfl,hd,Y,U,_,q,T,oT,ts,rfl,nT,okT,hT,O,q3])
  rw[`Q hin];refine A0 (P5 hT O q3 ?_);have oth:∀b,b≠T->`a52 b=`vY:=λb n=>`a5Z
  have self:∃o',`a52 T=`ad!:=`a50;have nr:∀b o,`hp->(∀vs,`p0≠`CD)->b≠T:=λb o h1 h2 z=>by
   rw[z,hT] at h1;cases h1;exact h2 ts O
  refine Sq0 hfr (hl.of_keeps λb o h1 h2=>#[o,(oth b (nr b o h1 h2)).trans h1,rfl]) hf ((oth e (B0 nT)).trans he) hd Y U (λb hb=>new b (by rw[Heap.size_after_update] at hb;exact hb)) (`aqH #[λb o h1 n1 n2=>`Wz b o `a53 n1 n2,λb o h1 n1=>`WA b o `a53 n1,λb o h1=>?_])
  by_cases z:b=T
  ·let#[o',Z]:=self
   exact `aqI b o' (`o z Z)
  ·exact `aqI b o ((oth b z).trans h1)
def Noted.trans0{ok:`f0}{F:`aK}{h h'':`D}(a:`tg ok F h h')(b:`tg ok [] h' h''):`tg ok F h h'':=(
 #[λc o e n1 n2=>b.keep c o (a.keep c o e n1 n2) n1 `a?,λc o e n=>by
  let#[x,hx]:=a.slot c o e n;let#[y,hy]:=b.slot c _ hx n;exact#[y,hy],λc o e=>by
  let#[x,hx]:=a.there c o e;exact b.there c x hx])
def note{base:`D}{ok:`f0}{env:Env}{outer:`eN}{L e:`d}{C:`A}{od:`bp}{Q:`dQ}
  (hfr:`aqz) (hl:`aqA) (hf:`aqB) (lie:`aqF)
  (new:`aqC)
  (h:∀h',`aqD->`a51):
  `Tc (`HQ `iz env) (λ_ s'=>`aN M A `adl Q E s'):=(
 y01 hfr hl hf lie new λh1 n1 l1=>Sh0 l1 λh2 n2 l2=>h h2 (n1.trans0 n2) l2.lie)
omit z
open V
def Tbk.mono{ok ok':`f0}{h:`D}{e:`d}{v:`A}(q:`a54)(l:`aqy):Tbk ok' h e v:=by
 skip;let#[T,oT,ts,t1,t2,t3,t4]:=l;done;exact#[T,oT,ts,t1,t2,q _ t3,t4]
def Lie.mono{ok ok':`f0}{h:`D}{C:`A}{e:`d}(q:`a54)(l:`a5P):Lie ok' h C od e:=by
 skip;apply `a5Q;done;exact#[oe,vs,h1,h2,h3,h4,h5,q _ h6,v,h7,h8.imp id (Tbk.mono q)]
def FpW(X:Cx)(pins:`az)(H:Hp)(b:`d):Prop:=
 `aR' (`abE=`e)
abbrev ac0(X:Cx)(pins:`az)(H:Hp)(h:`D)(C:`d)(od:`bp)(e:`d):Prop:=Lie (FpW X `t H) h `bl od e
section
variable{σ:St}{s:`v}
def Inv.fpW{b:`d}(I:`C)(hb:`aqJ)(hn:`p2):FpW X `t H' b:=by
 refine#[hn,`iO,`iO,?_,`alx,`aly]
 ·skip;apply `aQT
  rw[← z,hb] at ho;cases ho
 ·let#[_,o,ho,_]:=I.funs.mem z
  rw[hb] at ho;cases ho
 ·by_cases q:`acZ
  ·exact `mU
  ·refine `p ?_
   cases e:`abE with
   | none=>rfl
   | some o=>
    let#[o',h']:=`CT b o e q;rw[hb] at h';cases h'
 ·let#[v,o,q,_]:=`EZ
  rw[z,hb] at q;cases q
 ·have q:=(`Dd).1
  rw[z,hb] at q;cases q
def Inv.dead{b:`d}(I:`C)(hb:`aqJ):`dd:=by
 cases e:H b with
 | none=>rfl
 | some o=>
  have:∃u,`aE4:=by
   have z:=`b1 b o e;clear e
   induction o with
   | lst xs=>let#[_,_,_,_,q]:=z;exact`kn
   | tup xs=>let#[_,_,_,_,q,_]:=z;exact`kn
   | dK kvs=>skip;apply `a55;done;exact`kn
   | dT kvs=>skip;apply `a55;done;exact`kn
   | dX kvs=>exact `fU z
   | set S n=>let#[_,_,_,_,q,_]:=z;exact`kn
   | ins C dx fs=>let#[_,_,_,q,_]:=z;exact`kn
   | own y=>exact z
   | xd fs=>skip;let#[_,#[_,_,_,q,_],_]:=z;done;exact`kn
   | rng lo hi=>let#[_,_,_,q]:=z;exact`kn
   | frz ob u ih=>exact#[_,z.1]
   | tbl ps=>let#[_,q,_]:=(show TabOk H `ay _ _ from z);exact`kn
   | met f y=>exact#[_,z]
   | ext φ=>exact z.2.1
   | deep sub=>exact z.1
  let#[u,q]:=`F;rw[hb] at q;cases q
def Inv.afterNote{F:`aK}(I:`C)(hF:∀b∈F,b∈`zO)(nd:`tg (FpW X `t H) F `ay h'):`E3:=by
 have nt:`uu (¬`aqK):=λb u q z=>by
  rw[z.1] at q;cases q
 have hok:`aQ7:=λa o q=>(`b1 a o q).stay (λb u hb e=>by
  have tr:∃v,H b=`bR:=by
   rcases hb with rfl|hb
   ·exact`kn
   ·exact#[_,hb]
  let#[v,tr]:=tr;exact `Wz b u e (nt b v tr) λz=>by
   rw[I.stkFree b (hF b z)] at tr;cases tr) `acU `acV `xF
 have nF:∀b,`s'->`E2->b∉F:=λb n1 n2 z=>(`cg (`akL b (hF b z))).elim n1 n2
 have up:`akO:=`aQL
 have old:∀b o,`NM->`akI->¬`aqK:=λb o e hx z=>by
  rcases `aqL with q|q
  ·exact hx q
  ·rw[e] at q
   cases q
 have O:`aQM:=λx c e v hq129=>by
  let#[o,ho,hd]:=hq129
  let#[sl,q]:=`WA c o ho λz=>z.2.2.2.2.1 x c e rfl
  exact`aQP
 refine#[I.ok,`mC,`h4,(`aF3 λb o e n hb hx=>`Wz b o `S4 (old b o e hx) (nF b `aD1 hb)),?_,`zl,`g7,`r6,`lD,hok,`jr]
 ·apply `S5
  let#[U,e2]:=`WA b _ e1 (old b o e hx);exact#[U,e2]
 ·apply `G!
  exact `aqI b o' e1
 ·skip;let#[m,#[o,es,ep,ho,r],hl]:=`gm
  let#[sl,hL]:=`WA _ o ho λz=>z.2.1 rfl
  done;refine#[m,#[_,es,ep,hL,r],`akP];apply `aQQ;refine`aQR;skip;apply `aQS
  ·done;exact `m l
  ·done;exact `p #[k,c,e,O x c e _ z]
 ·let#[v,z]:=`EZ
  exact#[v,O x c e v z]
 ·apply `S6
  exact#[`Wz p.1 p.2 e (λz=>z.2.2.2.2.2 p hp rfl) (nF p.1 ne nf),n,ne,nf,d]
def Inv.frame(I:`C)(st:`S_):`aQy:=by
 rcases `aF1 with q|q
 ·rw[st] at q
  exact `J (D0 `uI q) `a?
 ·exact q.2
def Inv.noted{M:`eM}{E:`ap}{C e:`d}{Q:`dQ}(I:`C)(st:`S_)(lie:`aqM)
  (h:`a56):
  `aN M X.A (`HQ `iz `P) (λ_ s1=>`aN M X.A `adl Q E s1) E s:=by
 refine note (base:=`e7) (outer:=`sH) (by rw[`aT',st]) (st▸I.stack) (I.frame st) lie (λb hb=>I.fpW (Y1 hb) (`s1 hb)) (`aqH (`a57 `S9 nd))
 rw[st];exact hb
def Inv.flown{M:`eM}{A:`ck}{E:`ap}{C e:`d}{Q:`dQ}(I:`C)(lie:`aqM)
  (h:`a56):`aqG:=(
 flight lie (`aqH (`a57 (λb hb=>by cases hb) nd)))
def Inv.track{φ:`pb}(I:`C)(fp:`a58)(hφ:φ `ay)(ho:`aD4)(st:`aP9):
  `zX a (`G4) s:=by
 apply `a59;have oth:`uu (upd H a (`G4) b=`bC):=`a5'
 apply `a5!
 ·have:`nf:=λw=>by
   subst w;rcases z4 with z4|z4
   ·exact hx z4
   ·rw[e] at z4
    cases z4
  rw[`Au];exact `abM
 ·apply `aqN
  exact`a5?
 ·rw[`a6a];exact `g7
 ·rw[Y4 (z5 x c e)];exact `acB
 ·apply `aqO
  apply `a6b
 ·by_cases w:b=a
  ·subst w
   rw[Y7] at q;cases q;exact#[hφ,ho,st]
  ·rw[Y4 w] at q
   apply `a6c
def Inv.goes{M:`eM}{A:`ck}{E:`ap}{pos:Pos}{Q:`dQ}(I:`C)(hN:`dh)(hi:`mk)(hx:`Ly)
  (h:∀s',Inv X `t (`wQ i `e) H s'->`Hb):`hr M (do bindName `P x `aY;unbindBehindTheSuite `P x pos):=by
 have O:`aQ3:=`aQ4
 have hk:`EH=`kE:=hx;refine A0 (wpAny_bindName (i60 I hN hi `N7 (v:=`x) (u:=`aY) rfl (λs1 I1=>?_) (`p hx)));delta unbindBehindTheSuite;refine wpAny_onRaise ?_;delta unbindName;refine A0 (l6 `SF);delta deleteName;simp only[hk,O];rw[`d6];have cne:=I1.cne;let#[m,hn,hl]:=id I1.loc;apply `aQ5
 have hm:`sO (m x):=by
  let#[u,_,l]:=hl i x `x hi (by rw[`S?]) `N7;rcases l with⟨_,l⟩|⟨l,_⟩
  ·rw[l];rfl
  ·rw[hk] at l
   rcases l with l|l<;>cases l
 refine A0 (wpAny_nsDel_keeps hn λh' w U hs=>?_);rw[hm];simp only[`aPe,`uP,`kK];refine A2 (l6 (`afW));let#[oL,_,_,Y,_]:=id hn;have up:`akO:=`kW (`NN I1.ok.above)
 refine#[I1.ok,I1.os,I1.bare,#[`yj,`yj,I1.base.free,`aeg,I1.base.tups,I1.base.frzs,I1.base.tbls],#[_,U,`akX],`aQ',`aqP,I1.freeC,`lD,`aiy,`akY]
 ·exact`aqQ (`MS I1.base.keep)
 ·let#[sl,e1]:=`MS I1.base.slot
  exact#[sl,`aqQ e1]
 ·let#[o',e1]:=I1.base.there b o e hx
  exact#[o',`aqQ e1]
 ·by_cases hj:j=i
  ·subst hj
   rw[`S?] at e2;cases e2
  ·rw[`qT] at e2
   let#[u',r',q]:=hl j y v' e1 (`o `qT e2) e3;refine`ak_;skip;apply `aQ?
   ·done;refine `aRa
    apply `aRb
    simp[`F,e]
   ·done;exact `aRc
 ·let#[w',z]:=I1.cell y c e
  exact`aRd
 ·let#[e,n,ne,nf,d]:=I1.pin p hp
  apply `aRe
 ·refine`ako (I1.hok b u q) λc w' hc z=>`aQ8 z
  rintro rfl;apply `akw
  ·rw[`aqP] at q;cases q
  ·rw[`aqP] at hc;cases hc
omit z
def CXE(P:`aj)(w:`M):CXT:=λouter H s E e s'=>∃ea C od H',e=`Se/\`ak2/\`R9/\`aT7/\`aT8 /\
 Lie (λb=>`p2/\`aqJ) `p6 `bl od ea/\`aHN
def k80(X:Cx)(σ:St)(H:Hp)(C:`d)(od:`bp):Prop:=∀pins s e,`C->`aqM->`hW `iz s
section
variable{k:Nat}{f C:`d}{sp:Sp}{ds:`N}{p:Pos}{t:TA}
def Dh0(X:Cx)(sp:Sp)(dvs:`S)(t:TA):TE:=`TM (sp `lf H1 Q `WB)
def Lb0(F:`WC)(hr:`nU)(hg:`jc)(hm:`oF=`LL)(hk:`aUh)(hb:`lS)(hd:`lT)
  (ha:`q2) (hdb:`aL) (he:`dk) (hpl:`eO):
  PE X `pg (Dh0 X sp dvs t):=by
 apply `bg;apply `amr;refine `aUi λus s1 hq130=>?_;let#[vs,H1,I1,r,q]:=hq130;refine `aUj;apply `amq;have hl:`ae':=`cu `nd (`aiq q)
 refine L7 (I0 (`E6 X.A `g! s1 H1 `E7 `xI `lf Q _ hr I1.env0 (hb s1 us `E9 hl) r2 q) `E8);skip;cases r with
 | error ex=>
  apply `a6d;done;exact `a6e I1.call' I1.fpW
 | ok fl=>
  cases fl with
  | ret u=>done;exact I1.after hq
  | next=>done;apply `iY
  | brk=>done;apply `iY
  | cont=>done;apply `iY
omit z
def RawAt(e C:`d)(od:`bp):`pb:=λh=>XC.Raw h e C od
def RawAt.stay{e C:`d}(h1 h2:`D)(r:`DJ e C od h1)(k:∀o,`p4 e=`aG->h2.get? e=`aG):`DJ e C od h2:=by
 let#[oe,vs,he,r]:=r;exact#[oe,vs,k _ he,r]
def Bf0{o:HO}(h:`w0):`aAL=H:=by
 funext b
 delta upd;split
 ·rename_i e;rw[e,h]
 ·rfl
section
variable{σ:St}{s:`v}
def Ht0{j:Nat}{cp np fp pos:Pos}(hN:`mk)(hv:`KV)(hy:`a6f)(hd:`aL)(hcd:`di):
  PE X (`aFz [`Cr `O? j cp,`aFA (`bP x np) (-1) `e fp] pos) (`c0 (∃n:Int,`K6=`c (`Qe)/\`AJ/\∀z,Q `tW H)):=by
 intro pins s σ H Q I #[n,e,hn,q];have e1:=int_text_length_le (k:=1920) `u hn;have z1:(`z (`Po++y))<=`R:=by rw[`aqR,`zI];show 0+`Qb<=_;lia
 refine JoinedStr_many (`a6g (`aRl #[z1,`a6g (FormattedValue_plain (thn (wb0 hN hv hd hcd `t _ σ H (λv H'=>v=`ev/\H'=H) `sL #[`ev,e,rfl,rfl]) λu s1 hq131=>?_))]));skip;let#[v,H1,I1,r1,O,hH]:=hq131;subst O hH;apply `amG;have z2:(`z (`Po++y++`yO (toString n)))<=`R:=by rw[`aqR,`aqR,PySem.ofString_length,`zI];show 0+`Qb+_<=_;lia
 done;exact formatField_int_small hn #[z2,joinParts_nil (#[`cn,H1,(I1.tok _),`Y,q _]) z2]
def Tc0{Wc:`d}{np apos pos:Pos}{a:`K}{as:`bB}{t:TA}{pl:`iV}(hm:`aqS=`c `Qc)(hg:`agl)
  (hsp:`a6h X.K `Qc `qK=`aqT) (hr:W.readsIn X.K Wc `xv=`f) (hf:`a6i X.K)
  (ha:PA X (a::as) t) (hdb:`WD) (hst:`G (`a6j=`abV::`a6k) Aa) (hpl:`mn (`pj `a6k))
  (ht:`G (`bX `a6l `P=(do
   let ov ← `bX `ai? `P
   `nV
   let (f,`im) ← `a6m
   `abW (`pj `a6j))) Aa):
  PE X `a6l (`TM (∃e C v,vs=`aj5/\H1 e=`adn/\(`a6n)/\Q `x H1)):=by
 apply `bg;refine a8 (pl:=pl) `aKK ht;refine W.method_cls `fy hsp (W.cls_value `fy hr hf `c7 ?_);refine a20 (thn (ha pos `t _ σ H _ `sL h) λus s1 hq132=>?_) hst hpl;skip;apply `Tp hq132;let#[e,C,v,rfl,hH,#[tl,cl],q]:=q1;cases r1 with
 | cons ra r1=>
  cases r1 with
  | cons rb r1=>
   cases r1;cases ra;let#[hh,g,d,t',os]:=s1;let#[U,_,_]:=I1.hok e _ hH;done;refine XC.Oh0 (`a6o) U λh' O oth=>?_
   let#[oe,vs,he,r]:=id O;have I2:=I1.write (x:=e) (e:=e) (o:=`acu) (t':=t') (by rw[hH];trivial) `du `a6p `a6q #[O,`a6q,`aqU];rw[Bf0 hH] at I2;exact#[`x,H1,I2,rfl,q]
def Inv.trackO{o:HO}(I:`C)(fp:`a58)(new:`h7 `cF X.w `hx `ay a o):`br `hx s:=by
 apply `a59;have oth:`uu (`aP0=`bC):=`a5'
 apply `a5!
 ·have:`nf:=λw=>by
   subst w;rcases z4 with z4|z4
   ·exact hx z4
   ·rw[e] at z4
    cases z4
  rw[`Au];exact `abM
 ·apply `aqN
  exact`a5?
 ·rw[`a6a];exact `g7
 ·rw[Y4 (z5 x c e)];exact `acB
 ·apply `aqO
  apply `a6b
 ·by_cases w:b=a
  ·subst w
   rw[Y7] at q;cases q;exact new
  ·rw[Y4 w] at q
   apply `a6c
def Inv.forget{φ:`pb}(I:`C)(ha:`yl `G4)(hn:H' a=`e)(hs:∀b,`nf->`fw=H b):`a6r:=by
 have up:`uu (u≠`G4->`a6s):=λb u q n=>by
  rw[hs b λz=>by
   subst z;rw[ha] at q;cases q;exact n rfl]
  exact q
 have dn:∀b u,`a6s->`Lx:=λb u q=>by
  rw[← hs b `abh];exact q
 have no:`a6t:=λb q=>by
  rw[hs b λz=>by
   subst z;rw[ha] at q;cases q]
  exact q
 refine#[I.ok,`mC,`h4,#[`Db,`Dc,`a6u,`CT,λb xs e=>up b _ `aDq `r2,λb o u e=>up b _ `ai9 `r2,`ai!],`gm,`mD,`a6v,`a6w,`lD,`aiy,`jr]
 ·apply `aqN
  exact#[more,up b _ q λz=>nomatch z]
 ·apply `aqO
  exact`a6x
 ·exact(`b1 b u (dn b u q)).stay `aLN (λc z=>up c _ z λz=>nomatch z) (λc xs z=>up c _ z λz=>nomatch z) λc _ _ z=>up c _ z λz=>nomatch z
structure ErrC(K:`y)(C r:`d)(f:Str):Prop where
 ex:∃cd,W.clsIn K C=`aeK/\`yi=`eU::`M4/\`aPx
 na:`TG
 sa:`al?
def Ak0{f:Str}(ha:`uH)(hv:`ami)(hs:`G (`aTS) Aa):
  PS X `aTT (λD σ H=>tv σ H λy H1=>ta σ H1 λx H2=>∃e C r,x=`mp/\H2 e=`adn/\ErrC X.K C r f /\
   ∀dx,`Qf->H2 dx=`e->`hf σ (`aia H2 (.xd [(f,y)]))):=by
 apply `iU;refine I00 (thn `aTU λu s1 hq133=>?_) hs;let#[y,H1,I1,ry,q]:=hq133;refine thn `aTV λov s2 hq134=>?_;skip;let#[x,H2,I2,rx,e,C,r,ex,ea,c,q2]:=hq134;subst ex;obtain rfl:ov=`e1 e:=rx;let#[cd,h1,h2,h3]:=c.ex;let#[#[oe,vs,he,hc,O,hd,Y,U,Z],_,_]:=I2.hok e _ ea;let#[oc,a1,a2,osl]:=oe;dsimp only at hc O hd;subst hc O hd;done;refine XC.Mh0 `ae? #[he,rfl,rfl,`ny] h1 h2 h3 c.na c.sa λh' dx t' n1 n2 ns hx oth=>#[σ,_,?_,q2 dx n2 (`a6y)]
 have I3:=I2.write (x:=e) (e:=e) (o:=`aEm) (t':=t') (h':=h') (by rw[ea];trivial) `du `a6p `a6z #[#[_,vs,hx,rfl,rfl,rfl,Y,U,Z],`a6z,`aqU];refine I3.trackO (I2.fpW n1 (`o (Y4 n2) `a6y)) #[_,ns,λg=>?_]
 by_cases z:g=f
 ·subst z
  rw[`a_];simp only[`iW,`zE];exact ry
 ·rw[`cc]
  have:`aTz:=`aDz
  simp only[`iW,`F];trivial
omit z
def Wf0(C:`d):Sp:=λvs H Q _=>∃e n,vs=`aqV/\`aqW/\`AJ/\∀dx,`Qf->`Qg->Q `x `aHL
structure RootC(K:`y)(Wc:`d):Prop where
 sp:`a6h K `Qc `qK=`aqT
 rd:W.readsIn K Wc `xv=`f
 fc:`a6i K
def Y40{W C r:`d}{j:Nat}{p1 p2 p3 p4 p5 p6 p7 p8 p9 pa pa' pb pc:Pos}{pl:`iV}(hm:`aqS=`c `CQ)(rc:RootC X.K W)(cl:`a6n)(ec:ErrC X.K C r `cW)(hy:`a6f)
  (hN0:`G (X.N[0]?=`c (`cV: Str)) Aa) (hN1:`G (X.N[1]?=`c `a6A) Aa) (hg:`a6B) (hv0:`G (Vis `r_ `cV) Am) (hv1:`G (Vis `r_ `cW) Am) (hdb:`WD)
  (hs:`lb `aqX `e p9.line)
  (hs2:`lb (`bP `cW pb) (`c (`a6C)) pc.line)
  (ht:`G (`bX `aqX `P=(do
   let ov ← `bX `aMS `P
   `Le p2.atName
   let (f,`im) ← `a6m
   `aC5 p8 f `im (`mt p8 (`jf `aKN `P)) (`aeo p8 `aep))) Aa):
  ∃t,PSs X [`xH `aqX p9,`gB [`a6C] (`bP `cW pb) pc] t /\
   ∀(D:`fO) σ H e n,`a6D->`a6E->`aqW->`AJ ->
    `a6F:=(
 #[_,xv0 (pa0 (Tc0 hm hg rc.sp rc.rd rc.fc (wa0 (wb0 hN0 hv0) (wa0 (Ht0 hN1 hv1 hy) vj0)) hdb (ht:=ht)) hs) (xv0 (Ak0 (wb0 hN0 hv0) (wb0 hN1 hv1) hs2) p40),
  λD σ H e n h0 h1 hH hn q=>#[`mp,h0,n,h1,hn,λz=>#[e,C,`oT,rfl,hH,cl,`ev,h1,`mp,h0,e,C,r,rfl,hH,ec,q]]])
def Mw0{h:`D}{e C:`d}{rest:`N}(m:`aFL):`DJ e C `e h':=by
 let#[t,h1,_,_]:=m.there;exact#[_,_,h1,rfl,rfl,rfl,(`DE (1<6)),rfl,t,rfl]
def R40{M:`eM}{s:`v}{e:`d}{oe:Obj}{vs:`a8}{Q:`dQ}(he:`a5R)(hd:`zF)(q:`aPo)(h:Q () s):`aqG:=by
 delta setFlight;apply `IV;rw[`d6];exact A2 h
def Oe0{M:`eM}{E:`ap}{s:`v}{env:`ajC}{x:`Ni}{C:`d}{Q:Flow->`ej}(hbase:`a6G)(hh:`kg)
  (h:`Tc x (λv s₁=>∃e od,v=`mp/\XC.Cl `pd C tl/\XC.Raw `pd e C od/\E `iz `eF)):
  `hr M (raiseStmt env (`c8) `e):=by
 have Y:`aOG:=by rw[`ajL,`hj,Bool.or_true]
 delta raiseStmt;refine A0 (C9 h (λv s₁ h₁=>?_) `ur);skip;let#[e,od,rfl,c,#[oe,vs,he,hc,O,hd,a2,U,a4],hE]:=h₁;let#[nm,q,N,bs,a1,sn,sub,ab,a5,dd,k0,k1,k2,k3,k5,Z,hC]:=`yt;let#[hp,g,d,tk,os]:=`eF;let#[oc,a3,a6,osl]:=oe;dsimp only at hc O hd;subst hc O hd
 done;repeat (first|apply `CI (C5 he ?_)|apply `SE|apply `Cb (t5 hC ?_) Y|apply `CI (R40 he rfl U ?_)|wp_step)
 exact wpAny_raiseNew_none hh hE
omit L2
open X
inductive DX where
 | ok (d:D)|ex (c:Str) (n:`aI)
inductive RX where
 | ok (r:Res)|ex (c:Str) (n:`aI) (δ:Ds)
abbrev GZ:=Ds->`WE
def okZ(G:GS):GZ:=`a6H
def ow0:GZ:=`a6I
def ug0(G1 G2:GZ):GZ:=fun δ=>match `d! with
 | `kv=>`xi
 | r=>r
def XdX(K:`y)(H₀:Hp)(B₀:BS)(H:Hp)(σ:St)(δ:Ds)(od:`bp):`aoe
 | `e=>`hE
 | `gF=>∃(dx:`d) (B:BS),`UP/\`as dx=`e/\H dx=`a6J/\`VR (¬B dx)
def XdS(H H':Hp)(od:`bp):`aoe
 | `e=>`hE
 | `gF=>∃dx,`UP/\`Qg/\H' dx=`a6J
def XdX.out{σ:St}{δ:Ds}{n:`aI}(x:`aqY):XdS `as H od n:=by
 skip;cases n with
 | none=>done;trivial
 | some k=>let#[dx,B,e,h1,h2,_]:=x;done;exact#[dx,e,h1,h2]
def lz0(s:`aZ)(h:H' a=`e):`zN:=by
 cases e:H a with
 | none=>rfl
 | some o=>rw[s a o e] at h;cases h
def Cl0(X:Cx)(H₀:Hp)(B₀:BS)(D:`fO):RX->Prop
 | .ok r=>Bg0 X.K `as `al D r
 | `WF=>`a6K
def tXS(X:Cx)(H₀:Hp)(B₀:BS)(δ:Ds)(G:GZ):TS:=`U_ `FC Cl0 X
structure PSX(X:Cx)(st:`aO)(G:GZ):Prop where
 mk::go:`nw PS st `a6L
structure PSsX(X:Cx)(st:`bb)(G:GZ):Prop where
 mk::go:`PN `a6L
section
variable{st:`aO}{rest as bs:`bb}{G1 G2 Ga Gb:GZ}{gt:GB}{gA:GA}{c:`K}
def zr0(h:`aoy):PSX X st (okZ G):=(.mk λH₀ B₀ δ pins s σ H D I hq135=>by
 apply `gR hq135
 delta okZ at e;cases e1:`gx with
 | none=>rw[e1] at e;cases e
 | some r1=>
  rw[e1] at e;cases e;exact `PO h #[r1,en,e1,k])
def U7:PSsX X [] ow0:=(.mk λH₀ B₀ δ pins s σ H D I hq136=>by
 apply `gR hq136
 cases e;apply `U1)
def X4(h1:PSX X st G1)(h2:PSsX X `aA G2):`U2 PSsX ug0:=(.mk λH₀ B₀ δ pins s σ H D I hq137=>by
 skip;apply `gR hq137
 delta ug0 at e;cases e1:`d! with
 | none=>rw[e1] at e;cases e
 | some r1=>
  rw[e1] at e;cases r1 with
  | ex c n δ'=>cases e;done;apply `rg
  | ok r1=>
   cases r1 with
   | nx δ'=>done;apply `aqZ
   | rt d=>cases e;done;apply `rg
   | bk δ'=>cases e;done;apply `rg
   | ct δ'=>cases e;done;apply `rg
   | rf d=>cases e;done;apply `rg)
def Kj0{r:`d}:(`aHQ).contains `Pf=`f:=by
 rw[`ajL];rfl
structure IniC(P:`aj)(w:`M)(K:`y)(mg:`a2)(base:`D)(cn:Str)(r:`d)(k:Nat):Prop where
 ex:∃(C f:`d) (fd:`fK),XC.At K mg cn C `WG/\(`xA (XC.Ri h C `WG f))/\`Uk k `hy (Wf0 C)/\`a6M
omit z
def spX(K:`y)(f:`IW):Sp:=λvs H Q E=>∃(B:BS) (ds:`k) (r:DX),`nv/\`PK/\f ds=`bK/\match r with
 | .ok d=>`u_
 | `ph=>∀C od H',`aZ->`a6N
structure FnX(P:`aj)(w:`M)(K:`y)(mg:`a2)(base:`D)(x:Str)(k:Nat)(ps:`i)(f:`IW):Prop where
 ex:∃fa fd,`u7 k ps (spX K f)/\`ac'
section
variable{P:`aj}{w:`M}
def mkX(n:Nat)(N:`i)(G:GZ)(ds:`k):`aH DX:=if `rd then (match `le with
 | `AK=>`a6O
 | `aq_=>`IX
 | _=>`e) else `e
def Px0{G:GZ}{r:DX}(h:mkX n N G ds=`bK):`rd/\((∃d,r=.ok d/\`le=`AK)∨∃c n δ,r=`ph/\`le=`c (`WF)):=by
 delta mkX at h;split at h
 ·rename_i hl
  refine`ao!;split at h
  ·rename_i e;cases h;exact `m #[_,rfl,e]
  ·rename_i e;cases h;exact `p #[_,_,_,rfl,e]
  ·cases h
 ·cases h
def okX{st:`aO}{k:Nat}{G:GZ}(F:`Am)(S:`z6)
  (body:`N5 PSsX `a6P):
  `u7 `cX ps (spX K (mkX `aS N G)):=by
 skip;let#[oc,od,kV,doc,pm,an,cdv,ct,osl,rfl,lk,Z]:=F.ex;done;refine R60 lk Z S (λvs H Q E hq138=>by skip;let#[B,ds,r,_,rr,h,_]:=hq138;done;rw[`PR];exact(Px0 h).1) λA outer s H vs Q E hr Y=>?_
 skip;let#[B,ds,r,hb,rr,h,q]:=Y;done;refine#[_,`aH1 H B `B8,?_];skip;have en:`aoV:=by
  refine`a6Q (λi j a U es h1 _ _ _=>`R?) λi U a h1 _=>`R?;delta L2.start xw0;rw[`PR];exact `PQ rr `afQ
 rcases (Px0 h).2 with⟨d,rfl,e⟩|⟨c,m,δ,rfl,e⟩
 ·done;exact`a_K
 ·done;refine#[_,en,e,fun σ H' C od' en' n x pins s1 ea I lie=>?_]
  refine A0 (I.noted rfl lie λh' I' O=>?_);refine`a6R O.mono (q C od' H' `RX n x.out);rcases `aqL with y|y
  ·exact `a6S
  ·exact y
omit z
omit DL
open Y
def Ci0{C:`d}(hm:`a6T)(hg:Gl X c)(hd:`aq0):PE X (`bP c pos) (tC `bl):=(`apo (`ak7 (`hv `eU h)))
def z81{T:`bE}(hm:`nR)(hv:`TX)(hg:`jc)(hn:`nS)(hd:`aL):PE X `lo (tC (.ty T)):=(`apo (`ai0 (`hv (.ty T) h) hd))
def Ar0(K:`y)(tl:`N):`ms:=λvs H Q=>∃a C W od,vs=`aOY/\`a6U/\(`agp)/\(∃tw,`xA (XC.Cl h W tw))/\Q (.bl (`Gr)) H
def Pi0:`ir X `GZ (Ar0 X.K tl):=by
 apply `lR;skip;let#[a,C,W,od,rfl,hH,cl,#[tw,cw],q]:=h;cases r with
 | cons r1 r=>
  cases r with
  | cons r2 r=>
   cases r;cases r1;cases r2;apply `a6V;done;exact XC.Fo0 `aq1 (cw _ `fy) h1 h2 `a6W
def At0(K:`y)(tl:`N)(T:`bE)(b:`B):`ms:=λvs H Q=>∃a C od,vs=[`a',.ty T]/\`a6U/\(`agp)/\Q `s? H
def Mg0{T:`bE}{b:`B}(hty:`ajW)(hT:`a6X `mY=b):`ir X `GZ (At0 X.K tl T b):=by
 apply `lR;skip;let#[a,C,od,rfl,hH,cl,q]:=h;cases r with
 | cons r1 r=>
  cases r with
  | cons r2 r=>
   cases r;cases r1;cases r2;apply `a6V;done;exact XC.Ml0 `aq1 h1 h2 hty hT `a6W
omit L2
open X
def exI(i:Nat)(cs:`i)(f:`akG):GE:=fun δ=>match `bY with
 | `c (.ex c _)=>`ba `a6Y (.bl (f c))
 | _=>`e
section
variable{root:Str}{r:`d}{p:Pos}
open T in
def Pp0{σ:St}{δ:Ds}{f:`akG}{d:D}(en:`a3)(h:exI i cs f δ=`aX):
  ∃c a C od,`IY/\d=.bl (f c)/\`jM/\`aYQ/\`iv:=by
 delta exI at h;split at h
 ·apply `IZ
  split at h
  ·rename_i hc
   cases h;let#[o,h1,a,rfl,C,od,h2,h3,h4,h5]:=`I_;exact#[c,a,C,od,`aq2,rfl,h1,h3,h4]
  ·cases h
 ·cases h
def ft0{C C':`d}(a:XC.At K mg c C tl)(n:`aAN=`c (`c (`U C'))):C'=C:=by
 have:=n.symm.trans a.ns;cases `F;rfl
def In0(T:`aq3)(hr:`fd ∉cs){c':Str}{C C':`d}(h1:`IY)(h2:c'∈cs)(a:XC.At K mg c C `WG)(a':XC.At K mg c' C' `WG):
  `a6Z (`U C')=`a6_:=by
 by_cases e:c=c'
 ·subst e
  rw[ft0 a a'.ns,`ar rfl];simp
 ·rw[`G2]
  have n1:C≠C':=λz=>e (T.diff c (`Pd _ h1) c' `a60 (by rw[a.ns,a'.ns,z]))
  have n2:r≠C':=λz=>hr (by
   have:=T.diff `fd (`aeC) c' `a60 (by rw[T.top.ns,a'.ns,z]);rw[`F];exact h2)
  simp[Ne.symm n1,Ne.symm n2]
def G6(i:Nat){c':Str}(T:`aq4)(hr:`fd ∉cs)(h':c'∈cs)(hm:`aoX)(hi:`c4)(hgi:`aoY)(hgc:`iu c')
  (hv:`dT) (hd:`aL) (hcd:`di) (hdc:`sN c')
  (s1:`G (`aq5=[(`ih (`adq))]) Aa) (s2:`hi `a61 (`a62::`aq5)) (hpl:`mn (`pj `aq5)):
  `ao_ `a61 (exI i cs λc=>`a6_):=(.mk λB δ=>by
 let#[C',a']:=T.all c' h';refine (`a63 (Pi0 (tl:=`M4)) (Ci0 a'.mg hgc hdc)).imp fun σ H Q hq139=>?_;skip;apply `b2 hq139
 apply `a64;apply `aq6;obtain rfl:=ft0 a2 h3;done;refine#[`a',h1,a,C,C',od,rfl,h2,a2.cl,#[_,a'.cl],?_];rw[In0 T hr hc h' a2 a'];exact `a65)
def z00(i:Nat){Tn:`bE}{b:`B}(T:`aq4)(hy:`eu y=`c `aq7)(hty:`NJ `aq7=`acP)(hT:`a6X `aq7=b)(hm:`aoX)(hmy:`cx y=`e)(hi:`c4)(hgi:`aoY)(hgc:`iu y)
  (hv:`dT) (hd:`aL) (hcd:`di) (hdc:`n6) (hny:`P8 y)
  (s1:`G (`aq8=[(`ih (`adr))]) Aa) (s2:`hi `a66 (`a62::`aq8)) (hpl:`mn (`pj `aq8)):
  `ao_ `a66 (exI i cs λ_=>b):=(.mk λB δ=>by
 refine (`a63 (Mg0 (tl:=`M4) hty hT) (z81 hmy hy hgc hny hdc)).imp fun σ H Q hq140=>?_;skip;apply `b2 hq140
 apply `a64;apply `aq6;obtain rfl:=ft0 a2 h3;done;exact#[`a',h1,a,C,od,rfl,h2,a2.cl,`a65])
omit z
omit DL
open Y
abbrev Cx.body(X:Cx)(pn:`az)(xe:`ap):Cx:={ X with pn:=pn,xe:=xe }
abbrev Cx.hand(X:Cx)(A:`ck):Cx:={ X with A:=A,calm:=`l,xe:=`oN }
section
variable{pins':`az}{σ:St}{s:`v}{W:`ap}
def Cx.Ok.body(o:X.Ok){pn:`az}:`a67:=(`a68)
def Cx.Ok.unbody{pn:`az}(o:`a67):X.Ok:=(`a68)
def Inv.toBody(I:`C):`a69:=((`uv I.ok.body λp hp=>`jw p (`bA hp)))
def Inv.ofBody(I:`tz `FD pins'):`C:=((`uv I.ok.unbody λp hp=>`jw p (D5 _ hp)))
def FpW.ofBody{b:`d}(f:FpW `FD pins' H b):`aqK:=(#[f.1,f.2.1,f.2.2.1,f.2.2.2.1,f.2.2.2.2.1,λp hp=>f.2.2.2.2.2 p (D5 _ hp)])
def Cx.Ok.hand(o:X.Ok)(hf:`a6'):(`O3 A).Ok:=((`aHR (λz=>by cases z) (hf.trans `aHS)))
def Inv.toHand(I:`C)(hf:`a6'):`a6!:=((`uv (I.ok.hand hf) `jw))
def Inv.ofHand{σ':St}(I:`a6!)(J:`L6):`C:=((`uv J.ok `jw))
omit z
omit L2
open X
section
variable{σ:St}{δ:Ds}{C:`d}
def b70{s:Sl}{d:D}(hs:`aq9)(h:(`el i s)[j]?=`m8):j≠i:=by
 rintro rfl
 by_cases hl:j<`m9
 ·rw[`Ad] at h
  cases h;exact hs _ rfl
 ·rw[`Ib] at h
  cases h
def Env.setSl{o:`dL}{s:Sl}(e:`a3)(hs:`aq9)(r:`Ia):Env K H B `WH (`el i s):=by
 refine`aoj r `aHf;have hj:=b70 hs h1;have hk:=b70 hs h2;rw[`qT] at h1 h3;rw[`aYZ] at h2 h4;exact `aKv b
def EnvS.setSl{o:`dL}{s:Sl}(e:`cm)(hs:`aq9)(r:∀B,`a3->`Ia):`Fh H `WH (`el i s):=by
 apply `aoK;refine#[e.same,(`uj (en.setSl hs (r B en))),`aiv,e.b0];have hj:=b70 hs h1;rw[`qT] at h1 h2;exact `a6?
def xdB{n:`aI}(e:`cm)(x:`aqY):∃B,`VR `aYR:=by
 skip;cases n with
 | none=>
  apply `aoK;done;exact#[B,b1,b2,en,`ny]
 | some k=>
  apply `a7a;done;exact#[B,b1,b2,en,dx,h1,nb,h3]
def EnvS.setEx{m:`aI}(e:`cm)(x:`ado K m)(hH:`zN)(n:`iv):`kF K `as `al `aq' (`wQ i (`o4)) (`el i (`aq!)):=by
 let#[B,b1,b2,en,xd]:=xdB e x;have nb:`tK:=λz=>`Vc a z hH
 have U:`hV `aq' δ:=`f' (yl0 hH);have O:J30 `aq' B od m:=by
  cases m with
  | none=>trivial
  | some k=>
   let#[dx,h1,h2,h3]:=xd;exact#[dx,h1,h2,`FB h3 hH h3]
 refine#[`aoz (yl0 hH),(`uj (U.setSl `WI #[a,rfl,C,od,nb,Y7,n,O])),`aiv,e.b0];have hj:=b70 (s:=`aq!) `WI h1;rw[`qT] at h1 h2;exact `a6?
omit z
def U50(cs:`i)(i:Nat)(Gb:GZ)(Gh:GS):GS:=fun δ=>match `Fc with
 | `kv=>`eD
 | `i7=>if `a6Y then (match Gh (δ'.set i (`ph)) with
  | `af δ''=>`af (δ''.set i .un)
  | _=>`e) else `e
 | _=>`e
section
variable{root:Str}{r:`d}{body:`bb}{Gb:GZ}
def Lw0{C:`d}:`a6Z (`U r)=`f:=`bO
open T in
def z20(i:Nat)(T:`aq4)(hb:∀pn xe,PSsX (`aa5 pn xe) `eC Gb)(hh:∀e:`d,`nb (`O3 (`aMT `aHK)) `aLO Gh)(hN:`dh)(st:`G (`S_) Aa)
  (hi:`c4) (hx:`G (`Ly) Aa) (hg:`iu `fd) (hdb:`sN `fd):
  PSD X (.Try `eC `a7b [] [] pos) (U50 cs i Gb Gh):=(.mk λH₀ B₀ δ pins s σ H D I hq141=>by
 let#[res,en,e,k]:=hq141
 refine wpAny_Try_except ?_;obtain⟨W,hW⟩:∃W:`ap,W=λe s₁=>`aN `ek X.A (`HQ e `P) (λ_ s₂=>`aN `ek X.A (`ah1 e `e) (λ_ s₃=>`uC (handleBy e `P `a7b) `a7c s₃) `hW s₂) `hW `eF:=`Y
 rw[← hW];have I1:`a69:=I.toBody;delta U50 at e;cases e1:`Fc with
 | none=>rw[e1] at e;cases e
 | some rx=>
  rw[e1] at e;have run:∀D1:`fO,Cl0 `FD `as `al D1 rx->`aN `ek X.A (execs `eC `P) (SP `FD [] D1) W s:=λD1 k1=>(hb (`wS) W).go `as `al δ [] s σ H D1 I1 #[rx,en,e1,k1]
  cases rx with
  | ok r1=>
   cases r1 with
   | nx δ'=>
    cases e;refine `a7d `hf k;cases f with
    | next=>
     apply `alg;exact p40 `t s1 σ' H' D I'.ofBody q
    | ret v=>apply `aq?;exact `cO
    | brk=>apply `u8;exact `cO
    | cont=>apply `u8;exact `cO
   | rt d=>cases e
   | bk δ'=>cases e
   | ct δ'=>cases e
   | rf d=>cases e
  | ex c m δ'=>
   simp only[] at e;split at e
   ·rename_i hc
    have hc:=`aq2;split at e
    ·rename_i δ'' e2
     cases e;refine `a7d `oN fun σ' H' C od en' n xx pins' s1 ea I' lie'=>?_
     ·show W (`Se) s1
      rw[hW];have I2:`abU s1:=I'.ofBody;have a3:ac0 X `t H' s1.heap C od ea:=lie'.mono λb z=>z.ofBody
      refine I2.noted st a3 λh2 I3 O=>?_
      apply `aq6;obtain rfl:=ft0 a2 n;let#[oe,vs,he,a4,_]:=id O;have I4:Inv `a7e `t σ' H' (`ga s1 h2):=I3.toHand rfl;refine wpAny_handleBy_cons (codeAny_handlers_test (pd0 I4 hg T.top.mg (XC.Tj0 (h:=h2) (a2.cl _ I4.kIn) (T.top.cl _ I4.kIn) he a4 ?_) hdb)) (by intro q;cases q);rw[Lw0];refine codeAny_handlers_suite_as (I4.flown (C:=C) (od:=od) O λh5 I5 a6=>?_);let#[Y,b1,a1,U,a5,a7,_,Z,_]:=id a6;have I6:Inv `a7e `t σ' (upd H' ea (.ext (jk0 ea C od))) (`ga s1 h5):=I5.track Z #[Y,a1,U,λdx z=>a5.trans z,b1,a7] #[Y,a1] λg1 g2 #[o,q1,q2,q3] q=>#[o,q o q1,q2,q3]
      refine i60 (X:=`aHV) I6 hN hi `N7 (v:=`Se) rfl (λs7 I7=>?_) (`p hx);refine C9 ((hh ea).go `as `al (δ'.set i (`aq!)) `t s7 _ _ { nx:=fun σ H=>`ja X.K H δ'',rt:=`oN } I7 #[.nx δ'',en'.setEx xx Z.1 n,e2,`D3]) (λf s8 q=>?_) (λ_ _ z=>`cO);cases f with
      | next=>
       let#[σ8,H8,I8,a9]:=q;exact(I8.ofHand I2).goes hN hi hx λs9 I9=>#[_,H8,I9,k _ _ (a9.setSl `WI λ_ _=>`ny)]
      | ret v=>apply `aq?;exact `cO
      | brk=>apply `u8;exact `cO
      | cont=>apply `u8;exact `cO
     ·cases f with
      | next=>apply `u8;exact `cO
      | ret v=>apply `aq?;exact `cO
      | brk=>apply `u8;exact `cO
      | cont=>apply `u8;exact `cO
    ·cases e
   ·cases e)
omit z
def ty_ValueError:`NJ `GW=`acP:=(W.kitMeta_of `c7)
omit DL
namespace XC
open PySem.W
section
variable{w:`M}{h:`D}{g:`j_}{d:`nM}{t:Nat}{os:`um}{C:`d}{o:Obj}{K:`cR}{od:`aj7}{f:Str}{v:`A}
def Cw0{tk:Tok}{Q:`un}(X:`go)(J:`WJ)(hf:`WK)(hq:Q (`a3?) `e'):
  `iS (`ajS `a7f):=by
 have L0:=J.type (M:=`aaf);have L1:=looks_find (M:=`aaf) X J hf;refine `lJ A2 (A2 (`lJ L0.at (L1.at ?_)));exact A2 hq
def Hr0{tk:Tok}{R:`ka}(c:`dP)(X:`go)(J:`WJ)(hf:`WK)(hq:`qQ v `e'):
  `aOH `a7f:=(
 L5 `aOI `aOJ (Zx0 c J.at_ J.cls (Cw0 X J hf hq)))
def z01{tk:Tok}{fill expr:`B}(c:`dP)(X:`go)(J:`WJ)(hf:`WK)(hh:`a7g)(hq:Q v `e'):
  `iS (`ajT `cf (`aHW) fill expr):=by
 have hx:=J.at_;have hc:=J.cls;apply `aOK;apply `aOL
 have z2:`aOM:=`bc
 apply `aON
 have ho:=handedOut_of hh
 apply `aOO
 refine Hr0 c X J hf ?_
 repeat (any_goals (first|apply `hC|(rw[ho])|wp_step))
def Ix0{expr:`B}(c:`dP)(X:`go)(J:`WJ)(hf:`WK)(hh:`a7g)(hq:Q v `aOP):
  `iS (`Pq `cf f expr):=(A0 (wpAny_mkText (z01 c X J hf hh hq)))
omit z
omit XC
open Y
structure ErrG(K:`y)(C:`d)(f:Str):Prop where
 cl:`a7h
 hd:`TA
 na:`TG
section
variable{σ:St}{s:`v}
def Tb0{C:`d}{f:Str}{b:`B}{Q:`ap}(I:`C)(ha:`yl (.ext (DL.jk0 a C `OK)))(hx:H dx=`c (.xd `TC))(c:ErrG X.K C f)
  (h:`aTH):`aTI:=by
 skip;let#[#[oe,h1,h2,h3,vs,h4],_,_]:=`b1 a _ ha;let#[mA,ns,r]:=`b1 dx _ hx;let#[od,ho,hl]:=Yc0 ns;have l:(`TC:`hG).lookup f=`bR:=`fg `iW
 apply `aTK;have J:W.InstAt `ay a oe C (`al9):=#[h1,h2,by delta W.notCls;rw[h4],`o (h3 dx rfl) ho];let#[tl,cl]:=c.cl;let#[hh,g,d,t,os]:=s;done;exact XC.Ix0 `aq1 `fy J (`aTt c.hd c.na rfl (by rw[hl,hu])) (Yp0 ru) (h u _ `sL ru)
omit z
omit L2
open X
def atG(i:Nat)(as:`i):GE:=fun δ=>match `bY with
 | `c (.ex c (`sI))=>`w (as.contains c=`f) `Qe `e
 | _=>`e
open T in
def yy0(i:Nat){as:`i}(T:∀c∈as,∃C,`Qh/\ErrG X.K C `cW)(hi:`c4)
  (hv:`dT) (hd:`aL) (hcd:`di)
  (hb:`IJ `cW):
  PD X (`fz `k1 `cW pos) (atG i as):=(.mk λB δ pins s σ H Q I hq142=>by
 apply `b2 hq142
 delta atG at h;split at h
 ·apply `IZ
  split at h
  ·rename_i hc
   cases h;let#[o,h1,a,rfl,C,od,nb,hH,ns,dx,rfl,O,hx]:=`I_;let#[C',n',g]:=T c (`aq2);obtain rfl:C=C':=by
    have:=ns.symm.trans n';cases `F;rfl
   refine Su0 hb (thn (wb0 hi hv hd hcd `t s σ H (λv H'=>`Ln/\H'=H) I #[_,h1,rfl,rfl]) λu s1 hq143=>?_);let#[v,H1,I1,r1,e1,e2]:=hq143;subst e1 e2;obtain rfl:u=`r3:=r1;exact Tb0 I1 hH hx g λu s' I' ru=>#[`ev,H1,I',ru,k _ _ `tV `CA]
  ·cases h
 ·cases h)
def qc0(f:`a9)(G:GZ):`k->GZ
 | [],δ=>`c (`agm)
 | `b0,δ=>`aX0 fun δ2=>match G δ2 with
  | `a7i=>`a7j
  | `kH (.ct δn)=>`a7j
  | `kH (.bk δn)=>`a7i
  | r=>r
open A
def Wv0(gi:`hM)(f:`a9)(G:GZ):GZ:=fun δ=>`z' λds=>qc0 f G ds δ
def XdX.lower{H₁:Hp}{σ:St}{δ:Ds}{n:`aI}(x:XdX K H₁ `al H σ δ od n)(s:`aZB):`aqY:=by
 skip;cases n with
 | none=>done;trivial
 | some k=>
  apply `a7a;done;exact#[dx,B,h1,`afL h2,h3,b1,`aZC,en,nb]
section
variable{body:`bb}{G:GZ}
open Classical in
def Hk0(hp:`zP)(hc:`dH)(hi:`l_)(hg:`Ii)(hb:PSsX X `eC G)
  (hs:`fX):PSX X `alR (Wv0 gi f G):=(.mk λH₀ B₀ δ pins s σ H D I hq144=>by
 apply `a4 hq144
 delta Wv0 at e1;apply `aU;cases e2:`wF with
 | none=>apply `ac;cases e1
 | some items=>
  apply `ac;apply `fp;apply `aZE
  have a9:`U8 (`iP (`aoL (`afM tXS X))):=`aZG `a7k
  apply `aZI;apply `aZJ
  apply `aZK
  apply `aZL
  apply `aZM
  have a3:`aZN:=#[λb o h=>by
   by_cases z:`CN
   ·rw[`aZO] at h;cases h
   ·rw[U] at h
    have h':(`Fj)=`aG:=h;rw[`cc] at h';exact h',λb o xs h=>by
   by_cases z:`CN
   ·apply `aZP
    apply `aZQ;cases h0
   ·rw[U]
    show (`Fj)=_;rw[`cc];exact h]
  have hS:`aZR:=#[λb o h=>by
   have h1:=`aZS
   by_cases z:B b
   ·rcases b2 b z with q|q
    ·rw[`U9];exact h1
    ·rw[h] at q;cases q
   ·rw[Y b z];exact h1,`aZT]
  have Z:=`gq;have start:`aZU:=by
   apply `aZV
   ·by_cases q:`oA
    ·exact `mU
    ·exact `aZW
   ·have hn:=`aZX
    have nb:¬`oA:=λz=>`qa a z hn
    apply `aZY;rw[h2] at e3;cases e3;cases e4;exact `aZZ
   ·rw[a4 a z]
    exact `aZ_
  refine#[λi m σ H=>`aZ0 qc0,#[_,rfl,`b7,δ,`k5,e1],?_];rintro i m σi Hi ⟨rfl,c0,δi,O,ei⟩;apply `aZ1
  by_cases hlt:`Ik
  ·refine `aZ2 qc0 #[`U',`em,rfl,hlt,δn,en',e']
   apply `aZ3;apply `aZ4;have a6:`aZ5:=rd B' (λb o n h=>by
    have h':Hh b=`aG:=`ai3
    apply `aZ6;rcases c2 b z with q|q
    ·exact `aZ7
    ·rw[h'] at q;cases q) env0.bad
   have a5:=`aZ8
   replace O:=`Fq sm
   have a2:`aZ9:=by
    apply `U!;congr 1;rw[`U?] at hd;exact A4 hd
   rw[a2] at ei;delta qc0 at ei;cases e3:f d δi with
   | none=>rw[e3] at ei;cases ei
   | some δ2=>
    rw[e3] at ei;simp only[`h] at ei;apply `aZ';apply `aZ!;cases e4:G δ2 with
    | none=>rw[e4] at ei;cases ei
    | some rb=>
     rw[e4] at ei;apply `aZ?;cases rb with
     | ex c n δn=>
      cases ei;exact fun σ' H' C od en' nn xx=>k σ' H' C od `aMC nn (xx.lower hS)
     | ok rb=>
      cases rb with
      | nx δn=>apply `Va
      | ct δn=>apply `Va
      | bk δn=>
       cases ei;apply `a_a
      | rt d'=>
       cases ei;apply `a_b
      | rf d'=>
       cases ei;apply `a_c
  ·have e:i=`c?:=`em
   subst e;apply `a_d;rw[`Io] at ei;cases ei;exact `a_e)
omit z
omit DL
namespace XC
open PySem.W
def riB(K:`cR)(C:`d)(tl:`N)(f:`d):`B:=match `hs C with
 | `ajX=>(match `ajY with
  | `aO5=>`aO6&&`aO7==`yB&&(match `aBN with
   | `c #[`wn,_,_,_]=>`f
   | _=>`l)
  | _=>`l)
 | _=>`l
def Q00{K:`cR}{h:`D}{N:`d}{m:`a2}{n:Str}{v:`A}(X:`go)(G:h.Ns N m)(e:nsIn K N n=`pc):m n=`bR:=by
 skip;let#[o,es,ep,ho,hd,_,hf]:=G;delta nsIn at e;split at e
 ·rename_i q
  have z:=(X _ _ q).symm.trans ho;cases z;cases hd;split at e
  ·rename_i he
   cases e;done;rw[← hf];delta nsFind findBy;rw[← `aTo,he];rfl
  ·done;apply `ara
 ·cases e
open T in
def z91{K:`cR}{h:`D}{C f:`d}(X:`go)(e:riB K C tl f=`f):`aj2:=by
 delta riB at e;split at e
 ·apply `ajZ
  split at e
  ·apply `aj_
   apply `aj0;let#[#[#[#[#[#[hm,rfl],O],ht],hok],U],hf]:=e;apply `aO8;dsimp only at hm O hok U;subst hm O;have Y:`aO9:=by
    let#[l]:=sl;simp only at hs;rw[hs]
   subst Y;refine#[(`aO' Q00 (`aFK)),?_];split at hf
   ·rename_i o _ _ hfo
    exact#[_,X _ _ hfo,rfl]
   ·cases hf
  ·cases e
 ·cases e
def Ka0(K:`cR)(C r:`d):`B:=(match `aFN with
 | `aeK=>`yi==`aj8&&`aFO
 | `e=>`l)&&`a7l==`gX&&`aPy==`ac0
open T in
def Cp0{K:`cR}{C r:`d}(e:Ka0 K C r=`f):`a7m/\hasDictIn K C=`f/\`a7l=`gX:=by
 delta Ka0 at e;apply `uq `b5 `s7;apply `arb;split at h1
 ·rename_i cd hc
  simp only[`b5,`s7] at h1;exact#[#[#[cd,hc,h1.1,h1.2],h2,h3],by delta hasDictIn;rw[hc];exact h1.2,h2]
 ·cases h1
def R20(K:`cR)(W:`d):`B:=specialIn K `CQ `qK==`aqT&&readsIn K W `xv&&(match findCls K `CQ `xv `eG with
 | `c (.val (`b6 n))=>n == `aeJ
 | _=>`l)
open T in
def Ih0{K:`cR}{W:`d}(e:R20 K W=`f):L2.RootC K W:=by
 delta R20 at e;apply `uq `b5 `s7;apply `arb;split at h3
 ·rename_i n hn
  rw[`aO2 h3] at hn;exact#[h1,h2,hn]
 ·cases h3
def av0(K:`cR)(root c:Str)(f:`d):`B:=match `aO!,`up with
 | `c (`aj1),`rP=>riB K C `yv f&&Ka0 K C r&&R20 K r
 | _,_=>`l
def N00{K:`cR}{root:Str}{r f:`d}(T:`aPd)(hc:`IY)(e:av0 K `fd c f=`f):
  ∃C,`aPc/\(`xA (Ri h C `yv f))/\`a7m/\L2.ErrG K C `cW/\L2.RootC K r:=by
 let#[C,a]:=`aD2;delta av0 at e;rw[T.top.ns,a.ns] at e;simp only[`b5] at e;apply `arb;let#[e1,e2,e3]:=Cp0 h2;exact#[C,a,λh X=>z91 X h1,e1,#[`a7n,e2,e3],Ih0 h3]
omit XC
open X
def He0(X:Cx)(C:`d)(body:`bb):Prop:=∃t,PSs X `eC t/\∀(D:`fO) σ H e n,`a6D->`a6E->`aqW->`AJ ->
 `a6F
def Vh0{P:`aj}{w:`M}{base:`D}{root:Str}{r f:`d}{qual:Str}{st:`aO}{fd:`fK}(T:`aq3)(hc:`IY)(ib:`a7o)
  (F:`MJ `eG `jt) (S:`ao `hy `hy `sh) (hb:`a6M)
  (body:∀C,(`a7h)->ErrC K C r `cW->RootC K r->mg `fd=`aj1->∀cdv A outer s H E,He0 (`OS CX0 `hy f).nox C `MH):`Ro P c r:=by
 apply `a7p;refine #[C,f,fd,a,ri,F.ok (k:=0) S (λvs H Q E #[e,n,h,_]=>`arc) λcdv A outer s H vs Q E hr hq145=>?_,hb];skip;let#[e,n,hv,hH,hn,q]:=hq145;let#[t,ht,go]:=`eC C `a7n ec rc T.top.mg cdv A `da s H E;subst hv;done;exact#[t,ht,go _ _ _ e n rfl rfl hH hn q]
def at_of{root:Str}{r f:`d}(T:`aq3)(hc:`IY)(ib:`a7o):`ard:= by
 apply `a7p;exact#[C,a.ns,eg]
def qv0:`O
 | `Gc=>match `a7q with
  | [c]=>`c (`g (c:Nat))
  | _=>`e
 | _=>`e
open T in
def zx0:FnR K `aTm qv0:=by
 apply `q?;delta qv0 at h;split at h
 ·rename_i x
  split at h
  ·rename_i c hc
   cases h;apply `i2;rw[w40] at r1;subst r1;let#[#[l]]:=x;have:l=[c]:=hc;subst this;exact`I0 _ (`h8 (`ae zk0))
  ·cases h
 ·cases h
omit DL
open Y
def Zu0:∀{ys:`i} {us:`N},`a_L->∀(m:Nat) (y:Str),`a7r->∃t,us[m]?=`aY7:=by
 intro ys;induction ys with
 | nil=>intro us _ m y h;cases h
 | cons y' ys ih=>
  intro us p m y h;cases p with
  | cons r t=>
   cases m with
   | zero=>cases h;let#[tk,rfl]:=r;exact`a7s
   | succ m=>exact ih t m y h
def Zo0:∀ys:`i,(`aa2).all o00=`f:=by
 intro z;induction z with
 | nil=>exact rfl
 | cons y ys ih=>rw[`av,`lU,ih];rfl
omit L2
namespace PySem.SeqAt
open PySem.AutoSeq1 (wpAny_loadPart')
open MeetsSeq MeetsSeq2 MeetsSeq3 SeqRoads2
def ek0{M:`eM}{A:`ck}{E:`ap}{s:`v}(f:Nat->β->Sem (ForInStep β))(I:`j->β->`ej)(Q:β->`ej)
  (turn:∀x rest b s,I (x::`aA) b s->`Tc (f x b) (λr s'=>match r with|.yield b'=>I `aA b' s'|`qd b'=>Q b' s'))
  (fin:∀b s,I [] b s->Q b s) (lo hi:Nat) (b:β) (h:I `a7t b s):`hr M (`a7u):=by
 have e:(`a7u:Sem β)=`E? `a7t b f:=`bO
 rw[e];exact u2 f I Q turn fin _ b h
def tuple_indexAt(l:`d)(items:`a8)(n:Nat)(dd:`bp)(sl:`j?)(x:`A)(e:`aPJ)(j:Nat)(hj:j<`gu)
  (hit:e `bf[j]=`f) (hno:∀m (hm:m<`gu),m<j->e `bf[m]=`l):
  Meets (Builtin.«tuple.index» #[[`pN,x],[]])
   (λA R s=>`es l=`aOl `mX `aP1/\(∀y,y∈`bf->EqAt `g1 s y x (e y))/\`qQ (`g j `cK) `np):=(
 .of_wp λprog w A R s h=>by
  skip;let#[hp,g,d,tk,os]:=s;let#[hl,he,h]:=h
  done;wp_walk using A80 hl,ek0 _ (λrest b s'=>b.1=`e/\s'=#[hp,g,d,tk,os]/\∃i,i<=j/\`aA=`QG i (`gu - i)) _
  case turn=>
   rintro y rest b s' ⟨hb,rfl,i,hi,hr⟩;have O:i<`gu:=`E
   have e1:`gu - i=(`gu - `eA)+1:=`E
   rw[e1,`are] at hr;let#[rfl,rfl]:=N9 hr;have hy:`bf[y]?=`c `bf[y]:=by simp[O]
   rw[hy];refine A0 (he `bf[y] (Array.getElem_mem O) `m5 w _ _ ?_)
   by_cases hyj:y=j
   ·subst hyj
    rw[hit]
    wp_walk
    exact`a2b
   ·rw[hno y O `n]
    wp_walk
    exact#[rfl,rfl,y+1,`E,rfl]
  case fin=>
   rintro b s' ⟨hb,rfl,i,hi,hr⟩;have:=D0 `uI hr;simp at this;lia
  case h=>
   exact#[rfl,rfl,0,`b7,`bO])
omit PySem.SeqAt
open Y
def zf1(K:`y):`ki:=λx vs H Q=>∃(p:`d) (ys:`i) (z:Str) (j:Nat),`afh/\vs=`Pw/\SqT K H p `Fl/\ys[j]?=`c z/\(∀m,m<j->ys[m]?≠`c z)/\Q `wi H
def Hn0:MtR X "tuple.index" (zf1 X.K):=by
 apply `Ue;skip;let#[p,ys,z,j,rfl,rfl,hq,hj,Y,q]:=h;cases rx;apply `ani;apply `amX;let#[o,h1,h2,n,h3]:=id pl;have a1:`p'=`d5:=`xN `bm `T
 have a2:j<`d5:=(`ch hj).1;have at_:∀m (hm:m<`jP),∃y t,`a7r/\`b3[m]=`r y t:=λm hm=>by
  have O:m<`d5:=by rw[`b8] at hm;lia
  let#[t,e]:=Zu0 r m ys[m] (C4 O);refine#[ys[m],t,C4 O,?_];have:its[m]?=`c its[m]:=C4 `n;rw[`F] at e;have e':=A4 e
  apply `dX e'
 let#[c0,dd,dt,sl]:=o;obtain rfl:c0=`mX:= h2;obtain rfl:dt=`aCg:=h3;let#[t,rfl]:=ru;have U:∀(y:Str) (tk:Tok),`a7v=`f↔y=z:=λy tk=>by
  show (eqV `O? `tW)=`f↔_;simp[eqV]
 done;refine S0 (T:= `eX) `a7w (show `sM `hZ `eX from #[_,h1,rfl]) F.entry_tuple_index (F.args_tuple_index_2 _ _) (SeqAt.tuple_indexAt p `b3 n dd sl `a2G (eqU `tW) j `HJ ?_ ?_) #[h1,λy hy=>jl0 (x:=`oT) `Ug rfl r (Zo0 ys) y (`bA hy),(`ns `e3)]
 ·let#[y,tk,e1,e2]:=at_ j `HJ
  rw[e2,U];rw[hj] at e1;cases e1;rfl
 ·intro m hm Z
  let#[y,tk,e1,e2]:=at_ m hm;rw[e2];cases hb:`a7v with
  | false=>rfl
  | true=>exact `J ((U y tk).mp hb▸e1) (Y m Z)
def Vi0(K:`y)(mg:`a2)(x:Str)(ys:`i):Prop:=
 ∃(a:`d) (o:Obj) (its:`a8) (n:Nat),mg x=`o4/\`aeX/\`SR/\`SS/\`aF6/\`aeY/\`bV `Fl `Pl
omit L2
open X
def au0(ys:`i):`O
 | `Pw=>(`a7x `a7y).map λj=>`e3
 | _=>`e
section
variable{a:`K}{ga gb:GE}{gA:GA}{ys:`i}
open T in
def zd0(hK:`a7z)(ha:`Vq)(hg:`fn)(hd:`aL)
  (hbase:`G (`wK `Qi "index" `P (`a7A)=`a7A) Aa)
  (hfew:`G ((`ra
  &&`ao5)=`f) Aa)
  (hline:`fZ) (hs:`f3) (hplain:`l3):
  PD X (`Iu `Qi "index" [e]) (oA gA (au0 ys)):=(.mk λB δ=>by
 let#[p,o,its,n,hm,hk,hc,U,O,Y,hv]:=hK;refine (nc0 F.plainAttrs_tuple `a7w F.type_tuple_index Hn0 `a7B `bD `hj `pt `jI hs `sP).imp fun σ H Q hq146=>?_;apply `b2 hq146
 delta oA at h;cases e2:`e0 with
 | none=>rw[e2] at h;cases h
 | some es=>
  apply `WL;delta au0 at h;split at h
  ·rename_i z
   cases e4:`a7x (`a7y) with
   | none=>rw[e4] at h;cases h
   | some j=>
    rw[e4] at h;cases h;refine#[`p (`m #[rfl,o,hk,hc,U]),_,en,e2,`afT];rw[W5] at r2;let#[y,rr,rfl,r3,r4]:=r2;rw[O8] at r4;subst r4;rw[w40] at r3;subst r3;let#[hj,h1,h2]:=List.findIdx?_eq_some_iff_getElem.mp e4;refine#[p,ys,z,j,rfl,rfl,`a7C Y,?_,λm hm he=>?_,k _ _ s2 `CA]
    ·rw[`ik hj,`a7D h1]
    ·have Z:m<`d5:=`E
     rw[`ik Z] at he;exact h2 m hm (F0 (A4 he))
  ·cases h)
omit z
def cpX(i j:Nat):GS:=fun δ=>match `lr with
 | `IX=>`af (`el i (`ph))
 | _=>`e
def exN(i:Nat):GE:=fun δ=>match `bY with
 | `c (.ex _ _)=>`j2
 | `c (`xe)=>`iL
 | _=>`e
section
variable{a0:`K}{gA:GA}{posg p pg:Pos}
open T in
def J8(i j:Nat)(hN:`dh)(hj:`G (`aXy) Aa)(hi:`rh)(hx:`hO)(hf:`gP)
  (hv:`dT) (hd:`aL) (hcd:`di)
  {ap:Pos} (hs:`NQ `AL `mw ap.line) (hw:`NR `AL `mw)
  (h1:`NS `AL `L4):
  PSD X (`gB `AL `mw ap) (cpX i j):=(.mk λH₀ B₀ δ pins s σ H D I hq147=>by
 apply `a4 hq147
 delta cpX at e1;split at e1
 ·apply `IZ
  cases e1;apply `aU;let#[o,ho,a,rfl,xc]:=`sp env.all hδ;refine gk0 (`OI j hj) (`U0) hs hw h1 `t s σ H D I #[`a',ho,?_];exact k _ H (en.setSl `WI λB' U=>by
   let#[o',O,a',e',Y]:=`sp U.all hδ;rw[ho] at O;cases O;cases e';exact#[a,rfl,Y])
 ·cases e1)
open T in
def z30(i:Nat){j:Nat}{pc:Pos}(hi:`c4)
  (hv:`dT) (hd:`aL) (hcd:`di):
  `Ie (`MT `mw [.Is] [`Cr `aY j pc] pos) (exN i):=(.mk λB δ=>(fu0 zv0 (`OI i hi) N20 (fd0 _)).imp fun σ H Q hq148=>by
 apply `n0 hq148
 delta ob exN at h;split at h
 ·apply `IZ
  cases h;let#[o,ho,a,rfl,xc]:=`I_;exact#[`a',ho,rfl,`l,rfl,`Vb]
 ·rename_i hδ
  cases h;let#[o,ho,v,rfl,rv]:=`I_;rw[w90] at rv;subst rv;exact#[`x,ho,rfl,`f,rfl,`Vb]
 ·cases h)
omit z
omit DL
open Y
def Jd0(K:`y):R2:=`ef (∃a xs k,`eJ/\y=`mF/\`tA/\`amM/\0<=k/\k<`hI/\`a7E/\`z1 `a7F)
def Fb0:OpR X `aS0 (Jd0 X.K):=by
 apply `hJ;skip;let#[a,xs,k,rfl,rfl,ha,hx,h2,h3,hz,q]:=h;cases rx;apply `amT;let#[its,r1,p1,_]:=`g6 ha;apply `a_1;simp only at hc hd;subst hc hd;have hl:=`pP;have he:`apA=`l:=by
  cases its with
  | nil=>exact `J (`aVD rfl) hx
  | cons a b=>rfl
 have O:`a7G<=`agr:=`amY hl hz
 have Y:`a5I (`w (`apA=`f) 0 `lu) `b3=(`bG `lu its).flatten.toArray:=by
  rw[he];have:=foldl_rep its `lu [];apply `aT `q8;exact `F
 have Z:¬(!`a7H)=`f:=by
  have:`a7H=`f:=by delta Builtin.List.listFitsIndex;simp;lia
  rw[`F];decide
 have a2:¬`jP*`lu > (`Pv - 1)/8:=`E
 have a1:¬`Ud (`a7G)=`f:=by
  rw[`b8] at O ⊢;apply `aWv;simp;delta sizeLine;lia
 done;refine wpAny_binaryOp_repeat_ref (T:= `g0) (U:= `lp) `u `uJ (λs'=>b5 s' k t) noFill_list_mul F.fills_int_mul `a7I repeat_list F.slot_int_index.lookup
  (S0 `a7I (b5 s k t) F.entry_int_rmul (F.args_int_rmul_2 _ _) (lm_int_rmul_list_any k t a `b3 n dd sl)
   #[ho,rfl,`uJ,S0 F.slot_list_mul `uJ F.entry_list_mul (F.args_list_mul_2 _ _) (lm_list_mul_any a `b3 n dd sl k t Z a2 a1) #[ho,?_]])
 rw[Y];exact`a_3 (r1.rep `lu) (by rw[len_rep,Nat.mul_comm];delta sizeLine;lia)
omit L2
open X
def mulL:`bx
 | `d2,`mF=>`dM (`amM/\0<=k/\k<`hI/\`a7E) `a7F
 | _,_=>`e
section
variable{a:`K}{ga gb:GE}
def Mk0:Op2 K (Jd0 K) mulL:=by
 apply `n1;delta mulL at h;split at h
 ·split at h
  ·skip;rename_i hz
   cases h;rw[w60] at rx;rw[zk0] at ry;subst ry;apply `apT;done;refine#[a,xs,_,rfl,rfl,q1.to,λz=>hz.1 ?_,hz.2.1,hz.2.2.1,`o `pP hz.2.2.2,`GK `iA (j30 hb hp (Tr0 r1 _))];subst z;have hn:=`pP;simp at hn;exact `apU
  ·cases h
 ·cases h
def G5(ha:`cC)(hb:`cU):`l1 `a22 mulL:=(ia0 Fb0 Mk0 ha hb)
omit z
def gt0(gA:GA)(f:`IW):GZ:=fun δ=>`pf λds=>(f ds).map λr=>match r with
 | .ok _=>`agm
 | `ph=>`WF
section
variable{gA:GA}{p:Pos}
def V2{k:Nat}{f:`IW}(C:`Fo FnX x)(hr:`rb)(hk:k<=m)(ha:`lZ)
  (hg:`fn) (hdb:`aL) (he:`dk) (hpl:`eO)
  {ap:Pos} (hs:`lb `pg `e ap.line):
  PSX X (`xH `pg ap) (gt0 gA f):=(.mk λH₀ B₀ δ pins s σ H D I hq149=>by
 skip;apply `a4 hq149
 delta gt0 at e1;apply `aU;let#[fa,fd,F,hm,O,hb]:=C.ex;apply `WM;cases e3:f ds with
  | none=>apply `cb;cases e1
  | some dx=>
   apply `cb;cases e1;done;refine `VW (Lb0 (dvs:=[]) (ds:=[]) F `i3 hg hm O hb `_ `bD hdb he hpl) `arf;show spX X.K f `Qo H1 _ _;rw[`cT];refine#[B,ds,dx,`yS,r1,e3,?_];cases dx with
   | ok d=>exact λv H' s2 r2=>k _ H' (`sQ `jH)
   | ex c m=>
    intro C od H' s2 n x C' q;cases q;refine k σ H' C od (`sQ `jH) n ?_;cases m with
    | none=>trivial
    | some m=>
     let#[dx,e,x1,x2]:=x;exact#[dx,B,e,`a7J,x2,b1,b2,`jd `jH,λz=>`yS dx z x1])
omit z
structure But(p:`d)(H H':Hp):Prop where
 old:`a7K
 nf:∀b o xs,`tQ->`aWU
instance{p:`d}{H H':Hp}:`fl `AM `a7K:=#[But.old]
section
variable{σ:St}{δ:Ds}
def Gr.but{p:`d}(hb:B p)(h:`AM):`aYj:=(`IF #[n,h b u (`zk n hb) e])
def Env.mutB(e:`a3){d:D}(hi:`IG)(hs:`jM)(hh:`AN)(r:`aYP):`a7L:=by
 apply `a1x;rw[hs] at h1;cases h1;refine`a1y
 ·have h0:`a1z H':=`uh (λo' s h=>by
   cases s with
   | un=>exact `a1A
   | ex c n=>apply `i1;exact `a7M
   | sh d=>apply `i1;exact `a7M
   | ow d=>
    apply `VH
    by_cases z:b=a
    ·subst z;exact `a1C
    ·exact `m #[b,e,U,`c! (λo h=>hh b o z h) `aLP]) `lh
  apply `a1D;apply `a1E;apply `a1F
  ·exact h
  ·skip;apply `a1G
   ·cases e3;done;exact`RV
   ·done;apply `a1H
 ·by_cases z':b=a
  ·subst z';exact `uZ
  ·cases q:H b with
   | none=>exact `J q (`apt)
   | some o=>exact(`apt).keep λo h=>hh b o z' h
 ·have q1:`a1I:=by
   skip;apply `VI
   ·done;exact`VJ
   ·done;exact`VK
  have q2:`a1J:=by
   skip;apply `a1K
   ·done;exact`VJ
   ·done;exact`VK
  let#[d1,q1]:=q1;let#[d2,q2]:=q2;exact `a1L
def EnvS.mutB(en:`cm)(b1:`jY)(b2:`jZ){d:D}(hi:`IG)(hs:`jM)(hh:`AN)
  (env:`a7L):`ja K H' `tP:=by
 have h0:=`a1M;have O:i<`m9:=`Gx;apply `a1N
 ·apply `a1O
  exact hh _ _ `F `a1P
 ·by_cases z:b=a
  ·apply `a1Q
   rw[hs] at e1;cases e1;rw[z] at h;exact `a1R
  ·exact `aem b ob xs (hh.nf b ob xs z h)
 ·skip;apply `VI
  ·rw[hs] at h2;cases h2;done;exact h0
  ·done;exact `a1S
omit z
omit DL
namespace L2
open Spec PyProof.Rows PySem.W
def ym1(td ty tx:TE):TE:=fun σ H Q=>td σ H λx H1=>∃a,`eJ/\IsD H1 a/\ty σ H1 λy H2=>tx σ H2 λz H3=>∃kvs k,H3 a=`abl/\y=kV k/\`IC /\
 (∀v,`mZ=`bR->Q v H3)/\(`arg->Q z (upd H3 a (.dK (`Nu z))))
section
variable{f:`K}{tx:TE}
def zv1{σ:St}{s:`v}{k:Key}{r:`A}{A:`ck}{E:`ap}{Q:`ap}(I:`C)(e:`IB)(ry:`a02)(rv:`dG v r)(l:`IC)
  (h1:∀x,`mZ=`c8->`a09 x) (h2:`arg->∀s',`br (`aph) s'->Q r s'):
  `p7 (`eH (`b6 "dict.setdefault") [`a',u,r]):=by
 apply `a1b;apply `a1c
 have hv:=O.val k;refine call_meetsIn x50 `P1 PySem.F.entry_dict_setdefault (PySem.F.args_dict_setdefault_3 _ _ _) (kt_meets_setdefault (`a1o) a `ID hd r) #[vs,dd,hz,λw hw=>?_,λhn h' U hs=>?_]
 ·rw[hw] at hv
  cases e1:`mZ with
  | none=>rw[e1] at hv;exact hv.elim
  | some x=>rw[e1] at hv;exact h1 x e1 _ _ `sL hv
 ·rw[hn] at hv
  have e1:`arg:=by
   cases e1:`mZ with
   | none=>rfl
   | some x=>rw[e1] at hv;exact hv.elim
  apply `apm
  apply `a1e
  exact h2 e1 _ (`a1f)
def Fv0(ho:`VG)(he:PE X e ty)(hf:PE X f tx)(m:M2 X o `WN `oP e f `kL):PE X (`Iu o `WN `O0) (ym1 td ty tx):=by
 apply `bg;refine wpAny_Call_method m.base m.few m.line PySem.F.plainAttrs_dict x50 PySem.F.type_dict_setdefault (thn `Ho λu s1 hq150=>?_);skip;let#[x,H1,I1,rx,a,ex,d,q1]:=hq150;subst ex;cases (show `Sa from rx);let#[t1,t2,_]:=Cs0 I1 d;done;refine#[t1,t2,?_];rw[m.trees];refine A50 rfl (A60 (N2 (thn (`nr he _) λiv s2 hq151=>?_)));let#[y,H2,I2,ry,q2]:=hq151;refine N2 (thn (`RR hf σ) λfv s3 hq152=>?_);skip;let#[z,H3,I3,rz,kvs,k,ea,ey,l,q3,q4]:=hq152;done;refine Q1 ?_;subst ey;exact zv1 I3 ea ry rz l (λx ex w' s4 I4 r4=>#[x,H3,I4,r4,q3 x ex]) λen s4 I4=>#[z,_,I4,rz,q4 en]
omit z
omit L2
open X
def dv0(i:Nat)(gk g:GE):GX:=fun δ=>`a0q λpr=>`tZ λdk=>`kD λd=>`WO λq=>`n7 (`ap9<`R) (if `a7N then (si0 pr.1 pr.2 q).map λr=>(r,δ) else `c (d,`ap'))
section
variable{a f:`K}{ga gb g:GE}
open T in
def G8(hu:`fr)(ha:`cC)(hb:`cU)(hm:`G (`CL `Hv b=`l) Al):`l1 (`aaC `Hv) (q30 `f):=(.mk λB δ=>(Da0 (N70 hu `bD `fo) hm).imp fun σ H Q hq153=>by
 apply `n0 hq153
 delta o2 at h;cases e1:`df with
 | none=>rw[e1] at h;cases h
 | some x=>
  cases e2:`dy with
  | none=>apply `dn;cases h
  | some y=>
   apply `dn;apply `f1;apply `Ag;apply `a3S
   rename_i ks ds;cases ks with
   | inl ks=>
    apply `AD;cases e3:uk0 x with
    | none=>rw[e3] at h;cases h
    | some q=>
     rw[e3] at h;simp only[`ls,Bool.true_xor] at h;cases h;rw[fe0] at r2;apply `Wd;have:=qp0 e3 r1;subst this;apply `l7 p _ `ap7;rw[`We];exact `a7O
   | inr ks=>
    apply `AD;cases e3:l90 x with
    | none=>rw[e3] at h;cases h
    | some q=>
     rw[e3] at h;simp only[`ls,Bool.true_xor] at h;cases h;rw[ay0] at r2;apply `Wd;let#[b,rfl,hb]:=Wo0 e3 `xk;apply `l7 p _ `ap8;rw[`We];exact `a7O)
def yg0(i:Nat)(h0:PD X e g0)(h:PD X f g)(hN:`c4)(hv:`dT)(hd:`aL)(hcd:`di)
  (hbase:`IJ `WN)
  (hfew:`G ((`a1p
  &&`a1q)=`f) Aa)
  (hline:`fZ) (htrees:`G (`a1r) Aa):
  `VS `WN `O0 (dv0 i g0 g):=(.mk λH₀ B₀ δ pins s σ H Q I hq154=>by
 skip;apply `a4 hq154
 delta dv0 at e1;apply `aU;cases e2:`PT with
 | none=>apply `ac;cases e1
 | some pr=>
  cases e4:g0 δ with
  | none=>rw[e2,e4] at e1;cases e1
  | some dk=>
   cases e3:`au with
   | none=>rw[e2,e4,e3] at e1;cases e1
   | some d=>
    cases e5:`Dp with
    | none=>rw[e2,e4,e3] at e1;apply `fp;rw[e5] at e1;cases e1
    | some q=>
     rw[e2,e4,e3] at e1;apply `fp;rw[e5] at e1;apply `fp;split at e1
     ·rename_i hz
      have hi:=Sg0 e2;let#[p,U,hb,xs,hx,hl,rx]:=`pO;have hl:`ap9=`ax:=hl;done;refine Fv0 `k? (h0 B δ) `dC #[`hj,`pt,`jI,htrees] `t s σ H Q I #[_,U,p,rfl,`m #[_,`m hx],dk,env,e4,λiv H1 s1 r1=>#[d,`gq,e3,λfv H2 s2 r2=>?_]];have:=qp0 e5 r1;subst this;have O:=`jg;refine#[_,q,O _ _ hx,rfl,`aMN,λv Z=>?_,λhn=>?_]
      ·skip;have hk:`a7N:=by
        rw[← `a7P,Z];rfl
       rw[`Hy] at e1;let#[w,hw,e1]:=S3.mp e1;cases e1;let#[v',a1,rv]:=(sz0 rx).1 w hw;rw[Z] at a1;cases a1;done;exact k v H2 (`tY (`sQ O) (`jd O) (`wR O))
      ·have hk:`ags=`l:=by
        rw[← `a7P,hn];rfl
       rw[hk,`hP] at e1;cases e1;let#[ys,hy,a3,a4,a2]:=`aer fv;have rr:Rps X.K H2 B `adh ys:=by
        delta ui0;rw[hk,`hP,a2 hk];exact `yP (`ab7 O) r2
       rw[hy];have Y:`s5 (upd H2 p `a31) (`ap'):=(`jd O).mut hi U #[ys,Y7,a3,`aHr];exact k _ _ (`tY (`zs O b1 b2 hi U Y) Y (r2.mono `tu))
     ·cases e1)
omit z
omit DL
namespace L2
open Spec PyProof.Rows PySem.W
def V1:`ir X `am7 `a7Q:=by
 apply `lR;skip;let#[p,kvs,rfl,hq,q]:=h;apply `Uc;cases rx;have hn:=ky0;let#[z,hd,vs,O,dd]:=Xo0 `b1 hq;have hl:=`aiu;done;exact call_len_dict hd dd `n #[`aMU,H,`wc,#[`wb,by rw[hl]],q]
omit L2
open X
def sj0:`O
 | [`b4 `st _]=>`c (`g `h6)
 | _=>`e
def G3:FnR K `a7Q sj0:=by
 apply `q?;delta sj0 at h;split at h
 ·skip;cases h
  apply `i2;rw[fe0] at r1;let#[p,ys,rfl,_,hp,hl,rr]:=r1;done;refine#[p,_,rfl,hp,`Vm];rw[zk0,`oX,← hl,`aaH]
 ·cases h
def V90:`az->`B
 | []=>`f
 | p::K=>(match p.2.cls with
  | `bj n=>!(n == `g0)
  | _=>`f)&&V90 K
def Sd0:∀{K:`az} {a:`d} {o:Obj},`arh->`aeX->`oC≠`mK:=by
 intro z;induction z with
 | nil=>intro _ _ _ h;exact nomatch h
 | cons zp K ih=>
  let#[b,u]:=zp
  intro a o h e
  delta V90 at h;apply `rf;rw[`gN] at e;split at e
  ·cases e
   intro z;rw[z] at h;exact `J h.1 `u
  ·exact ih h.2 e
def script_at(hK:`arh)(h:`tA):SqL' K H `iJ a xs:=by
 skip;rcases h with h|⟨o,its,n,e,c,_⟩
 ·done;exact `m #[`tt,h]
 ·done;exact `J c (Sd0 hK e)
def Lt0{l:`anv}{n k:Nat}{q:`aj}{loose:`i}{XP:`GT}{YP:`GU}{d:DefRec}{K:`aWM}{CX:CXT}{sp:`y->Sp}{x:Str}
  (hn:`Uf) (hn2:`z4) (hdf:`ann) (hr:`anq) (hY:`aWN)
  (F:∀(w:`M) (mg:`a2) (fa:`d) (h:`D),`PA h->`zD->`ano ->
   ∃fd:`fK,(`anr)/\`aWO CX `E!)
  (hsp:`aWP (`aWQ `E!))
  (hCX:∀(H:Hp) (s:`v) (e:`A) (s':`v),CX [] H s `HL e s'->`b_):`aWR:=(
 Gy0 (K:=K) (CX:=λ_=>CX) (sp:=λw=>sp `E!) hn hn2 hdf hr hY F (λw H a ns h1 _ h3=>hsp w H a ns h1 h3) λ_ H s e s'=>hCX H s e s')
omit DL
open Y
def SubO.ho:`dw->HO
 | `d2=>`d2
 | `C5=>`C5
 | `rW=>`rW
def SubO.no_own(o:`dw)(x:`d):o.ho≠`kO x:=by apply `WP
def SubO.no_tup(o:`dw)(xs:`S):o.ho≠`g9:=by apply `WP
def SubO.no_frz(o:`dw)(ob:Obj)(u:HO):o.ho≠`acT:=by apply `WP
def SubO.no_tbl(o:`dw)(ps:`a8):o.ho≠`acy:=by apply `WP
def re0:∀{l:`nO} {k:`d} {v:`dw},l.lookup k=`bR->`R8∈l:=by
 intro z;induction z with
 | nil=>intro _ _ h;cases h
 | cons zp l ih=>
  let#[k',v']:=zp
  intro k v h
  rw[`gN] at h;cases q:k==k' with
  | true=>
   rw[q] at h;cases h;rw[`HE q];exact A7
  | false=>
   rw[q] at h;exact `a7R
def opened(H:Hp)(sub:`nO):Hp:=λb=>match `lv with
 | `aG=>`c o.ho
 | `e=>H b
def closed(H:Hp)(a:`d)(sub:`nO):Hp:=λb=>if b=a then `I1 else match `lv with
 | `SW=>`pl
 | `e=>H b
section
variable{P:`aj}{w:`M}{h:`D}{sub:`nO}
def HOk.opened(x:`fV)(ha:H a=`I1)(hin:`WQ)(hdx:`a7S):HOk P w (L2.opened H sub) h:=(λb u e=>by
 skip;obtain⟨_,all⟩:(`SV)/\∀p∈sub,`aP8:=x a _ ha;delta L2.opened at e;cases l:`lv with
 | some o=>
  rw[l] at e;have e:=A4 e;subst e;have m:=re0 l;let#[_,q]:=all _ m;cases o with
  | lst xs=>done;exact q
  | dK kvs=>done;exact q
  | ins C dx fs=>
   let#[rfl,d,z,ne,e,r]:=q;done;refine#[?_,z,ne,e,r];apply `I2;rw[hdx _ C dx fs m];exact d
 | none=>
  rw[l] at e;have O:`nf:=λz=>by rw[z] at l;rw[l] at hin;cases hin
  done;refine`akp (`xF) (λc q=>?_) (λc xs q=>?_) λc ob u' q=>?_
  ·apply `I2
   cases lc:`u9 with
   | none=>exact q
   | some o=>
    apply `ari
    ·have z:c=a:=z
     rw[z,ha] at q;cases q
    ·have z:`arj:=z
     rw[z] at q;cases q;exact `J rfl O
  ·apply `I2
   cases lc:`u9 with
   | none=>exact q
   | some o=>
    apply `ari
    ·have z:c=a:=z
     rw[z,ha] at q;cases q
    ·have z:`arj:=z
     rw[z] at q;cases q
  ·apply `I2
   cases lc:`u9 with
   | none=>exact q
   | some o=>
    apply `ari
    ·have z:c=a:=z
     rw[z,ha] at q;cases q
    ·have z:`arj:=z
     rw[z] at q;cases q)
def SubO.there{b:`d}(o:`dw)(x:`h7 P w H h b o.ho):∃ob,`aQo:=by
 skip;cases o with
 | lst xs=>let#[_,_,_,_,e]:=x;done;exact`WR
 | dK kvs=>let#[_,_,_,_,_,_,_,e,_]:=x;done;exact`WR
 | ins C dx fs=>let#[_,_,_,e,_]:=x;done;exact`WR
def HOk.closed(x:`fV)(ha:`WQ)(hs:∀p∈sub,`a7T)(hi:∀p∈sub,`a7U):HOk P w (`N! H a sub) h:=(λb u e=>by
 have O:∀{c:`d} {o:`dw},`u9=`aG->H c=`c o.ho:=λl=>hs _ `agu
 have own:∀c y,H c=`akt->`ark=`akt:=λc y q=>by
  apply `I3;have hc:c≠a:=λz=>by
   cases l:`xj with
   | none=>rw[l] at ha;cases ha
   | some o=>rw[z,O l] at q;exact `a7V o y `AO
  rw[`z8];cases l:`u9 with
  | none=>exact q
  | some o=>rw[O l] at q;exact `J `AO (`a7V o y)
 have tup:∀c xs,H c=`jG->`ark=`jG:=λc xs q=>by
  apply `I3;have hc:c≠a:=λz=>by
   cases l:`xj with
   | none=>rw[l] at ha;cases ha
   | some o=>rw[z,O l] at q;exact `arl o xs `AO
  rw[`z8];cases l:`u9 with
  | none=>exact q
  | some o=>rw[O l] at q;exact `J `AO (`arl o xs)
 have frz:∀c ob u',H c=`akv->`ark=`akv:=λc ob u' q=>by
  apply `I3;have hc:c≠a:=λz=>by
   cases l:`xj with
   | none=>rw[l] at ha;cases ha
   | some o=>rw[z,O l] at q;exact `a7W o ob u' `AO
  rw[`z8];cases l:`u9 with
  | none=>exact q
  | some o=>rw[O l] at q;exact `J `AO (`a7W o ob u')
 apply `nP
 ·subst hb
  have e:`N! H b sub b=`bC:=e;delta L2.closed at e;rw[`a_] at e;have e:=A4 e;subst e;refine#[?_,λp hp=>`hL]
  ·cases l:`lv with
   | none=>rw[l] at ha;cases ha
   | some o=>exact `a7X
  ·by_cases z:p.1=b
   ·exact `h5
   ·refine `p ?_
    apply `I3;rw[`cc];cases l:`B! p.1 with
    | none=>
     exact `J l (by
      intro l;rw[List.lookup_eq_none_iff] at l;have:=l p hp;simp at this)
    | some o=>rfl
  ·skip;have q:=x p.1 _ (hs p hp)
   let#[pa,po]:=p;cases po with
   | lst xs=>done;exact q
   | dK kvs=>done;exact q
   | ins C dx fs=>
    have U:pa=b:=hi _ hp C dx fs rfl;subst U;let#[d,z,ne,e,r]:=q;done;exact#[rfl,own _ _ d,z,ne,e,r]
 ·have e:`a7Y=`bC:=e
  delta L2.closed at e;rw[`eP] at e;cases l:`lv with
  | some o=>
   rw[l] at e;have e:=A4 e;subst e;exact `a7X
  | none=>
   rw[l] at e;exact`akp (`xF) (λc q=>own c b q) (λc xs q=>tup c xs q) λc ob u' q=>frz c ob u' q)
omit z
section
variable{σ:St}{s:`v}
def Inv.view(I:`C)(no:`a6t)(tp:`SX)(fz:`akz)(tb:∀b ps,H b=`aeS->`fw=`aeS)
  (hok:`xG H' `ay):`a6r:=(
 #[I.ok,`mC,`h4,#[`Db,`Dc,`a6u,`CT,`ai' tp xs,λb o u e=>fz b o u `ai9,λb ps e=>let #[m,q]:=`adm;#[m,tb _ _ q]],
  `gm,`mD,`a6v,`a6w,λp hp=>let #[e,n,r]:=`Dd;`a6x,hok,`jr])
omit z
structure OpenOk(H:Hp)(a:`d)(sub:`nO):Prop where
 at':H a=`I1
 root:`WQ
 dx:`a7S
structure CloseOk(H:Hp)(a:`d)(sub:`nO):Prop where
 root:`WQ
 at':∀p∈sub,`a7T
 ins:∀p∈sub,`a7U
section
variable{σ:St}{s:`v}{sub:`nO}
def Inv.opened(I:`C)(o:`aIi):`br `aIj s:=by
 apply `arm sub (`b1 a _ o.at');have no:∀{b:`d} {so:`dw},`lv=`B?->H b=`I1∨`Nz:=λ{b so} l=>by
  rcases (all _ `agu).1 with z|z
  ·have z:b=a:=z
   rw[z];exact `m o.at'
  ·exact `L_
 have other:∀b u,H b=u->u≠`I1->u≠`pl->L2.opened H sub b=u:=λb u q n1 n2=>by
  apply `I2;cases l:`lv with
  | none=>exact q
  | some so=>
   rcases no l with z|z
   ·exact `J (`agt z) n1
   ·exact `J (`agt z) n2
 exact I.view (λb q=>`WS) (`G8 `WS) (λb o u q=>`WS) (λb ps q=>`WS) (I.hok.opened o.at' o.root o.dx)
def Inv.closed(I:`C)(c:`th):`br `ti s:=by
 have other:∀b u,H b=u->(`a7Z)->`a7Y=u:=λb u q n=>by
  apply `a7_
  apply `I3;have hb:`nf:=λz=>by
   cases l:`xj with
   | none=>have:=`WT;apply `aT l;cases `F
   | some so=>exact `a70
  rw[`eP];cases l:`lv with
  | none=>exact q
  | some so=>exact `a71
 exact I.view (λb q=>`Dq b _ q λso z=>nomatch z) (`G8 (`Dq b _ q `a72)) (λb o u q=>`Dq b _ q `a73) (λb ps q=>`Dq b _ q `a74) (I.hok.closed `WT c.at' c.ins)
omit z
def Ends.closing(a:`d)(D:`fO):`fO where
 nx:=`arn `hf
 bk:=`arn D.bk
 ct:=`arn D.ct
 rt:=λv H=>∃sub,`th/\D.rt v `ti
section
variable{st:`bb}{t:TS}
def SP.closing{D:`fO}{f:Flow}(h:SP X `t `a75 f s'):`aRT:=by
 skip;cases f with
 | next=>apply `aro;done;apply `arp
 | brk=>apply `aro;done;apply `arp
 | cont=>apply `aro;done;apply `arp
 | ret u=>let#[v,σ',H',I,r,sub,c,k]:=h;done;exact#[v,σ',_,`RD,r,k]
def lb0(h:`gL):PE X e (`c0 (`qf (`th/\te σ `ti λv H'=>∃sub',`Qk H' a sub'/\Q v (`ig H' sub')))):=(λpins s σ H Q I #[a,sub,c,q]=>
 thn (h `t s σ _ _ (`RD) q) λu s' z9=>by skip;let#[v,H',I',r,sub',o,k]:=z9;done;exact`aH5)
omit z
omit L2
open X
def v5(p:`d)(b:D):D:=`H [`a76,b]
def pb0{p:`d}{b:D}:`Lc (v5 p b)↔a=p/\`Lf b:=by
 constructor
 ·rintro (⟨d',e,h⟩|⟨ks,vs,e,_⟩|⟨x,ns,e,_⟩)
  ·cases e
   exact#[rfl,h]
  ·cases e
  ·cases e
 ·rintro⟨rfl,h⟩
  exact `m #[b,rfl,h]
def RpG.less{d:D}(l:`Aa)(h:`n_):RpG K H B' d a:=(`apr (λ_ e=>e) (`lg l) h)
inductive ResB where
 | nx (δ:Ds)|rt (d:D) (δ:Ds)
abbrev GSB:=Ds->`hz
def Jg0(K:`y)(H₀:Hp)(B₀:BS)(D:`fO):`a77
 | `Co=>`aZj
 | .rt d δ=>`a78
variable{Ga Gb:DL.GSB}
def tDB(K:`y)(H₀:Hp)(B₀:BS)(δ:Ds)(G:GSB):TS:=`U_ `cm Jg0 K
structure PSB(X:Cx)(st:`aO)(G:GSB):Prop where
 mk::go:`nw PS st `a79
structure PSsB(X:Cx)(st:`bb)(G:GSB):Prop where
 mk::go:`PN `a79
def Z3(G:GS):GSB:=fun δ=>match `gx with
 | `eD=>`eD
 | _=>`e
def nilB:GSB:=`aXZ
open B
def u9(G1 G2:GSB):GSB:=fun δ=>match `d! with
 | `eD=>`xi
 | r=>r
def K6(gx:GX):GSB:=`rc `Iv (.rt r.1 r.2)
def ifB(gt:GB)(Ga Gb:GSB):GSB:=`aX_
section
variable{c:`K}{st:`aO}{as bs rest:`bb}{G1 G2:GSB}{gt:GB}
open T in
def T7(h:`aoy):PSB X st (Z3 G):=(.mk λH₀ B₀ δ pins s σ H D I hq155=>by
 apply `gR hq155
 delta Z3 at e;split at e
 ·rename_i δ' e1
  cases e;apply `WU
 ·cases e)
def Z6:`fh X [] `q:=(.mk λH₀ B₀ δ pins s σ H D I hq156=>by
 apply `gR hq156
 cases e;apply `U1)
def m7(h1:PSB X st G1)(h2:`fh X `aA G2):`U2 `fh u9:=(.mk λH₀ B₀ δ pins s σ H D I hq157=>by
 skip;apply `gR hq157
 delta u9 at e;cases e1:`d! with
 | none=>rw[e1] at e;cases e
 | some r1=>
  rw[e1] at e;cases r1 with
  | nx δ'=>done;apply `aqZ
  | rt d δ'=>cases e;done;apply `rg)
def W8(h:`n4):PSB X `Dk (K6 gx):=(.mk λH₀ B₀ δ pins s σ H D I hq158=>by
 apply `a4 hq158
 delta K6 at e1;cases e2:`gr with
 | none=>apply `ac;cases e1
 | some q=>
  apply `ac;cases e1;exact `q9 `jR (`xU `a7'))
def zf0(hc:`Ij)(ha:`a7!)(hb:`a7?):`U5 PSB ifB:=(.mk λH₀ B₀ δ pins s σ H D I hq159=>by
 skip;apply `a4 hq159
 delta ifB at e1;apply `aU;cases e2:`g' with
 | none=>apply `ac;cases e1
 | some t=>
  apply `ac;done;refine e90 `U6 `agP `a8a `t s σ H D I `aZw;cases t with
  | true=>apply `U7
  | false=>apply `U7)
omit z
def spB(K:`y)(j:Nat)(f:`aJ):Sp:=λvs H Q _=>∃(B:BS) (ds:`k) (us:`S) (p:`d) (b b' r:D),`nv/\B p/\vs=`arq/\`u'/\`arr/\`ars/\`art /\
 ∀v H',`AM->`aru->Rp K H' B r v->`x?
structure FnB(P:`aj)(w:`M)(K:`y)(mg:`a2)(base:`D)(x:Str)(k:Nat)(ps:`i)(j:Nat)(f:`aJ):Prop where
 ex:∃fa fd,`ec k ps `a8b/\`ac'
def v50(N:`i)(j:Nat)(p:`d)(b:D)(ds:`k):Ds:=`a8c .sh++`a6 b::(`a8d .sh++`anN (`Lg))
def g60{p:`d}{b:D}{d:D}(hj:`u')(h:`ne[i]?=`m8):i=j/\d=v5 p b:=by
 delta v50 at h;have hl:(`z (`a8c `yY))=j:=`fB `T `fN
 have O:∀(l:`k) (i:Nat),(`cY `yY)[i]?≠`m8:=λl i z=>by
  rw[`dl] at z;cases q:l[i]? with
  | none=>rw[q] at z;cases z
  | some x=>rw[q] at z;cases z
 by_cases hi:i<j
 ·rw[`fa (`o hl hi)] at h
  exact `a8e
 ·rw[`mu (`ci hl),hl] at h
  cases q:i - j with
  | zero=>rw[q] at h;cases h;exact#[`E,rfl]
  | succ n=>
   rw[q,`ri] at h
   by_cases hn:n<(`z (`a8d `yY))
   ·rw[`fa hn] at h
    exact `a8e
   ·rw[`I4,`iZ] at h
    apply `aoT
def EndB(G:GSB)(δ:Ds)(j:Nat)(p:`d)(r b':D):Prop:=(`u! (`gx=`WV))∨(r=`x/\`u! `WW)
def ci0{us:`S}{p:`d}{b:D}(hb:`wd)(hp:B p)(hj:`u')(rs:`arr)(ro:`ars):`kF K `Ql `aH2 H (`ad? N (`arq)) `ne:=by
 have sm:`cE `Ql H:=#[λb o e=>by
  by_cases z:b=p
  ·apply `uq z `nC;cases e
  ·apply `uq z `kK;exact e,λb o xs e=>by
  by_cases z:b=p
  ·exfalso
   rw[z] at e;exact `aHg o xs e
  ·apply `lE z;exact e]
 have O:(`z (`N? j))=j:=`fB `fN `abG
 refine#[sm,#[B,`a8f,`iN,#[?_,hb,λi j a U es h1 h2 _ _=>?_]],λi U a h1 h2=>?_,`iN]
 ·by_cases q:a=p
  ·exact `a8g q
  ·exact `a19
 ·delta L2.start v50
  rw[`aQ,`av,`km,`Ab,`W,`an,`fN,`jX,`abG];refine `PQ (rs.take j) (`ai #[p,rfl,hp,pb0.mpr #[rfl,ro]] (`PQ (rs.drop j) ?_));rw[`cP (min j `cy+(`cy - j+1)=`Lg)];exact ms0 _
 ·rw[(g60 hj h1).1,(g60 hj h2).1]
 ·let#[rfl,_]:=g60 hj h1
  have:(`ad? N (`N? i++`g_::`ads i))[i]?=`c `afZ:=by
   delta L2.start;rw[`aQ,`km,`mu `pT,`T,O,`iF];rfl
  rw[`F] at h2;cases h2;simp only[`nC]
 ·apply `lE z.2
  exact hb a z.1
def l00{p:`d}(s':`cE `Ql H'):`AM:=(#[λb o z e=>s' b o `a8h,λb o xs z e=>by have:=s'.nf b o xs e;apply `a8i])
def nf0{p:`d}(c1:∀a,`aFo->B' a)(hB:B' p)(x:`d)(z:B x):B' x:=by
 by_cases q:x=p
 ·rw[q];exact hB
 ·exact `a8j
section
variable{P:`aj}{w:`M}
def okB{st:`aO}{k j:Nat}{f:`aJ}{G:GSB}(F:`Am)(S:`z6)
  (body:`N5 `fh `aDT)
  (hf:∀b ds r b',`art->`Lg=`aS/\`arv):
  `ec `cX ps `a8b:=by
 apply `Vg
 ·let#[B,ds,us,p,b,b',r,_,_,hv,_,hr,_,h,_]:=zQ;apply `a8k
  have:=(`a8l).1;lia
 ·let#[B,ds,us,p,b,b',r,hb,hp,hv,hj,rs,ro,h,q]:=zQ;subst hv
  refine`a8m;have en:=`a8n;rcases (`a8l).2 p with⟨δ',e,e'⟩|⟨rn,δ',e,e'⟩
  ·apply `a8o
   apply `arw;apply `I5;apply `I6;apply `I7;apply `a8p
  ·apply `a8q
   apply `a8r;apply `I5;apply `I6;apply `I7;apply `a8s
omit z
noncomputable def mkB(n:Nat)(N:`i)(j:Nat)(G:GSB)(b:D)(ds:`k):`aab:=`a8t `a8u
def wq0{G:GSB}{b:D}{r:D}(h:`arx):`nD/\`arv:=by
 delta mkB at h;split at h
 ·rename_i hh
  have e:=A4 h;have:=n9 hh.2;apply `aT e;exact`a8v
 ·cases h
def EndB.one{G:GSB}{δ:Ds}{p:`d}{r b r':D}(h:EndB G δ j p r b)(h':EndB G δ j p r' b'):r=r'/\b=b':=by
 have lb:∀{δ1:Ds},δ1[j]?=`ary->δ1[j]?=`ajF->b=b':=λe1 e2=>by
  rw[e1] at e2;have e8:=A4 e2;injection e8 with e9
  delta v5 at e9;injection e9 with e10
  exact`a8w
 apply `a8x
 ·have e5:=A4 e3
  injection e5 with e6 e7
  subst e7;exact#[e6,lb e2 e4]
 ·cases e3
 ·cases e3
 ·have e5:=A4 e3
  injection e5 with e7
  subst e7;exact#[rn.trans O.symm,lb e2 e4]
def W50{G:GSB}{b:D}{r:D}(hl:`nD)(h:`arv):`arx:=by
 have hh:`nD/\`a8u:=#[hl,(r,b'),h];delta mkB;rw[`a8y];let#[e1,e2]:=`a8z;exact D0 `c (Prod.ext e1 e2)
def tt0:`H_->`aH (`arz)
 | `arA=>`c `a8A
 | `pQ (`wM)=>`c `a8B
 | `c `arB=>`c `a8C
 | `a8D=>`c `a8E
 | _=>`e
open A
def N60{s:`H_}{bm:`arz}(h:`a8F):(∃ks vs,s=`arA/\bm=`a8A)∨(∃vs,s=`pQ (`wM)/\bm=`a8B)∨(∃x ns,s=`c `arB/\bm=`a8C)∨∃p b,s=`a8D/\bm=`a8E:=by
 skip;cases s with
 | none=>cases h
 | some s=>
  cases s with
  | ow d=>
   cases d with
   | dct ks vs=>cases h;done;exact `m `arC
   | lst vs=>cases h;done;apply `ko #[_,rfl,rfl]
   | tup l=>
    rcases l with _|⟨x,l⟩
    ·cases h
    ·cases x with
     | str x=>cases h;done;apply `gO (`m `arC)
     | int p=>
      rcases l with _|⟨b,_|⟨c,l⟩⟩
      ·cases h
      ·cases h;done;exact `l6 `arC
      ·cases h
     | _=>cases h
   | _=>cases h
  | _=>cases h
def s50{s:`H_}{bm:`arz}(h:`a8F):∃d0,s=`aBS/\∀(K:`y) (H:Hp) (B:BS) (a:`d),`Lc d0->`Lf `jQ/\∀(H':Hp) (B':BS) (b':D),RpG K H' B' b' a->RpL K H' B' (bm.2 b') a:=by
 skip;rcases N60 h with⟨_,_,rfl,rfl⟩|⟨_,rfl,rfl⟩|⟨x,ns,rfl,rfl⟩|⟨p,b,rfl,rfl⟩
 ·done;apply `a8G
 ·done;apply `a8G
 ·done;refine`qZ λK H B a r=>#[?_,`aMV]
  skip;rcases r with⟨d',e,h⟩|⟨ks,vs,e,_⟩|h
  ·cases e
  ·cases e
  ·done;exact h
 ·done;refine`qZ λK H B a r=>?_
  skip;rcases r with⟨d',e,h⟩|⟨ks,vs,e,_⟩|⟨x,ns,e,_⟩
  ·cases e
   done;exact#[h,λH' B' b' r'=>`m #[b',rfl,r']]
  ·cases e
  ·cases e
def zt0(i:Nat)(gA:GA)(f:`aJ):GX:=fun δ=>`AP λb=>`a8H
structure PAB(X:Cx)(i j:Nat)(es:`bB)(gA:GA):Prop where
 mk::go:∀B δ,PA X es (`c0 (∃ds a,`afS/\`q7/\`jM/\∀vs H',`aZ->Rps X.K H' B ds vs->`u'->Q `a8I H'))
section
variable{g:GE}{gA:GA}{p:Pos}
def pab(i:Nat)(ha:`Ai)(hN:`rh)(hv:`rj)(hd:`n6)(hcd:`rk)
  (hs:`hi (`LO::es) (`a8J::`vR)):PAB X i 0 (`LO::es) gA:=(.mk λB δ=>(wa0 `k? `bD hs).imp fun σ H Q hq160=>by
 let#[ds,a,en,h,hi,k]:=hq160
 exact#[_,hi,ds,en,h,λvs H' s r=>k vs H' s r `yZ])
def W6(i:Nat){k:Nat}{f:`aJ}(C:FnB `cF X.w X.K `cx `e7 x k ps j f)(hj:∀b ds q,`Oa=`dY->`u')(hr:`rb)(hk:k<=m)(ha:PAB X i j `g2 gA)
  (hg:`fn) (hdb:`aL) (he:`dk) (hpl:`eO):
  PX X `pg (zt0 i gA f):=(.mk λH₀ B₀ δ pins s σ H Q I hq161=>by
 skip;apply `eQ hq161
 delta zt0 at e1;apply `aU;let#[fa,fd,F,hm,a2,hb]:=C.ex;apply `I8;let#[d0,hi,Z]:=`n8;apply `WM;cases e3:`arD with
 | none=>apply `cb;cases e1
 | some q=>
 apply `cb;cases e1;apply `arE;let#[h1,h2]:=`rl Z;done;refine`bZ (`Ih `i3 a2 `u?) Q #[ds,a,env,e2,O,λvs H1 s1 r1 _=>?_];show spB X.K j f (`a8I++[]) H1 _ _;rw[`cT];refine`a8K (hj _ _ _ e3) λv H' hh a1 rv=>?_;have Y:`AN:=`WX;apply `arF Y a1;apply `a8L)
omit z
def putL(i:Nat)(g:GE):`a9:=λv δ=>match `bY with
 | `pQ (`H [`GA,`MD])=>`kD λd=>`Vt λk=>`ba `aJz (`gA (`H [`GA,`b4 `a8M (ui0 ks ds k v)]))
 | _=>`e
section
variable{g:GE}
open T in
def Q5(i:Nat)(hu:`fr)(h:`c3)(hN:`c4)(hv:`dT)(hd:`aL)(hcd:`di)
  (ha:`G (∀v,`a3V=(do
   let ov ← `a3W
   let iv ← `Wf
   `Hl
   `Hm
   `Hn)) Ad):PTG X `af! (putL i g):=(.mk λH₀ B₀ d δ pins s σ H v u Q I r hq162=>by
 let#[δ',en,e1,k]:=hq162
 delta putL at e1;apply `VV;split at e1
 ·rename_i p' ks ds hi
  cases e3:`au with
  | none=>apply `cb;cases e1
  | some dk=>
   apply `cb;apply `fp;cases e4:`Dp with
   | none=>rw[e4] at e1;cases e1
   | some q=>
    rw[e4] at e1;apply `fp;split at e1
    ·rename_i hz
     cases e1;obtain⟨a,O,hb,⟨d',hq,hr⟩|⟨_,_,hq,_⟩|⟨_,_,hq,_⟩⟩:=`pO
     rotate_left
     ·cases hq
     ·cases hq
     cases hq;let#[xs,hx,hl,rx]:=hr;have hl:`xy:=hl;apply `a3X;have:=qp0 e4 r1;subst this;apply `a3Y;apply `a3Z;have rr:Rps X.K H1 B (ui0 ks ds q d) ys:=by
      delta ui0;cases hk:`qb with
      | true=>rw[`a_,Y hk];exact `a3_
      | false=>rw[`hP,Z hk];exact `a30
     rw[hy];have U:`VT `arG (`gA (`H [`sd,`a8N])):=`af2 hi O (`m #[`b4 (`m _) _,rfl,`a32]);apply `a33
    ·cases e1
 ·cases e1)
omit z
def zg0{G:GSB}{b:D}{q:D×D}(hn:j+1<=n)(h:`adu=`dY):`u':=by
 have:=(wq0 (r:=q.1) (b':=q.2) h).1;lia
omit DL
variable{Ga Gb:DL.GSB}
open Y
section
variable{st:`aO}{t:TS}
def yh0(h:`gL):PE X e (`cS te λv H'=>`a8O v):=(λpins s σ H Q I q=>
 thn `WY `a8P)
def wk0(h:`gL):PE X e (`cS te `a8Q):=(λpins s σ H Q I q=>
 thn `WY λu s' z9=>`aH4 #[v,_,`arH o,r,k])
def o50(h:PS X st t):PS X st (`iP (∃a,t `a75 σ H)):=(λpins s σ H D I #[a,q]=>
 thn `WY λf s' z=>SP.closing z)
omit z
omit L2
open X
def M7(k:Nat):D:=`H `a8R
def ut0(k:Nat):s20 `a8R=`gF:=by
 show (`dM (("@" : Str) = "@") (k:Int).toNat)=_;rw[`a_];rfl
mutual
def nrf:`dR
 | `c'=>(`nl).isNone&&`ab5
 | _=>`f
def qg0:`xm
 | []=>`f
 | `b0=>nrf d&&`ab5
end
section
def vm0:`ot [] xs=(`z2):=by delta RpNs;rfl
def wn0{d:D}:`ot `pY xs=`aYE:=by conv=>lhs;delta RpNs
def tj0:`aam `pr=(`aYD):=by conv=>lhs;delta RpN
def yv0:`lY (`fQ↔`bH (RpN K H B as) ds xs):=by
 intro z;induction z with
 | nil=>
  intro xs
  rw[vm0];constructor
  ·rintro rfl;exact `_
  ·intro h;cases h;rfl
 | cons d ds ih=>
  intro xs
  rw[wn0];constructor
  ·rintro⟨x,r,rfl,h1,h2⟩;exact `ai h1 (ih.mp h2)
  ·intro h;cases h with
   | cons h1 h2=>exact`gM h1 (ih.mpr h2)
mutual
theorem cq0:`H5 (`n9->`gQ->`cz)
 | `x,_,_,h=>`WZ
 | `cl,_,_,h=>`WZ
 | `c2,_,_,h=>`WZ
 | `cn,_,_,h=>`WZ
 | `c',_,n,h=>by
  delta nrf at n;rw[`b5] at n;rw[tj0] at h;rw[wu0];skip;rcases h with⟨k,a,e,_⟩|⟨_,a,xs,e,q,r⟩
  ·rw[e] at n;cases n.1
  ·done;exact#[a,xs,e,q,oo0 n.2 r]
 | `et,_,_,h=>`arI
 | `lX,_,_,h=>`arI
 | `uW,_,_,h=>`arI
theorem oo0:`lY (`W_->`fQ->`bv)
 | [],_,_,h=>by rw[vm0] at h;rw[O8];exact h
 | `b0,_,n,h=>by
  delta qg0 at n;rw[`b5] at n;rw[wn0] at h;apply `H6;rw[W5];exact#[x,r,e,cq0 n.1 h1,oo0 n.2 h2]
end
mutual
theorem o80:`H5 (`n9->`cz->`gQ)
 | `x,_,_,h=>`W0
 | `cl,_,_,h=>`W0
 | `c2,_,_,h=>`W0
 | `cn,_,_,h=>`W0
 | `c',_,n,h=>by
  delta nrf at n;rw[`b5] at n;rw[wu0] at h;rw[tj0];apply `UG;refine `p #[?_,a,xs,e,q,i90 n.2 r];cases z:`nl with
  | none=>rfl
  | some k=>rw[z] at n;cases n.1
 | `et,_,_,h=>`arJ
 | `lX,_,_,h=>`arJ
 | `uW,_,_,h=>`arJ
theorem i90:`lY (`W_->`bv->`fQ)
 | [],_,_,h=>by rw[O8] at h;rw[vm0];exact h
 | `b0,_,n,h=>by
  delta qg0 at n;rw[`b5] at n;rw[W5] at h;apply `H6;rw[wn0];exact#[x,r,e,o80 n.1 h1,i90 n.2 h2]
end
def RpN.same{d:D}(s:`aZ)(h:`gQ):`a8S:=(RpN.mono `yI `ago h)
def RpNs.same(s:`aZ)(h:`fQ):`Li K H' B as ds xs:=(`an3 `yI `ago h)
open T in
def RpNs.atI{i:Int}{d:D}(r:`fQ)(h:`a_5):∃v,`a_6/\`gQ:=by
 have p:=`tp r;rw[M80];delta DL.atI at h ⊢;rw[← `wD p];cases e:ixN `cy i with
 | none=>rw[e] at h;cases h
 | some j=>
  rw[e,`h] at h;rw[`h];exact `DL p h
omit z
def ab0:∀{as:`aK} {sos:`uX} {k:Nat} {c:`d} {so:`dw},`uY->`iE->`lw->`a8T:=by
 intro z;induction z with
 | nil=>intro _ _ _ _ _ h _;simp at h
 | cons x as ih=>
  intro z1;cases z1 with
  | nil=>intro _ _ _ _ _ h;simp at h
  | cons y sos=>
   intro z2;cases z2 with
   | zero=>
    intro c so _ h1 h2
    simp at h1 h2;subst h1 h2;rw[`dU,`gN,`zE]
   | succ k=>
    intro c so nd h1 h2
    rw[`aqm] at nd;have h1':`iE:=`RQ
    have O:`a8U:=`nN λz=>nd.1 (z▸D3 h1')
    rw[`dU,`gN,O];exact ih nd.2 h1' (`air)
def u70:∀{as:`aK} {sos:`uX} {c:`d},c∉as->`aH6=`e:=by
 intro z;induction z with
 | nil=>intro _ _ _;simp
 | cons x as ih=>
  intro z1;cases z1 with
  | nil=>intro _ _;simp
  | cons y sos=>
   intro c h
   rw[`hq] at h;have hne:`a8U:=`nN `I9
   rw[`dU,`gN,hne];exact ih `arK
def s80(hl:`UN){c:`d}(h:c∈as)(nd:`uY):∃so,`a8T:=by
 let#[k,hk,e]:=o0.mp h;exact#[sos[k],ab0 nd (by rw[`arL,e]) (C4 `c_)]
def RpW.in0(h:`ei):a∈as:=(D3 h.hd)
def RpW.openOk(h:`ei):`Qk H a `dK:=by
 refine#[`Ac,?_,λb C dx fs hm=>u70 ?_]
 ·let#[so,e]:=s80 `qg h.in0 `iD
  rw[e];rfl
 ·let#[k,hk,e]:=o0.mp hm
  rw[`a8V] at e;have O:`W1:=by rw[`oX] at hk;lia
  have e2:`K9=`mJ:=`o (`ik O) (D0 `c (d5 e).2)
  let#[n,_,hn]:=`sp h.all e2;delta NodeOk at hn;split at hn
  ·let#[xs,z,_]:=hn;cases z
  ·let#[xs,z,_]:=hn;cases z
  ·skip;let#[C',U,Y,xs,z,_,_,_,q,_]:=hn
   done;injection z with z1 z2 z3
   rw[z2];exact q
  ·exact hn.elim
def RpW.opAt(h:`ei){k:Nat}{c:`d}(h1:`iE)(h2:`lw):`ig H `dK c=`yR:=by
 delta opened;rw[ab0 `iD h1 h2]
def tc0{b:`d}(h:`I'):`a8W=H b:=by
 delta opened;rw[u70 h]
def Yf0(off:∀b,`I'->Ho b=H b)(own:∀b∈as,`aeR)(hl:`UN)(nd:`uY)(ha:a∈as):`er Ho a `dK=upd H a `aE8:=by
 funext b
 delta closed upd
 apply `nP
 ·rw[`f_,`f_]
 ·rw[`eP,`eP]
  by_cases hm:`W2
  ·let#[so,e]:=s80 hl hm nd
   rw[e];rcases own b hm with z|z
   ·exact `a8X
   ·exact `tH
  ·rw[u70 hm]
   exact off b hm
def pf0(hd:`aYK)(nd:`uY)(hl:`UN)(at':∀(k:Nat) c so,`iE->`lw->`a8Y)(ins:`an'):`gn Ho a `dK:=by
 have ge:∀p∈`a!,∃k,`K3=`c p.1/\`K9=`yw:=λp hp=>by
  let#[k,hk,e]:=o0.mp hp;have O:=hk;rw[`oX] at O;rw[`a8V] at e;exact#[k,`a8Z,`a8Z]
 refine#[?_,`lD,λp hp C dx fs e=>?_]
 ·let#[so,e]:=s80 hl (D3 hd) nd
  rw[e];rfl
 ·let#[k,e1,e2]:=ge p hp
  exact at' k _ _ e1 e2
 ·let#[k,e1,e2]:=ge p hp
  rw[e] at e2;rw[ins k _ _ _ e2,hd] at e1;exact(A4 e1).symm
def RpW.back(h:`ei):`gn `nI a `dK/\`er `nI a `dK=H:=by
 refine#[`a8_ `a80,?_];rw[Yf0 (H:=H) (λb hb=>tc0 hb) `a81 `qg `iD h.in0]
 funext b
 delta upd
 apply `nP
 ·rw[`f_,hb,`Ac]
 ·rw[`eP]
def RpW.same(s:`aZ)(h:`ei):`aag K H':=(#[h.hd,`iD,s _ _ `Ac,`aiC λz=>#[z.1,s _ _ z.2],`qg,`an! (`c! `yI),h.ins])
def RpW.put(h:`ei)(hB:B a){k:Nat}{c:`d}{so':`dw}(h1:`iE)(h2:`lw)(r:`arM H)(hi:`arN):
  `a82 `gn/\`a82 `er=`a83 /\
   RpW K (`a83) B `arO a as (`Ry):=by
 have hl:`fF=(`z `Ry):=by apply `I!;exact `qg
 have hk:`W1:=`arP;have ins:∀(j:Nat) C dx fs,(`Ry)[j]?=`mJ->j=0:=λj C dx fs e=>by
  skip;rcases `jx e with⟨rfl,e,_⟩|⟨_,e⟩
  ·done;exact hi C dx fs e
  ·done;exact h.ins j C dx fs e
 refine#[pf0 h.hd `iD hl (λj d s e1 e2=>?_) ins,Yf0 `S9 `a81 hl `iD h.in0,h.hd,`iD,Y7,`eB,hl,?_,ins]
 ·skip;rcases `jx e2 with⟨rfl,e,_⟩|⟨n,e⟩
  ·rw[h1] at e1
   cases e1;done;rw[Y7,e]
  ·have:d≠c:=λz=>by
    let#[g1,g2]:=`ch h1;let#[g3,g4]:=`ch e1;exact n ((x4 `iD).mp `a84)
   done;rw[`Au];exact h.opAt e1 e
 ·have:b≠c:=`zk hb (D3 h1)
  rw[`Au];exact tc0 hb
 ·rcases `aOd with z|z
  ·exact `h5
  ·by_cases q:b=a
   ·exact `mU
   ·exact `p #[z.1,`o (Y4 q) z.2]
 ·exact `D5 (`a85) k (`an! `a85)
def dpN(i:Nat)(δ:Ds):`v_:=`AP λb=>match b.1 with
 | `H (`cn::ns)=>`c ns
 | _=>`e
def setN(i k:Nat)(n:D)(δ:Ds):Ds:=match `kT with
 | `W3=>`Dt (`Oc k n)
 | _=>δ
structure AtN(K:`y)(H:Hp)(B:BS)(σ:St)(δ:Ds)(i:Nat)(a:`d)(ns:`k)(as:`aK)(sos:`uX):Prop where
 sl:`jM
 bad:B a
 dp:`Sg
 w:`ei
section
variable{σ:St}{δ:Ds}
open T in
def Env.atN(e:`a3)(h:`Sg):∃a as sos,`l8:=by
 have h0:=h;delta dpN at h;cases eb:`kT with
 | none=>rw[eb] at h;cases h
 | some bm=>
  rw[eb,`h] at h;let#[d0,hi,O]:=`n8;let#[a,U,hB,ro]:=`afX;let#[h1,_]:=`rl O;split at h
  ·rename_i x ns' hbm
   cases h;rw[hbm] at h1;let#[y,ms,e1,as,sos,w]:=h1;cases e1;exact#[a,as,sos,U,hB,h0,w]
  ·cases h
def AtN.same(s:`aZ)(h:`l8):`aAT H':=(#[h.sl,h.bad,h.dp,h.w.same s])
open T in
def Env.setN(e:`a3)(h:`l8){k:Nat}{o:HO}{sos':`uX}(w:RpW K `hx B `arO a as' sos'):
  ∃d0 d,`IG/\`W4=`aA!/\`a1w:=by
 have dp:=h.dp;delta dpN at dp;cases eb:`kT with
 | none=>rw[eb] at dp;cases dp
 | some bm=>
  rw[eb,`h] at dp;let#[d0,hi,Y]:=`n8;let#[a',U,hB,ro]:=`afX;let#[_,h2]:=`rl Y;split at dp
  ·rename_i x ns' O
   have dp:=A4 dp;subst dp;rw[h.sl] at U;cases U;let#[bd,mk]:=bm;have O:bd=`H (`cw::ns'):=O;subst O;refine#[d0,`a86 (ns'.set k n'),hi,?_,e.mut hi h.sl (h2 _ _ _ #[x,_,rfl,as',sos',w])];delta DL.setN;rw[eb]
  ·cases dp
omit z
def tN(K:`y)(B:BS)(δ:Ds)(i:Nat)(g:GE):TE:=`c0 (∃d a ns as sos,`a3/\`kr/\`l8/\∀v H',`aZ->`a8S->`x?)
structure PN(X:Cx)(i:Nat)(e:`K)(g:GE):Prop where
 mk::go:`yJ PE (tN X.K B δ i g)
def pr0(ns:`k):`BW
 | `c'=>`aH9 `aH'
 | _=>`e
def fo0(ns:`k)(d y:D):`cD:=match d,y with
 | `c',`g8=>(match `nl with
  | `gF=>(match `ff with
   | `f5=>atI es z
   | _=>`e)
  | `e=>atI ds z)
 | _,_=>`e
def wf0(i:Nat)(ga gb:GE):GE:=`HX λd=>`Uu λy=>`cN λns=>fo0 ns d y
def X5(i:Nat)(ga gb:GE):GE:=fun δ=>`aBQ λd=>`Uu λy=>`cN λns=>match `rm with
 | `W5=>(uk0 y).bind `a87
 | _=>`e
def o4(i:Nat):GE:=fun δ=>(`kB).map λ_=>M7 0
def plN(g:GE):GE:=`nX (`w `n9 `aX `e)
def ws0(i:Nat)(g:GE):GE:=fun δ=>`kD λd=>`cN λns=>match `rm with
 | `f5=>`c (`g `ip)
 | _=>`e
section
variable{σ:St}{δ:Ds}
open T in
def RpW.node(w:`ei){d n:D}(r:`gQ)(h:`rm=`sI):∃(k:Nat) (c:`d) (so:`dw),v=`ua/\`iE/\`lw/\`a88/\`H':=by
 delta pr0 at h;split at h
 ·rename_i ds
  cases e:`nl with
  | none=>rw[e] at h;cases h
  | some k=>
   rw[e,`h] at h;rw[tj0] at r;apply `a89
   ·rw[e] at e1
    cases e1;let#[so,hs,hn]:=`DL w.all h;exact#[k,c,so,e3,e2,hs,h,hn]
   ·rw[e] at e1;cases e1
 ·cases h
def u80{es:`k}(h:`Mb `KX):∃xs,`an6/\`ot es xs:=(h)
def or0(h:`Mb `M5):`aYH:=(h)
omit z
def dw0:∀{ks:`eI} {ds:`k} {xs:`S} {q:v80},`fQ->(∀d,`a3K->∃v,`ai7=`bR/\`gQ)/\`a3L:=by
 intro z;induction z with
 | nil=>intro ds xs q r;exact#[`a8',`gK]
 | cons k ks ih=>
  intro z1;cases z1 with
  | nil=>
   intro xs q r
   rw[vm0] at r;subst r;exact#[`a8',λh=>`amd]
  | cons d ds=>
   intro xs q r
   rw[wn0] at r;apply `V?;let#[i1,i2]:=ih (q:=q) h2;rw[`dU];have hv:t10 ((k,x)::`wN r') q=`w (k=q) `c8 (t10 (`wN r') q):=by
    delta t10;rw[`PW]
    apply `AC
    ·rw[`gS,`ar e];rfl
    ·rw[`fq,`G2]
   constructor
   ·intro d' h
    delta si0 at h;rw[hv]
    apply `AC
    ·rw[`gS] at h ⊢
     cases h;exact`H7
    ·rw[`fq] at h ⊢
     exact i1 d' h
   ·intro hl
    rw[hv];delta um0;rw[`nW]
    apply `AC
    ·rw[`gS,`ar e];rfl
    ·rw[`fq,`G2,`ape]
     exact i2 `Mc
section
variable{a:`K}{p:Pos}{g ga gb:GE}
def W3(i:Nat)(hN:`c4)(hv:`dT)(hd:`aL)(hcd:`di):
  PN X i `lo (o4 i):=(.mk λB δ=>`aY6 fun σ H Q hq163=>by
 skip;let#[d,a,ns,as,sos,en,h,at',k]:=hq163
 delta o4 at h;rw[`la] at h;cases h;done;refine#[_,`fM,`Vm];delta M7;rw[tj0];exact `m #[0,a,ut0 0,`xR,rfl])
def j4(h:`rn)(hdp:∀δ d,`kr->`W6):PD X e (plN g):=(.mk λB δ=>`a8! fun σ H Q hq164=>by
 let#[d,en,e1,k]:=hq164
 delta plN at e1;cases e2:`au with
 | none=>apply `ac;cases e1
 | some d'=>
  apply `I?;split at e1
  ·rename_i hn
   cases e1;have:=hdp δ _ e2;cases e3:`kB with
   | none=>apply `aT e3;cases `F
   | some ns=>
    apply `a8?;exact`W7 en e2 (`D7 (k v H' s (cq0 hn r)))
  ·cases e1)
open T in
def y50{δ:Ds}{d:D}(h:wf0 i ga gb δ=`aX):`W6:=by
 delta wf0 at h;let#[x,e1,h]:=`fL;let#[y,e2,h]:=`fL;cases e:`kB with
   | none=>rw[e] at h;cases h
   | some ns=>rfl
open T in
def N8{δ:Ds}{d:D}(h:X5 i ga gb δ=`aX):`W6:=by
 delta X5 at h;cases e1:`df with
 | none=>rw[e1] at h;cases h
 | some x=>
  rw[e1,`h] at h;cases e2:`dy with
  | none=>rw[e2] at h;cases h
  | some y=>
   apply `WL;cases e:`kB with
   | none=>rw[e] at h;cases h
   | some ns=>rfl
open T in
def yq0(ha:`a9a)(hb:`cU)(hs:`UW):PN X i `uN (wf0 i ga gb):=(.mk λB δ=>
 (wk0 (Rt0 (S70.or Vx0) `u? `arQ hs)).imp fun σ H Q hq165=>by
  apply `arR hq165
  delta wf0 at h;apply `arS;cases e2:`dy with
  | none=>rw[e2] at h;cases h
  | some y=>
  rw[e2,`h,`la,`h] at h;apply `a9b;apply `W8;apply `n';apply `Ja;have Y:=`r?;have U:=`jg;delta fo0 at h;split at h
  ·rename_i ds z
   rw[zk0] at r2;subst r2;cases e3:`nl with
   | some kk=>
    rw[e3] at h;dsimp only at h;split at h
    ·rename_i es hes
     have hn:pr0 ns `pr=`f5:=by show `a9c;rw[e3];exact hes
     let#[k',c,so,rfl,f1,f2,f3,f4]:=`ab6 Y hn;apply `hQ;apply `a9d;refine `m (`a9e `acN);rw[c2];exact `a9f
    ·cases h
   | none=>
    rw[e3] at h;dsimp only at h;rw[tj0] at Y;rcases Y with⟨k',c,f,_⟩|⟨_,c,xs,rfl,q,rx⟩
    ·rw[e3] at f;cases f
    ·apply `a9d
     have hc:c∉as:=λz=>by
      rcases O.w.own c z with z|z
      ·exact(`f' U).bad c (z▸`j3) |>.nt xs q.2
      ·rw[q.2] at z;cases z.2
     refine `p (`a9e (`m (`m (`o (tc0 hc) q.2))));rw[c2];exact `a9f
  ·cases h)
open T in
def K7(hu:`fr)(ha:`a9a)(hb:`cU)(hs:`Wa):PN X i `uN (X5 i ga gb):=(.mk λB δ=>
 (wk0 (fl0 hu `u? `arQ hs)).imp fun σ H Q hq166=>by
  apply `arR hq166
  delta X5 at h;apply `arS;cases e2:`dy with
  | none=>rw[e2] at h;cases h
  | some y=>
  rw[e2,`h,`la,`h] at h;apply `a9b;apply `W8;apply `n';apply `Ja;split at h
  rotate_left
  ·cases h
  rename_i ks ds hn;let#[q,e3,h]:=`fL;apply `W9;apply `Jb;let#[v,U,rv]:=(dw0 rx).1 d h;have:=`Wb;subst this;apply `a9g;rw[c2];exact `Wc)
def M6(hm:`a_?)(ha:`rn)(hg:`a0a)(he:`f3)(hpl:`l2):
  PD X `a0b (ws0 i g):=(.mk λB δ=>(wk0 (lg0 gf0 hg hm A8 (`V2 (yh0 `u?)) `u `u he hpl)).imp fun σ H Q hq167=>by
 skip;apply `b2 hq167
 delta ws0 at h;apply `arS;let#[ns,e2,h]:=`fL;let#[ad,as,sos,at']:=en.atN e2;done;apply `a9h;apply `hR;apply `n';apply `Ja;skip;split at h
 rotate_left
 ·cases h
 rename_i es hn;cases h;apply `a9i;apply `hQ;done;refine#[c,xs,rfl,`m (`acN),ad,`a!,c1,?_];rw[c2];exact k _ H1 s1 (by rw[zk0,`zt]))
omit z
section
variable{σ σ':St}{δ:Ds}
def EnvS.takeL(en:`cm)(b1:`jY)(b2:`jZ)(e:`a3)(i:Nat){d:D}{p:`d}(hp:`hw)(s:`aZ)
  (r:RpL K H' `pS d p):`a1T:=by
 apply `apu
 have O:`aox:=`apv;have live:`a1U:=λ{j d' b} h1 h2=>by
  apply `a1V;rw[h2] at q1;cases q1;apply `a1W
 apply `a1X
 ·apply `VL
  ·exact `afK
  ·exact `p O
 ·refine `a1Y r
  cases sl with
  | un=>trivial
  | ex c n=>apply `i1;apply `Ip
  | sh d=>apply `i1;apply `Ip
  | ow d=>apply `VH;apply `a1Z
 ·apply `VL
  ·exact`apw
  ·exact `uZ
 ·skip;apply `VM
  ·apply `VN
   ·done;rfl
   ·apply `a1_
    ·cases e3
     apply `IH;done;exact `a10
    ·done;exact `VO
  ·apply `VN
   ·apply `a11
    ·cases e4
     rw[`re] at h3;done;exact `a12
    ·done;exact `a13
   ·rw[`re] at h3
    apply `IH;done;apply `UR
 ·skip;apply `VM
  ·apply `a14
   ·cases e3;done;exact O
   ·done;exact `VO
  ·rw[`re] at h2
   done;exact `a15
omit z
def t70:D->`T8
 | `c'=>`nl
 | _=>`e
def qi0(i:Nat)(go gv:GE):GX:=fun δ=>`l9 λd=>`yT λdv=>`cN λns=>`l' λk=>match `ff with
 | `f5=>`dM `a9j (`x,`a9k)
 | _=>`e
section
variable{σ:St}{δ:Ds}
open T in
def l80{d:D}{k:Nat}(h:`a9l):`rm=`ff:=by
 delta t70 at h;split at h
 ·rename_i ds
  show `a9c;rw[h];rfl
 ·cases h
open T in
def RpW.nodeK(w:`ei){d n:D}{k:Nat}(r:`gQ)(h:`a9l)(hn:`a88):∃(c:`d) (so:`dw),v=`ua/\`iE/\`lw/\`H':=by
 delta t70 at h;split at h
 ·rename_i ds
  rw[tj0] at r;apply `a89
  ·rw[h] at e1
   cases e1;let#[so,hs,hn]:=`a9m;exact#[c,so,e3,e2,hs,hn]
  ·rw[h] at e1;cases e1
 ·cases h
def EnvS.setN(en:`cm)(b1:`jY)(b2:`jZ)(env:`a3)(s:`aZ)(h:`l8){k:Nat}{c:`d}{so':`dw}{n':D}(h1:`iE)(h2:`lw)
  (r:`arM H') (hi:`arN) {d:D} {v:V} (rv:`ad5):
  ∃sub',`gn `a9n a sub'/\EnvV K `as `al (`er `a9n a sub') σ (`W4) d v:=by
 have h':=`UQ s;let#[p1,p2,p3]:=h'.w.put h.bad h1 h2 r hi;refine`a9o;rw[p2];let#[d0,d',U,e1,O]:=`a9p h' p3;rw[e1];exact `tY (`zs s b1 b2 U h.sl O) O (`Qs (`Cn h.bad))
omit z
section
variable{f:`K}
open T in
def J5(ho:`ro)(h1:`arT)
  (hbase:`W')
  (hfew:`G ((`ra
  &&`IK)=`f) Aa)
  (hline:`fZ) (hs:`f3) (hplain:`l3):
  PX X `arU (qi0 i go g1):=(.mk λH₀ B₀ δ pins s σ H Q I hq168=>by
 apply `a4 hq168
 delta qi0 at e1;apply `aU;apply `W!;let#[dv,e4,e1]:=`dv;let#[ns,e5,e1]:=`dv;let#[kk,e6,e1]:=`dv;split at e1
 rotate_left
 ·cases e1
 apply `Jc;split at e1
 rotate_left
 ·cases e1
 rename_i hz;cases e1;apply `Jd;refine `arV (`W? `Je `arW);apply `hR;apply `Jf;apply `hQ;apply `arX;apply `n';apply `Xa;rw[c2];refine`a9q;have Y:=`jg;have U:=`g5 Y;have a1:=`Xb;apply `a9r;apply `a9s;let#[Z,q1,q2]:=`Xc `AQ Y;exact#[a,Z,q1,k _ _ q2])
omit z
def Env.freshS{σ:St}{δ:Ds}{p:`d}(e:`a3)(hp:`hw)(s:`aZ)(nb:NB (H' p)):Env K H' `pS σ δ:=by
 apply `apu
 refine#[`uh (λv sl h=>?_) `lh,`iN,`yp]
 ·cases sl with
  | un=>trivial
  | ex c n=>apply `Wy;exact`a9t
  | sh d=>apply `Wy;exact`a9t
  | ow d=>let#[a,q,hb,r]:=h;exact#[a,q,`anJ,`c! (λo ho=>s _ _ ho) g]
 ·apply `IU
  ·exact`apw
  ·rw[z];exact nb
omit DL
open Y
section
variable{t:TA}{m:Str}{k:Nat}{f C:`d}{sp:Sp}{E:XK}{ds:`N}
def T90(h:`zY):PA X es (`cS t λvs H'=>`a8O vs):=(λpos pins s σ H Q I q=>
 thn (`acK h q) `a8P)
def Yk0(h:`zY):PA X es (`c0 (`qf (`th/\t σ `ti Q))):=(λpos pins s σ H Q I #[a,sub,c,q]=>h pos `t s σ _ Q (`RD) q)
def Nb0{pl:`iV}(he:`uH)(c:`uG)(hm:`TN)(F:`zZ)(hr:`nU)(hb:`lS)(hd:`lT)(hx:`z_)
  (ht:`G (`a9u=(do
   let ov ← `o9
   `nV
   let (f,`im) ← `q3
   `Xd)) Aa):
  `a9v E:=by
 apply `bg;refine `TP λu s1 hq169=>?_;skip;apply `a9w hq169;subst ex;apply `q1;done;apply `TQ;exact `a9x (Uy0 (us:=`eb) (vs:=`eb) F hr hb hd hx (I1.closed cl) `ant q)
omit z
omit L2
open X
def qr0:`k->`k->Str->`cD
 | `a9y,`b0,f=>`w (n=f) `aX (qr0 fs ds f)
 | _,_,_=>`e
def ic0:`k->`k->Str->D->`k
 | `a9y,`b0,f,v=>`w (n=f) (v::ds) (d::ic0 fs ds f v)
 | _,ds,_,_=>ds
def g10:∀{ns:`i} {ds:`k} {xs:`S} {f:Str} {d:D},`fQ->`a9z=`aX->∃v,(`PJ).lookup f=`bR/\`gQ:=by
 intro z;induction z with
 | nil=>intro _ _ _ _ _ h;apply `AR;cases h
 | cons n ns ih=>
  intro z1;cases z1 with
  | nil=>intro _ _ _ _ h;rw[`av] at h;apply `AR;cases h
  | cons d' ds=>
   intro xs f d r h
   rw[wn0] at r;apply `V?;rw[`av] at h;apply `AR;rw[`dU,`gN]
   by_cases e:n=f
   ·rw[`gS] at h
    cases h;rw[show (f==n)=`f from `Hx e.symm];exact`H7
   ·rw[`fq] at h
    rw[show `a9A from `nN (B0 e)];exact ih h2 h
def br0:∀{ns:`i} {xs:`bn} {f:Str},f∉ns->(`PJ).lookup f=`e:=by
 intro z;induction z with
 | nil=>intro _ _ _;simp
 | cons n ns ih=>
  intro z1;cases z1 with
  | nil=>intro _ _;simp
  | cons x xs=>
   intro f h
   rw[`hq] at h;rw[`dU,`gN,show `a9A from `nN `I9];exact ih `arK
def dt0{f:Str}{d:D}(rv:`gQ):∀{ns:`i} {ds:`k} {xs:`S},`fQ->`aGZ->f∈ns ->
  ∃ys,s30 f v (`PJ)=`C' ns ys/\`ct=`d5/\`ot (ic0 (`afF) ds f d) ys:=by
 intro z;induction z with
 | nil=>intro _ _ _ _ h;cases h
 | cons n ns ih=>
  intro z1;cases z1 with
  | nil=>intro xs r hl _;rw[vm0] at r;subst r;cases hl
  | cons d' ds=>
   intro xs r hl hf
   rw[wn0] at r;apply `V?;rw[`dU,`av];delta s30 ic0
   by_cases e:n=f
   ·rw[`gS,`gS]
    refine#[v::r',rfl,hl,?_];rw[wn0];exact#[v,r',rfl,rv,h2]
   ·rw[`fq,`fq]
    let#[ys,e1,e2,e3]:=ih h2 `Mc (`QF (`cg hf) (B0 e));refine#[x::ys,`ae e1,by rw[`an,`an,e2],?_];rw[wn0];exact#[x,ys,rfl,h1,e3]
structure ClsN(K:`y)(c:Str)(fs:`i):Prop where
 ok:∀C,`iv->`tX/\∀f∈fs,`zV
def ym0{o:`SA}{f:`aOf}{r:β}(h:`aOg):`aOh:=by
 cases o with
 | none=>cases h
 | some a=>exact`aOi
def Lh0:`HZ
 | `H l=>`qk
 | _=>`e
def Rs0:`HZ
 | `v7=>`qk
 | _=>`e
def Qe0:D->`aH Str
 | `r l=>`qk
 | _=>`e
def unL:`k->`aH (D×`k)
 | a::l=>`a9B
 | []=>`e
def N30{d:D}(h:Lh0 d=`qk):d=`H l:=by
 cases d<;>cases h
 rfl
def Vw0{d:D}(h:Rs0 d=`qk):d=`v7:=by
 cases d<;>cases h
 rfl
def Tu0{d:D}{l:Str}(h:Qe0 d=`qk):d=`r l:=by
 cases d<;>cases h
 rfl
def mc0{m:`k}{a:D}(h:unL m=`a9B):m=a::l:=by
 cases m<;>cases h
 rfl
def fa0(d:D):`aH (Str×`k×`k):=`a9C λc=>`arY λp=>`a9D λf=>`arY λp=>`a9D λe=>`w (p.2.isEmpty=`f) `arZ `e
def km0{d:D}{f e:`k}(h:fa0 d=`arZ):d=`H [`tL,`s f,`s e]:=by
 skip;delta fa0 at h;let#[l,w0,h]:=`fs;let#[#[x,l1],w1,h]:=`fs;let#[c,w2,h]:=`fs;let#[#[y,l2],w3,h]:=`fs;let#[f,w4,h]:=`fs;let#[#[z,l3],w5,h]:=`fs;let#[e,w6,h]:=`fs;have h:(`w (l3.isEmpty=`f) `arZ `e)=`SW:=h;split at h
 ·rename_i hz
  cases h;rw[List.isEmpty_iff.mp hz] at w5;done;rw[N30 w0,mc0 w1,Tu0 (d:=x) w2,`a9E,Vw0 (d:=y) w4,mc0 (m:=l2) w5,Vw0 (d:=z) w6]
 ·cases h
def T5(i:Nat)(c f:Str)(g:GE):GE:=`nX (`cN λns=>((`rm).bind fa0).bind λr=>`w `AS `ar_ `e)
def n70{fs:`k}(h:`Mb (`aYI)):`aYJ:=(h)
section
variable{p:Pos}{g ga gb:GE}{f:Str}
def K3{δ:Ds}{d:D}(h:T5 i c f g δ=`aX):`W6:=by
 delta T5 at h;let#[x,e1,h]:=`fL;cases e:`kB with
  | none=>rw[e] at h;cases h
  | some ns=>rfl
def J7(ha:`rn)(hc:`Jg)(hf:`Jh)(hb:`G (`aTQ) Aa):PN X i `amh (T5 i c f g):=(.mk λB δ=>
 (wk0 (Cu0 (yh0 `u?) hb)).imp fun σ H Q hq170=>by
  skip;apply `arR hq170
  delta T5 at h;cases e1:`au with
  | none=>rw[e1] at h;cases h
  | some dx=>
  rw[e1,`h,`la,`h] at h;done;apply `a9h;apply `hR;apply `n';apply `Ja;skip;let#[#[c',fs,ds],hn,h]:=`fs;let#[_,hn,hi]:=ym0 hn;cases km0 hi
  done;try dsimp only at h
  skip;split at h
  rotate_left
  ·cases h
  rename_i hcc;subst hcc;let#[k',a,so,rfl,f1,f2,f3,f4]:=`aH!;let#[C,U,nm,xs,rfl,rfl,hl,hC,Y,rx]:=n70 f4;let#[v,hv,rv]:=g10 rx h;apply `Ji;done;refine#[a,C,U,_,v,rfl,`DN,q1,`RY,hv,ad,`a!,c1,?_];rw[c2];exact k v H1 s1 rv)
omit z
def qh0(i:Nat)(c f:Str)(gv:GE):GS:=fun δ=>`a9F λr=>`ba (`AS/\`aH?/\`sO `ar_/\`agS) (.nx (`a9G dv))
def Wp0(i:Nat)(c f:Str)(gv:GE):GS:=fun δ=>`yT λdv=>`cN λns=>`agB λp=>`agC λr=>if `AS/\`agS then (match `ar_,dv with
  | `c (`T?),`oI=>`af (`a9G (`g (a+b)))
  | _,_=>`e) else `e
def gc0:∀{ns:`i} {ds:`k} {f:Str},`sO `a9z->f∈ns:=by
 intro z;induction z with
 | nil=>intro _ _ h;apply `AR;cases h
 | cons n ns ih=>
  intro z1;cases z1 with
  | nil=>intro _ h;rw[`av] at h;apply `AR;cases h
  | cons d ds=>
   intro f h
   rw[`av] at h;apply `AR
   by_cases e:n=f
   ·rw[e];exact A7
   ·rw[`fq] at h
    exact `a7R
section
variable{gv:GE}{f:Str}
open T in
def O2(i:Nat)(hv:`ar0)(hc:`Jg)(hf:`Jh)(hN:`c4)(hvis:`dT)(hd:`aL)(hcd:`di)
  (hs:`ar1):`ar2 qh0 gv:=(.mk λH₀ B₀ δ pins s σ H De I hq171=>by
 apply `eQ hq171
 delta qh0 at e1;apply `aU;apply `i8;apply `ar3;apply `i8;apply `Xe;apply `Xf;clear e1;apply `Xg;clear e0;cases `Xh;apply `Xi
 apply `Xj
 split at e1
 rotate_left
 ·cases e1
 rename_i hq;let#[a3,hn,a4,U]:=hq;subst a3;cases e1;apply `Xk;apply `a9H;apply `hR;apply `ar4;apply `a9I;apply `Ji;apply `a9J
 ·apply `yq
  rw[`T] at U;exact U
 ·let#[ys,y1,y2,y3]:=dt0 (o80 (as:=as) hn r1) rx hl (gc0 a4)
  rw[y1];let#[a1,z1,z2]:=`AQ b1 b2 env s1 at' `Pa Z (n':=`a9K dv) (so':=`h3 C Y `a9L) (`a9M Y) `Xl (d:=`x) (v:=`x) `k!;apply `Xm)
open T in
def Ll0(i:Nat)(hv:`ar0)(hc:`Jg)(hf:`Jh)(hN:`c4)(hvis:`dT)(hd:`aL)(hcd:`di):
  PSD X (`aTW (`fz `k1 f tpos) .Add `gz pos) (Wp0 i c f gv):=(.mk λH₀ B₀ δ pins s σ H De I hq172=>by
 apply `eQ hq172
 delta Wp0 at e1;apply `aU;apply `i8;apply `ar3;apply `i8;apply `Xe;apply `Xf;clear e1;apply `Xg;clear e0;cases `Xh;apply `Xi
 apply `Xj
 split at e1
 rotate_left
 ·cases e1
 rename_i hq;let#[a3,U]:=hq;subst a3;split at e1
 rotate_left
 ·cases e1
 rename_i n1 n2 hlk;cases e1;apply `Xk;refine `aiF (Ns0 `ajb (lb0 `Sf) Et0) #[a,`a',`fM,a,`a!,`a9N,?_];let#[so,Z,nk]:=`ady `Eg;let#[C,O,nm,xs,rfl,rfl,hl,hC,a2,rx]:=`Qm;apply `Ji;let#[v,a4,rv]:=g10 rx hlk;delta RpN at rv;subst rv;let#[c1,c2]:=at'.w.back;refine#[a,C,O,_,`g n1,rfl,at'.w.opAt `xR Z,q1,`RY,a4,a,`a!,c1,?_];rw[c2];refine#[`g n2,env,e2,`xB];rw[zk0] at r2;subst r2;have Y:=`g5 s2;refine#[`a!,`a9O,n1,n2,rfl,rfl,O,_,Y.w.opAt Y.w.hd Z,?_,?_]
 ·apply `yq
  rw[`T] at U;exact U
 ·let#[ys,y1,y2,y3]:=dt0 (d:=`ar5) (v:=`ar5) (f:=f) (by delta RpN;rfl) (`Xb) hl (gc0 (`ae hlk))
  rw[y1];let#[a1,z1,z2]:=`AQ b1 b2 env s2 at' `xR Z (n':=`a9K (`ar5)) (so':=`h3 C O `a9L) (`a9M O) `Xl (d:=`x) (v:=`x) `k!;apply `Xm)
omit z
def extN(i:Nat)(go gv:GE):GX:=fun δ=>`l9 λd=>`yT λdv=>`cN λns=>`l' λk=>match `ff,dv with
 | `f5,`afE=>`ba (qg0 fs=`f/\`ip+`NL<=`R) (`x,`FI (`s (es++fs)))
 | _,_=>`e
def popS(i:Nat)(go:GE):GS:=fun δ=>`l9 λd=>`cN λns=>`l' λk=>match `ff with
 | `f5=>`w (es=[]) `e (`af (`FI `a9P))
 | _=>`e
section
variable{f:`K}
open T in
def Hd0(ho:`ro)(h1:`arT)
  (hbase:`Ds `VU)
  (hfew:`G ((`ra
  &&`IK)=`f) Aa)
  (hline:`fZ) (hs:`f3) (hplain:`l3):
  PX X (`Iu o `VU [e]) (extN i go g1):=(.mk λH₀ B₀ δ pins s σ H Q I hq173=>by
 apply `a4 hq173
 delta extN at e1;apply `aU;apply `i8;let#[d,e2,e1]:=e1;apply `i8;let#[dv,e4,e1]:=e1;apply `i8;let#[ns,e5,e1]:=e1;apply `i8;let#[kk,e6,e1]:=e1;split at e1
 rotate_left
 ·cases e1
 rename_i es fs hnode;split at e1
 rotate_left
 ·cases e1
 rename_i hz;cases e1;apply `Jd;refine `arV (nc0 F6 n50 nb0 bk0 `Je `arW `hj `pt `jI hs `sP);apply `hR;apply `Jf;apply `hQ;apply `arX;apply `n';apply `Xa;rw[c2];refine#[`afE,`gq,e4,`xB];have Z:=`jg;have U:=`g5 Z;have a2:=`Xb;rw[w60] at r2;let#[b,zs,rfl,sq,rz]:=r2;let#[nb,hb]:=sq.at;have Y:`I':=λz=>by
  rcases U.w.own b z with q|q
  ·exact nb (q▸`j3)
  ·apply `a9Q
   ·rw[hb] at q;cases q.2
   ·rw[hb] at q;cases q.2
 refine#[_,`aLR,c,b,xs,zs,rfl,rfl,`aLS,?_,by rw[← `zt,rz.length];exact hz.2,?_]
 ·refine `m ?_
  apply `a9Q
  ·exact `m (`a9R)
  ·exact `p #[ob,`a9R]
 have nk:`aiE (`s (es++fs)) `Vk:=#[_,rfl,`CY (`w? (`tp a2) (`tp (i90 hz.1 rz)))];let#[a1,q1,q2]:=`Xc `AQ Z;exact#[a,a1,q1,k _ _ q2])
open T in
def R4(ho:`ro)
  (hbase:`Ds "pop") (hline:`fZ)
  (hsw:`NP `a9S):
  PSD X (`xH `a9S pos) (popS i go):=(.mk λH₀ B₀ δ pins s σ H De I hq174=>by
 apply `a4 hq174
 delta popS at e1;apply `aU;apply `W!;let#[ns,e5,e1]:=`dv;let#[kk,e6,e1]:=`dv;split at e1
 rotate_left
 ·cases e1
 apply `Jc;split at e1
 ·cases e1
 rename_i hne;cases e1;apply `Jd;refine `ar6 (Py0 F6 ne0 np0 Og0 `Je `hj `jI) De `adw;apply `hR;apply `Jf;apply `hQ;have pr:=`tp rx;obtain⟨dl,e7⟩:∃dl,es[`ip - 1]?=`c dl:=#[_,C4 (by have:=x60.mpr hne;omega)];let#[y,hy,ry]:=`DL pr e7;refine#[a,`a!,`j9,`ah5,c,xs,y,rfl,rfl,`DN,`cu (`wD pr) hy,?_];have nk:`he X.K H1 B as `a9P `anl:=by
  refine`qZ (`CY ?_);have:∀{l:`k} {m:`S},`bH `a9T l m->`bH `a9T `aWs m.dropLast:=by
   intro l m h
   induction h with
   | nil=>exact `_
   | cons r t ih=>
    cases t with
    | nil=>exact `_
    | cons r' t'=>exact `G3
  exact `F pr
 let#[U,q1,q2]:=`Xc `AQ s1;exact#[a,U,q1,`a9U])
omit z
def RpW.backS(h:`ei)(s:`cE `nI H'):`gn H' a `dK/\`cE H (`er H' a `dK):=by
 refine#[`a8_ (s _ _ (`a80)),`anu,λb o xs e=>?_]
 ·apply `fH
  apply `nP
  ·rw[`f_]
   rw[hb,`Ac] at e;exact e
  ·rw[`eP]
   by_cases hm:`W2
   ·let#[so,q]:=s80 `qg hm `iD
    rw[q];rcases h.own b hm with z|z
    ·exact `a8X
    ·rw[z.2] at e;exact e
   ·rw[u70 hm]
    exact s b o (`o (tc0 hm) e)
 ·delta closed at e
  apply `nP
  ·rw[`f_] at e;cases e
  ·rw[`eP] at e
   by_cases hm:`W2
   ·let#[so,q]:=s80 `qg hm `iD
    rw[q] at e;cases e
   ·rw[u70 hm] at e
    have:=s.nf b o xs e;apply `aT (tc0 hm);exact `F
def fnN(i:Nat)(go:GE)(gA:GA)(f:`O):GE:=fun δ=>`l9 λd=>`pf λds=>`cN λns=>match `rm with
 | `f5=>`n7 (`Jj/\`AI) ((f (`mP::ds)).bind `a9V)
 | _=>`e
def qe0:∀{ds:`k},`AI->`W_:=by
 intro z;induction z with
 | nil=>intro _;exact rfl
 | cons d ds ih=>
  intro h
  delta flats at h;rw[`lU,`b5] at h;delta qg0;rw[`b5];refine#[?_,ih h.2];cases d<;>first|rfl|(cases h.1)
section
variable{p:Pos}{gA:GA}
open T in
def V5{k:Nat}{f:`O}(C:`a0f)(hr:`rb)(hk:k<=m)(ho:`ro)(ha:`Ai)(hg:`fn)(hdb:`aL)
  (he:`hi (o::es) ((`l,`o9)::`vR)) (hpl:`eO):PD X (`g4 `mw (o::es)) (fnN i go gA f):=by
 apply `Vr;exact .mk λB δ=>(wk0 (`Ih `i3 kp (wa0 `Mi (T90 `bD) he))).imp fun σ H Q hq175=>by
  let#[r,en,h,k]:=hq175
  delta fnN at h;let#[d,e1,h]:=`fL;let#[ds,e2,h]:=`fL;let#[ns,e3,h]:=`fL;split at h
  rotate_left
  ·cases h
  rename_i ls hn;split at h
  rotate_left
  ·cases h
  rename_i hfl;cases e4:f (`a9W) with
  | none=>rw[e4] at h;cases h
  | some r'=>
  rw[e4,`h] at h;split at h
  rotate_left
  ·cases h
  rename_i hfr;cases h;apply `a8?;refine`W7 en e1 (`mE #[ds,`io,e2,`afT]);have U:=`jg;have O:=`g5 U;apply `W9;apply `hQ;refine#[a,`a!,`j9,?_];show spD X.K f ((`ua::vs)++[]) `aMb _ E0;rw[`cT];refine#[`B3,`a9W,r,`a9X,?_,e4,`aqx]
  ·rw[W5]
   refine#[`ua,vs,rfl,?_,tf0 hfl.2 r2];rw[w60];exact#[c,xs,rfl,`aIn,tf0 hfl.1 (oo0 (qe0 hfl.1) rx)]
  ·let#[c1,c2]:=`Xn s3
   exact#[a,`a!,c1,k v _ (U.trans c2) (p80 hfr r3)]
omit z
structure FnT(P:`aj)(w:`M)(K:`y)(mg:`a2)(base:`D)(c m:Str)(k:Nat)(ps:`i)(F:`i)(f:`aJ):Prop where
 ex:∃C fa fd,`a9Y/\`a9Z
def nh0(c:Str)(F:`i)(d:D):`B:=match `a9C λ_=>`arY λq=>fa0 q.1 with
 | `bK=>`X (`AS)&&r.2.1.all λn=>match n with|`cw=>F.contains x|_=>`l
 | `e=>`l
def xx0(i:Nat)(c:Str)(F:`i)(gA:GA)(f:`aJ):GX:=fun δ=>`AP λb=>`w `a9_ `a8H `e
open T in
def k70{d:D}{m:Str}(h:nh0 c F d=`f)(r:`n_)(hm:m∉F):∃x ns as sos C dx fs,d=`Dr/\`ei/\`ar7/\`iv/\`FK:=by
 delta nh0 at h;split at h
 ·rename_i r w
  let#[c',fs,ds]:=r;let#[l,w0,w]:=ym0 w;let#[#[n0,l1],w1,w]:=ym0 w;let#[x,w2,w]:=ym0 w;let#[#[n1,rest],w3,w]:=ym0 w;cases N30 w0;cases mc0 w1;cases Tu0 (d:=n0) w2;cases `a9E;cases km0 (d:=n1) w
  try dsimp only at h
  rw[`b5,`Jk] at h;let#[hc,O]:=h;subst hc;let#[x',ns,e,as,sos,w]:=r;cases e;let#[so,Y,nk]:=`ady w.all;let#[C,U,nm,xs,rfl,rfl,hl,hC,Z,rx]:=`Qm;refine#[x,_,as,sos,C,U,_,rfl,w,Y,hC,br0 λz=>hm ?_];rw[`uo] at O;have:=O (`r m) (X1 z);exact n5.mp `F
 ·cases h
section
variable{gA:GA}{m:Str}
def S6(i:Nat){pl:`iV}{k:Nat}{f:`aJ}(C:`a90)(hr:`AT)(hk:k<=n)(ha:`lZ)(hN:`rh)(hv:`rj)(hd:`n6)(hcd:`rk)
  (hst:`dk) (hpl:`eO)
  (ht:`G (`a91=(do
   let ov ← `FH
   `nV
   let (f,`im) ← `q3
   `TO)) Aa):
  PX X `agE (xx0 i c F gA f):=(.mk λH₀ B₀ δ pins s σ H Q I hq176=>by
 skip;apply `eQ hq176
 delta xx0 at e1;apply `aU;let#[Ca,fa,fd,Fo,hC,cl,a3,hb,a6]:=C.ex;apply `I8;split at e1
 rotate_left
 ·cases e1
 rename_i hfl;let#[d0,hi,a1]:=`n8;apply `WM;cases e3:`arD with
 | none=>apply `cb;cases e1
 | some q=>
 apply `cb;cases e1;apply `arE;let#[h1,h2]:=`rl a1;let#[x,ns,as,sos,C',dx,fs,a9,w,a7,Z,a5]:=`ar8;have a2:C'=Ca:=by rw[hC] at Z;cases Z;rfl
 subst a2;apply `Xo;done;refine`bZ (Iz0 (pl:=pl) (E:=E0) `Xp cl a3 Fo `i3 hb `_ k20 (Yk0 `bD) hst hpl ht) Q (`Xq O `a92 a5);rw[c2];refine`arf;show spB X.K 0 f `a93 H1 _ _;rw[`cT];refine`a8K `b7 λv H' hh a4 rv=>?_;have Y:`AN:=`WX;apply `arF Y a4;apply `a8L)
def W0(i:Nat){pl:`iV}{k:Nat}{f:`aJ}(C:`a90)(hr:`AT)(hk:k<=n)(hN:`rh)(hv:`rj)(hd:`n6)(hcd:`rk)
  (ht:`G (`a94=(do
   let ov ← `FH
   `nV
   let (f,`im) ← `q3
   `Xd)) Aa):
  PX X `agF (xx0 i c F v6 f):=(.mk λH₀ B₀ δ pins s σ H Q I hq177=>by
 skip;apply `eQ hq177
 delta xx0 at e1;apply `aU;let#[Ca,fa,fd,Fo,hC,cl,a2,hb,a5]:=C.ex;apply `I8;split at e1
 rotate_left
 ·cases e1
 rename_i hfl;let#[d0,hi,Z]:=`n8;apply `a95;cases e3:f `jQ [] with
 | none=>apply `cb;cases e1
 | some q=>
 apply `cb;cases e1;apply `arE;let#[h1,h2]:=`rl Z;let#[x,ns,as,sos,C',dx,fs,a7,w,a6,Y,a4]:=k70 hfl h1 a5;have a1:C'=Ca:=`a96 hC
 subst a1;apply `Xo;done;refine`bZ (Nb0 (pl:=pl) (E:=E0) `Xp cl a2 Fo `i3 hb `_ k20 ht) Q (`Xq O (`FL w.hd a6) a4);rw[c2];show spB X.K 0 f `eb H _ _;refine#[B,[],[],a,`jQ,q.2,q.1,`va,hB,rfl,`b7,`k_,h1,e3,λv H' hh a3 rv=>?_];apply `arF hh a3;exact `ar9 (`xS b1 b2 hi O hh U) U)
omit z
def Env.unset{σ:St}{δ:Ds}(e:`a3)(i:Nat)(o:`dL):Env K H B `WH `a97:=by
 refine`aoj `ny `ai6;skip;apply `a98
 ·cases z
 rcases `Dm with⟨_,z,_⟩|⟨n2,h2⟩
 ·cases z
 rw[`re] at h3;apply `IH;done;apply `UR
def op0(i:Nat)(n:D)(δ:Ds):Ds:=match `kT with
 | `W3=>`Dt (ns++[n])
 | _=>δ
structure PartAt(K:`y)(H₀:Hp)(B₀:BS)(H:Hp)(σ:St)(δ:Ds)(i j:Nat)(dp:D):Prop where
 en:`cm
 ex:∃B a ns as sos v,`VR (`l8/\`HS/\`ar')
def Xp0{δ:Ds}{mk:D->D}(h:`kT=`W3)(ms:`k):dpN i (`Xr)=`c ms:=by
 have hl:i<`m9:=by
  cases q:`bY with
  | none=>rw[q] at h;cases h
  | some s=>exact(`ch q).1
 delta dpN;rw[`Ad];skip;rcases N60 h with⟨_,_,_,e⟩|⟨_,_,e⟩|⟨_,_,_,e⟩|⟨_,_,_,e⟩
 ·cases e
 ·cases e
 ·cases e;done;rfl
 ·cases e;done;rfl
open T in
def cs0{δ:Ds}(h:`Sg):∃x mk,`kT=`W3:=by
 delta dpN at h;cases eb:`kT with
 | none=>rw[eb] at h;cases h
 | some bm=>
  rw[eb,`h] at h;let#[b,mk]:=bm;split at h
  ·rename_i x ns' hb
   cases h;have hb:b=_:=hb;subst hb;exact#[x,mk,rfl]
  ·cases h
def NodeOk.ext(g:`dS){n:D}(hdx:`Ob so (dx≠L))(h:`H'):`an7 `qi:=by
 have l:`afD `qi:=`a99
 apply `an8;split at h
 ·apply `nY;exact`a9'
 ·let#[xs,e,z,r]:=h;exact`a9!
 ·skip;apply `a9?
  done;exact`a'a (`Gi w)
 ·exact `fE
def EnvS.unset{σ:St}{δ:Ds}(e:`cm)(i:Nat)(o:`dL):`Fh H `WH `a97:=by
 let#[B,b1,b2,env]:=e.ex;refine#[e.same,(`uj (env.unset i o)),`aLK,e.b0];skip;apply `a98
 ·cases z
 rw[`re] at h2;done;exact e.fr j ds a h1 h2
def Rj0{x1}(i j:Nat)(nd:`dh)(hk:`Xs)(hi:`hN)(hy:`hO)
  (hs:`hi `ar! ((`ih ke)::`a'b)) (hs2:`BZ `a'b (`ih (`Ef)))
  (hsw:`lb (`xf `ar! x1 tp) `Du `m0)
  (hf:`gP):
  PS X (`gB `ng (`xf `ar! x1 tp) pos) `a'c:=by
 intro pins s σ H D I q;skip;let#[H₀,B₀,δ,dk,ns,en,e1,c8,e2,c4,kk]:=q;apply `aU;apply `a'd;have jl:j<`s!:=by
  apply `akW;have h1:=`Gx;have:=`jr;lia
 done;refine `a'e (yh0 (Wx0 (wa0 (hk.go B δ) (wa0 (ff0 vj0) vj0 hs2) hs))) D #[dk,env,e1,`mE #[`b7,λL hL=>#[`aaQ,λt ht=>?_]]];apply `ar?;have Z:H L=`e:=`nm hL;obtain⟨H2,b3⟩:∃H2,H2=`asa:=`Y;rw[← b3] at ht ⊢;have s2:`Ul:=`o b3 (yl0 hL)
 have c3:`aqq:=`apZ ht;obtain⟨H3,a3⟩:∃H3,H3=upd H2 t `asb:=`Y;rw[← a3];have s3:`a'f:=`o a3 (yl0 ht)
 have a4:`asc:=`w1;have d1:H2 L=`Jl:=`Hz b3
 have e5:H3 L=`Jl:=s3 _ _ d1;have f1:H3 t=`c `asb:=`Hz a3
 have d3:∀b∈as,`Uh:=λb hb z=>by
  apply `asd
  ·rw[q,hH] at z;cases z
  ·rw[q.2] at z;cases z
 have La:L∉as:=λz=>d3 L z Z
 have ta:t∉as:=λz=>d3 t z c3
 apply `a'g
 have c2:=`g5 a4;have U:`a'h=(`z `abH):=`a'i
 have a7:`a'j:=by
  rw[`Iw];apply `a'k;rw[`gs hy] at z;exact La `ase
 have a2:`a'l:=`asf
 have e9:`a'm `Oe (so=`rN):=λk c so q1 q2=>by
  by_cases hk':k<`fF
  ·rw[`Xt] at q1
   apply `a'n;exact `a'o
  ·have hl1:=`asg
   rw[`W] at hl1;have e7:`ash:=`a'p
   subst e7;rw[`nE,`iF] at q1;rw[`xT,`nE,`iF] at q2;apply `a'q
 have a1:`D4 (`Oe[k]?):=λk C dx fs e=>by
  by_cases hk':`W1
  ·rw[`Xt] at e
   exact `a'r
  ·rw[`I4] at e
   cases q:k - `Di with
   | zero=>rw[q] at e;cases e
   | succ n=>rw[q] at e;cases e
 have cl:`gn `Qt a `asi:=pf0 a2 a7 U (λk c so q1 q2=>by
  skip;rcases e9 k c so q1 q2 with⟨q1,q2⟩|⟨_,rfl,rfl⟩
  ·done;exact `a's
  ·done;rw[tc0 La];exact e5) a1
 refine#[a,`a!,c2.w.openOk,a,_,cl,`Xu];obtain⟨Hc,Y⟩:∃Hc,Hc=`er `Qt a `asi:=`Y;rw[← Y];skip;have ca:`Jm a `asi:=`a't
 have a5:∀b∈`mx,`asj:=λb hb n=>by
  rw[Y];apply `fH;let#[so,q]:=s80 U hb a7;rw[`Xv,q]
 have O:`a'u:=λb hb=>by
  rw[Y];apply `fH;rw[`zM `Q (¬b=a) λz=>hb (`o z (D3 a2)),`Jn,`a'v]
 have but:`ask:=#[λb u n z=>by
  apply `Xw
  ·apply `AU
   ·apply `asl
    ·exact `asm
    ·rw[`asn,← w.2,z]
   ·rw[`Jo,Z] at z;cases z
  ·rw[`Xx];exact a4 _ _ z,λb u xs n z=>by
  apply `Xw
  ·rw[`asn] at z;cases z
  ·rw[`Xx] at z;exact a4.nf _ _ _ z]
 have gr:Gr H Hc B B:=`Eh `j3 but;have f0:¬B L:=`zm Z;have hw:RpW X.K Hc B (`Qq) a `qi `Oe:=by
  refine#[a2,a7,ca,`eB,U,`Ml ?_ `a'w,a1]
  ·by_cases n:b=a
   ·exact `m n
   ·refine `p #[?_,`asn]
    apply `AU
    ·apply `aso
    ·rw[`Jo];exact f0
  ·apply `a'x
   intro z;skip;subst e;have e8:=`asp;subst e8;apply `arm `a! `aHP;have hm:`a'y:=by
    refine `a'z;rw[`a'A];exact#[`xR,q2]
   let#[_,w,_]:=(all _ hm).2;rw[z,Z] at w;cases w
 let#[x,mk,c0]:=cs0 e2;let#[d0,a6,e4]:=s50 c0;let#[a',d2,hB,ro]:=`wk a6;rw[`fM] at d2;cases d2;have e3:`aK'=`a'B:=by delta op0;rw[c0]
 have a9:`s5 Hc (`a'B):=`asq a6 e4 `a'C;have f2:=`asr a6 a9;done;rw[e3];have c1:=Xp0 c0 (`Qq);refine#[EnvS.unset f2 j _,B,a,`Qq,`mx,`abH,`Lm,b1,b2,a9.unset j _,#[?_,hB,?_,hw],B20 jl,?_]
 ·rw[`a'D];exact `fM
 ·delta dpN at c1 ⊢
  rw[`a'D];exact c1
 ·rw[tj0]
  have e6:Hc t=`c `asb:=by
   rw[O t (λz=>(`d9 z).elim ta λz=>by
    rw[`Jp,d1] at ht;cases ht)]
   exact f1
  refine `p #[?_,t,`aD7,rfl,#[`zm c3,e6],?_]
  ·cases dk<;>rfl
  ·rw[wn0]
   apply `l7 v1 [`yd] (o80 ?_ (p80 c8 r1))
   ·cases dk<;>first|rfl|(cases c8)
   ·rw[wn0]
    refine#[`yd,[],rfl,?_,`agI];delta M7;rw[tj0];have e0:`ass:=`ast
    exact `a'E e0
def ny0(i:Nat)(go:GE)(dp:D)(δ:Ds):`aH Ds:=`l9 λd=>`cN λns=>`l' λk=>match `ff with
 | `f5=>`ba `agA (`FI `Xy)
 | _=>`e
section
variable{o2:`K}{go2:GE}
open T in
def c80(i j:Nat)(ho:`ro)(hN:`hN)(hv:`rj)(hd:`n6)(hcd:`rk)
  (hbase:`W')
  (hfew:`G ((`Lr `a'F
  &&`Me `ng)=`f) Aa)
  (hline:`fZ) (hs:`BZ `a'F (`ih `LZ)) (hplain:`l3)
  (hsw:`NP `a'G):
  `asu (`xH `a'G pos) go:=by
 intro pins s σ H De I q;let#[H₀,B₀,δ,dp,δ',pt,e1,kk]:=q;apply `asv;delta ny0 at e1;cases e2:go δ with
 | none=>apply `ac;cases e1
 | some d=>
 rw[e2,`h,`la,`h] at e1;let#[k,e6,e1]:=`dv;split at e1
 rotate_left
 ·cases e1
 apply `Jc;split at e1
 rotate_left
 ·cases e1
 rename_i hz;cases e1;refine `ar6 (`W? `Je (`P4 (`a'H))) De `adw;apply `hR;apply `Jf;apply `hQ;refine#[a,`a!,`j9,`ah5,v,hj,c,xs,v,rfl,rfl,`DN,`cu `zt hz,?_];have nk:`he X.K H1 B as `Xy `a2j:=#[_,rfl,`Jq (`Fu)];let#[p1,p2,p3]:=O.w.put `j3 f1 f2 nk `aCC;refine#[a,_,p1,kk _ ?_];rw[`a0 ((HO.lst `P5)=(`acp `P5).ho),p2];let#[d0,d',a1,q1,U]:=(`gq).setN O p3;let#[x,mk,Z]:=`Xz;have Y:dpN i (DL.setN i k `Xy δ)=`c (`Oc k `Xy):=by
  delta DL.setN;rw[Z];exact Xp0 Z _
 rw[q1] at Y ⊢;exact#[`zs s1 b1 b2 a1 `fM U,B,a,_,as,_,v,b1,b2,U,#[`fM,`j3,Y,p3],hj,(`Fu).mono `a'I `D3]
def mz0(i j:Nat)(gk ga gb:GE):GSB:=fun δ=>`tZ λdk=>`cN λns=>if `ajc then
 (`a'J).bind fun δ2=>(`a'K).map fun δ3=>.nx δ3 else `e
def Vl0{st1 st2 st3:`aO}{rest:`bb}{G:GSB}{ga gb:GE}(i j:Nat)(hij:`y5)
  (h1:PS X st1 `a'c)
  (h2:`asu st2 ga)
  (h3:`asu st3 gb)
  (h:`fh X `aA G):`fh X (st1::st2::st3::`aA) (u9 (mz0 i j gk ga gb) G):=(.mk λH₀ B₀ δ pins s σ H D I hq178=>by
 skip;apply `gR hq178
 delta u9 mz0 at e;cases e1:`LA with
 | none=>rw[e1] at e;cases e
 | some dk=>
 rw[e1,`h] at e;cases e2:`kB with
 | none=>rw[e2] at e;cases e
 | some ns=>
 rw[e2,`h] at e
 by_cases hf:`ajc
 rotate_left
 ·rw[`II] at e;cases e
 rw[`u5] at e;cases e3:`a'J with
 | none=>rw[e3] at e;cases e
 | some δ2=>
 rw[e3,`h] at e;cases e4:`a'K with
 | none=>rw[e4] at e;cases e
 | some δ3=>
 rw[e4] at e;done;refine xv0 h1 (xv0 h2 (xv0 h3 (h.go `as `al δ3))) `t s σ H D I #[`as,`al,δ,dk,ns,en,e1,hf,e2,hij,fun σ1 H1 p1=>#[`as,`al,_,_,δ2,p1,e3,λH2 p2=>#[`as,`al,δ2,_,δ3,p2,e4,λH3 p3=>#[r,p3.en,e,k]]]])
omit z
omit DL
open Y
def Q60(h:`gL):PE X e (`c0 (`a'L te)):=(`a'M)
omit L2
open X
open B
mutual
def tr:`dR
 | `c'=>`agK
 | `eE=>`l
 | `u2=>`l
 | `Ao=>`l
 | _=>`f
def trs:`xm
 | []=>`f
 | `b0=>tr d&&`agK
end
section
open A
mutual
theorem zb1(g:`a'N):`H5 (`AV->`aYu)
 | `x,_,_,h=>`Jr w90
 | `cl,_,_,h=>`Jr xn0
 | `c2,_,_,h=>`Jr zk0
 | `cn,_,_,h=>`Jr w40
 | `c',_,n,h=>by
  delta tr at n;rw[wu0] at h ⊢;apply `UG;exact#[a,xs,e,g a xs q.1 q.2,eg0 g n r]
 | `et,_,n,h=>by delta tr at n;cases n
 | `lX,_,n,h=>by delta tr at n;cases n
 | `uW,_,n,h=>by delta tr at n;cases n
theorem eg0(g:`a'N):`lY (`a'O->`anY)
 | [],_,_,h=>`Jr O8
 | `b0,_,n,h=>by
  delta trs at n;rw[`b5] at n;rw[W5] at h ⊢;apply `H6;exact#[x,r,e,zb1 g n.1 h1,eg0 g n.2 h2]
end
omit z
def qk0(ns:`k):`BW
 | `H [k,`H r]=>(s20 r).bind λn=>match ns[n]? with
  | `f5=>`ba (`cH k=`f/\trs es=`f/\qg0 es=`f) (`H [k,`mP])
  | _=>`e
 | _=>`e
def dq0{d:D}(h:`ku):`n9:=by cases d<;>first|rfl|(cases h)
def RpW.off_tup(w:`ei){t:`d}(h:H t=`jG):t∉as:=(λz=>by
 rcases w.own t z with q|q
 ·rw[q,w.at'] at h;cases h
 ·rw[q.2] at h;cases h)
open T in
def RpW.part(w:`ei){d:D}(r:`gQ)(h:`asw=`c d'):Rp K `nI `iJ d' v:=by
 delta qk0 at h;split at h
 rotate_left
 ·cases h
 rename_i k rr;let#[n,er,h]:=`fL;split at h
 rotate_left
 ·cases h
 rename_i es hn;split at h
 rotate_left
 ·cases h
 rename_i hq;cases h;let#[h1,h2,h3]:=hq;rw[tj0] at r;rcases r with⟨k',c,e,_⟩|⟨_,t,xs,rfl,q,rs⟩
 ·exfalso
  cases k<;>cases e
 rw[wn0] at rs;let#[vk,r1,rfl,rk,rs]:=rs;rw[wn0] at rs;let#[vc,r2,rfl,rc,rs]:=rs;rw[vm0] at rs;subst rs;rw[tj0,er] at rc;rcases rc with⟨k',c,e,hc,rfl⟩|⟨e,_⟩
 rotate_left
 ·cases e
 cases e;let#[so,O,nk]:=`a9m;let#[ys,rfl,ry]:=u80 nk;have gt:`aIk (λ_:`d=>`b_) `a8W:=λb xs _ z=>#[`tt,`o (tc0 (w.off_tup z)) z]
 rw[wu0];apply `l7 t _ (gt t _ q.1 q.2);rw[W5];apply `l7 vk _ (p80 h1 (cq0 (dq0 h1) rk));rw[W5];refine`H9 `ua ?_;rw[w60];exact#[c,ys,rfl,`m #[`tt,`m (`FL hc O)],eg0 gt h2 (oo0 h3 ry)]
def Env.blank{σ:St}(h:`s!=n):Env K H `iJ σ (`aX3):=by
 subst h;refine`a'P
 ·induction σ with
  | nil=>exact `_
  | cons o σ ih=>exact `ai `ny ih
 ·rw[`iZ] at h1
  split at h1<;>cases h1
def Xj0(i j:Nat)(g g2:GE):GSB:=fun δ=>`kD λd=>`cN λns=>(`asw).bind λd'=>(g2 `a'Q).bind λr=>match r with
 | `mP=>`ba `Jj (.rt `KX δ)
 | _=>`e
section
variable{e2:`K}{g g2:GE}
open T in
def Y8(i j:Nat)(nd:`dh)(he:`rn)(h2:PDF X e2 g2)(hi:`hN)(hy:`hO)
  (hsw:`XA)
  (hf:`gP):
  `fh X [`ahq,`CU (`c e2) pos2] (Xj0 i j g g2):=(.mk λH₀ B₀ δ pins s σ H D I hq179=>by
 apply `eQ hq179
 delta Xj0 at e1;apply `aU;apply `asx;apply `asy;cases q3:`asw with
 | none=>rw[q3] at e1;cases e1
 | some d'=>
 rw[q3,`h] at e1;let#[rr,q4,e1]:=`dv;split at e1
 rotate_left
 ·cases e1
 rename_i es;split at e1
 rotate_left
 ·cases e1
 rename_i hfl;cases e1;apply `XB;refine xv0 `a'R (xv0 (pp0 (wk0 (Q60 (h2.go `iJ `a'Q)))) p40) `t s σ H D I `a'S;apply `hR;refine#[a,`a!,`j9,`mP,?_,q4,`asz]
 ·exact(`a'T).set j (O.w.part r1 q3)
 ·let#[c1,c2]:=`Xn s2
  refine#[a,`a!,c1,kk _ σ _ ?_];have U:p∉as:=λz=>by
   apply `a'U;delta opened at hp;rw[l] at hp;cases hp
  apply `a'V
  have sm:=`oy c2;refine `a'W;let#[xs,o1,rx]:=ro;rw[w60];refine#[p,xs,rfl,`a'X,`a'Y];apply `fH;apply `a'Z;exact o1)
omit z
omit DL
open X
def partsOf(ns:`k):`Ux
 | []=>`m?
 | p::ps=>(qk0 ns p).bind λd=>(`XC).map (d::·)
def fm0(i:Nat)(go:GE)(n:Nat)(caps:`j)(f:`a9)(ge:GE):GX:=fun δ=>`l9 λd=>`cN λns=>`l' λk=>match `ff with
 | `a'_=>(`XC).bind λitems=>(vq0 n `cj (`a'0) f noT ge (`aiI)).bind λr=>match r with
  | `AW=>`ba (trs rs=`f) (`H rs,δ)
  | _=>`e
 | _=>`e
theorem RpW.parts(w:`ei):∀{ps items:`k} {xs:`S},`ot ps xs->`XC=`MW->Rps K `nI `iJ `bf xs
 | [],_,_,r,h=>by
  rw[vm0] at r;cases h;rw[O8];exact r
 | p::ps,_,_,r,h=>by
  skip;rw[wn0] at r;let#[x,xs,rfl,r1,r2]:=r;delta partsOf at h;let#[d,e1,h]:=`fL;cases e2:`XC with
  | none=>rw[e2] at h;cases h
  | some ds=>
  rw[e2] at h;cases h;done;rw[W5];exact#[x,xs,rfl,w.part r1 e1,w.parts r2 e2]
def Ua0(q:`Fd)(rs:`oq `bf):ItD K B (Itl K a) `bf H:=by
 refine`aex
 ·have:`uM:=`N4
  apply `aoF
 ·let#[e3,y]:=y
  apply `aoG;have:=`aoH;apply `aT e4;cases `F;subst e3;apply `aoI
 ·exact`aoJ
section
variable{p:Pos}
open T in
def Kc0(i:Nat){sc scope:`c1}{elt iter:`K}{N N':`i}{n:Nat}{caps:`j}{idx:`j}{f:`a9}{ge:GE}
  (hm:`cx `eX=`e) (hbt:`a'1) (ok:`u4) (hidx:∀j∈idx,j<n) (hi:`a'2)
  (hg:`l0) (he:`Al)
  (hc:`l4) (hsc:`Ap) (hN:`Aq) (hs:`fX) (hgl:`iu `eX)
  (hst:`hi [`asA] ((`ih (`asA))::`oD)) (hpl:`l2):
  PX X (`zi `eX `asA) (fm0 i go n `cj f ge):=(.mk λH₀ B₀ δ pins s σ H Q I hq180=>by
 apply `eQ hq180
 delta fm0 at e1;apply `aU;apply `asx;apply `asy;let#[k,q3,e1]:=`dv;split at e1
 rotate_left
 ·cases e1
 rename_i ps hn;let#[items,q4,e1]:=`dv;let#[rr,q5,e1]:=`dv;split at e1
 rotate_left
 ·cases e1
 rename_i rs;split at e1
 rotate_left
 ·cases e1
 rename_i htr;cases e1;apply `XB;refine wk0 (k40 j7 hgl hm hbt (wa0 (ai0 hc hsc `Ar `a'3 (g:=`yK) (tt:=`asB) (te:=`aoQ)
  `Ir
  `asC
  `aoR hs) vj0 hst) `u `u hst hpl) `t s σ H Q I `a'S
 apply `hR;apply `w4 (`Mj r1 q3 hn);apply `hQ;apply `a'4;apply `a'5;have Z:=gn0 (K:=X.K) (B:=`B3) (δ:=`aiI) (σ:=σ) (H:=`aiJ) (n:=n) (caps:=`cj) (gi:=`a'0) (idx:=idx) (f:=f) (gt:=noT) (ge:=ge) `jO
  (Q:=λv H'=>Lf0 σ H' λxs H2=>`aWf (v::xs) H2 `a8Q) #[`AW,`a'T,q5,`asz]
 ·let#[a1,_,e',fk]:=Z
  cases e';exact `a'6 (O.w.parts rx q4)
 ·let#[zs,o1,rz]:=ro
  refine#[p,zs,rfl,`m #[`m (`m o1),`a'7]];obtain⟨H3,U⟩:∃H3,H3=upd H2 l (`H zs):=`Y;rw[← U];have s3:`a'f:=`o U `O2
  let#[c1,c2]:=`Xn `ajG;have sm:=`oy c2;refine#[a,`a!,c1,kk _ _ (`a'W)];have Y:∀b xs,`a'8->`I':=λb xs z m=>by
   let#[so,l]:=s80 O.w.len m O.w.nd;have:`ig H1 `dK b=`yR:=by delta opened;rw[l]
   rw[`ajG _ _ `F] at z;exact `arl so xs `H1
  have gt:∀b xs,`a'8->`Fk/\`a'9:=λb xs z=>by
   have hb:=Y b xs z;have e:`a'9:=by
    apply `fH;rw[`Q (λz=>hb `aMZ),`Jn];exact z
   exact#[λw=>((`agL).bad b w).nt xs e,e]
  rw[wu0];exact#[l,zs,rfl,gt l zs (by rw[U,Y7]),eg0 (λb xs _ z=>gt b xs (s3 _ _ z)) htr rz])
omit z
def tb0(f:`a9)(gx:GX)(jb:Nat)(δ0:Ds):`k->D->`aH (`k×D)
 | [],b=>`c ([],b)
 | `b0,b=>(f d (δ0.set jb (.ow b))).bind fun δ1=>(gx δ1).bind λr=>match r.2[jb]? with
  | `c `aiK=>(tb0 f gx jb δ0 ds b').map λq=>(r.1::q.1,q.2)
  | _=>`e
def ru0(n:Nat)(caps:`j)(i jb:Nat)(gi:GA)(f:`a9)(gx:GX):GX:=fun δ=>`AP λb=>`z' λitems=>if `uV then
 (tb0 f gx jb `m7 `bf b.1).bind λq=>`ba (isL q.2=`l) (`s q.1,`gA (b.2 q.2)) else `e
def Env.comp_own{σ:St}{δ:Ds}(en:`a3)(no:`a_h){jb:Nat}{b:D}(hs:σ[jb]?=`B5)(hb:B a)(r:`Lc b):`hV H (`el jb (.ow b)):=by
 refine#[Pd.setR (i:=jb) `RV hs `abn,`Vc,λi j a' ds es h1 h2 _ _=>?_];skip;apply `a''
 ·rcases `Dm with⟨q2,_,_⟩|⟨_,z⟩
  ·done;exact q1.symm.trans q2
  ·done;exact `a'!
 ·done;exact `a'!
def K80{σ:St}{k:Nat}(hcap:`AX)(hs:`G9):`a'?=`pc:=by
 delta u40;rw[`mu `a?,`kh,`HU,`dl,hcap];show `c ((`K6).join)=_;rw[hs];rfl
def teX(K:`y)(gx:GX):TE:=`c0 (`aoL (`a!a gx))
open T in
def cz0{K:`y}{H₀:Hp}{B₀:BS}{δ:Ds}{σ:St}{H:Hp}{Q:VK}{k:Nat}{gi:GA}{f:`a9}{gx:GX}(hcap:`AX)(hidx:∀j∈idx,j<n)
  (h:`a!a `agN):
  Xs0 n `cj (`aIo K) `a_l (`xz tDT K noT) (teX K gx) σ H Q:=by
 apply `eQ h;apply `aU;delta ru0 at e1;cases eb:`kT with
 | none=>rw[eb] at e1;cases e1
 | some bm=>
 rw[eb,`h] at e1;cases e2:`wF with
 | none=>apply `ac;cases e1
 | some items=>
 apply `I?;split at e1
 rotate_left
 ·cases e1
 rename_i hsz;cases e3:`asD `bf `jQ with
 | none=>apply `cb;cases e1
 | some q=>
 rw[e3,`h] at e1;split at e1
 rotate_left
 ·cases e1
 rename_i hq;cases e1;let#[d0,a6,a9]:=`n8;let#[a,a3,hB,ro]:=`wk a6;refine#[B,δ,`bf,env,e2,`a_m];have b3:=`gq;have f3:RpG K H1 B `jQ a:=RpG.same s1 (`a!b).1;have d3:¬B L:=b3.free hL;have Z:a≠L:=`zk d3 hB
 obtain⟨Bp,a2⟩:∃Bp:BS,Bp=λx=>B x∨x=L:=`Y
 have e0:Bp L:=`o a2 `rT
 have O:∀x,B x->Bp x:=λx z=>`o a2 `h5
 have d2:∀x,Bp x->B x∨x=L:=λx z=>`Ve a2 z
 have gr:∀{H2:Hp},`a!c->`a_n:=λ{H2} h2 x o nb hx=>#[λz=>(d2 x z).elim nb (xh0 hx hL),h2 x o (`zk nb hB) hx]
 have c0:`a'?=`B5:=K80 hcap a3;have c8:n+k∉idx:=λz=>`d' (`jO _ z)
 have f4:n+k<(`z `Lb):=by
  rw[← `wD (env.comp n `cj).all];exact(`ch c0).1
 have bu:But a H1 (`asa):=#[λx o _ e=>`FB e hL e,λx o xs _ e=>by
  by_cases z:x=L
  ·rw[z,Y7] at e;cases e
  ·rw[Y4 z] at e;exact e]
 obtain⟨W,hW⟩:∃W:`Up,∀j m ys H2,W j m ys H2↔m=`c? - j/\j<=`c?/\`a_o/\`a!c/\`d5<=j/\∃pre rest b',q.1=pre++`aA/\`a_p/\RpL K H2 Bp b' a/\`asD (`pq j) b'=`c (`aA,q.2):=`aoM;refine#[W,
  #[_,`u0 #[rfl,`b7,Y7,bu,`gW,[],q.1,`jQ,rfl,`k_,(`apr `a!d (gr bu) f3).toL,e3]],?_]
 intro j m ys H2 w0;let#[hm,h0,hD,s2,h3,pre,rest,b',ho,rp,rb,ec]:=`aoN;clear w0;subst hm;have a1:∀x,Bp x->NB (H2 x):=λx z=>by
  by_cases xa:x=a
  ·rw[xa];exact rb.live
  rcases d2 x z with z|z
  ·exact(b3.bad x z).keep λo h=>s2 x o xa h
  ·rw[z];exact NB.of hD (λ_ _ z=>by cases z) (λ_ z=>by cases z)
 have f7:Env K H2 Bp `fP `a!e:=
  Env.comp_own #[`a_q b3.comp,a1,`aoO] (λ_ _ z=>qz0 z) c0 (O a hB) rb
 by_cases hlt:j<`c?
 ·refine `p #[it.go j H2 `asE hlt,`a_r]
  let#[sm,dx,d1,rx]:=`afO j H2 x H3 `asE y hlt;have s3:But a H1 H3:=(`asF (sm _ _ (s2 x o n e)) (s2.nf x o xs n (sm.nf x o xs e)));have f1:`a_s:=rx Bp (gr s3) a1;have e9:=f7.same sm;have g4:=sm _ _ hD;have f0:=rp.same sm;have c3:`pq j=dx::`a!f:=by
   apply `U!;congr 1;rw[`U?] at d1;exact A4 d1
  rw[c3] at ec;delta tb0 at ec;cases e4:f dx `a!e with
  | none=>rw[e4] at ec;cases ec
  | some δ1=>
  rw[e4,`h] at ec;cases e5:gx δ1 with
  | none=>rw[e5] at ec;cases ec
  | some r5=>
  rw[e5,`h] at ec;split at ec
  rotate_left
  ·cases ec
  rename_i b2' ho5;cases e6:`asD (`a!f) b2' with
  | none=>rw[e6] at ec;cases ec
  | some q6=>
  rw[e6,`ls] at ec;have Y:r5.1::q6.1=`aA:=(`XD).1;have U:q6.2=q.2:=(`XD).2;refine#[Bp,dx,_,δ1,f1,e9,e4,`a_t λj' v z=>?_]
  ·by_cases hj:j'∈idx
   ·rw[Wr0 (`jO j' hj)] at z;cases z
   ·rw[(`Fi j' hj).1];exact z
  have h4:σ4[n+k]?=`B5:=`o (`a!g).1 c0
  refine#[Bp,δ1,`f,en4,rfl,`a_u];show `w `aNq _ _
  rw[`a_];have a4:=`a_v;refine#[λx=>`w (x=a) `e (H5 x),λx=>Bp x/\x≠a,δ1,r5,#[#[λx o e=>?_,λx o xs e=>?_],#[Bp,`a8f,λx z=>?_,a4],λi' ds a' h1 h2=>?_,λx z=>?_],e5,λv H6 ev=>?_]
  ·by_cases z:x=a
   ·apply `uq z `nC;cases e
   ·apply `uq z `kK;exact e
  ·by_cases z:x=a
   ·exfalso
    let#[a5,c4,_,f6]:=a4.at (i:=n+k) (d:=b') (`o (`a!g).2 (B20 f4));rw[h4] at c4;cases c4;rw[z] at e;exact f6.plain o xs e
   ·apply `lE z;exact e
  ·by_cases z':x=a
   ·exact `a8g z'
   ·exact `m #[z,z']
  ·have f5:i'∉idx:=λz=>w.own i' z ds h1
   rw[(`Fi i' f5).2] at h1;apply `a''
   ·rw[← q1,h4] at h2
    cases h2;simp only[`nC]
   ·exact(qz0 z).elim
  ·apply `lE z.2
   exact a4.bad x z.1
  let#[B',c1,c2,e8,rv]:=ev.ex;let#[a',e7,g3,rl]:=e8.at ho5;rw[h4] at e7;cases e7;have less:∀x,Bp x->B' x:=λx z=>by
   by_cases q:x=a
   ·rw[q];exact g3
   ·exact `a8j
  have bt:But a H5 H6:=#[λx o z e=>`agO x o `a8h,λx o xs z e=>by have:=ev.same.nf x o xs e;apply `a8i];have f2:`a_w:=bt L _ (B0 Z) (s5 _ _ g4);have g6:Gr H6 `aG6 B' Bp:=λx o nb hx=>#[λz=>nb (less x z),`o (`Vf nb (less L e0)) hx]
  have g5:Gr H5 H6 Bp Bp:=`Eh (O a hB) bt;have g7:`a_x:=λx o nb hx=>#[nb,`o (`Vf nb e0) hx]
  refine#[f2,`E,`c? - `pW,`E,`u0 #[rfl,hlt,Y7,(`asF ?_ ?_),`aax,pre++[r5.1],q6.1,b2',by rw[ho,← Y];simp,?_,?_,by rw[e6,← U]]]
  ·rw[Y4 (xh0 e hL)]
   exact bt _ _ n (s5 _ _ (s3 _ _ n e))
  ·by_cases z:x=L
   ·rw[z,Y7] at e;cases e
   ·rw[Y4 z] at e
    exact s3.nf _ _ _ n (s5.nf _ _ _ (bt.nf _ _ _ n e))
  ·exact `yP (((f0.same s5).mono g5).mono g7) (`Qs g6)
  ·exact RpL.mono `a!d g6 rl
 ·have e:j=`c?:=`E
  subst e;refine `a_y `asE;rw[`Io] at ec;have Y:`a_z:=(`XD).1;have U:b'=q.2:=(`XD).2;subst Y;subst U;rw[`cT] at ho;have hh:But a H H2:=(`asF (s2 x o n (s1 x o e)) (`ab4 x o xs (s2.nf x o xs n e)));have a7:`hV H2 `aN!:=`Ec a6 a3 hh ((`a!b).2 H2 B q.2 ((rb.toO hq).toG.less O));refine kk (`yd) H2 (`tY (`xS b1 b2 a6 a3 hh a7) a7 ?_);rw[w60];exact#[L,ys,rfl,`m #[d3,`m hD],`o ho (rp.mono (`lg O))]
def Kk0(i k:Nat){sc scope:`c1}{elt iter:`K}{N':`i}{n:Nat}{caps:`j}{gi:GA}{idx:`j}{f:`a9}{gx:GX}
  (hcap:`AX) (hc:`dH) (hsc:`o_) (ok:`uQ) (hidx:∀j∈idx,j<n) (hi:`l_)
  (hg:`l0) (he:`XE)
  (hs:`fX):
  `a!h:=(.mk λH₀ B₀ δ=>
 (ai0 hc hsc ok (wi:=`a!i) (g:=`yK) (tt:=`asB) (te:=`a!j)
  `a!k
  `Ir
  `asC
  `a!l hs).imp fun σ H Q h=>cz0 hcap `jO h)
def dx0(j:Nat)(gx:GX):GS:=`rc `Iv (.nx (r.2.set j (.sh r.1)))
def Wc0(i k j:Nat){y:Str}{py spos:Pos}{sc scope:`c1}{elt iter:`K}{N':`i}{n:Nat}{caps:`j}{gi:GA}{idx:`j}{f:`a9}{gx:GX}
  (hcap:`AX) (hN:`dh) (hc:`dH) (hsc:`o_) (ok:`uQ) (hidx:∀j∈idx,j<n) (hi:`l_)
  (hg:`l0) (he:`XE)
  (hiN:`hN) (hy:`hO)
  (hsw:`a!m)
  (hs:`fX)
  (hf:`gP):
  `a!n:=(.mk λH₀ B₀ δ pins s σ H D I hq181=>by
 apply `eQ hq181
 delta dx0 at e1;cases e2:ru0 n `cj i `Of gi f gx δ with
 | none=>apply `ac;cases e1
 | some q=>
  apply `ac;cases e1;refine cc0 (i:=j) hN hiN hy hc hsc ok (wi:=`a!i) (g:=`yK) (tt:=`asB) (te:=`a!j)
   `a!k
   `Ir
   `asC
   `a!l hsw hs hf `t s σ H D I (cz0 hcap `jO `asG)
  apply `AY;exact kk _ H' (ev.s.wr c1 c2 (`abw H') Xv0 (env.set j rv)))
def Vr0(gx:GX):GS:=`rc `Iv (.rt r.1)
def Kn0(h:`n4):`U4 Vr0 gx:=(.mk λH₀ B₀ δ pins s σ H D I hq182=>by
 apply `a4 hq182
 delta Vr0 at e1;cases e2:`gr with
 | none=>apply `ac;cases e1
 | some q=>
  apply `ac;cases e1;refine `q9 `jR `asG;apply `AY;exact `a!o)
def dgO(i:Nat)(gk:GE):GE:=fun δ=>`AP λb=>match b.1 with
 | `MD=>`tZ λdk=>`WO `a87
 | _=>`e
section
variable{a:`K}{p:Pos}{g ga gb:GE}
def T6(i:Nat)(hu:`fr)(hb:`cU)(hN:`c4)(hv:`dT)(hd:`aL)(hcd:`di)
  (hs:`Wa):PD X (`kS `k1 b pos) (dgO i gb):=(.mk λB δ=>(fl0 hu `k? `fo hs).imp fun σ H Q hq183=>by
 skip;apply `b2 hq183
 delta dgO at h;let#[bm,eb,h]:=`fL;let#[d0,Z,O]:=`n8;let#[a,U,hB,ro]:=en.at Z;have ro:=(O X.K H B a ro).1;split at h
 rotate_left
 ·cases h
 rename_i ks ds hbm;rw[hbm] at ro;let#[xs,hx,hl,rr]:=ro;let#[y,e2,h]:=`fL;let#[q,e3,h]:=`fL;done;refine#[_,U,y,en,e2,`xB];let#[v,Y,rv]:=(sz0 (rr.same s2)).1 d h;have:=`Wb;subst this;exact#[a,v,rfl,`cu Y (`adg (s2 _ _ hx)),k v H2 s2 rv])
def Ke0{d:D}(h:`ku)(r:`cz):`afA:=by
 apply `apx
 ·apply `i4 w90;exact r
 ·apply `i4 xn0;exact r
 ·apply `i4 zk0;exact r
 ·apply `i4 w40;exact r
def Vz0(ga:GE)(gx:GX):GX:=`HX λd=>`n7 `ku (`Iv λr=>(`H [d,r.1],r.2))
def EnvV.new{σ:St}{δ:Ds}{d:D}{v':V}(ev:`FF)(s:`aZ)(r:∀B:BS,`nv->`cz->Rp K H' B d' v'):EnvV K `as `al H' σ δ d' v':=by
 apply `AY;exact#[`a!p s,#[B,c1,c2,`jd s,r B `va rv],ev.fr,ev.b0]
def Bm0{x1}(ha:`cC)(h:`n4)(hs:`hi [a,e] (`abV::`aak))(hs2:`f3):PX X (`TL [a,e]) (Vz0 ga gx):=(.mk λH₀ B₀ δ pins s σ H Q I hq184=>by
 skip;apply `a4 hq184
 delta Vz0 at e1;apply `aU;apply `W!;split at e1
 rotate_left
 ·cases e1
 rename_i hfl;cases e3:`gr with
 | none=>apply `cb;cases e1
 | some q=>
 apply `cb;cases e1;done;refine Wx0 (wa0 `bD (wa0 `jR vj0 hs2) hs) `t s σ H Q I #[d,env,e2,`mE #[q,`XF,e3,λv2 H2 ev=>#[`a!q,λp hp=>k _ _ (ev.new `iA λB' hB rv=>?_)]]];rw[wu0];apply `l7 p [v1,v2] #[λz=>hB p z hp,Y7];rw[W5];apply `l7 v1 [v2] (Ke0 hfl r1);rw[W5];exact`H9 v2 (`wR `iA))
def Xy0(f:`O)(gx:GX):GX:=`rc `Vs ((f [r.1]).map `a!r)
def Pc0{T:`bE}{f:`O}(hc:`amy)(hf:`UY)(hm:`nR)(hv:`TX)(ha:`n4)(hg:`fn)
  (hn:`nS) (hdb:`aL) (he:`f3) (hpl:`l2):
  PX X `a2! (Xy0 f gx):=(.mk λH₀ B₀ δ=>(`ap_ k40 hc (`V2 `agP)).imp fun σ H Q hq185=>by
 skip;let#[q,en,e1,k]:=hq185
 delta Xy0 at e1;let#[r2,e2,e1]:=`dv;cases e3:f [r2.1] with
 | none=>apply `cb;cases e1
 | some d=>
 apply `cb;cases e1;done;refine#[r2,en,e2,λv H1 ev=>?_];apply `AY;exact hf H1 B [v] [r2.1] d Q `va (`Gw W5 (`H9 v rv)) e3 λv' H2 s2 r'=>k v' H2 #[`a!p s2,#[B,c1,c2,`jd s2,r'],ev.fr,ev.b0])
omit z
def lt0:∀(kvs acc:`hD),(`yC (acc++kvs)).Nodup->qo0 acc kvs=acc++kvs:=by
 intro z;induction z with
 | nil=>intro acc _;rw[`cT];rfl
 | cons p r ih=>
  intro acc h
  have hn:`a!s=acc++[p]:=by
   delta putK;rw[`Q];rw[`Js];rintro⟨q,hq,e⟩;have e:=E9 e;rw[`aQ,`av,`Iw] at h;exact h.2.2 q.1 (X1 hq) p.1 A7 e
  show qo0 (`a!s) r=_;rw[hn,ih (acc++[p]) (`o `km h),`km];rfl
abbrev GP:=`wG `XG
def Rd0:GP:=`anL
def qq0(gk gv:GE)(gP:GP):GP:=fun δ=>`a!t `R8
def RpP(K:`y)(H:Hp)(B:BS)(ps:`XG)(vs:`nx):Prop:=`H8 `QO `asH/\`H8 `p3 `L0
structure PDP(X:Cx)(pos:Pos)(keys:`zB)(vals:`bB)(gP:GP):Prop where
 mk::go:`a!u (∀vs H',`aZ->RpP X.K H' B ps vs->`Ta)
section
variable{vals:`bB}{gv:GE}{gP:GP}
def Fh0:PDP X pos [] [] Rd0:=(.mk fun δ=>#[[],Sv0,λB σ H Q hq186=>by
 let#[ps,en,e,k]:=hq186
 cases e;exact k [] H `ox #[`asI,`asI]])
def dd0(hk:`Xs)(hv:`a!v)(hr:`a!w):PDP X pos `asJ `a!x (qq0 gk gv gP):=(.mk fun δ=>by
 apply `asK;refine #[_,`a!y,λB σ H Q hq187=>?_];skip;let#[ps,en,e,k]:=hq187;delta qq0 at e;apply `asL;let#[b,e2,e]:=`Ei;cases e3:`y2 with
 | none=>rw[e3] at e;cases e
 | some qs=>
 rw[e3] at e;cases e;done;refine`asM (`a!z λvs H3 s3 rr=>k _ H3 `IT `hL)
 ·apply `Jt
  exact`asN rr.1
 ·apply `Jt
  exact#[v2,_,rfl,`a5F,rr.2])
theorem js0:∀{ks:`eI} {vs:`nx},`asH=`Iz->vs=`aKQ `apq
 | [],[],_=>rfl
 | [],_::_,h=>by cases h
 | _::_,[],h=>by cases h
 | `n2,v::vs,h=>by
  rw[`av,`av] at h;have h1:=(N9 h).1;have h2:=(N9 h).2;rw[`av,`dU,`av,← js0 h2,← h1]
def b50(gP:GP):GE:=`a!A (`ba `aJA (`b4 `st `p3))
def Pg0(h:`a!w)(hall:`asO)(hl:`asP)(h0:`asQ)(h15:`asR):
  PDF X (`CC `ju `jv pos) (b50 gP):=(.mk λB δ pins s σ H Q I hq188=>by
 skip;let#[d,en,e,k]:=hq188
 delta b50 at e;let#[ps,e1,e]:=`Ei;let#[ks,e2,e]:=`Ei;split at e
 rotate_left
 ·cases e
 rename_i hnd;cases e;apply `asS;done;refine by0 h1 hall hl h0 h15 `t s σ H Q I λp hp=>`asT en.fresh e1 λvs H' s' rr=>`a!B
 ·exact js0 (nm0 e2 rr.1)
 ·rw[`oX]
  have:=hnd.2;lia
 ·have O:`asU:=by
   have:=D0 `uI (nm0 e2 rr.1)
   apply `dX `XH
  have hm:`asV:=by
   rw[lt0 _ [] (by
    rw[`q8];apply `asW;rw[`F];exact hnd.1)]
   rfl
  rw[hm];refine k p _ hp #[λc o q=>?_,λc o xs q=>?_] #[`asX,Y7,O,?_]
  ·have hc:c≠p:=xh0 q hp
   rw[Y4 hc];exact s' c o (`o (Y4 hc) q)
  ·by_cases hc:c=p
   ·rw[hc,Y7] at q;cases q
   ·rw[Y4 hc] at q
    have:=s'.nf c o xs q
    apply `AZ hc
  ·exact rr.2.mono (`Cn `kk))
omit z
def Im0(i k:Nat){sc scope:`c1}{elt iter:`K}{N N':`i}{n:Nat}{caps:`j}{gi:GA}{idx:`j}{f:`a9}{gx:GX}
  (hcap:`AX) (ok:`u4) (hidx:∀j∈idx,j<n) (hi:`l_)
  (hg:`l0) (he:`XE)
  (hc:`l4) (hsc:`Ap) (hN:`Aq) (hs:`fX):
  `a!h:=(Kk0 i k hcap hc hsc `Ar `jO hi hg he hs)
def Ms0(i k j:Nat){y:Str}{py spos:Pos}{sc scope:`c1}{elt iter:`K}{N N':`i}{n:Nat}{caps:`j}{gi:GA}{idx:`j}{f:`a9}{gx:GX}
  (hcap:`AX) (nd:`dh) (ok:`u4) (hidx:∀j∈idx,j<n) (hi:`l_)
  (hg:`l0) (he:`XE)
  (hc:`l4) (hsc:`Ap) (hN:`Aq)
  (hiN:`hN) (hy:`hO)
  (hsw:`a!m)
  (hs:`fX)
  (hf:`gP):
  `a!n:=(Wc0 i k j hcap nd hc hsc `Ar `jO hi hg he hiN hy hsw hs hf)
def tr0(gt:GB)(G:GSB):Nat->Ds->`hz
 | 0,_=>`e
 | n+1,δ=>match `g' with
  | `bu=>`tJ
  | `dz=>match `gx with
   | `eD=>`ajt
   | r=>r
  | `e=>`e
def Ok0{gt:GB}{G:GSB}(n:Nat){c:`K}{body:`bb}(hp:`zP)(hc:`Ij)(hb:`fh X `eC G):PSB X `alv (tr0 gt G n):=(.mk λH₀ B₀ δ pins s σ H D I hq189=>by
 apply `a4 hq189
 apply `a2m
 have Y:`U8 (`iP (∃δ,`afM tDB X.K)):=`a2n `a7k
 refine `a2o `a!C;apply `a2q;skip;cases m with
 | zero=>cases e2
 | succ m=>
  delta tr0 at e2;apply `a2r;cases e3:gt δ1 with
  | none=>rw[e3] at e2;cases e2
  | some t=>
   rw[e3] at e2;done;apply `a2s;cases t with
   | false=>
    rw[`lN];cases e2;exact `a2t
   | true=>
    rw[`a_];dsimp only at e2;refine`a2u `a!C;cases e4:G δ1 with
    | none=>rw[e4] at e2;cases e2
    | some rb=>
     rw[e4] at e2;refine`a2v;cases rb with
     | nx δn=>apply `apE
     | rt d' δn=>cases e2;exact λv σ' H' ev=>k v σ' H' ev)
abbrev GTX:=`wG (`B×Ds)
def tTX(K:`y)(H₀:Hp)(B₀:BS)(δ:Ds)(gt:GTX):TT:=`c0 (∃r,`cm/\`g'=`bK/\∀H',`ja K H' r.2->Q r.1 H')
structure PTX(X:Cx)(e:`K)(gt:GTX):Prop where
 mk::go:`nw PT e `a!D
structure PWX(X:Cx)(e:`K)(gt:GTX):Prop where
 mk::go:`nw PW e `a!D
def liftT(gt:GB):GTX:=fun δ=>`a!E λb=>(b,δ)
def xm0(gx:GX):GTX:=fun δ=>`Vs λr=>match r.1 with
 | `gk=>`c (b,r.2)
 | _=>`e
def v90(gt:GTX):GTX:=`rc `a!E (!r.1,r.2)
def Ue0(gt gu:GTX):GTX:=`adB (gu r.2) (`c (`l,r.2))
def orT(gt gu:GTX):GTX:=`adB (`c (`f,r.2)) (gu r.2)
def ifX(gt:GTX)(Ga Gb:GSB):GSB:=`asY
def du0(ga:GE)(gx:GX)(f:`bx):GX:=`HX λda=>`n7 `a!F (`Vs λr=>(f da r.1).map `a!r)
section
variable{a c:`K}{rest:`bB}{as bs:`bb}{gt gu:GTX}{gb:GB}{ga:GE}
def zz0(h:`a!G):PTX X e (`A_ gb):=(.mk λH₀ B₀ δ pins s σ H Q I hq190=>by
 skip;apply `a4 hq190
 apply `aU;delta liftT at e1;cases e2:`dy with
 | none=>apply `ac;cases e1
 | some t=>
  apply `ac;cases e1;done;exact `yU h #[t,env,e2,λH' s'=>k H' (`ah0)])
open T in
def K1(h:`n4)(he:`ak'):PTX X e (xm0 gx):=(.mk λH₀ B₀ δ pins s σ H Q I hq191=>by
 apply `a4 hq191
 delta xm0 at e1;cases e2:`gr with
 | none=>apply `ac;cases e1
 | some q=>
  apply `I?;split at e1
  rotate_left
  ·cases e1
  rename_i t hq;cases e1;refine Nl0 `jR he `t s σ H Q I `asG;apply `AY;rw[hq,xn0] at rv;exact#[t,rv,k H' ev.s])
def K4(h:`Ju):PTX X `Hi (v90 gt):=(.mk λH₀ B₀ δ pins s σ H Q I hq192=>by
 apply `a4 hq192
 delta v90 at e1;cases e2:`g' with
 | none=>apply `ac;cases e1
 | some q=>
  apply `ac;cases e1;exact Ps0 `jR `t s σ H Q I (`xU k))
def O5(h:`Ju):PWX X `ak! gt:=(`asZ Sj0)
def K9(h:`Ju):PWX X `ak? gt:=(`asZ On0)
def z10(ha:`Ju)(hb:PWX X `He gu):PWX X `Hf (Ue0 gt gu):=(.mk λH₀ B₀ δ wh pins s σ H Q I hq193=>by
 apply `a4 hq193
 delta Ue0 at e1;apply `Jv;refine `a!H Ol0;cases hq:q.1 with
  | true=>apply `Jw;apply `l!
  | false=>apply `Jx;cases e1;exact k H' O)
def zy0(ha:`Ju)(hb:PWX X `Hg gu):PWX X `Hh (orT gt gu):=(.mk λH₀ B₀ δ wh pins s σ H Q I hq194=>by
 apply `a4 hq194
 delta orT at e1;apply `Jv;refine `a!H Jr0;cases hq:q.1 with
  | true=>apply `Jw;cases e1;exact k H' O
  | false=>apply `Jx;apply `l!)
def PWX.pt(h:PWX X e gt):PTX X e gt:=(`asZ L2.PW.pt)
def za0(hc:`as_)(ha:`a7!)(hb:`a7?):`U5 PSB ifX:=(.mk λH₀ B₀ δ pins s σ H D I hq195=>by
 apply `a4 hq195
 delta ifX at e1;apply `Jv;apply `as0;cases hq:q.1 with
  | true=>apply `Jw;apply `l!
  | false=>apply `Jx;apply `l!)
open T in
def O3{op:`hH}{rr:R2}{f:`bx}(ho:`h1 op rr)(hf:Op2 X.K rr f)(ha:`cC)(hb:PX X b gx)(hm:`aoo):PTX X `uz (xm0 (du0 ga gx f)):=(.mk λH₀ B₀ δ pins s σ H Q I hq196=>by
 apply `a4 hq196
 apply `aU;delta xm0 du0 at e1;cases e2:`df with
 | none=>apply `ac;cases e1
 | some da=>
 apply `I?
 by_cases hfl:`a!F
 rotate_left
 ·rw[`Q hfl] at e1;cases e1
 rw[`I hfl] at e1;cases e3:`gr with
 | none=>apply `cb;cases e1
 | some q=>
 rw[e3,`h] at e1;cases e4:f da q.1 with
 | none=>rw[e4] at e1;cases e1
 | some d=>
 rw[e4,`ls,`h] at e1;split at e1
 rotate_left
 ·cases e1
 rename_i t hd;have hd:d=`wv:=hd;subst hd;cases e1;refine fu0 ho `u? `a8a hm `t s σ H Q I #[da,env,e2,λx H1 s1 r1=>#[q,`XF,e3,λy H2 ev=>?_]];apply `arw;refine hf H2 B' x y da q.1 _ _ O.bad (p80 hfl r1) rv e4 `aqx
 rw[xn0] at r3;exact#[t,r3,k H3 (ev.s.grow s3)])
omit z
omit DL
open Y
section
variable{sub:`nO}
def CloseOk.other(c:`th){b:`d}{u:`us}(q:H b=u)(n:`a7Z):`a!I=u:=by
 apply `a7_
 apply `fH;have hb:`nf:=λz=>by
  cases l:`xj with
  | none=>have:=`WT;apply `aT l;cases `F
  | some so=>exact `a70
 rw[`eP];cases l:`lv with
 | none=>exact q
 | some so=>exact `a71
omit z
def FnOk.closing{P:`aj}{w:`M}{k:Nat}{f:`d}{sp:Sp}(F:`Uk k ps sp):
  `Uk k ps (λvs H Q E=>`qf (`th/\sp vs `ti Q E)):=by
 refine #[λvs H Q E #[a,sub,c,q]=>F.len vs _ Q E q,λA outer s H args us vs Q E hr e hb hv hq197=>?_];let#[a,sub,c,q]:=hq197;have no:∀b,`dd->`a!I=`e:=λb z=>`XI z λso z=>nomatch z
 refine I0 (`E6 A `da s `ti `iX us vs Q E hr #[`amo,e.mod,λb o z=>#[(`a!J).1,no b (`a!J).2],e.bsz,e.funs,λb z=>no b (e.frf b z),e.hok.closed `WT c.at' c.ins,e.bare] hb hv q) `E8
 skip;cases r with
 | error er=>done;exact hq
 | ok fl=>
  cases fl with
  | ret u=>
   let#[v,H',h1,h2,un,h3,h4,h5]:=hq;done;exact#[v,H',h1,h2,#[`as1 un.keep,`as1 un.slot,`as1 un.free,un.there,λb xs e1=>un.tups b xs (`XI e1 `a72),λb o u e1=>un.frzs b o u (`XI e1 `a73),λb ps e1=>un.tbls b ps (`XI e1 `a74)],h3,h4,h5]
  | next=>done;exact hq
  | brk=>done;exact hq
  | cont=>done;exact hq
omit L2
open X
def adopt{H3:Hp}{σ:St}{δ:Ds}{L:`d}{es:`k}{xs:`S}(en:`cm)(b1:`jY)(b2:`jZ)(env:`a3)(at':`l8)
  (hdx:∀C dx fs,`ar7->`a!K) (s13:`asc) (hLH:H L=`e) (hL3:H3 L=`Df) (hfl:`Jj) (rx:Rps K H3 B es xs):
  `a!L/\∃Hc,`a!M/\`ja K Hc `XJ/\`hV Hc `XJ /\
   AtN K Hc B σ `XJ i a `agR `qi `Go/\RpN K Hc B `qi (`EL) (`yd):=by
 apply `ar?;have d1:∀b∈as,`Uh:=λb hb z=>by
  apply `asd
  ·rw[q,hH] at z;cases z
  ·rw[q.2] at z;cases z
 have La:L∉as:=λz=>d1 L z hLH
 apply `a'g
 have c2:=`g5 s13;have O:`a'h=(`z `aBJ):=`a'i
 have a1:`a'j:=by
  rw[`Iw];apply `a'k;rw[`gs hy] at z;exact La `ase
 have a5:`a'l:=`asf
 have d2:`a'm `Go `an6:=λk c so q1 q2=>by
  by_cases hk':k<`fF
  ·rw[`Xt] at q1
   apply `a'n;exact `a'o
  ·have hl1:=`asg
   rw[`W] at hl1;have c1:`ash:=`a'p
   subst c1;rw[`nE,`iF] at q1;rw[`xT,`nE,`iF] at q2;apply `a'q
 have a3:`D4 (`Go[k]?):=λk C dx fs e=>by
  by_cases hk':`W1
  ·rw[`Xt] at e
   exact `a'r
  ·rw[`I4] at e
   cases q:k - `Di with
   | zero=>rw[q] at e;cases e
   | succ n=>rw[q] at e;cases e
 have cl:`a!L:=pf0 a5 a1 O (λk c so q1 q2=>by
  skip;rcases d2 k c so q1 q2 with⟨q1,q2⟩|⟨_,rfl,rfl⟩
  ·done;exact `a's
  ·done;rw[tc0 La];exact hL3) a3
 obtain⟨Hc,U⟩:∃Hc,`a!M:=`Y;refine#[cl,Hc,U,?_];skip;have ca:`Jm a `agQ:=`a!N
 have a6:∀b∈`mx,`asj:=λb hb n=>by
  rw[U];apply `fH;let#[so,q]:=s80 O hb a1;rw[`Xv,q]
 have Y:`a'u:=λb hb=>by
  rw[U];apply `fH;rw[`a!O,`Jn,`a'v]
 have but:`ask:=#[λb u n z=>by
  apply `Xw
  ·apply `AU
   ·apply `asl
    ·exact `asm
    ·rw[`as2,← w.2,z]
   ·rw[`Jo,hLH] at z;cases z
  ·rw[Y b hb];exact s13 _ _ z,λb u xs n z=>by
  apply `Xw
  ·rw[`as2] at z;cases z
  ·rw[Y b hb] at z;exact `a!P]
 have gr:Gr H Hc B B:=`Eh `j3 but;have c8:¬B L:=`zm hLH;have hw:RpW K Hc B `agR a `qi `Go:=by
  refine#[a5,a1,ca,`eB,O,`Ml ?_ #[xs,rfl,i90 (qe0 hfl) (`a'Y)],a3]
  ·by_cases n:b=a
   ·exact `m n
   ·refine `p #[?_,`as2]
    apply `AU
    ·apply `aso
    ·rw[`Jo];exact c8
  ·apply `a'x
   intro z;subst e;have c3:=`asp;subst c3;exact hdx C dx fs q2 (z▸hLH)
 let#[x,mk,a4]:=`Xz;let#[d0,Z,c0]:=s50 a4;let#[a',a7,hB,ro]:=`wk Z;rw[`fM] at a7;cases a7;have b3:`aCD=`a!Q:=by delta op0;rw[a4]
 have a2:`hV Hc (`a!Q):=`asq Z c0 `a'C;have c4:=`asr Z a2;done;rw[b3];refine#[c4,a2,#[`fM,hB,Xp0 a4 _,hw],?_];delta M7;rw[tj0];have a9:`ass:=`ast
 exact `a'E a9
def Xl0(f:Str)(fs:`k):`B:=fs.all λn=>match n with
 | `cw=>`X (x≠f)
 | _=>`f
def bw0(i:Nat)(c f:Str)(gv:GE):GS:=fun δ=>`a9F λr=>`ba (`AS/\`cH dv=`f/\`a!R) (`a!S dv δ)
def ef0(i:Nat)(c f:Str)(g:GE):GS:=`nX (`cN λns=>(Rs0 d).bind λes=>`agB λp=>`agC λr=>`ba (`AS/\`Jj/\`a!R) (`a!S `EL `XJ))
def Ym0{f:Str}{nm:`i}(h:Xl0 f `ab9=`f):f∉nm:=(λz=>by
 delta Xl0 at h;rw[`uo] at h;have:=h (`r f) (X1 z);simp at this)
def dh0{f:Str}:∀{nm:`i} {xs:`S},`as3=`ax->f∉nm->`a!T:=by
 intro z;induction z with
 | nil=>
  intro z1;cases z1 with
  | nil=>intro _ _;exact rfl
  | cons _ _=>intro h _;cases h
 | cons n nm iq=>
  intro z1;cases z1 with
  | nil=>intro h _;cases h
  | cons x xs=>
   intro h hn
   rw[`hq] at hn;have ih:`a!T:=iq `nc λz=>hn `Ed
   show (`w (n=f) _ ((n,x)::`aIA))=_;rw[`Q (λz=>hn (`m `tH)),ih];rfl
def Dp0{σ:St}{s:`v}(I:`C)(w:`aag X.K H){C:`d}{fs:`hG}(h:`ar7):`a!K:=by
 apply `arm `a! (`b1 a _ w.at');have hm:`a'y:=by
  refine `a'z;rw[`a'A];exact#[w.hd,h]
 let#[_,w,_]:=(all _ hm).2;rw[w];exact λz=>nomatch z
section
variable{gv g:GE}{f:Str}
def Q9(i:Nat)(hv:`ar0)(hc:`Jg)(hf:`Jh)(hN:`c4)(hvis:`dT)(hd:`aL)(hcd:`di)
  (hs:`ar1):`ar2 bw0 gv:=(.mk λH₀ B₀ δ pins s σ H De I hq198=>by
 skip;apply `eQ hq198
 delta bw0 at e1;apply `aU;done;apply `i8;apply `ar3;apply `i8;skip;apply `Xe;apply `Xf;clear e1;apply `Xg;clear e0;cases `Xh;apply `Xi
 done;apply `Xj
 skip;split at e1
 rotate_left
 ·cases e1
 rename_i hq;let#[a3,hn,a4,U]:=hq;subst a3;cases e1;apply `Xk;done;apply `a9H;skip;apply `hR;apply `ar4;apply `a9I;apply `Ji;done;apply `a9J
 ·apply `yq
  rw[`T] at U;exact U
 ·rw[dh0 hl (Ym0 a4)]
  let#[a1,z1,z2]:=`AQ b1 b2 env s1 at' `Pa Z (n':=`a!U [dv]) (so':=`h3 C Y (`C' (`FM) (xs++[v1]))) #[C,Y,`FM,xs++[v1],rfl,`a!V,`a!W,hC,a2,`Jq (o80 (dq0 hn) r1)] `Xl (d:=`x) (v:=`x) `k!;apply `Xm)
def W9(i:Nat)(hv:PDF X `gz g)(hc:`Jg)(hf:`Jh)(hN:`c4)(hvis:`dT)(hd:`aL)(hcd:`di)
  (hs:`ar1):`ar2 ef0 g:=(.mk λH₀ B₀ δ pins s σ H De I hq199=>by
 skip;apply `eQ hq199
 delta ef0 at e1;apply `aU;done;apply `i8;let#[d,e2,e1]:=e1;apply `i8;skip;apply `Xe;let#[es,w2,e0]:=`fb;clear e1;have e1:=e0;clear e0;cases Vw0 w2;apply `Xf;clear e1;apply `Xg;clear e0;cases `Xh;apply `Xi
 done;apply `Xj
 skip;split at e1
 rotate_left
 ·cases e1
 rename_i hq;let#[a5,hn,a7,U]:=hq;subst a5;cases e1;apply `Xk;done;refine `aiF (Wg0 `ajb (wk0 (yh0 `Sf)) hs) #[a,`mP,env,e2,λp H1 hp s1 ro=>?_];skip;let#[ys,o1,ry]:=ro;let#[cl,Hc,a4,a6,a2,O,rn]:=adopt (es:=es) en b1 b2 env at' (λC dx fs h=>Dp0 I at'.w h) s1 hp o1 hn (tf0 hn ry);done;refine#[a,`a!,(`rM).w.openOk,a,_,cl,?_];rw[← a4];skip;apply `ar4;let#[C,Y,nm,xs,rfl,rfl,hl,hC,a3,rx]:=`Qm;apply `Ji;done;refine#[`a',`fM,a,_,`j9,a,C,Y,_,rfl,`aLT,q1,`RY,?_,?_]
 ·apply `yq
  rw[`T] at U;exact U
 ·rw[dh0 hl (Ym0 a7)]
  let#[a1,z1,z2]:=a6.setN b1 b2 a2 `tV O `Pa Z (n':=`a!U [M7 (`z (`j4 [`agD,`Qn,`et]::`aA))]) (so':=`h3 C Y (`C' (`FM) (`QP))) #[C,Y,`FM,`QP,rfl,`a!V,`a!W,hC,a3,`Jq rn] `Xl (d:=`x) (v:=`x) `k!;apply `Xm)
omit z
def Qa0(c:Str):D:=`H [`v9,`a!X]
def ea0(j:Nat)(c:Str)(f:`aJ):GS:=fun δ=>match f (Qa0 c) [] with
 | `c (`x,`Dr)=>`af (`el j `arB)
 | _=>`e
section
variable{p:Pos}
open T in
def M70(j:Nat){k:Nat}{C:`d}{f:`aJ}(nd:`dh)(M:Mk X.K C fa)(F:`LM CX0 fa (spB X.K 0 f))(hb:`aZg)(hC:`Qh)(hr:`AT)(hk:k+1<=n)(hm:`a6T)(hg:`a!Y)
  (hi:`hN) (hy:`hO) (hdb:`aq0)
  (hf:`gP) {spos:Pos} (hsw':`a!Z):
  `a!_:=(.mk λH₀ B₀ δ pins s σ H De I hq200=>by
 apply `eQ hq200
 delta ea0 at e1;apply `aU;split at e1
 rotate_left
 ·cases e1
 rename_i xx ns hq;cases e1;refine fg0 nd hi hy (Ly0 (E:=E0) M F.closing `i3 hg hm hb `_ k20 hdb) hsw' hf `t s σ H De I λx dx hx a1 Z=>?_
 obtain⟨H1,O⟩:∃H1,H1=`aUq:=`Y;rw[← O];have a3:H1 x=`c `aFg:=by rw[O,Y7]
 have cl:`gn H1 x `as4:=pf0 rfl (`aiH) rfl (λk c so e1 e2=>by
  match k with
  | 0=>cases e1;cases e2;exact a3
  | k+1=>simp at e1) (λk C dx fs e=>by
  match k with
  | 0=>rfl
  | k+1=>simp at e)
 obtain⟨Hc,U⟩:∃Hc,Hc=`er H1 x `as4:=`Y;refine#[x,_,cl,?_];rw[← U];have cx:`Jm x `as4:=`a!N
 have Y:∀b,`zG->Hc b=H1 b:=λb hb=>by
  rw[U];apply `fH;rw[`eP,u70 (`o `apd hb)]
 have sm:`cE H Hc:=#[λb o z=>by
  have n1:`zG:=xh0 z hx;rw[Y b n1,O,Y4 n1,Y4 (xh0 z a1)];exact z,λb o xs z=>by
  by_cases n1:b=x
  ·rw[n1,cx] at z;cases z
  rw[Y b n1,O,Y4 n1] at z
  by_cases n2:b=dx
  ·rw[n2,Y7] at z;cases z
  rw[Y4 n2] at z;exact z]
 have a4:¬B x:=`zm hx;have w:RpW X.K Hc (`a!0) [`a!X] x [x] `aKR:=by
  refine#[rfl,`aiH,cx,λb hb=>`m (`Gi hb),rfl,`ai #[C,dx,[],[],rfl,rfl,rfl,hC,λz=>Z (`Gi z),`agI] `_,λk C dx fs e=>by
   match k with
   | 0=>rfl
   | k+1=>simp at e]
 refine#[`a!0,[],[],x,Qa0 c,`H (`r xx::ns),`x,`afY,`rT,rfl,`b7,`k_,#["",_,rfl,_,_,w],hq,λv H' but rg rv=>#[by rw[w90] at rv;exact rv,`Xu]]
 ·apply `IU
  ·exact(`va b z).same sm
  ·rw[z];exact .of cx (λ_ _ q=>nomatch q) λ_ q=>nomatch q
 ·have a2:`aZ:=#[λb o z=>but b o (xh0 z hx) (sm b o z),λb o xs z=>by
   by_cases n1:b=x
   ·rw[n1] at z;exact `J z (rg.plain o xs)
   ·exact sm.nf b o xs (but.nf b o xs n1 z)]
  exact en.takeL b1 b2 env j hx a2 rg.toL)
omit z
def Uc0(K:`y)(C:`d)(F:`i):`B:=`aTF&&W.hasDictIn K C&&W.plainOver K C&&(match `aDH with
 | `act s=>s == `Nt
 | _=>`l)&&F.all (λf=>match `aCm with
 | `gX=>`f
 | _=>`l)&&`aDI&&`aGl
open T in
def o20{C:`d}(h:`a!1):`tX/\(∀f∈F,`zV)/\`ama/\`aUo:=by
 delta Uc0 at h;simp only[`b5] at h;let#[#[#[#[#[#[h1,h2],h3],h4],h5],h6],h7]:=h;refine#[#[h1,h2,h3,?_],λf hf=>?_,h6,h7]
 ·split at h4
  ·rename_i s e
   rw[e,`HE h4]
  ·cases h4
 ·have:=x70.mp h5 f hf
  split at this
  ·rename_i e;exact e
  ·cases `F
def Gs0{C:`d}(a:`iv)(h:`a!1):ClsN K c F:=(#[λC' e=>by
 rw[a] at e;cases e;exact#[(o20 h).1,(o20 h).2.1]])
structure FnI(P:`aj)(w:`M)(K:`y)(mg:`a2)(base:`D)(c:Str)(k:Nat)(ps:`i)(f:`aJ):Prop where
 ex:∃C fa fd,`a9Y/\`iv/\Mk K C fa/\`Eb/\`aPb
section
variable{p:Pos}
def V7(j:Nat){k:Nat}{f:`aJ}(nd:`dh)(M:`Fo FnI c)(hr:`AT)(hk:k+1<=n)(hg:`a!Y)
  (hi:`hN) (hy:`hO) (hdb:`aq0) {spos:Pos}
  (hsw:`a!Z)
  (hf:`gP):
  `a!_:=by
 skip;let#[C,fa,fd,F,hC,mk,hb,hm]:=M.ex;done;exact M70 j nd mk F hb hC hr hk hm hg hi hy hdb (hf:=hf) (hsw':=hsw)
omit z
def atC(ys:`i):`BW
 | `bs=>`a!2 `cs
 | _=>`e
section
variable{a0 ix:`K}{gi gb:GE}{gA:GA}{posg p pg p5 rp:Pos}
def L30(ys:`i)(i:Int):`aen `Fl i=`a!2 `DF:=by
 delta L2.atI;rw[`T];cases L2.ixN `d5 i with
 | none=>rfl
 | some j=>simp
open T in
def ye0{ys:`i}(hK:`a7z)(hb:`cU)(hg:`fn)(hd:`aL)(hs:`UW):
  PD X (`kS `Qi b pos) (unG (atC ys) gb):=(.mk λB δ=>by
 let#[p,o,its,n,hm,hk,hc,Y,O,U,hv]:=hK;refine (Rt0 Vx0 `a7B `fo hs).imp fun σ H Q hq201=>?_;apply `b2 hq201
 delta unG at h;cases e2:`dy with
 | none=>rw[e2] at h;cases h
 | some dk=>
  apply `WL;delta atC at h;split at h
  ·rename_i i
   cases e3:`aIC with
   | none=>rw[e3] at h;cases h
   | some y=>
    rw[e3] at h;cases h;refine#[_,en,e2,`Fn];rw[zk0] at r1;subst r1;exact#[p,`aa2,i,`pp,rfl,rfl,`a7C U,`b9 L30 e3,k _ H1 s1 `MY]
  ·cases h)
omit z
def t60{α:Type}(xs:`bn)(lo hi st:`aI):`bn:=(`as5 `as6 `as6 `as6).filterMap (xs[·]?)
def V20(r:`bv):∀l:`j,`H8 (`Oh (ds[·]?)) `as7:=by
 intro z;induction z with
 | nil=>rw[`a!3,`a!3,O8]
 | cons i l iq=>
  have ih:=iq;cases e:ds[i]? with
  | none=>
   have e2:`agb:=k6.mpr (`o `bm (k6.mp e));rw[`XK e,`XK e2];exact ih
  | some d=>
   let#[x,ex,rx]:=`q4 e;rw[`Jy e,`Jy ex,W5];exact`gM rx ih
def Yi0(r:`ea):∀l:`j,`bV (`as7) (`Oh (us[·]?)):=by
 intro z;induction z with
 | nil=>exact `_
 | cons i l iq=>
  have ih:=iq;cases e:`aav with
  | none=>
   rw[`XK e,`XK (r.none_of e)];exact ih
  | some d=>
   let#[u,eu,ru]:=`q4 e;rw[`Jy e,`Jy eu];exact `ai ru ih
section
variable{lo hi st:`se}{tl th ts:TO}
def zt1(K:`y)(te:TE)(tl th ts:TO):TE:=`aVl (ts σ H3 λc H4=>∃a xs,`eJ/\SqL K H4 a xs/\c≠`c 0/\`as8 (H4 p=`e) H4 (`a!4))
def H50(he:`gL)(hl:`aVm)(hu:`aVn)(hst:PO X st ts)(hsub:`a!5):PE X `a!6 (zt1 X.K te tl th ts):=by
 apply `bg;refine `T5 (thn `k' λv s1 hq202=>?_);apply `fI hq202;refine `aVp (thn `aVq λvl s2 hq203=>?_);let#[l,H2,I2,pl,q2]:=hq203;refine thn `aVr λvu s3 hq204=>?_;let#[u,H3,I3,pu,q3]:=hq204;refine thn (hst `t s3 σ H3 _ I3 q3) λvc s4 hq205=>?_;skip;let#[c,H4,I4,pc,a,xs,ex,hx,hc,q]:=hq205;subst ex;cases r1;have I5:`br H4 `a!7:=I4.kept (t':=s4.toks) `agU
 let#[its,r,ht,hz]:=I5.list hx;have U:=`bm;have hg:`uC (`p8 `cf (`a!8)) `hu `a!7:=by
  refine hm0 ht.isList `aVs pl pu pc hc ?_ `amW;refine#[`U _,_,I5.laid (t':=s4.toks) (o:=`a!4) `aDN `bQ ?_,rfl,q _ (I5.hok.fresh `bQ)];have hp:slicePick `b3 l u c=(`iy `XL):=by
   delta slicePick t60;simp
  have Y:(`z `XL)<=`p':=by
   have:=slicePick_size_le `b3 l u c;apply `aT hp
   apply `dX `F
  have O:`bV `agT (`XL):=by
   delta t60;rw[U];exact Yi0 r _
  exact#[`ci `aiu,`XL,0,O,`o hp `hn]
 done;exact `amI (ops:=[`a',`a!8]) `aVY `amV hg (hsub _ _)
def Xm0(g:GE)(gl gh gs:`z!):GE:=fun δ=>`kD λd=>`a0C λlo=>`a0D λhi=>(gs δ).bind λc=>match d with
 | `d2=>`ba (c≠`c 0) (`s (t60 xs lo hi c))
 | _=>`e
open T in
def z70{g:GE}{gl gh gs:`z!}(he:`c3)(hl:`a23)(hh:`a24)(hs:PDO X st gs)(hsub:`a!5):
  PD X `a!6 (Xm0 g gl gh gs):=(.mk λB δ=>(H50 (he B δ) (hl B δ) (hh B δ) (hs B δ) hsub).imp fun σ H Q hq206=>by
 apply `b2 hq206
 delta Xm0 at h;cases e1:`au with
 | none=>rw[e1] at h;cases h
 | some x=>
  rw[e1,`h] at h;cases e2:gl δ with
  | none=>rw[e2] at h;cases h
  | some l=>
   apply `WL;cases e3:`yM with
   | none=>rw[e3] at h;cases h
   | some u=>
    rw[e3,`h] at h;cases e4:gs δ with
    | none=>rw[e4] at h;cases h
    | some c=>
     rw[e4,`h] at h;split at h
     ·rename_i xs
      split at h
      ·rename_i hc
       cases h;refine`UX _ (`a25 `aIu #[c,`f' `IT,(`aiw e4),λH4 s4=>?_]);have r4:=((`r?).same s3).same s4;rw[w60] at r4;let#[a,ys,rfl,hq,rr]:=r4;have O:=(`w1).trans s4;refine#[a,ys,rfl,`q!,hc,`GK (O.trans `iA) ?_];rw[w60];apply `l7 p _ (`m #[(`f' O).free hp,`aou]);have:Rps X.K H4 B `agT (t60 ys l u c):=by
        delta t60;rw[`PR];exact V20 rr _
       exact this.same `iA
      ·cases h
     ·cases h)
omit z
omit DL
namespace Bt
open DL W
section
def vg0:GS:=u6 (ifD `a!9
 (u6 `a!'
 t8)
 t8)
 (u6 `XM
 t8)
def sl0:`i:=`zb
def yz0:`O:=`a!!
def tu0:GS:=u6 (O6 `cr `RC)
 (u6 (O6 `eL `lH)
 (u6 (sh0 (tz0 (z7 `mN v6)) `iQ
 (u6 `a!?
 t8))
 (u6 (O6 `ze (`Jz `zv))
 (u6 (sy0 6 `r7)
 (u6 (sh0 (tz0 `eK) (gN 7)
 (u6 `a?a
 (u6 `a?b
 (u6 (ifD `JA
 (u6 `a?c
 t8)
 (u6 (ifD `as9
 (u6 `a?d
 t8)
 (u6 `a?e
 t8))
 t8))
 t8))))
 (u6 (go0 6)
 t8))))))
def lc0:`i:=`a?f `a?g
def u90:`O:=mkN 2 lc0 tu0
def t80:GS:=u6 (ifD `a?h
 (u6 (yp0 (`iM (o2 (o2 `am (`iK (`GO `aiR)) f9) `aiR w50)))
 t8)
 t8)
 (u6 (ifD `JA
 (u6 (yp0 (`gD (`gD `Mm 300 f9) 150 w50))
 t8)
 t8)
 (u6 (ifD `as9
 (u6 (yp0 (`gD (`gD `Mm 40001 f9) 20000 w50))
 t8)
 t8)
 (u6 (yp0 (`iM (o2 (`Jz (`iK (`GO `a?i))) `a?i w50)))
 t8)))
def m30:`i:=`JB
def vz0:`O:=mkF 2 m30 t80
def sd0:GSB:=u9 (Z3 (O6 `qA (dgO 0 `qG)))
 (u9 (Z3 (w80 (Y9 `ajf) (putL 0 `qG)))
 (u9 (`jJ (dgO 0 `aLc))
 (u9 (ifB `a?j
 (u9 `a?k
 `q)
 `q)
 (u9 `a?l
 `q))))
def ke0:`i:=`a?m
def wh0:`aJ:=mkB 1 ke0 0 sd0
def tn0:GSB:=u9 `as'
 (u9 (ifB `a?n
 (u9 (K6 (Y9 `qx))
 `q)
 `q)
 (u9 (ifB (ob (o2 `FO `js ltD))
 (u9 (K6 (Y9 (oA (`cQ `Sq `aCE) vz0)))
 `q)
 `q)
 (u9 (`XN (`cQ `qG (o2 `Sq (dgO 0 `aiL) f9)))
 `q)))
def py0:`i:=`a?o
def wr0:`aJ:=mkB 1 py0 0 tn0
def se0:GSB:=u9 (`jJ (gc (`r `as!)))
 (u9 (Z3 (w80 `aK? `eL))
 (u9 (K6 (Y9 (ib0 `lH (z7 (vq0 1 [2,3] (tz0 `eK) `cM noT (o2 `V (o2 (o2 `a?p `a?q Z7) (`adU) f9) ixD)) v6))))
 `q))
def n90:`i:=[`c9, `OG, `a?g, `hd]
def up0:`aJ:=mkB 2 n90 0 se0
def tg0:GSB:=u9 `as'
 (u9 `a?r
 (u9 (Z3 (ifD `XO
 (u6 `XP
 t8)
 t8))
 (u9 (ifB `acf
 (u9 (K6 (Vz0 `Nh (zt0 0 (z7 (`gD `Dw 21 f9) v6) up0)))
 `q)
 `q)
 (u9 `a?s
 (u9 (ifB `as?
 (u9 (`XN (`cQ `OM (oA `j! ns0)))
 `q)
 `q)
 (u9 `a?t
 (u9 `a?u
 (u9 `a?v
 (u9 (ifB `acg
 (u9 (`XN (z7 `aji `ata))
 `q)
 `q)
 (u9 (`XN (z7 `ajg (z7 (o2 `e4 (o2 (`gD `V 300 c7) `Sj f9) ixD) `ata)))
 `q))))))))))
def sf0:`i:=`a?w
def wy0:`aJ:=mkB 1 sf0 0 tg0
def rd0:GS:=u6 (O6 `cr (`atb `eK))
 (u6 (sy0 3 (b50 `a?x))
 (u6 (`a?y `aE `mN)
 (u6 (ifD (ob (dgO 3 `aib))
 (u6 (`a?y (`pv `aM_) `yV)
 t8)
 t8)
 (u6 (w80 (Y9 (oA (`cQ (o2 (`pv `ajs) (o2 (`gD `x4 30 pk0) `ahr Z7) f9) (o2 `a?z `a?A ixD)) u90)) (`Gs 3 `aM6))
 (u6 (Vr0 (Xy0 ns0 (ru0 1 [3] 3 1 (tz0 (z7 (dgO 3 `aiL) v6)) `cM `atc)))
 t8)))))
def mh0:`i:=`a?B
def u60:`O:=mkF 2 mh0 rd0
omit z
omit Bt
namespace Rk
open DL W
open Bt (vg0 yz0 tu0 u90 sd0 wh0 t80 vz0 tn0 wr0 se0 up0 tg0 wy0 rd0 u60)
section
def sl0:`i:=`zb
def lc0:`i:=`a?f `Rd
def ke0:`i:=`a?m
def m30:`i:=`JB
def py0:`i:=`a?o
def n90:`i:=[`c9, `OG, `Rd, `hd]
def sf0:`i:=`a?w
def mh0:`i:=`a?B
abbrev d9:`i:=[`o5, `ji, `v3, `oU, `v5, `m1, `iq, `qC]
def r00:GS:=u6 (ifD `vb
 (u6 `vc
 t8)
 t8)
 (u6 (ifD `XQ
 (u6 `atd
 t8)
 t8)
 (u6 `JC
 (u6 (ifD `ate
 (u6 `atf
 t8)
 t8)
 (u6 (sh0 `JD `cr
 (u6 `XR
 t8))
 (u6 `JE
 t8)))))
def sw0:`i:=`atg
def vx0:`O:=`ath
def jr0:GS:=u6 `a?C
 t8
def ol0:`i:=`lB
def uo0:`O:=`a?D
def on0:GS:=u6 (ifD `ati
 (u6 `atj
 t8)
 t8)
 (u6 `atk
 t8)
def n80:`i:=`hB
def rz0:`O:=`atl
def pq0:GS:=u6 (ifD `a?E
 (u6 `XM
 t8)
 t8)
 (u6 (ifD (ob `GN)
 (u6 `a?F
 t8)
 t8)
 (u6 `a?G
 t8))
def o70:`i:=`lB
def t40:`O:=`a?H
def ti0:GS:=u6 `atm
 (u6 `atn
 (u6 (vy0 `XS
 (u6 `XT
 (u6 `XU
 t8)) 100000)
 (u6 `ato
 t8)))
def tl0:`i:=`atp
def xt0:`O:=`atq
def sm0:GS:=u6 `atr
 t8
def tp0:`i:=`y?
def ww0:`O:=`ats
def o60:GS:=u6 (ifD `a?I
 (u6 `a?J
 t8)
 t8)
 (u6 `a?K
 t8)
def pv0:`i:=`JF
def sn0:`O:=`a?L
def s70:GS:=u6 `att
 t8
def s60:`i:=`d8
def ue0:`O:=`atu
def sp0:GS:=u6 (ifD `vb
 (u6 `atv
 t8)
 t8)
 (u6 `vc
 t8)
def sv0:`i:=`d8
def uz0:`O:=`atw
def pn0:GS:=u6 (ifD `atx
 (u6 `a?M
 t8)
 t8)
 (u6 (ifD `a?N
 (u6 `a?O
 (u6 `a?P
 t8))
 t8)
 (u6 `a?Q
 t8))
def pz0:`i:=`a?R
def t00:`O:=`a?S
def ce0:GS:=u6 `JC
 (u6 `a?T
 (u6 `a?U
 (u6 `a?V
 (u6 (vy0 `aty
 (u6 `atz
 (u6 `atA
 (u6 (ifD `atB
 (u6 `atC
 t8)
 (u6 (ifD `atD
 (u6 `atE
 (u6 `atF
 t8))
 t8)
 t8))
 t8))) 100000)
 (u6 `JE
 t8)))))
def cw0:`i:=`a?W
def mx0:`O:=`a?X
def ma0:GSB:=u9 (`atG `o5)
 (u9 (`atH `ji)
 (u9 (`atH `v3)
 (u9 (`atH `oU)
 (u9 (Z3 (ef0 0 `bd `v5 (`JG `atI)))
 (u9 (`atG `m1)
 (u9 (`atG `iq)
 (u9 (Z3 (bw0 0 `bd `qC `lH))
 `q)))))))
def m80:`i:=`ey
def uc0:`aJ:=mkB 1 m80 0 ma0
def q00:GSB:=u9 (Z3 (vy0 `a?Y
 (u6 `agW
 (u6 (popS 0 `j')
 t8)) 100000))
 `q
def ni0:`i:=`ey
def uw0:`aJ:=mkB 1 ni0 0 q00
def qw0:GSB:=u9 (K6 (Y9 (orG (`Sk `ty) (o2 `a?Z `a?_ leD))))
 `q
def l70:`i:=`XV
def un0:`aJ:=mkB 2 l70 0 qw0
def m20:GSB:=u9 (ifB (ob `a?0)
 (u9 (`JH (qi0 0 `a?1 `V))
 `q)
 `q)
 (u9 `a?2
 (u9 `a?3
 `q))
def il0:`i:=`Mx
def xl0:`aJ:=mkB 2 il0 0 m20
def d70:GS:=u6 (ifD `atJ
 (u6 (yp0 `ajh)
 t8)
 t8)
 (u6 (yp0 `ys)
 t8)
def eq0:`i:=`XW
def ro0:`O:=mkF 1 eq0 d70
def kn0:GS:=u6 (ifD `atJ
 (u6 (yp0 (o2 (`JG (gc (`r `qj))) `V mulL))
 t8)
 t8)
 (u6 (ifD `a?4
 (u6 (yp0 (o2 (zm0 `aNi) `V mulL))
 t8)
 t8)
 (u6 (ifD `a?5
 (u6 (yp0 `a?6)
 t8)
 t8)
 (u6 (`XX (`JG `aij) `a?6)
 t8)))
def kw0:`i:=`XY
def qd0:`O:=mkF 2 kw0 kn0
def tv0:GSB:=u9 (ifB (wg0 (ob `atK) (ob `atL))
 (u9 `co
 `q)
 `q)
 (u9 (`A0 `a?7)
 (u9 (mz0 0 3 `V `sD `j')
 (u9 (`JH (qi0 0 `k8 `F!))
 (u9 (`JH (extN 0 `k8 (`y6 (oA `aic qd0) kh0)))
 (u9 `eR
 `q)))))
def o90:`i:=[`cV, `sC, `Dv, `BY]
def v00:`aJ:=mkB 3 o90 0 tv0
def bs0:GS:=u6 (ifD (ob `a?8)
 (u6 (yp0 (`iK (unG w70 `XZ)))
 t8)
 t8)
 (u6 (yp0 `XZ)
 t8)
def b20:`i:=`hB
def mj0:`O:=mkF 1 b20 bs0
def ul0:GSB:=u9 `X_
 (u9 (ifB `RH
 (u9 (K6 (`jK (`cQ (unG (atC `OD) `aLn) `aNH) v00))
 `q)
 `q)
 (u9 (ifB (`gI `MQ `atI)
 (u9 `co
 `q)
 `q)
 (u9 (ifB `as?
 (u9 (`A0 (z7 (oA `db mj0) v6))
 `q)
 (u9 (ifB (xd0 `acg (ob (o2 `aE `RE ltD)))
 (u9 (`A0 (z7 (vw0 (`cQ `qG (o2 (`iK `RE) `aE w50))) v6))
 `q)
 (u9 (ifB (`gI `V `ce)
 (u9 (`A0 (z7 `qx v6))
 `q)
 (u9 `co
 `q))
 `q))
 `q))
 (u9 `eR
 `q))))
def oc0:`i:=[`cV, `B1, "rest"]
def wm0:`aJ:=mkB 2 oc0 0 ul0
def ua0:GSB:=u9 (`jJ (o2 (o2 (plN `a?9) `jz yr0) `aLo Z7))
 (u9 (ifB (ob (`FN ltD))
 (u9 (K6 (`jK `db wm0))
 `q)
 `q)
 (u9 (ifX (orT (`A_ `ag') (v90 `aI1))
 (u9 `co
 `q)
 `q)
 (u9 (`X0 `m1 `aE)
 (u9 `eR
 `q))))
def ps0:`i:=[`cV, `r!, `B1]
def wj0:`aJ:=mkB 2 ps0 0 ua0
def Zv0:GS:=u6 (O6 `eL `bF)
 (u6 (sh0 (tz0 (z7 (o2 `V `RI w50) v6)) `iQ
 (u6 `a?'
 t8))
 (u6 (yp0 (o2 (`y6 (vq0 1 `A1 (dp0 `am) `cM (`a?!) `am) ys0) `hX ltD))
 t8))
def g00:`i:=[`oU, `iq, `acI, "most", "place"]
def s90:`O:=mkF 3 g00 Zv0
def Zj0:GS:=u6 (sh0 (oi0 `V) `cr
 (u6 (ifD `a??
 (u6 (yp0 `aE)
 t8)
 t8)
 t8))
 (u6 (yp0 `qx)
 t8)
def Zh0:`i:=[`r!, `aaL, `qj]
def q40:`O:=mkF 2 Zh0 Zj0
def v60:GSB:=u9 `baa
 (u9 (ifB `bab
 (u9 `co
 `q)
 `q)
 (u9 `bac
 (u9 (ifB (ob `bad)
 (u9 (`JH (qi0 0 `s6 `EW))
 (u9 (`A0 `aL2)
 (u9 (`X0 `iq `ce)
 (u9 (`X0 `qC `lH)
 `q))))
 `q)
 (u9 `eR
 `q))))
def p70:`i:=`bae
def we0:`aJ:=mkB 2 p70 0 v60
def fh0:GS:=u6 (yp0 (oA (`cQ (`baf `ce) (`baf `bF)) R30))
 t8
def he0:`i:=`X1
def qa0:`O:=mkF 1 he0 fh0
def ey0:GS:=u6 (ifD `atJ
 (u6 (`A2 (`cQ `Nh (ib0 `lH `eK)))
 t8)
 t8)
 (u6 (ifD `a?4
 (u6 (`A2 (`cQ `OM (oA `eK ns0)))
 t8)
 t8)
 (u6 (ifD `a?5
 (u6 (`A2 (`cQ `aji (oA `eK qa0)))
 t8)
 t8)
 (u6 (`A2 (z7 `ajg (`cQ `aNk (`y6 (wz0 `V (`fD `bF) wt0) qa0))))
 t8)))
def eu0:`i:=`Rr
def vf0:`O:=mkF 2 eu0 ey0
def gq0:GS:=u6 (ifD (wg0 `vb `XQ)
 (u6 `vc
 t8)
 t8)
 (u6 (v10 (vq0 1 [] `JD `cM noT `s0))
 t8)
def vv0:`i:=`d8
def q10:`O:=mkN 1 vv0 gq0
def tx0:GSB:=Xj0 0 1 `aiN (oA `bag q10)
def ob0:`i:=[`cV, `BY]
def vu0:`aJ:=mkB 1 ob0 0 tx0
def v30:GSB:=u9 (ifB (ob (o2 `V `ah6 geD))
 (u9 `co
 `q)
 `q)
 (u9 (`jJ (plN (wf0 0 `s6 (o2 (`iK `ah6) `V w50))))
 (u9 (ifX (Ue0 (`A_ `aI?) (xm0 `aJb))
 (u9 `co
 `q)
 `q)
 (u9 `bah
 (u9 `eR
 `q))))
def rt0:`i:=[`cV, `aEH, `jB]
def xp0:`aJ:=mkB 2 rt0 0 v30
def wx0:GSB:=u9 (ifB `X2
 (u9 (K6 (`jK `aNR xp0))
 `q)
 `q)
 (u9 (`jJ `qD)
 (u9 (ifB (wg0 `ag' (wg0 (ob `atM) (ob `atN)))
 (u9 `co
 `q)
 `q)
 (u9 (ifB (`pu (`ajl (`cQ `aE `lH)))
 (u9 `co
 `q)
 `q)
 (u9 (`X0 `iq `aE)
 (u9 `eR
 `q)))))
def rm0:`i:=[`cV, `r!, `iq]
def xk0:`aJ:=mkB 2 rm0 0 wx0
def s00:GSB:=u9 (`jJ (oA (`cQ `V (gc (`r `FY))) q40))
 (u9 (ifB `aL1
 (u9 `co
 `q)
 `q)
 (u9 `bah
 (u9 `eR
 `q)))
def og0:`i:=`bae
def vt0:`aJ:=mkB 2 og0 0 s00
def ov0:GSB:=u9 (K6 (Y9 (`mS `aLg)))
 `q
def j50:`i:=`ey
def wp0:`aJ:=mkB 1 j50 0 ov0
def th0:GSB:=u9 (ifX `Q8
 (u9 `co
 `q)
 `q)
 (u9 `bai
 (u9 (ifB (wg0 (`gI `aE `atI) (`gI `aE `ty))
 (u9 (`X3 wj0)
 `q)
 `q)
 (u9 (ifB (`gI `aE (gc (`r `qj)))
 (u9 (`X3 vt0)
 `q)
 `q)
 (u9 (ifB (ob `baj)
 (u9 (`X3 we0)
 `q)
 `q)
 (u9 (`X3 xk0)
 `q)))))
def j20:`i:=[`cV, `r!, `aaq]
def yj0:`aJ:=mkB 2 j20 0 th0
def ba0:GS:=u6 (yp0 (qx0 (te0 `RO `am) (Mz0 (te0 `F9 `am))))
 t8
def c90:`i:=`rp
def qf0:`O:=mkF 1 c90 ba0
def Yj0:GS:=u6 (yp0 (qx0 `atO `bak))
 t8
def Yd0:`i:=`rp
def uf0:`O:=mkF 1 Yd0 Yj0
omit z
omit Rk
namespace W
open DL
def nameS:Str:= `EE
def marks(x:D)(m:Str):`B:=match x with
 | `pp=>`X (y=m)
 | _=>`l
def Q80:`dR
 | `x=>`f
 | `c2=>`f
 | `H [x,`bs]=>marks x `cW&&`atP
 | _=>`l
inductive Pt where
 | text (w:Str)|row (vs:`k)|table (ps:`l?)|rcd (c:Str) (ps:`l?)
def pr(p:`K?):D:=`H `bal
def Pt.d:Pt->D
 | `atQ=>`H [`pk,`x6]
 | `JI=>`H [`C3,`H vs]
 | `A3=>`H [`xZ,`Nd]
 | .rcd c ps=>`H [`xn,`tL,`Nd]
def Pt.vals:Pt->`k
 | `X4=>[]
 | `JI=>vs
 | `A3=>`oJ
 | `atR=>`oJ
def Pt.pnames:Pt->`i
 | `X4=>[]
 | .row _=>[]
 | `A3=>`w'
 | `atR=>`w'
open B
def Pt.cls:Pt->`i
 | .rcd c _=>[c]
 | _=>[]
def Pt.all(p:Pt):`i:=p.pnames++p.cls
def lk:D->`aI
 | `H [_,`bs]=>`CH
 | _=>`e
def Pw0{v:D}(h:`bam):`zj∨(∃i,`H4)∨∃i,v=`H [`my,`bs]/\`jS:=by
 cases v with
 | non=>exact `ml
 | int i=>apply `ko #[i,rfl]
 | tup xs=>
  match xs,h with
  | [x,`bs],h=>
   simp only[Q80,`b5,decide_eq_true_eq] at h;apply `D' x marks
   apply `gO #[i,by rw[h.1],h.2]
 | _=>cases h
def vo0:Str:= `aCf
def cg(i:Int):Nat:=`ban `ix 0
def Z00(i:Int)(h0:`jS)(h1:i<36):ixD (`xb) `e!=`c (`r #[⟨cg i⟩]):=by
 have hl:vo0.cps.toList.length=36:=`bc
 have hz:vo0.length<=`R:=`bc
 have:=sx0 (xs:=vo0.cps.toList) (i:=i) h0 (by rw[hl];omega) 0;simp only[ixD,`I hz,`F,`ls];rfl
def V10(i:Int)(h0:`jS)(h1:i<36):cg i∈`El:=by
 have h:`q' (n<36->`ban n 0∈`El):=`bc
 exact h `ix `n
def strOf(l:`j):Str:=#[l.toArray]
def gs0{l m:`j}(h:`r8=`aF m):l=m:=by
 delta strOf at h;injection h with h
 apply `dX (D0 `aLz h)
omit W
namespace W
open DL StrLaws Builtin.Str
def rg0(l:`j):(`r8).cps.toList=l:=`fg `aF
def vb0(l:`j):`bao=`bT:=by show l.toArray.size=_;simp
def lk0(sep:`j):`dD->`j
 | []=>[]
 | [p]=>p
 | p::q::r=>`bap
omit W
namespace Rm
open DL W PySem.StrLaws
inductive Want where
 | root|value|sign|name|cls|fin
 deriving DecidableEq
variable{ws:`baq}
structure RS where
 count:Nat
 begun:`rq
 un:`j
 names:`dD
 wait:`ag
 digits:Int
 length:Nat
 spelled:`j
variable{S1:Rm.RS}
def start:RS:=#[0,[],[],[],[`jm],0,0,[]]
def xq0:`j:=`bar++`bas
def vp0:`j:=32::xq0
def RS.hold(S:RS)(d:D):RS:={ S with begun:=(match `a7 with|[]=>`cI|k::_=>`vd),wait:=`xt,digits:=0 }
def wanted:Nat->Nat->`ag
 | 0,n=>`bat
 | 1,n=>`bG n `eY
 | 2,n=>`atS
 | _,n=>`kN::`atS
def link(k:Nat):D:=`H `bau
def RS.part(S:RS)(kind:Nat)(size:Int):`iI:=
 if size > (`w (kind=0) 20 12)∨`F5 then `e
 else
  let S1:=`o?
  `c { S1 with begun:=S1.begun++[(kind,[])],un:=S1.begun.length::S1.un,wait:=`K0 kind size.toNat++`d1::`ad_ }
def j80(n:Int):Int:=if n%2=1 then -(n/2) - 1 else n/2
def RS.head(S:RS)(n:Int):`iI:=
 if `lk then `adM `bav `O6
 else if `pB=`baw then `e
 else if n%4=1 then `c (`gg (`g (j80 (n/4))))
 else if `bax then `c (`gg (link (`a1 - 1 - (n/4).toNat)))
 else `dM (n=0) `aNn
def RS.digit(S:RS)(b:Nat):`iI:=
 let n:=`sj+`aJt
 if `Sn then `X5 n
 else if `atT n n then `e
 else `c `bay
def left(names:`dD)(len:Nat)(pre:`j):`B:=`X ((`z (`baz λn=>`X (`ow=len)&&`OV))<36 ^ (len - `hc))
def pairsOf:`k->`XG
 | `ve=>`atU
 | _=>[]
def w00(p:`e2):`k:=match p.1 with
 | 2=>`baA `gc
 | 3=>`baB `gc
 | _=>[]
def K5(l:`j):D:=`vf
def RS.known(S:RS)(k:Nat)(inHere:`X6):`iI:=
 if `gp<=k then `e
 else
  let n:=K5 (`aim (`x0 - k) [])
  `A4 (`baC/\inHere n `baD=`f) (`gg n)
def RS.number(S:RS)(b:Nat)(inHere:`X6):`iI:=
 if b%2=0 then S.known `xw inHere
 else if `atV then `e
 else `c (`R0 (b/2))
def RS.letter(S:RS)(b:Nat):`iI:=
 if `atW then `e
 else if `atX then
  `c (`baE `atY `m6)
 else `c `Op
def RS.takes(S:RS)(b:Nat)(inHere:`X6):`iI:=match `pB with
 | `e=>`e
 | `baw=>S.digit b
 | `aJu=>S.digit b
 | `c `fR=>`baF
 | _=>`w `Su (`GQ b) (`aeA b inHere)
def vn0:`ag->`j->`ag×`j
 | `d1::w,_::u=>`JJ
 | w,u=>(w,u)
def RS.ends(S:RS):RS:=`atZ (`X7).1 (`X7).2
def eqS:`X6
 | `cw,l=>l.any λd=>match d with|`pp=>`ae5|_=>`l
 | _,_=>`l
def codes:`k->`j
 | `cw::r=>`a7q++codes r
 | _=>[]
def made(p:`e2):D:=match p.1 with
 | 0=>`H [`pk,K5 (codes p.2)]
 | 1=>`H [`C3,`H p.2]
 | 2=>`H [`xZ,`GC `baA]
 | _=>`H [`xn,p.2.headD `x,`GC `baB]
omit Rm
variable{ws:`baq}{S1:Rm.RS}
namespace Bt
open DL W
def U6{G:GSB}{b:D}{r:D}(hl:`nD)(h:∀p,`u! (G `ne=`WV)):`arx:=(W50 hl λp=>`m (h p))
def m9{G1 G2:GSB}{δ:Ds}{r:`hz}(h:`anU)(k:`Vw):`baG=r:=by delta u9;rw[h];exact k
def b8{G1 G2:GSB}{δ:Ds}{d:D}(h:`d!=`JK):`baG=`JK:=by delta u9;rw[h]
def U9{δ:Ds}(h:`WW):Z3 G δ=`eD:=by delta Z3;rw[h]
def xb0{g:GB}{δ:Ds}(h:`UA):`baH=Ga δ:=`baI
def yi0{g:GB}{δ:Ds}(h:`UB):`baH=`Fc:=`baI
def M8{δ:Ds}{d:D}(h:`at_):K6 gx δ=`JK:=by delta K6;rw[h];rfl
def K8{g:GE}{δ:Ds}{d:D}(h:`kr):Y9 g δ=`c (d,δ):=by delta Y9;rw[h];rfl
def bk(k:Int)(cs:`aB)(sm:`B)(m:Int)(pool:`i):D:=`b4 (`m [`at0,`at1,`at2,`baJ,`p "pool"]) [`mF,`mQ,`vg,`g m,`w8]
def v70{ga gb:GE}{δ:Ds}{i j:Int}(h1:`df=`Hj)(h2:`dy=`c `DO)(h:0<j):o2 ga gb f9 δ=`anO:=by
 rw[`at3];show (`w (0<j) _ _)=_;rw[`cA]
def rw0(i j:Int)(h:`acA):`at4:=`baK
def Uv0{cs:`aB}{g:GE}{δ:Ds}{i:Int}(s0 s1:Sl)(hδ:δ=[s0,s1,`Mn])(h:`au=`Hj)(h0:`jS)(h1:i<`M8):∃c:Int,o2 `aE g ixD δ=`ag_:=by
 refine#[cs[i.toNat]'`c_,?_];have e:`ahH=`c (`mQ):=`A5
 rw[n6 e h];show atI (`baL) i=_;rw[sx0 h0 (`o `T h1) `x];have:`ix<`M8:=`em
 simp[`bz,`F]
def Z50(k:Int)(h0:0<=k)(hk:`at5)(cs:`aB)(hc:`vh)(sm:`B)(m:Int)(pool:`i):`baM:=by
 have pos:0<`M8:=x60.mpr hc;have O:∀(z:Int),(∀p:`d,∀δ:Ds,δ=`JL->(u9 (`vi `a?j `a?k)
   (u9 `a?l `q)) δ=`c (.rt `vX δ))->0<=z->`baM:=λz h hz=>by
  refine#[z,hz,`bq `JL];apply `bL [`JM,`w5,.un] `at6 ?_;apply `bL [`r9,`w5,.un] `at6 ?_;apply `bL `JL `at6 ?_;exact h p _ rfl
 have len:∀(s0:Sl),oA `db ys0 `Qu=`c (`g `X8):=λs0=>by
  show `A6 (`z `baL);rw[`T]
 have cond:∀s0:Sl,ob `aLU `Qu=`ak (k<`X8):=λs0=>by
  delta ob;rw[n6 (x:=`mF) rfl (len s0)];rfl
 by_cases hlt:k<`X8
 ·have ex:∃c:Int,`baN `V:=by
   let#[c,hc]:=Uv0 (cs:=cs) (g:=gv 1) (δ:=`baO) _ _ rfl rfl h0 hlt;exact#[c,λs0=>hc]
  let#[c,hc]:=ex;refine O (c%(10 ^ 64+57)) `baP `baQ;subst hδ;apply `dV;rw[`dp cond (`ar hlt)];refine `vT (v70 (hc _) ?_ `u);kernel_rfl
 ·obtain⟨c,hc⟩:∃c:Int,`baN `aM0:=by
   have em:∀s0:Sl,o2 `V `RI f9 `Qu=`lV (k%`X8):=λs0=>v70 rfl (len s0) `c_
   let#[c,hc]:=Uv0 (cs:=cs) (δ:=`baO) _ _ rfl (em .un) (E2 _ `c_) (F7 _ `c_);refine#[c,λs0=>?_];rw[n6 (x:=`mQ) rfl (em .un)] at hc;rw[n6 (x:=`mQ) rfl (em s0)];exact hc
  refine O ((`at7+7)*48271%2147483647) `baP `baQ;subst hδ;apply `bL `JL (`rr cond hlt) ?_;refine `vT (v70 ((`aq (`g (`at7+7)) `aM3 ?_).trans (rw0 _ 48271 `u)) rfl `u);have e3:o2 `aM2 `V yr0 `JL=`c (`baR):=by
   rw[`aq (`g (3*k)) `mF (`baS (rw0 3 k `c_))];exact rw0 _ _ `c_
  exact`A7 (`aq (`g `at7) (`g 7) (`A7 (n6 (x:=`g (`aEf)) (y:=`baR) (v70 (hc _) rfl `u) e3)))
omit Bt
namespace Gw
open DL W
def vg0:GS:=u6 (ifD `a!9
 (u6 `a!'
 t8)
 t8)
 (u6 `XM
 t8)
def sl0:`i:=`zb
def yz0:`O:=`a!!
open DL W StrLaws
def mul_r(i j:Int)(h:`acA):`at4:=`baK
def ka0(i j:Int)(h:`aDd):`at4:=`aIL `HB
def Jt0(i j:Int)(h:0<j):f9 `e! `DO=`anO:=`baT f9
def Mc0(i j:Int)(h:`Tv):c7 `e! `DO=`c (`ae4):=`baT c7
def P70{g:GE}{δ:Ds}{d:D}(h1:`baU)(h2:`kr)(h3:`bT<`R):T8 (sg0 i g) δ=`af (`Fp `aJ5):=by
 delta T8 sg0;rw[h1,h2];simp only[`h];rw[`at8];rfl
def Sw0(ns:`aB)(k:Int)(h0:0<=k):∃z,yz0 `at9=`X9:=by
 by_cases h:k<`ct
 ·have O:`lu<`ct:=`E
  refine#[ns[k.toNat],`JN];rw[wl0 (by
   apply `baV;rw[`ar `at'])]
  apply `vj;show atI `Q' k=_;rw[sx0 h0 `at' `x];simp[`bz,O]
 ·refine#[0,`i9 (`cB [`Mv,`w5] rfl)]
  rw[yu0 (by
   apply `baV;rw[`aR `at'])]
  rfl
def Bq0(l:`j)(k:Int)(h0:0<=k)(h1:k<=`bT):`aLI (`r8) `e (`gF)=`aF (l.take `lu):=by
 show sliceText _ _ _=_;rw[sliceText_to #[h0,`o rg0 h1],rg0];simp[`aF]
def Jk0(a b:`j):`baW:=by
 show (#[_]:Str)=#[_];simp[`aF]
def e60(a b:`j)(h:`baX):Z7 (`r (`aF a)) (`r (`aF b))=`c (`r (`aIM)):=by
 simp only[Z7];rw[`I (`d? vb0 vb0 h),Jk0]
structure Vk(v:D)(m:Int):Prop where
 ok:`bam
 bd:∀i,`H4->`aDD<`X'
 lk:∀k,lk v=`gF->k<m
def oq0(xs:`k)(x:D):atI (`anZ) (-1)=`c8:=by
 delta atI ixN;rw[`d6,`I `baY];rw[show ((-1:Int)+((`z `anZ):Int)).toNat=`ax by rw[`W];apply `sE;lia];simp
omit Gw
namespace Bt
open DL W
def Y0{g:GE}{δ:Ds}{b:`B}(h:`au=`alb):`baZ:=`ba_
def mdN(c m k:Int)(B:Nat)(h0:0<m)(h1:k<(B:Int))(h2:m<=k+(B:Int)):(c%m - k).natAbs<B:=by
 have a:=Int.emod_nonneg c (Int.ne_of_gt h0);have b:=Int.emod_lt_of_pos c h0;generalize c%m=x at a b ⊢;lia
def sbA(a b:Int):a - b+1=a - (b - 1):=`E
def Pz0(c:Int)(sm:`B):∃n:Int,n.natAbs<`X'/\vz0 [`ov,`vg]=`Qe:=by
 cases sm with
 | true=>exact#[c%(2*`at! - 1) - `at!+1,`ba0,`i9 (O9 (`o `JO `X!))]
 | false=>
  have s0:`ba1 `a?h:=λGa G r h=>m5 `A8 h
  have e0:∀j:Int,ob `ba2 `ag2=`ak (c%3=j):=`at?
  by_cases h0:c%3=0
  ·exact#[c/3%300 - 150,`ag1,`i9 (s0 _ _ _ (O9 (`o (`ma e0 `aua) `X!)))]
  ·have s1:`ba1 `JA:=λGa G r h=>m5 (`ae (`mb e0 `aub)) h
   by_cases h1:c%3=1
   ·exact#[c/3%40001 - 20000,`ag1,`ba3 (O9 (`o (`ma e0 `JP) `X!))]
   ·exact#[c/3%(2*`X' - 1) - `X'+1,`ba0,`ba3 (m5 (`ae (`mb e0 `auc)) (`X!))]
def xy0{gA:GA}{f:`aJ}{δ:Ds}{p:`d}{b r:D}(h:`bY=`ary)(hA:`q7)(hf:`art):`ba4=`c (r,`el i (`a6 b')):=by
 delta zt0;rw[h];show `ba5 `ba6 (`H [`GA,r.2]);rw[hA];show `ba6 _=_;rw[hf];rfl
def Ya0{gA:GA}{f:`aJ}{δ:Ds}{ks:KS}{vs:`k}{r:D}(h:`bY=`arA)(hA:`q7)(hf:`aIO=`adt):`ba4=`c (r,`el i `aiK):=by
 delta zt0;rw[h];show `ba5 `ba7 r.2;rw[hA];show `ba7 _=_;rw[hf];rfl
def vi0{ft:`a9}{δ δ2:Ds}{d:D}(h:`gr=`c (d,δ1))(k:ft d δ1=`c δ2):w80 gx ft δ=`aGV:=by
 delta w80;rw[h];show (ft d δ1).map _=_;rw[k];rfl
open Gw (Vk)
def Ge0(i:Int):Q80 (`H [`my,`bs])=`atP:=by
 show (`ba8&&`atP)=_;rw[show `ba8=`f from `bc];rfl
def df0(k:Int)(h0:0<=k)(hk:`at5)(cs:`aB)(hc:`vh)(sm:`B)(m:Int)(hm:1<=m)(pool:`i):∃v,`X?/\wr0 `jC []=`c (v,`r4):=by
 let#[z,hz,hn]:=`ba9;have call:∀p:`d,Z3 `aKS (v50 py0 0 p `jC [])=`af `tj:=λp=>
  `ba'
 have c8:`ba! eqD (`ak (z%8=j)):=`ba?
 have l8:`ba! ltD (`ak (z%8<j)):=`ba?
 by_cases q0:z%8=0
 ·refine#[`x,#[rfl,`bba,λk e=>by cases e],`aud `b!]
  rw[`dp c8 `aue];exact `d0
 have s1:`bbb `tj (u9 (ifB `a?n Ga `q) G `tj):=λp Ga G r h=>
  `n! `tj (`ae (`kw c8 `auf)) h
 by_cases q4:z%8<4
 ·let#[n,U,O]:=Pz0 (z/8) sm
  refine#[`ev,#[rfl,(λi e=>by cases e;exact U),λk e=>by cases e],`aud (s1 p _ _ _ `b!)];rw[`dp l8 (`ar q4)];refine `JQ;rw[N6 (ds:=[`g (z/8),`vg]) (`lz rfl `ex)];exact O
 ·refine#[`H [`my,`g (z/8%m)],#[`o Ge0 (F0 (`bbc)),`bba,λk e=>by cases e;exact F7 _ `n],`aud (s1 p _ _ _ (`GB `tj ?_))]
  ·rw[`kw l8 (`aR q4)]
   rfl
  ·refine `vT (rj0 (`lz rfl (v70 (i:=z/8) (j:=m) rfl `ex `n)) (`a!q))
def Sl0(cs:`aB)(hc:`vh)(sm:`B)(m:Int)(hm:1<=m)(pool:`i):∀(items:`k) (k:Int),0<=k->k+`c?<1000000 ->
  ∃vs:`k,`fe=`c?/\(∀v∈vs,Gw.Vk v m)/\`acC `aje=`c (vs,`r5 (k+`c?)):=by
 intro z;induction z with
 | nil=>intro k _ _;exact#[[],rfl,`aug,`ae (show k+(([]:`k).length:Int)=k by simp)]
 | cons d ds iq=>
  intro k h0 hk
  simp only[`an] at hk;let#[v,hv,e]:=df0 k h0 `n cs hc sm m hm `kQ;let#[vs,hl,O,ih]:=iq `cX `n `n;refine#[v::vs,`auh,`uR,?_]
  ·apply `HP
   ·exact hv
   ·exact O x hx
  ·have c:zt0 1 v6 wr0 `ajm=`c (v,[`cJ,.ow (`r4)]):=`bbd
   delta tb0;apply `bbe;show `bbf `aje (`r4) v;rw[ih,show k+1+(`cy:Int)=k+(`Uy:Int) by simp only[`an];lia];rfl
open DL W StrLaws
def Oi0(a b:`j):`baW:=by
 show (#[a.toArray++b.toArray]:Str)=#[(`iy (a++b))];rw[List.append_toArray]
def J20(sep:`j):∀parts:`dD,`aLF (`Ya) (`aNm `aF)=`bbg:=by
 intro parts;delta Txt.join;rw[StrLaws.glued_eq_join]
 induction `FP with
 | nil=>rfl
 | cons p r ih=>
  cases r with
  | nil=>rfl
  | cons q r=>
   show `aF p++`Ya++PySem.Str.join (`Ya) ((q::r).map `aF)=`aF (`bap);rw[ih,Oi0,Oi0]
def Vm0{g:GE}{δ:Ds}{S:`Sc}(sep:`j)(parts:`dD)(B:Nat)(hS:S=`Ya)(hg:`au=`c (`bbh))(hB:∀p∈`FP,`aui<=B)(hz:parts.length*(B+`aGU)<=16777216):
  ib0 (gc (`r S)) `F0 δ=`c (`r (`bbg)):=by
 have O:∀l:`dD,(∀p∈l,`aui<=B)->((`cY `aF).map `aGT).sum<=`bT*B:=by
  intro l
  induction l with
  | nil=>intro _;simp
  | cons p l ih=>
   intro h;have:=`a47
   have:=h p A7;rw[`av,`av,List.sum_cons,`an,vb0,Nat.add_mul];lia
 have e1:=strs_map `aF `FP;rw[Ia0 (x:=`r S) (ds:=[`bbh]) rfl (`bk hg rfl)];simp only[Xn0];rw[e1,`h,`I,hS,J20];have:=O `FP hB;rw[hS,vb0,`T];rw[Nat.mul_add] at hz;lia
theorem h90:∀l:`j,`bbi=l
 | []=>rfl
 | [c]=>rfl
 | c::d::r=>by
  show[c]++[]++lk0 [] ((d::r).map `aet)=_;rw[h90 (d::r)];rfl
def signs:`j:=`auj `as!
def Hg0(k:Int)(h0:0<=k)(hk:`at5)(cs:`aB)(hc:`vh)(sm:`B)(m:Int)(pool:`i)(n:Nat)(hn:n<=20):∃l:`j,`bT=n/\(∀c∈l,c∈`lW)/\up0 `jC `t2=`c (`vf,`r4):=by
 let#[z,hz,he]:=`ba9;obtain⟨S,hS⟩:∃S:Str,S = `as! := `Y;have O:`bbj=`lW:=`bbk
 have Y:signs.length=37:=`bc
 let at':Nat->Nat:=λj=>`bbl (`RZ%37).toNat 0
 have U:∀j,at' j∈`lW:=λj=>by
  apply `bbm;apply `bbn;show `bbl _ 0∈`lW;rw[`bz,`ik `n];exact O0 _
 refine#[`auk,`bO,`G_,`bq `aul]
 ·let#[j,_,rfl]:=`eZ hc
  exact U j
 ·apply `bL [`JM,`bS,`ab',.un] (U9 (`bbk)) ?_
  refine m9 (δ':=`aul) (U9 (vi0 (`aNl he) rfl)) ?_;refine `JQ;have hp:`auk=lk0 [] ((`auk).map `aet):=(h90 _).symm;rw[hp];refine Vm0 [] _ 1 rfl ?_ `bbo `qY;have hr:tz0 `eK `aul=`c (`JR):=ml0 rfl `n `n;refine(pc0 hr (`o oj0 (B7 (`cP (_<=20)) `u)) (Vo0 (λj=>`e5 [at' j]) λj hj=>#[`Yb,rfl,rfl,?_])).trans ?_
  ·have d1:o2 `aE `aLV c7 `Yb=`lV (z/(`cG+1)):=by
    apply `dq (`j7<`cG+1/\`cG+1<1073741824) `bU (z/(`cG+1));rw[`vk]
   have d2:o2 `am `am yr0 `Yb=`lV `xd:=`baS (`aum);have d0:o2 `a?p `a?q Z7 `Yb=`c (`g `RZ):=`A7 (n6 d1 d2);have d3:=v70 (gb:=`adU) d0 rfl `aL4;apply `bbm;apply `bbn;rw[n6 (x:=`r S) rfl d3];show (`n7 (`dF<=`R) ((atI `bbj _).map _))=_;rw[`I (`ahA hS),O,sx0 a1 (`o Y a2) 0];rfl
  ·rw[`b?,`f4,`f4]
   rfl
def NB1:GS:=u6 `a!?
 t8
def NB2:GS:=u6 `a?a
 (u6 `a?b
 (u6 (ifD `JA
 (u6 `a?c
 t8)
 (u6 (ifD `as9
 (u6 `a?d
 t8)
 (u6 `a?e
 t8))
 t8))
 t8))
def code(N:Int)(k:Nat):`j:=[cg `adH,`bbp]
def nmF(N:Int)(w:`j)(a k:Nat):`j:=`w (N%3=0) `bbq (`w (N%3=1) `bbr `bbs)
def mm0{g:GE}{gl gh:GO}{δ:Ds}{d:D}{l h:`aI}(h1:`kr)(h2:gl δ=`qk)(h3:`yM=`c h):wz0 g gl gh δ=slA d l h:=by
 delta wz0;rw[h1,`h,h2,`h,h3,`h]
def jt0{g:GE}{δ:Ds}{i:Int}(h:`au=`Hj):`fD g δ=`c `T3:=by
 delta someO;rw[h];rfl
def a70(w:`j)(i:Int)(h0:`jS)(h1:i<=`dA)(hl:`Yc):slA `r1 `e `T3=`c (`e5 (`O5 `ix)):=by
 apply `n?
 simp only[slA];rw[`I (`bbt),Gw.Bq0 _ _ h0 h1]
def Ea0(N:Int)(w:`j)(hw:`dA=8)(a:Nat)(ha:a<7)(k:Nat)(hk:k<100)(names:`i)(hl:`bbu)(s1 s4 s8:Sl):
  NB2 (`L5 `aa6 s8)=`bbv [`aF (`tm)]:=by
 apply `n?
 have cl:(`z `sa)=2:=rfl;refine m5 (δ':=(`L5 `aa6 (.sh (`aun)))) (yn0 (d:=`aun) (by
  rw[`A9 `xb `adH];exact `auo)) ?_
 refine m5 (δ':=`FQ) (yn0 (d:=`xs) (by
  rw[n6 (x:=`aun) (y:=`e5 [`bbp]) rfl (by
   rw[`A9 `xb `aIR];exact `auo)]
  apply `Yd)) ?_
 have app:∀(g:GE) (l:`j),g `FQ=`c (`vf) ->
   u6 (T8 (sg0 6 g)) t8 `FQ=`bbv [`r8]:=λg l h=>by
  refine m5 (Gw.P70 (l:=`aC1) (d:=`vf) rfl h `pT) ?_;rw[`aQ];rfl
 refine `aup;have c3:∀j:Int,ob `ba2 `FQ=`ak (N%3=j):=`at?
 by_cases q0:N%3=0
 ·rw[`ma c3 `aue,show `tm=`bbq by delta nmF;rw[`I q0]]
  refine `auq;rw[n6 (x:=`e5 (`O5 a)) (y:=`xs) (by
   show slA `r1 `e (`c `ws)=_;rw[`bbw,`b?]) rfl]
  exact `bbx
 ·rw[`mb c3 `auf]
  refine `aup
  by_cases q1:N%3=1
  ·rw[`ma c3 (`ar q1),`bby `bbr `I]
   refine `auq;rw[n6 (x:=`e5 (`aIS)) (y:=`xs) (by
    show slA `r1 `e (`c (`cv%7))=_;rw[`bbw,`cP ((`cv%7).toNat=k%7)]) rfl]
   exact `bbx
  ·rw[`mb c3 (`aR q1),`bby `bbs `Q]
   refine `auq
   by_cases q3:35<k
   ·have e:`bbz=`c (`ou):=by
     rw[n6 (x:=`eV) (y:=`eV) rfl (by
      rw[N6 (ds:=[`h2]) (`bk (by
       apply `bbA;rw[`oa]) rfl)]
      rfl)]
     rfl
    rw[`aur `xs 2 (jt0 e)];rw[`I q3];exact a70 _ 2 `n `Ye `Ye
   ·have e:`bbz=`bbB:=by
     rw[n6 (x:=`eV) (y:=`ez) rfl (by
      rw[N6 (ds:=[`mq]) (`bk (by
       apply `bbA;rw[`i']) rfl)]
      rfl)]
     rfl
    rw[`aur `xs 1 (jt0 e)];rw[`Q q3];exact a70 _ 1 `n `Ye `Ye
def ds0(N:Int)(k:Nat):∀c∈`sa,`aus:=(λc hc=>by
 delta code at hc;rcases `cg hc with rfl|hc
 ·exact `aut
 ·rw[`gs hc];exact `aut)
def c20(N:Int)(k:Nat):(`z `sa)=2:=(rfl)
def Gk0(N:Int)(w:`j)(hw:`dA=8)(a:Nat)(ha:a<7)(k:Nat):0<`bbC/\`bbC<=8:=by
 delta nmF;split
 ·rw[`W,`fN,c20];lia
 ·split
  ·rw[`W,`fN,c20];lia
  ·rw[`fN,c20];split<;>lia
def Ff0(N:Int)(w:`j)(hm:∀c∈w,`aus)(a k:Nat):∀c∈`tm,`aus:=(λc hc=>by
 delta nmF at hc;split at hc
 ·rcases `auu with q|q
  ·exact `bbD
  ·exact `bbE
 ·split at hc
  ·rcases `auu with q|q
   ·exact `bbD
   ·exact `bbE
  ·exact ds0 N k c (f8 hc))
def Hw0(z:Int)(sm:`B):∃n:Nat,n<=12/\∀(p:`d) (k:Int) (cs:`aB) (m:Int) (pool:`i),
  Z3 (ifD `XO
 (u6 `XP
 t8)
 t8) (`ni `JM `Qv)=`af (`ni `JM `bS):=by
 cases sm with
 | true=>
  refine#[`bbF,`E,`bbG];rw[`aat,`cP ((`aM `bbF)=z/4%4)];rfl
 | false=>
  have ix:∀(s0:Sl) (t:Nat) (r:Int),`Yf=`auv->([`Qw,`Qw,z/4%13]:`aB)[t]?=`bK->`bbH:=λs0 t r ht hr=>by
   have hl:t<3:=by
    have:=(`ch hr).1
    apply `dX `F
   rw[n6 (x:=`s (`bbI `g)) (y:=`g `auv) `abp (`Vd ht)];show atI (`bbI `bU) `auv=_;rw[sx0 `n `qY `x,`b?,`bz,`dl,hr];rfl
  have O:∀r:Int,(∀s0:Sl,`bbH)->0<=r->r<=12->∃n:Nat,n<=12/\∀(p:`d) (k:Int) (cs:`aB) (m:Int) (pool:`i),
   Z3 (ifD `XO
 (u6 `XP
 t8)
 t8) (`ni `bbJ `Qv)=`af (`ni `bbJ `bS):=λr h h0 h1=>by
   refine#[r.toNat,`E,`bbG];rw[`JS,`cP ((`aM r.toNat)=r)];exact m5 (yn0 (h _)) rfl
  have:`Yf=0∨`Yf=1∨`Yf=2:=`E
  rcases `F with q|q|q
  ·exact `auw 0
  ·exact `auw 1
  ·exact `auw 2
def Ga0{δ:Ds}{p:`d}{k:Int}{cs:`aB}{sm:`B}{m:Int}{vs:`k}{gi:GA}{f:`aJ}{k':Int}(h0:δ[0]?=`c (`JM))(hi:`UC)(hl:`uV)
  (hc:`bbK) (j:Nat):
  dx0 j (ru0 1 [0] 0 1 gi `cM `acD) δ=`af ((`el 0 `bbL).set j (`DB)):=by
 delta dx0 ru0;rw[h0];show `A' (`z' _);rw[hi,`h,`na];have e:uu0 1 [0] δ=`Ns:=by
  show[`tN]++[e00 δ[0]?]=_;rw[h0];rfl
 rw[e];show `A' (`rs `ag3);rw[hc];rfl
def G50{ga:GE}{δ:Ds}{d r:D}(h:`df=`aX)(hf:`ku)(hx:`gr=`bbM):Vz0 ga gx δ=`c (`H [d,r],δ'):=by
 delta Vz0;rw[h,`h,`u5,hx];rfl
def Nk0(xs:`k)(k:Nat):cutD xs (`c `cv) `e=`s8 k:=by
 delta cutD sIx;simp only[];rw[`aux,`b?]
 by_cases q:k<=`ax
 ·rw[`TZ q,`bbN]
 ·rw[`auy,`auz `bQ,`auz `n,`bbO]
def comp_own{δ:Ds}{k:Int}{cs:`aB}{sm:`B}{m:Int}{vs:`k}{gi:GA}{f:`aJ}{k':Int}(h0:`bY=`pQ `jC)(hi:`UC)(hl:`uV)
  (hc:`bbK):
  ru0 1 [i] i 1 gi `cM `acD δ=`c (`wM,`gA (`FR)):=by
 delta ru0;rw[h0];show (`z' _)=_;rw[hi,`h,`na];have e:uu0 1 [i] δ=`Ns:=by
  show[`tN]++[e00 `bY]=_;rw[h0];rfl
 rw[e];show (`rs `ag3)=_;rw[hc];rfl
def H40{δ:Ds}{d:D}(h:`at_):Vr0 gx δ=`pU:=by delta Vr0;rw[h];rfl
def Fa0{f:`O}{δ:Ds}{d r:D}(h:`at_)(hf:f [d]=`bK):Xy0 f gx δ=`bbM:=by
 delta Xy0;rw[h,`h];show (f [d]).map _=_;rw[hf];rfl
def bk3(cs:`aB)(sm:`B):D:=`b4 (`m [`at0,`at1,`at2]) [`ez,`mQ,`vg]
def bk4(cs:`aB)(sm:`B)(m:Int):D:=`b4 (`m [`at0,`at1,`at2,`baJ]) [`ez,`mQ,`vg,`g m]
omit Bt
namespace Rk
open DL W Rm
open Bt (U6 m9 b8 U9 xb0 yi0 M8 K8 Y0)
def kindS:Nat->Str
 | 0=> `Lk
 | 1=> `LW
 | 2=> `LI
 | _=> `Cw
def zi0:`aw->Str
 | `jm=> `abI
 | `eY=> `gb
 | `fR=> `qj
 | `f? => `jB
 | `kN=> `nh
 | `d1=> `fG
def xg0(S:RS)(k:Nat):D:=`H [`r (`rZ (`ND k `pF).1),`ahd]
def inst(S:RS):D:=`H [`r `bd,`s [`Cq,`aCe,`r `v3,`Cg,`r `v5,`r `m1,`r `iq,`r `qC],
 `s [`g `Qx,M7 1,M7 2,M7 3,M7 4,`Sm,`JT,`t1]]
def nodes(S:RS):`k:=`auA (`ag5::`s3 λp=>`s p.2)
def R(S:RS):D:=`ob `L1
def Fg0:uc0 (Qa0 `bd) []=`c (`x,R `k5):=(
 W50 rfl λp=>`p #[rfl,[`a6 (R `k5)],`dZ,rfl])
section
variable(p:`d)(S:RS)(δ:Ds)
def td0:dpN 0 `bI=`c `EK:=(rfl)
def Iu0:`rt `o5=`bbP:=`dZ
def Sr0:`rt `ji=`auB:=`dZ
def lm0:`rt `v3=`auC:=`dZ
def fq0:`rt `oU=`c (M7 3):=`dZ
def nt0:`rt `v5=`c (M7 4):=`dZ
def Lc0:`rt `m1=`c (`Sm):=`dZ
def Kw0:`rt `iq=`c (`JT):=`dZ
def Nz0:`rt `qC=`c (`t1):=`dZ
def d10:`Yg `k8 `bbQ:=by
 delta ws0;rw[nt0,`h,td0];show `A6 `auD;rw[`T,`lx]
def p60:`Yg `sD `QB:=by
 delta ws0;rw[Sr0,`h,td0];show `A6 (`z `xX);rw[`T,`JU]
def T30:`Yg `j' (`g `auE):=by
 delta ws0;rw[lm0,`h,td0];show `A6 (`z `ql);rw[`T,`lx]
def q20:`Yg `s6 `RF:=by
 delta ws0;rw[fq0,`h,td0];show `A6 `bbR;rw[`T]
omit z
def jy0(S:RS):wp0 `bo []=`c (`pL `Yh,R S):=(U6 rfl λp=>#[`ee,show ov0 `ee=_ from b8 (M8 (K8 (by
 rw[`bbS []];show `a5 (`adK=0);congr 2
 by_cases h:`Yh
 ·rw[`i!,`ar (`arc)]
 ·rw[`iT,`aR (λz=>h (List.eq_nil_of_length_eq_zero `n))]))),rfl])
def wc0(k:Nat):`bbT:=by
 delta M7 t70;exact ut0 k
def om0{es:`k}{k:Nat}{z:Int}(h:`ff=`f5):fo0 ns (M7 k) `vX=atI es z:=by
 delta fo0 M7;simp only[ut0,h]
def item_tup{z:Int}(h:`aGY):fo0 ns `pr `vX=atI ds z:=by
 delta fo0;simp only[h]
structure Ok(S:RS):Prop where
 un:∀k∈`a7,`A!
 few:`Yi
 held:∀p∈`cI,p.2.length<=1000
 wait:`s2<=100000
 names:`auF
def oz0(p:`d)(S S':RS)(δ:Ds)(k:Nat)(n:D)(h:`auG k n=`Mz S'):`kY 0 k n `bI=`uk::δ:=by
 show `Cp (`H [`a76,`ob (`auG k n)])::δ=_;rw[h];rfl
def Ro0{S S':RS}(h:∀k:Nat,(S'.begun.getD k `pF).1=(`ND k `pF).1):xg0 S'=`My:=by
 funext k
 delta xg0;rw[h]
def put(S:RS)(k:Nat)(d:D):RS:={ S with begun:=`vd }
def Ko0(S:RS)(k:Nat)(d:D)(j:Nat):((`aaK).begun.getD j `pF).1=(`ND j `pF).1:=by
 show ((`vd).getD j `pF).1=_;rw[`bz,`bz,`JV];cases `cI[j]? with
 | none=>rfl
 | some a=>
  by_cases q:k=j
  ·simp[q]
  ·simp[q]
def Nq0(S:RS)(k:Nat)(d:D)(q:`e2)(hk:`kx):`auG (k+5) (`s (`FT))=`Mz `yX:=by
 show `auA (`ag5::`bbU)=_;have e1:`bbU=(`vd).map `aC?:=by
  apply B40;intro i;rw[`dl,`JV,`Yj,`dl,`T]
  by_cases z:k=i
  ·subst z
   have hl:=(`ch hk).1;rw[`a_,`na,hk];simp
  ·rw[`cc]
   simp[z]
 rw[e1,← Ro0 (Ko0 S k d)];show _=inst `yX::`ru (`bJ (`z `vd)) (xg0 `yX)::_;rw[`auH];rfl
def yc1(p:`d)(S:RS)(δ:Ds)(k:Nat)(u:`j)(h:`vl):wf0 0 `aiN `bF `bI=`c (`ahd):=by
 have e1:wf0 0 `j' `k9 `bI=`bbV:=by
  delta wf0;rw[lm0,`h,`bbW,`h,td0,`h];rw[`bbX];rw[h,`eh,`aQ];exact `Yk
 delta wf0 at e1 ⊢;rw[e1,`h,`a0 (gc (`eV) (`t_::δ)=`bbB),`h,td0,`h];delta xg0;rw[item_tup rfl];rfl
def Vk0{G:GSB}{b:D}(hl:`nD)(h:∀p,`u! (G `ne=`eD)):`adu=`c (`x,b'):=(W50 hl λp=>`p #[rfl,h p])
def rh0(S:RS):RS:={ S with wait:=`xt }
def Sa0(S:RS):RS:=`yW 0
def Fk0(S:RS)(d:D):`Cy=Sa0 (rh0 (match `a7 with|[]=>S|k::_=>`aaK)):=by
 skip;let#[c,b,u,n,w,dg,l,sp]:=S;done;cases u<;>rfl
def Vu0(p:`d)(S:RS)(δ:Ds)(h:`vm):popS 0 `k8 `bI=`oc `A?:=by
 delta popS;rw[nt0,`h,td0,`h,wc0,`h];show `auI `xV (`kY 0 4 (`Qz `xV) _);rw[`Q `nc,oz0 p S `A?];cases e:`cd with
 | nil=>exact `J e h
 | cons w ws=>
  show `auA (`Qz (`auJ `mm)::`s3 _)=inst `A?::`s (`aBi (xg0 `A?))::`s (`aA2 (xg0 `A?))::`adJ::`s (S.wait.tail.reverse.map `Cx)::`s3 _;rw[e,`eh,`aQ,`Yl,`Ym];rfl
def cd0(p:`d)(S:RS)(δ:Ds)(g:GE)(z:Int)(hg:`Ba=`X9):`auK `m1=`oc (`yW z):=by
 delta qh0;rw[hg,`h];kernel_rfl
def L20(p:`d)(S:RS)(δ:Ds)(k:Nat)(u:`j)(h:`vl)(hk:`A!)(g:GE)(d:D)(hg:`Ba=`aX)(hn:`n9)(hl:∀q∈`cI,`wT<=1000):
  T8 (qi0 0 `a?1 g) `bI=`af (`bbY::δ):=by
 apply `rv
 have e:`cI[k]?=`c `cI[k]:=C4 hk;have hq:=hl _ (O0 hk);delta T8 qi0;apply `Yn (yc1 p S δ k u h) hg;have e2:`aI!=`c (`s `cI[k].2):=by
  show `auL;rw[`dl,e];rfl
 rw[e2];show `A' (`w (`n9/\`cI[k].2.length<`R) _ `e);rw[`I #[hn,`E],oz0 p S `yX δ _ _ (Nq0 S k d _ e)];rfl
def kr0(S:RS)(ok:Ok S)(hw:`vm)(d:D)(hn:`n9):xl0 `bo [d]=`c (`x,R `yb):=by
 refine Vk0 rfl λp=>(`qv [`aCK,`cJ])
 show m20 `auM=_;have c0:ob `a?0 `auM=`ak (0<`xW):=by
  apply `aC;rw[`aq (`g `auE) `ez (T30 p S _)];show `a5 (`j7<`auE);congr 2;apply `rx
 have rest:∀S1:RS,`bbZ->u9 `a?2 (u9 `a?3 `q) [`aJx,`cJ]=`af [`a6 (R (Sa0 (rh0 S1))),`cJ]:=λS1 h1=>by
  refine m9 (U9 (Vu0 p S1 [`cJ] (`o h1 hw))) (`Yo (cd0 p (rh0 S1) [`cJ] `ce 0 rfl))
 rw[Fk0];cases hu:`a7 with
 | nil=>
  apply `bL `auM ?_ (`aA S rfl);rw[yi0 `bb_];rfl
 | cons k u=>
  apply `bL [`bbY,`cJ] ?_ (`aA `yX rfl);rw[xb0 `bb_];exact `Yo (L20 p S [`cJ] k u hu (ok.un k `bb0) `V d rfl hn ok.held)
def d80{a b:`aw}:zi0 a=zi0 b↔a=b:=by
 constructor
 ·intro h
  cases a<;>cases b<;>first|rfl|exact `J h `c7
 ·rintro rfl;rfl
def gv0(p:`d)(S:RS)(δ:Ds)(w:`aw)(ws:`ag)(h:`dW):plN (wf0 0 `k8 `k9) `bI=`auN:=by
 delta plN wf0;rw[nt0,`h,`bbW,`h,td0,`h,`FU `xV,h,`eh,`aQ];have:atI (ws.reverse.map (`Cx)++[w].map `Cx) (-1)=`auN:=`Yk;rw[`F];rfl
def mn0(p:`d)(S:RS)(δ:Ds)(w:`aw)(ws:`ag)(h:`dW)(v:`aw):ob (`Sk `bb1) `bI=`ak (w=v):=by
 apply `aC;rw[`aq `CK `aIW (gv0 p S δ w ws h)];apply `bb2;congr 2;exact `auO
def Fz0(p:`d)(S:RS)(δ:Ds)(k:Nat)(u:`j)(h:`vl):popS 0 `j' `bI=`oc `bb3:=by
 delta popS;rw[lm0,`h,td0,`h,wc0,`h];show `auI `ql (`kY 0 2 (`bb4) _);rw[`Q (`pD h),oz0 p S `bb3];show `m2::`adI::`bb4::_=`m2::`adI::`s (u.reverse.map `Ll)::_;rw[h,`eh,`aQ,`Yl,`Ym]
noncomputable def ET:GB:=`a?Y
def EB:GS:=u6 `agW
 (u6 (popS 0 `j')
 t8)
def zr1(p:`d)(S:RS):ET `ee=`ak `bb5:=by
 have c0:ob `aNg `ee=`ak (0<`s2):=by
  apply `aC;rw[`bbS _];show `a5 (`j7<`adK);congr 2;apply `rx
 delta ET xd0;rw[c0];cases h:`cd with
 | nil=>rfl
 | cons w ws=>
  show ob _ _=_;rw[`a0 ((`fG: Str)=zi0 `d1),mn0 p S [] w ws h `d1];simp
def Y80(p:`d):∀(w:`ag) (S:RS) (n:Nat),`cd=w->`dA<n->`bb6<=`xW->vy0 ET EB n `ee=`af `bb7:=by
 intro w
 intro S
 intro z2;induction z2 generalizing w S with
 | zero=>intro _ h _;exact `J h `t4
 | succ n iq=>
  intro hw hn hc
  delta vy0;rw[zr1];cases w with
  | nil=>
   have e:`JW:=by
    skip;apply `bb8;have:w=[]:=hw;subst this;done;rfl
   rw[hw,e];rfl
  | cons v ws=>
   rw[hw]
   by_cases hv:v=`d1
   ·subst hv
    rw[`a0 (`X ((`Bb::ws).head?=`c `Bb)=`f)];cases hu:`a7 with
    | nil=>
     rw[hu,`auP] at hc;simp at hc
    | cons k u=>
     have hb:EB `ee=`af [`a6 (R `auQ)]:=
      m5 (Vu0 p S [] `JX) (m5 (Fz0 p `A? [] k u hu) rfl)
     simp only[hb];have ih:=iq ws `auQ (`abz ws hw) (by simp at hn;omega) (by
      rw[hu,`auP] at hc;show _<=`FV;simp at hc;exact hc)
     rw[ih];have e:(`auQ:RS).ends=`C_:=by
      skip;let#[c,b,u',nm,w,dg,l,sp]:=S;have h1:w=`MB:=hw;have h2:u'=k::u:=hu;subst h1 h2;done;rfl
     rw[e]
   ·have e:`JW:=by
     skip;apply `bb8;have:w=v::ws:=hw;subst this;done;apply `t8 v `bb9
    rw[`aR `amA,e]
def Ux0(S:RS)(hl:`bb')(hc:`bb!):uw0 `bo []=`c (`x,R `C_):=(
 Vk0 rfl λp=>#[`bb7,show q00 `ee=_ from `Yo (Y80 p `cd S 100000 rfl hl hc),rfl])
def uj0{f:`aJ}{gA:GA}{p:`d}{S S':RS}{δ:Ds}{r:D}(hA:gA `bI=`oO)(hf:`Yp=`gC):xx0 0 `bd d9 gA f `bI=`c (r,`uk::δ):=by
 have h:`ajn:=`dZ
 delta xx0;show `bb?;rw[`cA,hA,`h];show `A' `Yp;rw[hf];rfl
def q90(S:RS)(kd:Nat):RS:={ S with begun:=`xY,un:=`JY }
def co0(S:RS)(kd:Nat):∀k,`A!->xg0 `t0 k=`Qy:=(λk hk=>by
 delta xg0;show `bca k;rw[`bz,`fa hk,← `bz])
def P50(S:RS)(kd:Nat):xg0 `t0 `a1=`Yq:=by
 delta xg0;show `bca `a1;rw[`bz,`nE,`iF];rfl
def Tf0(S:RS)(kd:Nat)(hu:∀k∈`a7,`A!):`bcb=`m2::`s (`xX++[`Yq])::`s (`ql++[`Yq])::`bcc:=by
 show `m2::`ru (`bJ `auR) (xg0 `t0)::`s ((`JY).reverse.map (xg0 `t0))::`eE::`eE::(`xY).map (`aIX)=_;rw[`W,`e8,`auS,`aQ,`Yl,`eh,`aQ,`Yl,`aQ,P50,
  `bcd (g:=`My) (λk hk=>co0 S kd k (`apX)),`bcd (g:=`My) (l:=S.un.reverse) (λk hk=>co0 S kd k (hu k (List.mem_reverse.mp hk)))]
 rfl
def Ku0(p:`d)(S:RS)(kd:Nat)(s2 s3:Sl)(hu:∀k∈`a7,`A!)(h1:`a1<=1000)(h2:`bce):
  mz0 0 3 `V `sD `j' `auT=`af [`a6 (R `t0),`sq,s2,.un]:=by
 skip;apply `rv
 obtain⟨dp,U⟩:∃dp:D,dp=`Yq:=`Y;have Y:(`z `L1)=`a1+5:=by
  show (`z `adL)+5=_;rw[`T]
 obtain⟨L,hL⟩:∃L:`k->`auU,L=λb u=>`m2::`s b::`s u::`bcc:=`Y
 obtain⟨N0,O⟩:∃N0:`k->`k->D,N0=λb u=>`ob (L b u):=`Y
 have dN:`JZ (dpN 0 `J_=`c (L b u)):=λb u δ=>`auV
 have a0:(op0 0 `h9 `auT).set 3 .un=[`a6 (N0 (`xX) (`ql)),`sq,s2,.un]:=`b9 O hL
 have fb:`JZ (T5 0 `bd `ji `kG `J_=`auB):=`bcf
 have fu:`JZ (T5 0 `bd `v3 `kG `J_=`auC):=`bcf
 have a1:`JZ (`bcg->ny0 0 `sD dp `J_=`c (`a6 (N0 (b++[dp]) u)::δ)):=λb u δ hb=>by
  delta ny0;rw[fb,`h,dN,`h,wc0,`h,hL];show (`ba `bcg (`kY 0 1 (`s (b++[dp])) _))=_;rw[`f_,O,hL];rfl
 have a2:`JZ (`bch->ny0 0 `j' dp `J_=`c (`a6 (N0 b (u++[dp]))::δ)):=λb u δ hb=>by
  delta ny0;rw[fu,`h,dN,`h,wc0,`h,hL];show (`ba `bch (`kY 0 2 (`s (u++[dp])) _))=_;rw[`f_,O,hL];rfl
 done;delta mz0;rw[`a0 (gv 1 `auT=`c (`oR)),`h,td0,`h,`I (`a0 (`cH (`cs (`rZ kd))=`f)),Y,← U,a0,a1 _ _ _ (`fB `T `JU),`h,a2 _ _ _ (`bci)];have e:N0 (`xX++[dp]) (`ql++[dp])=R `t0:=by
  rw[O,hL,U];show `j4 _=`ob `bcb;rw[Tf0 S kd hu]
 rw[e];rfl
def wd(w:`ag):`k:=w.map `aDh
def Nx0(w:`ag):`q' ((`jT n (wd w))=`bcj):=by
 intro z;induction z with
 | zero=>exact rfl
 | succ n ih=>rw[`fk,`hK,ih,`fk,`hK];delta wd;rw[`aQ]
def Z40(w:`aw):`q' ((`jT n [w])=`bG n w):=by
 intro z;induction z with
 | zero=>exact rfl
 | succ n ih=>rw[`fk,`hK,ih,`fk];rfl
def ct0(w:`ag)(hw:w≠[])(hl:`dA<=2)(n:Nat)(hn:n<=100):mulL (`s (wd w)) `vP=`n3 `bcj:=by
 apply `dq (wd w≠[]/\0<=`aW/\`aW<`hI/\`auW*`bck<=`agr) `gy (`jT `bck (wd w));have h1:wd w≠[]:=by delta wd;apply `dX hw
 have h2:`auW<=2:=by delta wd;rw[`T];exact hl
 have h3:`auW*n<=2*100:=Nat.mul_le_mul h2 hn;rw[`I #[h1,`E,`E,`ci `b?],`b?,Nx0]
def Np0(kd:Nat)(hk:`eS)(n:Nat)(hn:n<=100):qd0 `auX=`n3 (wd (`hg)):=by
 apply `n?
 have c:`bcl `bS:=`bcm
 apply `Yr
 ·refine `JN;show `nF [.sh (`pk),`bS];apply `Bc;apply `vj;rw[`ag6 [`fR],`ag7 [`fR],Z40];rfl
 ·refine `Bd `bcn `bcn `ic;apply `Bc;apply `vj;rw[`ag6 [`eY],`ag7 [`eY],Z40];rfl
 ·refine `Bd `auY `auY (`Ys `auY `ic);apply `Bc;apply `vj;rw[`bco,`bcp];rfl
 ·refine `Bd `Yt `Yt (`Ys `Yt (`vn `Yt `ab?));rw[n6 (x:=`s (wd [`kN])) (y:=`s (wd `atS)) rfl (by
   rw[`bco];exact `bcp)]
  simp only[Z7];have hl:`Yu=n*2:=`bO
  rw[`I (by delta wd;rw[`T,`T,hl];simp;lia)];rfl
def Sx0(kd:Nat)(hk:`eS):ro0 [`oR]=`c (`auZ):=by
 apply `Yr
 ·kernel_rfl
 ·kernel_rfl
 ·kernel_rfl
 ·kernel_rfl
def await(S:RS)(w:`ag):RS:={ S with wait:=w++`cd }
def Kq0(p:`d)(S:RS)(δ:Ds)(w:`aw)(hl:`bb'):T8 (qi0 0 `k8 (gc `DI)) `bI=`oc `bcq:=by
 have z:`bcr:=`aV
 delta T8 qi0;apply `Yn nt0 (`a0 (gc `DI (`t_::δ)=`auN));show `au_ (nrf `DI=`f/\`auD<`R) 4 `bcs;rw[`t7 `bci,oz0 p S `bcq]
 ·rfl
 ·show `Yv `bcs=`Yv (`s (`auJ (w::`cd)))
  rw[`eh,`aQ];rfl
def J10(p:`d)(S:RS)(δ:Ds)(g:GE)(ws:`ag)(hg:`Ba=`c (`s `ag8))(hl:`s2+`amz<100000):T8 (extN 0 `k8 g) `bI=`oc `bct:=by
 have z:`bcr:=`aV
 have hf:∀ws:`ag,`bcu:=λws=>by
  refine qe0 ?_;delta flats wd;rw[`uo];intro d hd;rw[List.mem_reverse] at hd;let#[w,_,rfl]:=`ky;rfl
 delta T8 extN;apply `Yn nt0 hg;show `au_ (`bcu/\`auD+(wd ws).reverse.length<=`R) 4 `bcv;rw[`I #[hf ws,by delta wd;rw[`T,`lx,`lx,`T];lia],oz0 p S `bct]
 ·rfl
 ·show `Yv `bcv=`Yv (`s (`auJ (ws++`cd)))
  rw[`bcw,`aQ];delta wd;rw[← `bcx];rfl
def de0(k:Nat):nrf (link k)=`f:=by
 delta link nrf;rw[`b5];refine#[?_,rfl];show (s20 `bau).isNone=`f;show (`dM (`a6A = "@") (`cv).toNat).isNone=`f;rw[`Q `c7];rfl
def rb0(S:RS)(d:D):`bcy=`a1:=by
 delta RS.hold;cases `a7 with
 | nil=>rfl
 | cons k u=>exact `auH ..
def Ow0(S:RS)(d:D):`bcz=`xt:=(rfl)
def lo0(S:RS)(kd:Nat)(n:Nat):RS:=`QA `bcA (`hg)
def H70(S:RS)(kd n:Nat)(h1:n<=(`Oj))(h2:`J0):`au0=`c (`ry):=by
 delta RS.part;rw[`Q (by
  rintro (q|q)
  ·split at q<;>split at h1<;>lia
  ·exact h2 q),`b?]
 rfl
def cv0(kd n:Nat)(hn:n<=20):`bcB<=50:=by
 have hl:`Yu=n*2:=`bO
 match kd with
 | 0=>apply `Yw;rw[`kh];lia
 | 1=>apply `Yw;rw[`kh];lia
 | 2=>show `Yu<=_;rw[hl];lia
 | k+3=>show `bcC;rw[`an,hl];lia
def X20(S:RS)(ok:Ok S)(hw:`vm)(hl:`s2<=10000)(hul:`bce)(kd:Nat)(hk:`eS)(n:Nat)(h1:n<=(`Oj))(h2:`J0):v00 `bo `auX=`rz (`ry):=by
 have O:n<=20:=by split at h1<;>lia
 refine `bq [`a6 (R (`ry)),`sq,`bS,.un]
 show tv0 `J1=_;have c1:ob `atK `J1=`bu:=by
  apply `aC;rw[`fS `gl `auZ `bcD];show `a5 (`acE<`aW);rw[`aR (by split at h1<;>split<;>lia)]
 have c2:ob `atL `J1=`bu:=by
  apply `aC;rw[`bcE];show `bcF;rw[`i']
 refine m9 (δ':=`J1) (by
  rw[yi0 (by delta wg0;rw[c1];exact c2)];rfl) ?_
 have hh:xl0 `bo [`Lj]=`c (`x,R `FW):=kr0 S ok hw _ (de0 _);have ca:xx0 0 `bd d9 `a?7 xl0 `J1=`c (`x,`bcG):=
  uj0 (`bk (rj0 (`lz rfl `QC) `AG) rfl) hh
 apply `bL `bcG (U9 (by delta T8;rw[ca];rfl)) ?_;have Y:=rb0 S (`Lj);have few:=ok.few;refine m9 (Ku0 p `FW kd (`bS) .un (λk U=>`o Y (ok.un k U)) `n hul) ?_;have tl:`bcH<=10000:=by
  rw[Ow0,List.length_tail];lia
 refine m9 (U9 (Kq0 p `aL5 _ `d1 (`d7 (`bcH<_)))) ?_;refine m9 (U9 (J10 p `bcA _ _ (`hg) (by
  rw[N6 (ds:=[`s (wd (`hg))]) (`bk (by
   rw[`bw `auX];exact Np0 kd hk n `n) rfl)]
  rfl) (by
  have:=cv0 kd n O;show (`z (`Bb::`au1))+_<_;rw[`an];lia))) ?_
 exact `d0
def T70(n:Int):mj0 `V4=`lV (j80 n):=by
 have c:ob `a?8 [`rQ]=`ak (n%2=1):=`jU
 by_cases h:n%2=1
 ·refine `JN
  show `bcI;rw[`ma c `i!];delta j80;rw[`cA];apply `J2
 ·refine `i9 (`vo [`rQ] (by show `bcI;rw[`mb c `iT];rfl))
  delta j80;rw[`dO];apply `J2
def Ks0(q:Nat)(hq:q<4):atC `OD (`g (q:Int))=`c (`r (`rZ q)):=by
 rcases k4 hq with rfl|rfl|rfl|rfl
 ·kernel_rfl
 ·kernel_rfl
 ·kernel_rfl
 ·kernel_rfl
def i20(S:RS)(ok:Ok S)(ws:`ag)(hw:`cd=`eY::ws)(N:Int)(d:D)(hn:`n9)
  (h:N%4=1/\d=`g (j80 (N/4))∨N%4=2/\`ajo/\0<=N/\d=`bcJ∨N=0/\`R!):`au2=`rz `yb:=by
 have O:`vm:=`aBX
 refine `bq `Yx
 apply `au3;have cm:∀j:Int,`bcK:=`at?
 refine `bcL;apply `bL `ly (by apply `au4;rfl) ?_;refine m9 (δ':=`ly) (by
  rw[yi0 (`b9 `Ol (`QI `eY `jm))];rfl) ?_
 have hold:∀(gA:GA),gA `ly=`c [d]->u9 (`A0 gA) `q `ly=`af `Yx:=λgA hA=>by
  refine `Yy `Yx rfl;delta T8;rw[uj0 hA (kr0 S ok O d hn)];rfl
 apply `bL `Yx ?_ `iH;skip;rcases h with⟨h1,rfl⟩|⟨h1,h2,h3,rfl⟩|⟨h1,rfl⟩
 ·done;rw[`dp cm `JP]
  exact hold _ (`bk (`o (`bw [`LQ]) (T70 _)) rfl)
 ·done;apply `au4
  apply `bL [`a6 (R (`gg (`bcJ))),`kJ,`Ca] ?_ rfl;rw[xb0 (by
   delta xd0;rw[cm,`JP,`h,`a_];apply `aC;rw[`bcM];show `bcN;rw[`ar h2])]
  refine hold _ (`bk (rj0 (`bk rfl (`rA (`dg `aIZ) ?_)) `AG) rfl);rw[`aq (`GE `xa) `LQ (`ae (`aq `QB `eV `QC))];show `eg (`xa - 1 - N/4)=_;congr 2;omega
 ·done;apply `au4
  apply `bcO;rw[yi0 (by
   delta xd0;rw[cm,`Sl];rfl)]
  apply `bcO;rw[xb0 (by
   apply `aC;show `bcP;rw[`JP])]
  exact hold _ `mL
def y91{ga gb:GE}{δ:Ds}(h:`df=`iL):`au5=`iL:=`bcQ
def ze1{ga gb:GE}{δ:Ds}(h:`df=`j2):`au5=`dy:=`bcQ
def ck0(S:RS)(w:`aw)(ws:`ag)(hw:`dW)(n:Int):un0 `bo `V4=`c (.bl (`bcR),R S):=by
 refine `bq `Yz
 show qw0 `Yz=_;refine `JQ;have c1:o2 `MQ `ty eqD `Yz=`i0 `ge:=by
  rw[`aq `CK (`r (`adN)) `bcS];show `a5 (zi0 w=`adN);congr 2;exact `auO
 have c2:o2 `a?Z `a?_ leD `Yz=`i0 `aI0:=by
  rw[n6 (x:=`g (n*128)) (y:=`g 323) (`o (`aq `ev `v2 rfl) `aif) `ex];rfl
 by_cases hv:`ge
 ·rw[y91 (by rw[c1,`ar hv]),`ar (`adX hv)]
 ·rw[ze1 (`GG c1 hv),c2]
  congr 2;exact `li #[`p,λz=>z.resolve_left hv]
def ge0(p:`d)(S:RS)(δ:Ds):plN `a?9 `bI=`c (`Sm):=by
 delta plN;rw[Lc0];rfl
def Mm0(S:RS)(w:`aw)(ws:`ag)(hw:`dW)(b:Int)(hb:128<=b)(h0:`FX≠0)(hg:`bcT):`YA=`rz ((`yW `FX)):=by
 apply `bcU;rw[← hn] at h0 hg ⊢;refine `bq [`a6 (R `bay),`en,`rQ]
 show ua0 `il=_;refine m9 (δ':=`iG) (U9 (yn0 (d:=`ev) (by
  apply `bcV;rfl))) ?_
 refine m9 (δ':=`iG) (by
  rw[yi0 (by
   apply `aC;apply `au6;rw[`i'])]
  rfl) ?_
 apply `bL `iG ?_ ?_
 ·have t1:`bcW=`bcX:=by
   apply `Be;rw[show `bcY=`bu from Y0 (by
    show `YB (`au7);rw[`aub])]
   rfl
  have t2:`bcZ=`bcX:=by
   apply `Bf;rw[`bc_,`ar hg];rfl
  delta ifX orT;rw[t1,`h];apply `bc0;rw[`d6,t2];rfl
 ·refine `bc1 cd0 n
def Ng0(S S':RS)(b:Int)(hb:0<=b/\`Sn)(r:D)(h:wm0 `bo [`YC]=`gC):`YA=`gC:=by
 refine `bq [`uk,`en,.sh (`YC)]
 show ua0 `il=_;refine m9 (δ':=[`cq,`en,.sh (`YC)]) (U9 (yn0 (d:=`YC) (by
  rw[n6 (x:=`aL7) (y:=`oI) `aL8 (by
   show `eg (b%128)=_;rw[Int.emod_eq_of_lt hb.1 hb.2])]
  rfl))) `b!
 rw[xb0 (by
  apply `aC;apply `au6;rw[`ar hb.2])]
 apply `YD
def fc0(S:RS)(w:`aw)(ws:`ag)(hw:`dW)(b:Int)(p:`d)(G:GSB)(r:`hz)(h:G `YE=r):
  u9 (ifX `Q8 (u9 `co `q) `q) (u9 `bai G) `il=r:=by
 apply `bL `il ?_ (`Bg (yn0 `bcS));have t:`bc2=`c (`l,`il):=by
  delta xm0;rw[`YF,hw];rfl
 delta ifX;rw[t];rfl
def nq0(w v:`aw)(s0 s1:Sl):ob (o2 `aE `bb1 eqD) [s0,s1,`acb]=`ak (w=v):=by
 apply `aC;apply `bb2;congr 2;exact `auO
def gi0(S S':RS)(w:`aw)(ws:`ag)(hw:`dW)(hv:`od)(b:Int)(r:D)(h:`YA=`gC):`au8:=by
 apply `bc3
 show `YG;refine `au9 w `b!;rw[xb0 (by
  delta wg0;apply `au';apply `YH)]
 apply `YD
def d50(S S':RS)(ws:`ag)(hw:`cd=`fR::ws)(b:Int)(r:D)(h:vt0 `bo `pn=`gC):`au8:=by
 refine `bq [`uk,`en,`bc4]
 show `YG;refine `au9 `fR (`GB [`cq,`en,`bc4] `b!)
 ·rw[yi0 (by
   delta wg0;apply `au';rfl)]
  rfl
 ·rw[xb0 (by apply `bc5;rfl)]
  apply `YD
def ls0(p:`d)(S:RS)(δ:Ds):plN `aKC `bI=`c (`JT):=by
 delta plN;rw[Kw0];rfl
def Jy0(p:`d)(S:RS)(δ:Ds):ob `baj `bI=`ak `nK:=by
 apply `aC;rw[`aq `JT `ez `ahb];show `a5 (`j7<`abq);congr 2;apply `rx
def el0(S S':RS)(w:`aw)(ws:`ag)(hw:`dW)(hv:`oe)(b:Int)(r:D)
  (h:`nK/\we0 `bo `pn=`gC∨`ed/\xk0 `bo `pn=`gC):`au8:=by
 apply `bc3
 show `YG;refine `au9 w (`GB `YE (`GB `YE ?_))
 ·rw[yi0 (by
   delta wg0;apply `au';apply `YH)]
  rfl
 ·rw[yi0 (by apply `bc5;apply `YH)]
  rfl
 ·rcases h with⟨h0,h⟩|⟨h0,h⟩
  ·apply `dV
   rw[`dp Jy0 `aua];apply `YD
  ·apply `bL `YE ?_ (`aCL)
   rw[yi0 (`b9 Jy0 h0)];rfl
def H90(b:Int)(h:`rB):uf0 `pn=`iL:=by
 have w:qf0 `pn=`iL:=rfl;apply `J3;show qx0 `atO `bak [`en]=_;delta qx0;rw[show ob `atO [`en]=`dz from Y0 w,`h,`a_];have e1:leD `KT `vW=`iL:=`rC (`a5 (0<=b)) (`ar h.1)
 have e2:leD `vW `Pb=`iL:=`rC (`a5 (`gi)) (`ar h.2)
 delta vl0;simp only[`a0 (gc `KT [`en]=`J4),`a0 (gv 0 `bc6=`c `vW),`a0 (gc `Pb `bc6=`c `Pb),`h,e1,e2];rfl
def next(S:RS):RS:=(`au!:RS).ends
def Oa0(p:`d)(S:RS)(δ:Ds):Wp0 0 `bd `o5 `bF `bI=`oc `au!:=`dZ
def SB:GS:=u6 (ifD `a??
 (u6 (yp0 `aE)
 t8)
 t8)
 t8
theorem Ze0(b:Nat)(s1:Sl):∀(l:`j) (s2:Sl),(b∈l->`bc7=`c (.rt (`LS)))/\(b∉l->∃s2',`bc7=`af [`gY,s1,s2'])
 | [],s2=>#[(λh=>by cases h),λ_=>`bc8]
 | c::l,s2=>by
  let#[i1,i2]:=Ze0 b s1 l (`Mo);have cc:ob `aL0 `J5=`ak (c=b):=by
   apply `aC;rw[`YI `mo];show `a5 (`hY=`fv);congr 2;apply `rx
  by_cases h:c=b
  ·subst h
   refine#[`IM,λn=>`J A7 n];rw[`av];delta u50;have e:SB [`fx,s1,`Mo]=`c (.rt (`aby)):=by
    refine `B2;rw[`ma cc (`ar rfl)];apply `J2
   show `bc9 [`fx,s1,`Mo];rw[e]
  ·have e:SB `J5=`af `J5:=by
    refine `aup;rw[`mb cc `iT];rfl
   have st:u50 `cr SB ((c::l).map `aI4) `aI2=`ag! `J5:=by
    rw[`av]
    apply `au?
    show `bc9 `J5;rw[e]
   rw[st];exact#[λhm=>i1 (`QF (`cg hm) (`bc')),λhn=>i2 λz=>hn (B3 _ z)]
def pg0(b:Nat)(s:Str)(l:`j)(hs:`EJ=l)(hl:`bT<=100):q40 [`mo,`gf]=`c (`w (b∈l) `LS `x):=by
 have it:∀δ:Ds,oi0 `V (`gY::`Dx::δ)=`c `aC7:=fun δ=>by
  show `c (`lW s)=_;delta signs;rw[hs];rfl
 let#[i1,i2]:=Ze0 b (`Dx) l .un
 by_cases h:b∈l
 ·rw[`cA]
  exact `i9 (O9 (q70 (it _) (i1 h)))
 ·rw[`dO]
  let#[O,e]:=i2 h;exact `i9 (m5 (q70 (it _) e) (`aBY))
def Po0:(`auj `FY)=vp0:=`bc
def Un0:(`auj `EE)=xq0:=`bc
def Xf0(S:RS)(ok:Ok S)(hw:`vm)(b:Nat)(hb:`agY):`bc!=`rz `agZ:=by
 refine `bq `bc?
 show s00 `hk=_;refine m9 (δ':=`qn) (U9 (yn0 (by
  rw[`bda,`bdb,`f_]))) ?_
 apply `bL `qn (`ae (yi0 `ex)) ?_;refine `Yy `bc? `iH;delta T8;rw[uj0 `mL (kr0 S ok hw `aDg rfl)];rfl
open DL W Rm StrLaws
def starts_pre(a b:`j):`ah? (`aF a) (`aF b)=`ava:=by
 delta Txt.startswith;rw[subAt_eq,rg0,rg0,vb0,vb0,`ft,`bdc]
 by_cases h:b <+: a
 ·rw[List.isPrefixOf_iff_prefix.mpr h]
  have:=h.length_le;rw[`ar `F,`bdd];simp
 ·have hf:`ava=`l:=by
   cases q:`ava with
   | false=>rfl
   | true=>exact `J (List.isPrefixOf_iff_prefix.mp q) h
  rw[hf,Bool.and_eq_false_iff]
  by_cases hl:`ag0<=`aIN
  ·right
   rw[beq_eq_false_iff_ne];intro z;exact h (z▸x80 _ _)
  ·left
   exact P7 hl
def ju0{d:D}{δ δ2:Ds}(h1:`anT)(h2:`aYc):`bde=u50 f G ds δ2:=by
 apply `au?
 rw[h1,`h,h2]
def LB:GS:=u6 `a?'
 t8
theorem Ye0(s0 s1 s2:Sl):∀(k:Nat) (m:Nat) (s4:Sl),∃s4',u50 `iQ LB ((`QG m k).map λ(j:Nat)=>`bU `cG) [s0,s1,s2,`aEh,s4]=`af [s0,s1,s2,`sB (`aM (36 ^ (m+k))),s4']
 | 0,m,s4=>#[s4,rfl]
 | k+1,m,s4=>by
  let#[s4',e]:=Ye0 s0 s1 s2 k (m+1) (`w6);refine#[s4',?_];rw[`are,`av];have O:oA `ajk ys0 `avb=`c (`Cj):=`dZ
  have hb:LB `avb=`af [s0,s1,s2,.sh (`bdf),`w6]:=by
   refine `og `bdf ?_ rfl;rw[`fS `aLi `Cj O,`aif,`avc];simp
  rw[ju0 (δ1:=`avb) rfl hb,`cP (m+`cX=m+1+k)];exact e
def Ry0(names:`dD)(hn:`bbu)(hl:∀n∈`z7,`gH)(L:Nat)(pre:`j)(hp:`hc<=L)(hL:L<=100):s90 [`s (`Om),`oH,`kI]=`B4 (left `z7 L pre):=by
 apply `n?
 let#[O,e]:=Ye0 (`avd) (`o0) (`lj) (`adO) 0 .un;rw[`ft] at e;refine `i9 (`oh [`avd,`o0,`lj,`sB (`aM (36 ^ 0)),.un] (`vn [`avd,`o0,`lj,`sB `ave,O] (q70 (items:=uy0 0 (`avf)) (ml0 (`rA (`g (`avf)) ?_) `n `n) ?_)))
 ·rw[n6 (x:=`oH) (y:=`g `On) rfl (by
   rw[`bw [`kI]];apply `dq (`bdg<=`R) `bU (`bdg:Int);rw[vb0,`vk])]
  rfl
 ·rw[← e]
  delta uy0;rw[`cP ((`avf - 0).toNat=`adO),`bdh];congr 1;refine W1 λj _=>?_
  rw[`V_]
 ·have c:=pw0 (f:=gN 0) (gt:=`a?!) (ge:=gv 0) (δ:=[.un,`o0,`lj]) (`bdi) (`FG) (items:=`Om) (λd hd=>by
   let#[n,U,rfl]:=`ky;have Z:=hl n U;refine#[`avg,rfl,?_,`gK];show xd0 _ _ _=`c (`X (`bdj=L)&&`bdk);rw[rg0];delta xd0;have t1:ob `aII `avg=`c (`avh):=by
    apply `aC;rw[n6 (x:=`g `YJ) (y:=`oH) (by
     rw[`bw [`Em]];apply `dq (`bdl<=`R) `bU (`bdl:Int);rw[vb0,`vk]) rfl]
    show `a5 (`YJ=`we);congr 2;apply `cp
   have t2:ob `aIJ `avg=`c (`OV):=by
    apply `aC;show `YB (`ah? (`mI) (`v4));rw[starts_pre]
   rw[t1,`h,t2];cases `avh<;>rfl)
  obtain⟨F,hF⟩:∃F:`k,F=((`C7 `CP).filter `bdi):=`Y;have Y:`M'=(`z (`baz λn=>`avh&&`OV)):=by
   rw[hF,`bdm,`T];congr 1
  rw[n6 (x:=`g `YK) (y:=`g `ave) (by
   rw[`mc [`s F] (pc0 (items:=`Om) rfl `pT (by rw[hF];refine c.trans ?_;rw[`bdn]))];rfl) rfl]
  show `a5 (`YK<`ave);delta left;congr 2;rw[Y];apply `cp
def Rv0(names:`dD):`Bh (`C7 `CP):=by
 delta flats;rw[`uo];intro d hd;let#[n,_,rfl]:=`ky;rfl
def fv0(p:`d)(S:RS)(δ:Ds)(gA:GA)(L:Nat)(pre:`j)(hA:gA `bI=`c `bdo)(hn:`J6)(hl:∀n∈`b',`gH)(hp:`hc<=L)(hL:L<=100):
  ob (`ajl gA) `bI=`c (left `b' L pre):=by
 apply `aC;delta fnN;rw[fq0,`h,hA,`h,td0,`h,l80 (wc0 3)];show (`n7 (`Bh `FS/\`h' `bdo=`f) ((s90 [`s (`FS),`oH,`kI]).bind (`a9V)))=_;rw[`I #[Rv0 _,rfl],Ry0 `b' hn hl L pre hp hL];rfl
def cx0(p:`d)(S:RS)(δ:Ds)(g:GE)(n:Nat)(hg:`Ba=`YL):`auK `iq=`oc (`R0 n):=by
 delta qh0;rw[hg,`h];kernel_rfl
def es0(p:`d)(S:RS)(δ:Ds)(g:GE)(l:`j)(hg:`Ba=`c (`vf)):`auK `qC=`oc (`MI l):=by
 delta qh0;rw[hg,`h];kernel_rfl
def Rc0(S:RS)(hn:`Gf)(hl:∀n∈`b',`gH)(L:Nat)(h1:1<=L)(h8:L<=8)(hleft:`bdp=`f):xk0 `bo [`g `bdq]=`Bi `bdr:=by
 obtain⟨b,hb⟩:∃b:Int,b=`bdq:=`Y;have O:b/2=`we:=`E
 rw[← hb];refine `bq [`a6 (`bdr),`en,`o0]
 show wx0 `il=_;refine m9 (δ':=`il) (by
  rw[yi0 (by
   apply `aC;show `a5 (b%2=0);rw[`i'])]
  rfl) ?_
 refine m9 (δ':=`Bj) (U9 (yn0 (d:=`oH) (by
  show `eg `xw=_;rw[O]))) ?_
 refine m9 (δ':=`Bj) (by
  rw[yi0 (by
   have t1:ob `NE `Bj=`bu:=Y0 (by
    show `bds;rw[`i'])
   have t2:ob `atM `Bj=`bu:=Y0 (by
    apply `bdt;rw[`i'])
   have t3:ob `atN `Bj=`bu:=Y0 (by
    apply `bdu;show `bdv;rw[`i'])
   delta wg0;rw[t1,`h,`d6,t2,`h,`d6,t3])]
  rfl) ?_
 refine m9 (δ':=`Bj) (by
  rw[yi0 (by
   delta yo0;rw[`bdw,hleft];rfl)]
  rfl) ?_
 exact `bc1 cx0 L
def pj0(p:`d)(S:RS)(δ:Ds):plN `aBC `bI=`c (`t1):=by
 delta plN;rw[Nz0];rfl
def Nu0(p:`d)(S:RS)(δ:Ds)(hl:`auF):T8 (qi0 0 `s6 `EW) `bI=`oc `bdx:=by
 apply `rv
 delta T8 qi0;apply `Yn fq0 pj0;show `au_ (nrf (`t1)=`f/\`bbR<`R) 3 `bdy;rw[`t7 `aA3,oz0 p S `bdx]
 ·rfl
 ·show `m2::`eE::`eE::`bdy::_=`m2::`eE::`eE::`ru `aI6 `CP::_
  rw[`aQ];rfl
def cu0(S:RS)(b:Nat)(hb:`J7)(hn:`J6)(hl:∀n∈`b',`gH)(hs:`YM)(hL:`Bk)(hleft:`YN)(p:`d)(G:GSB)(r:`hz)
  (h:G `avi=r):
  (u9 `baa
 (u9 (ifB `bab
 (u9 `co
 `q)
 `q)
 (u9 `bac G))) `hk=r:=by
 apply `rv
 have sp:`bdz:=by
  rw[`bdA];apply `Yd
 refine m9 (δ':=`qn) (U9 (yn0 (by
  rw[`avj,`avk,`f_]))) ?_
 refine m9 (δ':=`qn) (by
  rw[yi0 (by
   delta wg0;apply `bdB;delta yo0;rw[`bdC,hleft];rfl)]
  rfl) ?_
 exact `Bg (es0 p S _ _ `m6 sp)
def Of0(p:`d)(S:RS)(δ:Ds)(hs:`o!<=8):ob `bad `bI=`ak (`o!=`dF):=by
 apply `rv
 apply `aC;rw[n6 (x:=`g `bdD) (y:=`JT) (by
  rw[`mc [`t1] `aI7];apply `dq (`bdE<=`R) `bU (`bdE:Int);rw[vb0,`vk]) `ahb]
 show `a5 (`bdD=`abq);congr 2;apply `cp
def Pt0(S:RS)(b:Nat)(hb:`J7)(hn:`J6)(hl:∀n∈`b',`gH)(hs:`Ek<`dF)(hL:`Bk)(hleft:`YN):
  `avl=`rz `Op:=by
 refine `bq `avi
 show `YO;refine `bdF `avi;rw[yi0 (by
  rw[Of0 p `Op _ (by show `avm<=8;rw[`W,`e8];lia),`aR];show ¬`avm=`dF;rw[`W,`e8];lia)]
 rfl
def named(S:RS)(w:`j):RS:=`baE `abr w
def Q90(S:RS)(ok:Ok S)(hw:`vm)(b:Nat)(hb:`J7)(hn:`J6)(hl:∀n∈`b',`gH)(hs:`atX)(hL:`Bk)(hleft:`YN):
  `avl=`rz (named S `m6):=by
 obtain⟨w,O⟩:∃w,w=`v!:=`Y;have wl:`dA=`dF:=by rw[O,`W,`e8];exact hs
 refine `bq `bdG
 show `YO;refine `bdF `bdG;rw[← O];rw[xb0 (by
  rw[Of0 p `bdH _ (`d7 (`dA<=8)),`ar];exact wl)]
 refine m9 (U9 (Nu0 p `bdH _ (`d7 `auF))) ?_;have U:Ok `J8:=#[ok.un,ok.few,ok.held,ok.wait,by show (`z `abr)<=1000;rw[`W,`e8];lia];refine `Yy (`Oo ((`J8:RS).hold (K5 w))) ?_
 ·delta T8
  rw[uj0 (S:=`J8) (`bk (pj0 p `J8 _) rfl) (kr0 `J8 U hw (K5 w) rfl)];rfl
 ·refine m9 (U9 (cx0 p _ _ `ce 0 rfl)) (m9 (U9 (es0 p _ _ `lH [] rfl)) ?_)
  rfl
def Ss0:(∀n∈`bJ 40,`as5 `avn `avn `avn=(`bJ (`qc/2)).map (2*·)) /\
  ∀n∈`bJ 40,`as5 `avo `avo `avo=(`bJ (n/2)).map (2*·+1):=`bc
def az0(xs:`bn)(d:α):∀l:`j,(∀i∈l,`uM)->`as7=`cY (`UD · d):=by
 intro z;induction z with
 | nil=>intro _;exact rfl
 | cons i l ih=>
  intro h
  have hi:=h i A7;rw[`Jy (C4 hi),`bdI,`av];simp[`bz,hi]
theorem jg0:∀xs:`k,`GD=(`bJ (`ax/2)).map λj=>(`UD (2*j) `x,`UD (2*j+1) `x)
 | []=>rfl
 | [a]=>by delta pairsOf;simp
 | `ve=>by
  show `atU=_;rw[jg0 r,`an,`an,`cP ((`bm+1+1)/2=`bm/2+1),`apK,`av,`f4];rfl
def L90(xs:`k)(h:`ax<40):`bdJ=`GD:=by
 delta t60;rw[Ss0.1 _ (`y1 h),Ss0.2 _ (`y1 h),az0 xs `x _ (λi hi=>by
  apply `bdK;have:=`avp;show 2*j<_;lia),az0 xs `x _ (λi hi=>by
  apply `bdK;have:=`avp;show 2*j+1<_;lia),jg0]
 refine i6 `qY `a2K
 simp
def iv0(xs:`k)(h:`ax<40):qa0 `OC=`c `bdL:=by
 apply `J3;rw[N6 (ds:=[`s (`aI8),`s `aI9]) `FZ];show `c (`j4 ((`bdJ).map `a3e))=_;rw[L90 xs h]
def Fits(kd:Nat)(held:`k):Prop:=`dI<=30/\(kd=0->∀d∈`bt,`bdM)/\(kd=3->`bt≠[])
theorem bu0:∀l:`j,`avq=l
 | []=>rfl
 | c::l=>by
  show (`aF [c]).cps.toList++`avq=_;rw[bu0 l,rg0];rfl
def g40(kd:Nat)(hk:`eS)(held:`k)(h:Fits kd `bt):vf0 [`oR,`acv]=`c (`bdN):=by
 skip;apply `rv
 let#[hl,h0,h3]:=h;have c:`bcl `adP:=`bcm
 obtain rfl|rfl|rfl|rfl:kd=0∨`aCY:=`E
 ·obtain⟨l,rfl⟩:∃l:`j,`bt=`En:=by
   have:∀held:`k,(∀d∈`bt,`bdM)->∃l:`j,`bt=`En:=by
    intro held
    induction `bt with
    | nil=>exact λ_=>#[[],rfl]
    | cons d ds ih=>
     intro hd;let#[c,rfl]:=hd d A7;let#[l,rfl]:=ih λx hx=>hd x `MF
     exact#[c::l,rfl]
   exact `F `bt (h0 rfl)
  done;refine `JN;show `nF [.sh (`pk),.sh (`s (`En))];apply `Bc;refine `avr (`bk rfl (`rA `vf ?_)) |>.trans ?_
  ·have hp:l=`bbi:=(Bt.h90 l).symm
   rw[`T] at hl
   conv=>rhs;rw[hp]
   refine Bt.Vm0 [] `aIQ 1 rfl ?_ `bbo `qY;show `YP `En;rw[`f4];rfl
  ·show `c (Res.rt (`j4 [`pk,`vf]))=`c (Res.rt (`j4 [`pk,K5 (`avq)]))
   rw[bu0];rfl
 ·done;refine `Bd `bdO `bdO `ic;apply `Bc;exact `avr `FZ
 ·done;refine `Bd `avs `avs (`Ys `avs `ic);apply `Bc;exact `avr (`lz rfl (`o (`bw [`acv]) (iv0 `bt `n)))
 ·cases `bt with
  | nil=>done;exact `J rfl (h3 rfl)
  | cons d ds=>
   done;refine `Bd `YQ `YQ (`Ys `YQ (`vn `YQ `ab?));refine rj0 (`bk rfl (`bk (d:=d) (by
    show atI `pY 0=_;rw[sx0 `u (`TB) `x];rfl) (`rA (`GC `bdP) ?_))) `bdQ
   rw[N6 (ds:=`z?) (`bk (by
    rw[Bt.mm0 (d:=`aCM) (l:=`bdR) (h:=`e) rfl rfl rfl];show `YP (cutD `pY (`bdR) `e);rw[Bt.Nk0];rfl) rfl)]
   exact iv0 ds (by rw[`an] at hl;lia)
def ew0(xs:`k):(`z `GD)<=`ax:=by
 rw[jg0,`T,`JU];lia
def Zy0(X:D)(ps:`XG)(hX:ixD X (`QY)=`so (`wf `abf))(hl:`aS<=1000):vq0 1 [] `JD `cM noT `s0 [.sh X]=`c (`s `QO):=by
 apply `rv
 refine pc0 (items:=`wf `abf) ?_ `pT ?_
 ·show `zo (o2 `am `k9 ixD [.sh X]) _=_
  rw[`aq X `QY rfl,hX];rfl
 ·rw[ll0 (`V1 (`H [a,_]) a) (λd hd=>by
   let#[q,_,rfl]:=`ky;exact`I0 [.sh (`aEj)] rfl),`f4]
  rfl
def X30(kd:Nat)(hk:`eS)(held:`k)(h:`dI<=1000):q10 [`bdN]=`n3 (w00 `ahc):=by
 apply `Yr
 ·refine `Bl;rw[wl0 (by delta wg0;rw[`Eo (ob `aaD (`zn (`jV (0,`bt)))=`dz)];rfl)];exact `bdS
 ·refine `Bl;rw[wl0 (`avt `bdT `bdT `dz)];exact `bdS
 ·refine v40 rfl (m5 (δ':=[.sh (`avu)]) (by
   rw[yu0 (`avt (`zn `avu) (`zn `avu) `bu)];rfl) `oi)
  exact Zy0 _ (`bdU) (`ab! [`xZ] _) (B7 (ew0 _) h)
 ·refine v40 rfl (m5 (δ':=[.sh (`avv)]) (by
   rw[yu0 (`avt (`zn `avv) (`zn `avv) `bu)];rfl) `oi)
  exact Zy0 _ (`bdV) (`ab! [`xn,`bdW] _) (B7 (ew0 _) (by rw[`jX];omega))
structure Held(q:`e2):Prop where
 kd:`Bm
 fits:`bdX
 tr:trs q.2=`f
 nr:`bdY
 fl:`h' `xx=`f
def O80(S:RS)(k:Nat)(q:`e2)(hq:`kx)(h:`J9):`bdZ:=by
 have e2:`bd_:=by
  show `auL;rw[`dl,hq];rfl
 have e1:`bd0:=by
  delta xg0;rw[`bz,hq];rfl
 rw[e1];delta qk0 M7;simp only[ut0,`h,e2];rw[`I #[rfl,h.tr,h.nr]]
def ip0(S:RS)(k:Nat)(u:`j)(hu:`vl)(q:`e2)(hq:`kx)(h:`J9):vu0 `bo []=`c (`aez,R S):=by
 refine `bq `avw
 show tx0 `avw=_;have e1:wf0 0 `j' `k9 `avw=`bbV:=by
  delta wf0;rw[lm0,`h,`a0 (`ag4 [`t_,.un]),`h,td0,`h];rw[`bbX];rw[hu,`eh,`aQ];exact `Yk
 delta tx0 Xj0;rw[e1,`h,td0,`h,O80 S k q hq h,`h];have e3:oA `bag q10 ((`bG ([`t_,`tN]:Ds).length `tN).set 1 (`avx))=`c (`aez):=by
  rw[N6 (ds:=[`jV q]) (`bk (by
   rw[`bd1];exact g40 q.1 h.kd q.2 h.fits) rfl)]
  exact X30 q.1 h.kd q.2 (`d' h.fits.1)
 rw[e3,`h];simp only[];rw[`I h.fl]
def Wb0(p:`d)(S:RS)(δ:Ds)(g:GE)(i:Nat)(nm:`j)(hg:`Ba=`c (`AH))(hn:`b'[i]?=`c nm):plN (wf0 0 `s6 g) `bI=`aNp:=by
 delta plN wf0;rw[fq0,`h,hg,`h,td0,`h,`FU `FS];have hi:=(`ch hn).1;rw[`avy,`b?,`bz,`dl,hn];rfl
def Lr0(S:RS)(ok:Ok S)(w:`aw)(ws:`ag)(hw:`dW)(b:Nat)(hb:b<`gp)(nm:`j)(hnm:`avz)
  (hin:`jl->∃k u q,`vl/\`kx/\`J9/\`B9 ∉`wC):`avA=`rz (`gg `lc):=by
 refine `bq `bd2
 show v30 `hk=_;refine m9 (δ':=`hk) (by
  rw[yi0 (by
   apply `aC;apply `avB;apply `avC;rw[`Sl])]
  rfl) ?_
 refine m9 (δ':=`nG) (U9 (yn0 (Wb0 p S _ _ (`x0 - b) nm (by
  apply `bd3;show `bd4;congr 2;omega) hnm))) ?_
 apply `bL `nG ?_ ?_
 ·have t1:`bd5=`c (`X (`jl),`nG):=by
   apply `Be;rw[`bd6,`QI w `f?];rfl
  delta ifX Ue0;rw[t1,`h]
  by_cases hwn:`jl
  ·skip;let#[k,u,q,hu,hq,hh,U]:=hin hwn
   have t2:`bd7=`c (`l,`nG):=by
    delta xm0 du0;apply `bd8;have e:`aL9=`j2:=by
     show (`ba (`ajp/\(`wC).all `cH=`f) (`YR `bd9))=_;rw[`t7 hh.fl];congr 2;rw[`tS];cases ha:`bd9 with
     | false=>rfl
     | true=>
      exfalso;let#[y,hy,he]:=r8.mp ha;have O:`cH y=`f:=x70.mp hh.fl y hy;cases y with
      | str t=>
       have:t=`aF nm:=G0.mp he;rw[`F] at hy;exact U hy
      | non=>cases he
      | bl _=>cases he
      | int _=>cases he
      | tup _=>cases O
      | lst _=>cases O
      | dct _ _=>cases O
      | fn _ _=>cases O
    show `bd';rw[e];rfl
   done;rw[`ar hwn];apply `bd!;rw[`a_,t2];rfl
  ·rw[`aR hwn]
   rfl
 ·refine `Yy `bd2 `iH
  delta T8;rw[uj0 `mL (kr0 S ok `JX `lc rfl)];rfl
omit Rk
namespace Bw
open DL W
def ti0:GS:=u6 `atm
 (u6 `atn
 (u6 (vy0 `XS
 (u6 `XT
 (u6 `XU
 t8)) 100000)
 (u6 `ato
 t8)))
def tl0:`i:=`atp
def xt0:`O:=`atq
def on0:GS:=u6 (ifD `ati
 (u6 `atj
 t8)
 t8)
 (u6 `atk
 t8)
def n80:`i:=`hB
def rz0:`O:=`atl
def sm0:GS:=u6 `atr
 t8
def tp0:`i:=`y?
def ww0:`O:=`ats
def s70:GS:=u6 `att
 t8
def s60:`i:=`d8
def ue0:`O:=`atu
def sp0:GS:=u6 (ifD `vb
 (u6 `atv
 t8)
 t8)
 (u6 `vc
 t8)
def sv0:`i:=`d8
def uz0:`O:=`atw
def r00:GS:=u6 (ifD `vb
 (u6 `vc
 t8)
 t8)
 (u6 (ifD `XQ
 (u6 `atd
 t8)
 t8)
 (u6 `JC
 (u6 (ifD `ate
 (u6 `atf
 t8)
 t8)
 (u6 (sh0 `JD `cr
 (u6 `XR
 t8))
 (u6 `JE
 t8)))))
def sw0:`i:=`atg
def vx0:`O:=`ath
def Z90{g:GE}{δ:Ds}{b:`B}(h:`au=`alb):`baZ:=`ba_
def dgf:Nat->Nat->`aB
 | 0,_=>[]
 | f+1,r=>`bd?
def dg(r:Nat):`aB:=dgf r r
def M00:∀(f g r:Nat),r<=f->r<=g->dgf f r=dgf g r:=by
 intro z;induction z with
 | zero=>
  intro z1;cases z1 with
  | zero=>intro _ _ _;exact rfl
  | succ g=>
   intro r h _
   have:r=0:=`bea;subst this;rfl
 | succ f ih=>
  intro z1;cases z1 with
  | zero=>
   intro r _ h
   have:r=0:=`bea;subst this;rfl
  | succ g=>
   intro r h1 h2
   show (`bd?)=`aJd g
   by_cases z:r=0
   ·rw[`eT,`eT]
   ·rw[`cc,`cc,ih g `Bn `n `n]
def Eg0:dg 0=[]:=(rfl)
def Ai0(r:Nat)(h:r≠0):dg r=`Bo::dg `Bn:=by
 obtain⟨n,rfl⟩:∃n,r=n+1:=#[r - 1,`E];show (`w (n+1=0) [] ((`aM (128+`qc%128))::dgf n (`qc/128)))=_;rw[`dO,M00 n (`qc/128) (`qc/128) `n `bQ];rfl
def hi(r:Nat):`aB:=(dg r).reverse
def Kx0:hi 0=[]:=by delta hi;rw[Eg0];rfl
def Dq0(r:Nat)(h:r≠0):hi r=hi `Bn++[`Bo]:=by delta hi;rw[Ai0 r h,`eh]
def bs(n:Nat):`aB:=hi `YS++[`J']
def Cz0:∀(m r:Nat),r<2 ^ m->(`z (hi r))<=m:=by
 intro m
 induction m with
 | zero=>
  intro r h;have h2:r=0:=by
   simp at h;exact h
  subst h2;rw[Kx0];exact `gW
 | succ m ih=>
  intro r h
  by_cases h0:r=0
  ·subst h0;rw[Kx0];exact `b7
  ·rw[Dq0 r h0,`W]
   have:`beb:=`avc 2 m;have:=ih `Bn `n;apply `sE;lia
def Na0(n:Nat)(h:`J!):`bec:=by
 delta bs;rw[`W];have:=Cz0 2600 `YS (`bed);apply `sE;lia
noncomputable def WT:GB:=`XS
def WB:GS:=u6 `XT
 (u6 `XU
 t8)
def wt(a b:Sl)(r:Nat):WT [a,b,`sB `y_]=`ak (0<r):=by
 show `ak (`j7<`y_)=_
 by_cases h:0<r
 ·rw[`i!,`oa]
 ·rw[`iT,`i']
def wh(a:Sl):∀(m r:Nat) (o:`aB) (f:Nat),r<2 ^ m->m<f->`avD+m<`R ->
  ∃s,vy0 WT WB f `bee=`af [a,`hm ((o++dg r).map `g),s]:=by
 intro m
 intro r
 intro o
 intro z3;induction z3 generalizing m r o with
 | zero=>intro _ hf _;exact `J hf `t4
 | succ f ih=>
  intro hr hf hl
  by_cases h0:r=0
  ·subst h0
   delta vy0;rw[wt,Eg0,`cT];exact`Y
  ·cases m with
   | zero=>simp at hr;lia
   | succ m=>
    have hb:WB `bee=`af [a,`hm ((o++[`Bo]).map `g),`sB `bef]:=by
     have e1:`avE+`y_%128=`Bo:=`E
     have e2:`y_/128=`bef:=`E
     refine m5 (Gw.P70 (l:=`aDi) (d:=`g (128+`y_%128)) rfl rfl `pT) ?_;rw[`aQ,← e1,← e2];rfl
    have h2:r/128<2 ^ m:=by
     have:`beb:=`avc 2 m;lia
    let#[s,e]:=ih m `Bn (o++[`Bo]) h2 `n `baY;refine`beg;delta vy0;rw[wt,`oa];simp only[hb];rw[e,Ai0 r h0,`km];rfl
def ln0(n:Nat)(h:`J!):`beh:=by
 apply `avF
 have h2:n/128<`Mp:=`bed;let#[s,e]:=wh (`bS) 2600 `YS [`J'] 100000 h2 `u (`d7 (1+2600<_));refine `bei;have e1:`aW%128=`J':=`E
 have e2:`aW/128=`bej:=`E
 refine `vo [`bS,`hm [`g `J'],.un] (`Vd e1);refine `og (`g `bej) (`Vd e2) ?_;refine m5 e `oi;show `YP ((`J'::dg `YS).map `bU).reverse;rw[← `bcx,`eh];rfl
inductive Vb:`YT
 | non:Vb `x
 | lk (j:Nat) (h:j<1000):Vb `wu
 | int (z:Int) (h:`avG):Vb `vX
def fold(z:Int):Nat:=if z<0 then (-2*z - 1).toNat else (2*z).toNat
def fold_lt(z:Int)(h:`avG):`DQ<2 ^ 2502:=by
 delta fold;have e:`bek=4*`adQ:=`bc
 rw[e];clear e;generalize (2:Nat) ^ 2500=w at h ⊢;split<;>lia
def f40(z:Int):`bel:=by
 by_cases h:z<0
 ·refine `JN
  rw[wl0 (`rC `bem `i!)];apply `vj;rw[`Bp (-2*z) (`o (`aq (`g (-2)) `g8 rfl) `rD)];have:`ben=-2*z - 1:=`beo `cA
  rw[`F];rfl
 ·refine `i9 (`vn [`e_] (`ae (yu0 (`rC `bem `iT))))
  rw[`aq `ou `g8 rfl,`rD];have:`ben=2*z:=`beo `dO
  rw[`F]
def sg(s:Str):`aB:=s.cps.toList.map `bep
def Vs0(s:Str):(`z (sg s))=`wl:=by delta sg;rw[`T];rfl
def K30(s:Str):sa0 `cM noT `aNb [.un] (`lW s)=`c `aFp:=by
 delta signs;rw[ll0 (`V1 `cw (`dg (x.cps.toList.headD 0))) (λd hd=>by
  let#[c,hc,rfl]:=`ky;exact`I0 [.sh (`yG)] rfl)]
 delta sg;rw[`f4,`f4];rfl
def e80(s:Str)(h:`avH):`beq:=(
 v40 rfl (wd0 (ud0 (pc0 (items:=`lW s) rfl (by delta signs;rw[`T];exact h) (K30 s)))))
def Jz0(a b:`aB)(h:`baX):mw0 (`s (a.map `g)) (`s (b.map `g))=`qo (a++b):=by
 simp only[mw0];rw[`I (`d? `T `T h),`aQ]
def Dx0{g:GE}{δ:Ds}{l e:`aB}(h1:`td=`c `ber)(h2:`au=`n3 (e.map `g))(h3:`bes):`bet=`af (`gA (`ru (l++e) `g)):=by
 delta T8 rs0;rw[h1,h2];simp only[`h];rw[`I (`d? `T `T h3),`aQ];rfl
def Je0{g:GE}{δ:Ds}{e:`k}(h1:`baU)(h2:`au=`c (`s e))(h3:`bes):`bet=`af (`Fp (l++e)):=by
 delta T8 rs0;rw[h1,h2];simp only[`h];rw[`at8];rfl
def Ib(d:D):Prop:=`beu∨Vb d
def small(h:`Mt n):`J!:=(S2 h `c7)
def Y90{g:GE}{δ:Ds}{s:Str}(h:`au=`c `o')(hs:`avH):`bev=`c (`g `avI):=by
 rw[N6 (ds:=[`gf]) `bew];simp only[ys0];rw[`I hs]
def cnt:Pt->Nat
 | `atQ=>`dA
 | `JI=>`fe
 | `A3=>`aS
 | `atR=>`aS
def kn:Pt->Nat
 | `X4=>0
 | .row _=>1
 | .table _=>2
 | .rcd _ _=>3
def two(p:`K?):`k:=`bal
def its:Pt->`k
 | `X4=>[]
 | `JI=>vs
 | `A3=>`t3
 | .rcd c ps=>`tL::`t3
def tx:Pt->`aB
 | `atQ=>sg w
 | _=>[]
structure Gp(p:Pt):Prop where
 cnt:`vp
 len:(`z `no)<=50
 it:∀d∈`no,Ib d
def Bl0{p:Pt}(h:Gp p):(`z (tx p))<=20:=by
 cases p with
 | text w=>show (`z (sg w))<=20;rw[Vs0];exact h.cnt
 | _=>exact `b7
def y81(p:Pt):kn p<=3:=by cases p<;>simp[kn]
def I80{p:Pt}(h:`vp)(δ:Ds):oA `aNc ys0 (.sh p.d::δ)=`c (`bex):=by
 have z:`J?:=`aV
 cases p with
 | text w=>
  have h:`dA<=20:=h;exact Y90 rfl `n
 | row vs=>rfl
 | table ps=>
  apply `bey;rw[`T];rfl
 | rcd c ps=>
  apply `bey;rw[`T];rfl
def yr1(p:Pt)(δ:Ds):oA `aNd `aNe (.sh p.d::δ)=`c (`bez):=by
 cases p<;>kernel_rfl
def ya1(a b:Nat):4*`ws+`fv=(`aM (4*a+b)):=`E
def Rb0{p:Pt}(h:`vp):`beA:=by
 apply `J3
 change o2 _ _ _ [.sh p.d]=_
 rw[n6 (x:=`g (4*`aJg)) (y:=`bez) (by
  rw[`fS `oz `bex (I80 h _)];exact `rD) (yr1 p _),← ya1]
 rfl
def Qi0{p:Pt}(h:`vp):`beB:=by
 have z:`J?:=`aV
 cases p with
 | text w=>
  have h:`dA<=20:=h;refine `Bl;rw[`JS];apply `YU;rw[`bw [`x6]];exact e80 w `n
 | row vs=>exact `avJ `beC
 | table ps=>exact `avJ `QD
 | rcd c ps=>exact `avJ `F2
def HB:GS:=u6 `XR
 t8
def e20:∀ps:`l?,`beD=2*`aS:=by
 intro z;induction z with
 | nil=>exact rfl
 | cons p ps ih=>rw[List.flatMap_cons,`W,ih,`an];show 2+_=_;lia
def J50{ps:`l?}{p:`K?}(h:`a5k):`beE++two p=`ahg `pW:=by
 rw[List.take_succ,h,List.flatMap_append];simp
def Zi0(a:Sl)(pre:`k)(ps:`l?)(hl:`hc+2*`aS<=`R)(s:Sl):∃s',u50 `cr HB (`C4) `beF=`af [a,`hm (pre++`t3),s']:=by
 let#[δ',l1,l2]:=jm0 (f:=gN 2) (G:=HB) (λi δ=>∃s,δ=[a,`hm (pre++`ahg i),s]) (`C4) 0 `beF (by
  rintro j d δ hj ⟨s,rfl⟩;rw[`dl] at hj;cases hp:ps[j]? with
  | none=>rw[hp] at hj;cases hj
  | some p=>
   rw[hp] at hj;cases hj;have O:=(`ch hp).1;rw[`ft];refine#[_,_,rfl,m5 (Je0 (l:=pre++`beE) (e:=two p) rfl rfl (by
    rw[`W,e20,`fN];show _+2<=_;lia)) rfl,.sh (pr p),?_]
   rw[`km,J50 hp];rfl) #[s,`bO]
 let#[s',rfl]:=l2;refine`beG;rw[l1,`ft,`T,`beH]
def Qn0{p:Pt}(h:Gp p):`beI:=by
 have z:`J?:=`aV
 have hc:=h.cnt;cases p with
 | text w=>kernel_rfl
 | row vs=>
  refine `Bq [`beC,.un,.un] `vq `aaU;rw[`JS];rfl
 | table ps=>
  have hc:`GS:=hc;let#[s',e]:=Zi0 (`QD) [] ps (`apJ `jn) .un;refine `Bq `beJ `vq (m5 (δ':=`beJ) `vq (`oh `beK (m5 (δ':=`beK) `vq `beL)))
 | rcd c ps=>
  have hc:`GS:=hc;let#[s',e]:=Zi0 (`F2) [`tL] ps `Rx .un;refine `Bq `beM `vq (m5 (δ':=`beM) `vq (`oh [`F2,`QE,.un] (m5 (δ':=[`F2,`hm [`tL],.un]) (`ae `JS) `beL)))
structure Gq(p:Pt):Prop where
 cnt:`vp
 vals:∀v∈`Br,Vb v
 names:∀s∈p.all,`qp
 few:`beN
def Sk0{ps:`l?}(h1:∀v∈`oJ,Vb v)(h2:∀s∈`w',`qp):∀d∈ps,`beO:=(λd hd=>#[h2 _ `beP,h1 _ `beP])
def Pb0{ps:`l?}(h:∀d∈ps,`beO):∀d∈`t3,Ib d:=(λd hd=>by
 skip;let#[p,hp,hm]:=`avK;let#[q1,q2]:=`t!;delta two at hm;apply `avL
 ·done;exact `m #[_,rfl,q1]
 ·done;rw[`gs hm];exact `p q2)
def Gq.gp{p:Pt}(h:Gq p):Gp p:=by
 let#[h1,h2,h3]:=h;cases p with
 | text w=>exact#[h1,`b7,λd hd=>by cases hd]
 | row vs=>exact#[h1,by have:`fe<=20:=h1;show `fe<=50;lia,λd hd=>`p (h2 d hd)]
 | table ps=>
  apply `beQ
  exact#[h1,by have:`GS:=h1;show `beD<=50;rw[e20];lia,Pb0 hp]
 | rcd c ps=>
  apply `beQ
  refine#[h1,by have:`GS:=h1;show (`z (`cs c::`t3))<=50;rw[`an,e20];lia,`Bs];apply `vr
  ·exact `m #[_,rfl,h3 c `beR]
  ·exact Pb0 hp d hd
def web(ps:`c6):D:=`H (`Ka)
def Lk(m:Nat)(v:D):Prop:=∀j:Nat,v=`Cu->j<m
def Au0(h:i<m):Lk m (`H [`my,`AH]):=(λj e=>by
 injection e with e
 injection e with _ e
 injection e with e _
 injection e with e
 lia)
omit Bw
namespace K22
open DL W
def sub_len:∀{l m:`j},l.Nodup->(∀a∈l,a∈m)->`bT<=`g3:=by
 intro z;induction z with
 | nil=>intro m _ _;exact `b7
 | cons a l ih=>
  intro m h hs
  let#[h1,h2]:=E1.mp h;let#[m1,m2,rfl]:=List.append_of_mem (hs a A7);have:=ih (m:=m1++m2) h2 λb hb=>by
   have:=hs b (`akK);rcases `d9 `F with q|q
   ·exact B8.mpr `Ou
   ·rcases `YV with rfl|q
    ·exact `J hb h1
    ·exact B8.mpr `QN
  simp only[`W,`an] at this ⊢;lia
def nd(l:`j):`k:=`cY λ(i:Nat)=>`bU `wH
def Bk0(a b:`j):nd (a++b)=nd a++nd b:=by delta nd;rw[`aQ]
omit K22
namespace Km
open DL W K22
def ti0:GS:=u6 `atm
 (u6 `atn
 (u6 (vy0 `XS
 (u6 `XT
 (u6 `XU
 t8)) 100000)
 (u6 `ato
 t8)))
def tl0:`i:=`atp
def xt0:`O:=`atq
def on0:GS:=u6 (ifD `ati
 (u6 `atj
 t8)
 t8)
 (u6 `atk
 t8)
def n80:`i:=`hB
def rz0:`O:=`atl
def jr0:GS:=u6 `a?C
 t8
def ol0:`i:=`lB
def uo0:`O:=`a?D
def sm0:GS:=u6 `atr
 t8
def tp0:`i:=`y?
def ww0:`O:=`ats
def o60:GS:=u6 (ifD `a?I
 (u6 `a?J
 t8)
 t8)
 (u6 `a?K
 t8)
def pv0:`i:=`JF
def sn0:`O:=`a?L
def s70:GS:=u6 `att
 t8
def s60:`i:=`d8
def ue0:`O:=`atu
def sp0:GS:=u6 (ifD `vb
 (u6 `atv
 t8)
 t8)
 (u6 `vc
 t8)
def sv0:`i:=`d8
def uz0:`O:=`atw
def pq0:GS:=u6 (ifD `a?E
 (u6 `XM
 t8)
 t8)
 (u6 (ifD (ob `GN)
 (u6 `a?F
 t8)
 t8)
 (u6 `a?G
 t8))
def o70:`i:=`lB
def t40:`O:=`a?H
def pn0:GS:=u6 (ifD `atx
 (u6 `a?M
 t8)
 t8)
 (u6 (ifD `a?N
 (u6 `a?O
 (u6 `a?P
 t8))
 t8)
 (u6 `a?Q
 t8))
def pz0:`i:=`a?R
def t00:`O:=`a?S
def r00:GS:=u6 (ifD `vb
 (u6 `vc
 t8)
 t8)
 (u6 (ifD `XQ
 (u6 `atd
 t8)
 t8)
 (u6 `JC
 (u6 (ifD `ate
 (u6 `atf
 t8)
 t8)
 (u6 (sh0 `JD `cr
 (u6 `XR
 t8))
 (u6 `JE
 t8)))))
def sw0:`i:=`atg
def vx0:`O:=`ath
def ce0:GS:=u6 `JC
 (u6 `a?T
 (u6 `a?U
 (u6 `a?V
 (u6 (vy0 `aty
 (u6 `atz
 (u6 `atA
 (u6 (ifD `atB
 (u6 `atC
 t8)
 (u6 (ifD `atD
 (u6 `atE
 (u6 `atF
 t8))
 t8)
 t8))
 t8))) 100000)
 (u6 `JE
 t8)))))
def cw0:`i:=`a?W
def mx0:`O:=`a?X
open Bw (bs sg cnt kn its tx fold Vb Gp Gq)
def pd(ks:`eI):D:=`b4 `st `avM
def ix{α:Type}[`avN]:`bn->α->Nat
 | [],_=>0
 | b::l,a=>`w (b=a) 0 (ix l a+1)
def Qg0[`avN]:∀{l:`bn} {a:α},a∈l->ix l a<`bT:=by
 intro z;induction z with
 | nil=>intro _ h;cases h
 | cons b l ih=>
  intro a h
  delta ix;rw[`an]
  by_cases e:b=a
  ·rw[`gS];lia
  ·have:=ih (a:=a) (`beS)
   rw[`fq];lia
def Xt0:∀(ks:`eI) (s:Nat) (k:v80),`YW->`beT s=`c (`dg (s+`YX)):=by
 intro z;induction z with
 | nil=>intro s k h;cases h
 | cons a ks ih=>
  intro s k h
  rw[`an,`are];show (`oo (a=k) (`eg `ad6) (`beT (s+1)))=_;delta ix
  by_cases e:a=k
  ·rw[`gS,`gS]
   rfl
  ·have hk:`YW:=`beS
   rw[`fq,`fq,ih (s+1) k hk,`cP (s+1+`YX=s+(`YX+1))]
def Vt0{ks:`eI}{k:v80}(h:`YW):si0 ks `avM k=`c (`ll `YX):=by
 rw[`bdh,Xt0 ks 0 k h,`ft]
def fj0(ks:`eI)(k:v80):`a0n↔`YW:=by
 delta um0;rw[`Js];constructor
 ·rintro⟨x,hx,e⟩
  rw[← `a7D e];exact hx
 ·intro h
  exact#[k,h,F0 rfl]
def Xq0{ks:`eI}{k:v80}(h:k∉ks):`PS=`l:=by
 cases e:`PS with
 | false=>rfl
 | true=>exact `J ((fj0 ks k).mp e) h
def Nv0{ks:`eI}{k:v80}(h:k∉ks):(`b4 `a8M (ui0 ks `avM k (`ll `h6)):D)=pd (ks++[k]):=by
 delta uh0 ui0 pd;rw[Xq0 h,`hP,`hP,`W,`e8,`auS,Bk0];rfl
def idx_map[`avN][`K! β](f:α->β)(a:α):∀l:`bn,(∀b∈l,f b=f a->b=a)->ix (`cY f) (f a)=ix l a:=by
 intro z;induction z with
 | nil=>intro _;exact rfl
 | cons b l ih=>
  intro h
  rw[`av];delta ix
  by_cases e:b=a
  ·rw[`gS,`I (by rw[e])]
  ·rw[`fq,`Q (λz=>e (h b A7 z)),ih λc hc=>h c (B3 _ hc)]
def kb(B:`j):`eI:=B.map `beU
def kt(T:`i):`eI:=T.map `beV
def kb_mem(B:`j)(j:Nat):`beW∈kb B↔`lG:=by
 delta kb;rw[`YY];constructor
 ·rintro⟨k,hk,e⟩
  have:`cv=`cG:=`YZ
  have:k=j:=`E
  rw[← `F];exact hk
 ·exact λh=>#[j,h,rfl]
def mq0(T:`i)(s:Str):`ahh∈kt T↔`m3:=by
 delta kt;rw[`YY];constructor
 ·rintro⟨k,hk,e⟩
  have:k=s:=`YZ
  rw[← `F];exact hk
 ·exact λh=>#[s,h,rfl]
def Bi0(B:`j)(j:Nat):ix `v6 `beW=`acd:=(idx_map (`beU) j B λb _ e=>by
 have:`fv=`cG:=`YZ
 lia)
def Dw0(T:`i)(s:Str):ix `wB `ahh=`adR:=(idx_map (`beV) s T λb _ e=>`YZ)
def Nn0(B:`j):`Kb=`xo:=by delta kb;rw[`T]
def kt_len(T:`i):`F3=`pz:=by delta kt;rw[`T]
structure Wb(ps:`c6):Prop where
 len:0<`aS/\`avO
 it:∀p∈ps,Gq p
 lk:∀p∈ps,∀v∈`Br,Bw.Lk `aS v
def It(n:Nat)(d:D):Prop:=`beu∨`R!∨(∃z:Int,d=`g8/\`avG)∨∃j:Nat,d=`Cu/\j<n
def It.of{v:D}(h:Vb v)(hl:Bw.Lk n v):It n v:=by
 cases h with
 | non=>exact `beX
 | lk j _=>exact `l6 #[j,rfl,hl j rfl]
 | int z hz=>apply `gO (`m #[z,rfl,hz])
def hb(ps:`c6)(B:`j)(T:`i):D->`aB
 | `gf=>`Y_
 | `avP=>`oo `avQ (`beY `py) (`avR `Y0 `Y0 `Y0)
 | `g8=>bs (4*`DQ+1)
 | _=>bs 0
def ln0(n:Nat)(h:`J!):`beh:=(Bw.ln0 n h)
def e80(s:Str)(h:`avH):`beq:=(Bw.e80 s h)
def Rb0{p:Pt}(h:`vp):`beA:=(Bw.Rb0 h)
def Qi0{p:Pt}(h:`vp):`beB:=(Bw.Qi0 h)
def Qn0{p:Pt}(h:Gp p):`beI:=(Bw.Qn0 h)
def f40(z:Int):`bel:=(Bw.f40 z)
def Pm0(ks:`eI):sj0 [pd ks]=`c (`ll `h6):=(rfl)
def G80(T:`i)(s:Str):q30 `l `o' `Nw=`i0 `m3:=by
 show `c (`YR `beZ)=_;rw[`tS]
 by_cases h:`m3
 ·rw[`be_,`i!]
 ·rw[`be0,`iT]
def Kr0(B:`j)(j:Nat):q30 `f `wi `Or=`be1:=by
 show `YB (xor `f (um0 `v6 `Y1))
 by_cases h:`lG
 ·rw[`aJk ((`Y2).mpr h),`avS];rfl
 ·rw[Xq0 (λz=>h ((`Y2).mp z)),`i!];rfl
def Km0{T:`i}{s:Str}(h:`m3):yt0 `Nw `o'=`c (`g `avT):=by
 show `be2=_;rw[`be3,Dw0]
def M60{B:`j}(h:`lG):yt0 `Or `wi=`c (`g `Y3):=by
 show si0 `v6 (nd (`bJ `Kb)) `Y1=_;rw[Vt0 ((`Y2).mpr h),Bi0]
def Io0(T:`i)(hT:`Y4)(s:Str)(hs:`qp)(ps:`c6)(B:`j):sn0 `be4=`qo (`EC `o'):=by
 apply `avF
 have ht:ob `aLY `Y5=`ak `m3:=by
  delta ob;rw[`aq `gf `w7 rfl,G80];rfl
 show _=`c (`gy ((`Y_).map `g))
 by_cases h:`m3
 ·rw[`i!] at ht
  rw[`cA];have O:=Qg0 h;refine `Bl;show `nF `Y5;rw[wl0 ht];apply `YU;rw[N6 (ds:=[`dg `aEZ]) (`bk (by
   rw[n6 (x:=`ou) (y:=`g (`avU - 1 - `avT)) rfl (by
    rw[n6 (x:=`GE `avU) (y:=`g `avT) (by
     rw[`Bp `avU (by rw[`bw [`w7],Pm0,kt_len])];rfl) (by rw[`aq `w7 `gf rfl,Km0 h])]
    rfl),`rD]
   congr 2;lia) rfl)]
  exact `Y6
 ·rw[`iT] at ht
  rw[`dO];refine v40 rfl (m5 (δ':=`Y5) (by
   show `nF `Y5;rw[yu0 ht];rfl) `oi)
  have h1:=Bw.Na0 `M! `pA;have h2:=Bw.Vs0 s;rw[n6 (x:=`ru (bs `M!) `g) (y:=`aJf) (by
   rw[N6 (ds:=[`dg (2*`wl+1)]) (`bk (by
    rw[n6 (x:=`g (2*`avI)) (y:=`eV) (by
     rw[`fS `ou (`g `avI) (Bw.Y90 rfl `n)];exact `rD) rfl]
    apply `Y7;congr 2) rfl)]
   exact `Y6) (`o (`bw [`gf]) (e80 s `n))]
  exact `be5
def Vq0(B:`j)(j:Nat):uo0 `Pc=`be1:=by
 apply `J3;delta qx0;rw[`a0 (ob `GN (xw0 ol0 `Pc)=`dz),`h,`a_];rw[`aq `e3 `k4 rfl];exact Kr0 B j
def e30{d:D}(h:`L8 d=`l)(B:`j):uo0 [d,`k4]=`j2:=by
 apply `J3;delta qx0;rw[`a0 (ob `GN (xw0 ol0 [d,`k4])=`c (`L8 d)),h];rfl
def K70(X:D):t40 [`x,X]=`c (`g `yA):=`dZ
def Kz0(z:Int)(X:D):t40 [`g8,X]=`c (`dg (4*`DQ+1)):=by
 refine `i9 (m5 (δ':=`be6) `A8 (`vn `be6 `A8));rw[n6 (x:=`g (4*`ahe)) (y:=`eV) (by
  rw[`fS `oz (`g `ahe) (by rw[`bw [`g8],f40])];exact `rD) rfl]
 apply `Y7;congr 2
def N40{B:`j}(h:`lG):t40 `Pc=`c (`be7):=by
 have O:=Qg0 h;refine `i9 (m5 (δ':=[`sS,`aC8]) `A8 `ic);rw[`JO];apply `vj;rw[n6 (x:=`g (4*(`Y8 - 1 - `Y3))) (y:=`ou) (by
  rw[n6 (x:=`oz) (y:=`g (`Y8 - 1 - `Y3)) rfl (by
   rw[n6 (x:=`GE `Y8) (y:=`g `Y3) (by
    rw[`Bp `Y8 (by rw[`bw [`k4],Pm0,Nn0])];rfl) (by rw[`aq `k4 `e3 rfl,M60 h])]
   rfl)]
  exact `rD) rfl]
 apply `Y7;congr 2;omega
def fi0{ps:`c6}(hj:j<`aS):ixD (`o1) `wi=`c (`MR).d/\`MR∈ps:=by
 constructor
 ·show atI (`Ka) `cG=_
  rw[`avy,`b?];simp[`bz,hj]
 ·rw[`bz,`ik hj]
  exact O0 hj
def bq0(l:`aB):`Bh (`cY `bU):=by
 delta flats;rw[`a2F,`uo];exact `a0N
def To0{ps:`c6}(hw:`vs){B:`j}{T:`i}(hB:`avV)(hT:`Y4){d:D}(hd:`tn):t00 `be8=`qo `x2/\(`z `x2)<=2700:=by
 skip;apply `avF
 have one:`q' (`J!->`bec):=Bw.Na0;apply `avW
 ·done;refine#[`Bl,?_]
  ·rw[`JO]
   apply `YU;rw[`bw `be4];exact Io0 T hT s hs ps B
  ·show (`z `Y_)<=2700
   split
   ·have:=one `aCN `pA;lia
   ·have:=one `M! `pA
    have:=Bw.Vs0 s;rw[`W];lia
 ·done;refine#[`Bq `avX `A8 (`cB `avX `oi),?_]
  ·show `nF `avX
   rw[yu0 (`Os `be9)];rfl
  ·rw[`mc [`g `yA] (by apply `aL';exact K70 _)]
   exact ln0 0 `pA
  ·exact B7 (one 0 `pA) `n
 ·have hf:`be'<`Mp:=by
   have:=Bw.fold_lt x hx;have e:8*`bek<`Mp:=`bc
   generalize (2:Nat) ^ 300=w at e;lia
  done;refine#[`Bq `avY `A8 (`cB `avY `oi),?_]
  ·show `nF `avY
   rw[yu0 (`Os `be!)];rfl
  ·rw[`mc [`dg `be'] (by apply `aL?;exact Kz0 x _)]
   exact ln0 _ hf
  ·exact B7 (one _ hf) `n
 ·have O:∀G:GS,ifD `atx G t8 `Y9=`af `Y9:=λG=>`aBs
  have ht:ob `aLZ `Y9=`be?:=`Os `bfa;have U:`aE?=`w `lG (bs (`aNs)) (`avR `So `So `So):=by
   delta hb;simp only[`b?]
  done;rw[U];let#[w1,w2]:=fi0 hj;have hq:=`avZ
  by_cases h:`lG
  ·rw[`avS] at ht
   rw[`cA];refine#[v40 rfl (m5 (O _) (`cB `Y9 `oi)),?_]
   ·rw[yu0 ht];rfl
   ·rw[`mc [`be7] (`o `aMa (N40 h))]
    exact `Y6
   ·exact B7 (one _ `pA) `n
  ·rw[`i!] at ht
   rw[`dO];apply `bfb;have hc:=hq.cnt;have Y:=Bw.y81 p;have h1:=one (4*(`NF)+3) `pA;have h2:=Bw.Bl0 hq.gp;refine#[v40 rfl (m5 (O _) `aaU),`bfc];rw[wl0 ht];refine `og p.d ?_ `oi
   ·rw[`bfd]
    exact w1
   ·rw[n6 (x:=`ru (bs (4*(`NF)+3)) `g) (y:=`aJh) (by
     rw[N6 (ds:=[`dg (4*(`NF)+3)]) (`bk (by
      rw[n6 (x:=`g (4*`ahf)) (y:=`or) (by
       rw[`fS `oz (`g `ahf) (`o `bfe (Rb0 hc))];exact `rD) rfl]
      apply `Y7;congr 2) rfl)]
     exact `Y6) (`o `bfe (Qi0 hc))]
    exact `be5
def nB(B:`j):D->`j
 | `avP=>`w `avQ B (B++[`py])
 | _=>B
def nT(T:`i):D->`i
 | `gf=>`bff
 | _=>T
def nW(ps:`c6)(B:`j)(W:`k):D->`k
 | `avP=>`w `avQ W (its `Y0++W)
 | _=>W
def pk(ps:`c6):Nat->`j->`i->`k->`aB
 | 0,_,_,_=>[]
 | _+1,_,_,[]=>[]
 | f+1,B,T,d::W=>`bfg
def st(ps:`c6)(o:`aB)(B:`j)(T:`i)(W:`k)(s:Sl):Ds:=`bfh `ahi
noncomputable def PT:GB:=`aty
def PB:GS:=u6 `atz
 (u6 `atA
 (u6 (ifD `atB
 (u6 `atC
 t8)
 (u6 (ifD `atD
 (u6 `atE
 (u6 `atF
 t8))
 t8)
 t8))
 t8))
def R80(ps:`c6)(o:`aB)(B:`j)(T:`i)(W:`k)(s:Sl):PT `bfi=`ak (0<`RJ):=by
 show `ak (`j7<(W.reverse.length:Int))=_;rw[`lx];congr 1
 by_cases h:0<`RJ
 ·rw[`i!,`oa]
 ·rw[`iT,`i']
def Ey0{T:`i}{s:Str}(hT:`Y4)(a b c e:Sl):T8 `aKU `av_=`af (`Y' (pd (kt (nT T `o')))):=by
 have zs:`J?:=`aV
 have e1:dv0 3 `lC `aLe `av_=`n7 (`F3<`R) (if `beZ=`f then (`be2).map λr=>(r,(`av_:Ds)) else `c (`bfj,(`Y' (`b4 (`m (uh0 `wB `QH)) (ui0 `wB (nd (`bJ `F3)) `QH (`bfj)))))):=rfl
 delta T8;rw[e1,`I (`ci kt_len)];show `wo _ _=`Y! (`Y' (pd (kt (`bff))))
 by_cases h:`m3
 ·rw[`I (`be_),`be3,`cA]
  rfl
 ·rw[`be0,`hP,Nv0 `aJm,`dO]
  show `Y! (`Y' (pd (kt T++[`p s])))=_;delta kt;rw[`aQ];rfl
def Wn0{B:`j}(hB:`avV)(hj:j∉B)(a b c e:Sl):w80 `aKW `aKX [a,b,`bfk,c,e,`sS]=`af [a,b,.ow (pd (kb (`yf))),c,e,`sS]:=by
 have zs:`J?:=`aV
 show `wo `aaT (`ba (`Kb<`R) ([a,b,.ow (`b4 (`m (uh0 `v6 `Y1)) (ui0 `v6 (nd (`bJ `Kb)) `Y1 (`ll `Kb))),c,e,`sS]:Ds))=_;rw[`I (`ci Nn0),Nv0 (λz=>hj ((`Y2).mp z))];delta kb;rw[`aQ];rfl
def Gt0{ps:`c6}(hw:`vs){o:`aB}{B:`j}{T:`i}{W:`k}{d:D}(s:Sl)(hB:`avV)(hT:`Y4)(hd:`tn)(ho:`avD<=12000000)(hW:`RJ<=10000):
  PB `bfl=`af (st ps `av0 (`y0) (nT T d) (`F4) `sJ):=by
 have zs:`Bt:=`aV
 let#[i1,i2]:=To0 hw hB hT hd;have p1:w80 (dy0 4) `ze `bfl=`af `bfm:=by
  delta st w80 dy0;rw[`eh];show `zo (`wo (λd'=>(d',((`bfh (`bfn).dropLast):Ds))) (`bfn).getLast?) _=_;rw[List.getLast?_concat,`Ym];rfl
 have p2:T8 `aKT `bfm=`af (`ym `av0 `sJ):=
  Bw.Dx0 (l:=o) (e:=`x2) rfl (Tw0 (`o (`bw `be8) i1) (bq0 _)) `n
 refine m5 p1 (m5 p2 ?_);skip;apply `bfo
 ·done;refine `cB (st ps (o++`EC `jD) B (nT T `jD) W (`Kc)) rfl
  rw[`JO];exact m5 (Ey0 hT _ _ _ _) rfl
 ·done;apply `bfp
  apply `ya;apply `bfp;rw[yu0 (`av1 `be9)];rfl
 ·done;apply `bfq
  apply `ya;apply `bfq;rw[yu0 (`av1 `be!)];rfl
 ·let#[w1,w2]:=fi0 hj
  have ht:ob `aKV (`aJo)=`be? :=
   `av1 `bfa
  apply `bfr
  apply `bfs
  have e3:nT T `wu=T:=rfl;done;rw[e1,e2,e3]
  by_cases h:`lG
  ·rw[`cA,`cA]
   rw[`avS] at ht;refine `bft;apply `ya;refine `bft;rw[yu0 ht];rfl
  ·rw[`dO,`dO]
   rw[`i!] at ht;have hq:=`avZ;apply `bfb;have O:=hq.gp.len;have p4:T8 `aKY (`aFq W)=`af (`aJp):=by
    refine(Bw.Je0 (l:=`ahi) (e:=(`no).reverse) rfl (by
     rw[N6 (ds:=[`aJi]) (`bk (by
      rw[`mc `F1 (`o `bfd w1)];exact Qn0 hq.gp) rfl)]
     rfl) (`fB `lx `lx)).trans ?_
    delta st;rw[`bcw];rfl
   refine `bfu;apply `ya;refine `bfu;rw[wl0 ht];exact m5 (Wn0 hB h _ _ _ _) (m5 p4 rfl)
open Bw (bs sg cnt kn its tx fold Vb Gp Gq two)
def lkd(j:Nat):D:=`Cu
def Qz0{P:`YT}(hs:`bfv){ps:`l?}(h1:∀v∈`oJ,P v)(h2:∀s∈`w',`qp):∀d∈`t3,P d:=(λd hd=>by
 let#[p,hp,hm]:=`avK;delta two at hm;apply `avL
 ·exact hs _ (h2 _ `bfw)
 ·rw[`gs hm];exact h1 _ `bfw)
def Ie0{P:`YT}(hs:`bfv){p:Pt}(hn:∀s∈p.all,`qp)(hv:∀v∈`Br,P v):∀d∈`no,P d:=by
 cases p with
 | text w=>intro d hd;cases hd
 | row vs=>exact hv
 | table ps=>exact Qz0 hs hv `bfx
 | rcd c ps=>
  intro d hd;apply `vr
  ·exact hs c (hn c `beR)
  ·exact Qz0 hs hv (`bfx) d hd
def Wb.its{ps:`c6}(hw:`vs){p:Pt}(hp:p∈ps):∀d∈`no,`tn:=(
 Ie0 (λs h=>`m #[s,rfl,h]) (`bfy).names λv hv=>.of ((`bfy).vals v hv) (hw.lk p hp v hv))
def ar0N{a w p b M:Nat}(h1:w+1+51*(p - b)<=M+1)(a3:a<=50)(h:b+1<=p):a+w+51*(p - (b+1))<=M:=by
 let#[k,rfl]:=Nat.exists_eq_add_of_le h;rw[`HU];rw[Nat.add_assoc b,`HU] at h1;lia
def Mp0{ps:`c6}(hw:`vs):∀(M f:Nat) (o:`aB) (B:`j) (T:`i) (W:`k) (s:Sl),`aFr->M<f->M<=4000->`Kd (`avD+2700*M)->`pz+M<=20000->B.Nodup->(∀x∈B,x<`aS)->(∀d∈W,`tn) ->
  `Kd (`z (o++`av2))/\∃B' T' s',vy0 PT PB f `bfi=`af (st ps (o++`av2) B' T' [] s'):=by
 intro M
 induction M with
 | zero=>
  intro f o B T W s h1 h2 _ h4 _ _ _ _;have:W=[]:=`N8 `n;subst this;apply `bfz;rw[pk,`cT];refine`bfA;delta vy0;rw[R80,`aR `a?]
 | succ M ih=>
  intro f o B T W s h1 h2 h3 h4 h5 hn O hW;skip;apply `bfz;cases W with
  | nil=>
   done;rw[pk,`cT];refine`bfA;delta vy0;rw[R80,`aR `a?]
  | cons d W=>
   rw[`an] at h1;have hd:=hW d A7;have U:∀d∈W,`tn:=λe he=>hW e (B3 _ he)
   have a4:`xo<=`aS:=by
    have:=`bfB hn O
    rwa [xf0] at this
   have a2:=hw.len.2;have sp:=Gt0 hw s (o:=o) (B:=B) (T:=T) (W:=W) (d:=d) `n `n hd `n `n;let#[_,i2]:=To0 hw (B:=B) (T:=T) `n `n hd;have a1:(`z `F4)+51*(`aS - (`z `y0))<=M/\(`z (nT T d))<=`pz+1/\(`y0).Nodup/\(∀x∈`y0,x<`aS)/\∀e∈`F4,It `aS e:=by
    skip;apply `bfo
    ·done;refine#[`aJq,?_,hn,O,U]
     show (`z (`w (x∈T) T (T++[x])))<=_;split
     ·lia
     ·rw[`W,`e8];lia
    ·done;exact`bfC
    ·done;exact`bfC
    ·apply `bfr
     apply `bfs
     done;rw[e1,e2]
     by_cases h:`lG
     ·rw[`cA,`cA]
      exact#[`E,`ahj,hn,O,U]
     ·rw[`dO,`dO]
      let#[_,w2]:=fi0 hj;have a3:=(`avZ).gp.len;have Z:(`yf).Nodup:=List.nodup_append.mpr #[hn,`bO,λa ha b hb e=>by rw[`Ww] at e;exact h (e▸ha)];have Y:∀x∈`yf,x<`aS:=λx hx=>by
       rcases `apb with z|z
       ·exact O x z
       ·rw[`Jp];exact hj
      have hl2:(`z `yf)<=`aS:=by
       have:=`bfB Z Y
       rwa [xf0] at this
      refine#[?_,`ahj,Z,Y,λe he=>?_]
      ·rw[`W] at hl2 ⊢
       rw[`W];simp only[`e8] at hl2 ⊢;exact ar0N h1 a3 hl2
      ·rcases `d9 he with z|z
       ·exact hw.its w2 e z
       ·exact U e z
   let#[k1,k2,k3,k4,k5]:=a1;have:=ih g `av0 (`y0) (nT T d) (`F4) `sJ k1 `n `n (`bfc) `n k3 k4 k5;apply `aT `km;let#[q0,B',T',s',q]:=`F;done;refine#[q0,B',T',s',?_];delta vy0;rw[R80,`ar (`TB)];simp only[sp];exact q
def pak(ps:`c6)(r:Nat):`aB:=pk ps 100000 [] [] [lkd r]
def H20{ps:`c6}(hw:`vs):mx0 [`o1]=`qo (pak ps 0)/\`Kd (`z (pak ps 0)):=by
 have O:=hw.len.2;let#[q0,B',T',s',q]:=Mp0 hw 3500 100000 [] [] [] `av3 .un `Rx `u `u `a? `a? d6 (λx hx=>by cases hx) (λd hd=>by
  rw[`Y?];exact `l6 #[0,rfl,hw.len.1])
 rw[`q8] at q0 q;refine#[`bei,q0];refine `av4 .un .un (`av4 `av5 .un (`av4 `av5 `av5 (`oh (st ps [] [] [] `av3 .un) (m5 q `R1))))
omit Km
namespace Rk
open DL W Rm StrLaws
open Bw (bs hi)
def Fe0{S:RS}{w:`aw}(hw:`dW)(hv:`j8):`JW:=by
 skip;let#[c,b,u,nm,w',dg,l,sp]:=S;have:w'=`mm:=hw;subst this;done;apply `t8 w `bb9
open Bt (U6 m9 b8 U9 xb0 yi0 M8 K8 Y0)
def Z10(S:RS)(kd:Nat)(hk:`eS)(n:Int)(h:`bfD):v00 `bo `bfE=`jW:=by
 refine `bq `Za
 show tv0 `Za=_;have c1:ob `atK `Za=`ak `ahk:=by
  apply `aC;rw[`fS `ev `auZ `bcD];rfl
 have c2:ob `atL `Za=`ak `F5:=by
  apply `aC;rw[`bcE];show `bcF;congr 2;apply `cp
 apply `dV;rw[xb0 (by
  delta wg0;rw[c1,`h,c2]
  by_cases h1:`ahk
  ·rw[`JP];rfl
  ·rw[`auc,`ar (`Zb h1)];rfl)]
 exact `d0
def ed0(S:RS)(p:`d)(N:Int)(j:Int):`bcK:=(`jU)
def V60(S S':RS)(N:Int)(h0:0<=N)(h3:N%4=3)(r:D)(h:v00 `bo [`bfF,`bfG]=`gC):`au2=`gC:=by
 refine `bq [`uk,`kJ,`Ca]
 apply `au3;apply `bL `ly `ag9 `b!;rw[`dp ed0 (`ar h3)];refine b8 (M8 (uj0 (`bk (d:=`bfF) ?_ (`rA `bfG rfl)) h));show atC _ (`g (N/4%4))=_;rw[`cP (N/4%4=(`aM `aJr))];exact Ks0 _ `n
def Se0(S:RS)(w:`aw)(ws:`ag)(hw:`dW)(N:Int)(h3:N%4≠3)(h:`oG∨(N%4≠1/\¬(N%4=2/\`ajo)/\N≠0)):`au2=`jW:=by
 refine `bq `ly
 apply `au3;refine `bcL;apply `bL `ly (`rr ed0 h3) ?_
 by_cases hr:`oG
 ·apply `dV
  rw[xb0 (by rw[`Ol,`bfH,`ar hr])];exact `d0
 ·let#[h1,h2,h4]:=`Zb hr
  refine m9 (δ':=`ly) (by
   rw[yi0 (by rw[`Ol,`bfH,`aR hr])];rfl) `b!
  rw[`kw ed0 `auc];apply `dV;rw[yi0 (by
   delta xd0;rw[ed0,`h]
   by_cases h5:N%4=2
   ·rw[`ar h5,`a_]
    apply `aC;rw[`bcM];show `bcN;rw[`aR λz=>h2 #[h5,z]]
   ·rw[`aR h5];rfl)]
  apply `dV;rw[yi0 (by
   apply `aC;show `bcP;rw[`aR h4])]
  exact `d0
def L60(S:RS)(w:`aw)(ws:`ag)(hw:`dW)(b:Int)(hb:128<=b)(h:`FX=0∨¬(`bcT)):`YA=`jW:=by
 apply `bcU;rw[← hn] at h;refine `bq `iG
 show ua0 `il=_;refine m9 (δ':=`iG) (U9 (yn0 (d:=`ev) (by
  apply `bcV;rfl))) ?_
 refine m9 (δ':=`iG) (by
  rw[yi0 (by
   apply `aC;apply `au6;rw[`i'])]
  rfl) `b!
 have t1:`bcW=`c (`au7,`iG):=by
  apply `Be;rw[show `bcY=`c (`au7) from `jU];rfl
 have t2:`bcZ=`c (!`bcR,`iG):=by
  apply `Bf;rw[`bc_];rfl
 delta ifX orT;rw[t1,`h]
 by_cases h0:n=0
 ·rw[`aua]
  rfl
 ·rw[`aub]
  apply `bc0;rw[`d6,t2,`aR (`Zb h0)];rfl
def Gi0(S:RS)(b:Nat)(hb:b∉vp0):`bc!=`jW:=by
 apply `bfI
 show s00 `hk=_;refine m9 (δ':=`Sp) (U9 (yn0 (by
  rw[`bda,`bdb,`eP]))) `b!
 rw[xb0 `ex];exact `d0
def Nf0(S:RS)(b:Nat)(hn:`J6)(hl:∀n∈`b',`gH)(hs:`YM)(hL:`Bk)(h:`atW):`avl=`jW:=by
 by_cases hb:`J7
 ·have O:=`Zb λz=>z hb
  refine `bq `qn
  show `YO;have sp:`bdz:=by
   apply `rv
   rw[`bdA];apply `Yd
  refine m9 (δ':=`qn) (U9 (yn0 (by
   rw[`avj,`avk,`f_]))) `b!
  rw[xb0 (by
   delta wg0;apply `bdB;delta yo0;rw[`bdC,O];rfl)]
  exact `d0
 ·apply `bfI
  show `YO;refine m9 (δ':=`Sp) (U9 (yn0 (by
   rw[`avj,`avk,`eP]))) `b!
  rw[xb0 (by
   delta wg0;rw[`Eo (ob `aie `Sp=`dz)];rfl)]
  exact `d0
def Ov0(S:RS)(hn:`gp<=60)(hl:∀n∈`b',`gH)(b:Nat)(hb:b%2=1)(h:`atV):`bfJ=`jW:=by
 obtain⟨L,hL⟩:∃L:Nat,L=b/2:=`Y;rw[← hL] at h;refine `bq `Bu
 show wx0 `hk=_;refine m9 (δ':=`hk) (by
  rw[yi0 (by
   apply `aC;show `bfK;rw[`i'])]
  rfl) ?_
 refine m9 (δ':=`Bu) (U9 (yn0 (d:=`oH) (by
  show `bfL;congr 2;lia))) ?_
 have t1:ob `NE `Bu=`ak (L=0):=Y0 (by
  show `bds;congr 2;apply `cp)
 have t2:ob `atM `Bu=`ak (8<L):=Y0 (by
  apply `bdt;congr 2;apply `cp)
 have t3:ob `atN `Bu=`ak `Oi:=Y0 (by
  apply `bdu;show `bdv;congr 2;apply `cp)
 by_cases hA:L=0∨8<L∨`Oi
 ·apply `dV
  rw[xb0 (by
   delta wg0;rw[t1,t2,t3]
   by_cases a:L=0
   ·rw[`ar a];rfl
   ·rw[`aR a]
    by_cases a2:8<L
    ·rw[`ar a2];rfl
    ·rw[`aR a2,`ar (`QF (hA.resolve_left a) a2)];rfl)]
  exact `d0
 ·have O:`bdp=`l:=by
   rcases h with h|h|h|h
   ·exact `J `HB hA
   ·exact `J (`p `HB) hA
   ·exact `J (`aYO) hA
   ·exact h
  refine m9 (δ':=`Bu) (by
   rw[yi0 (by
    delta wg0;rw[t1,t2,t3,`aR λz=>hA `w3,`aR λz=>hA `Zc,`aR λz=>hA `bfM];rfl)]
   rfl) `b!
  rw[xb0 (by
   delta yo0;rw[`bdw,O];rfl)]
  exact `d0
def O90(S:RS)(b:Nat)(hb:`gp<=b):`avA=`jW:=by
 refine `bq `hk
 show v30 `hk=_;apply `dV;rw[xb0 (by
  apply `aC;apply `avB;apply `avC;rw[`oa])]
 exact `d0
def Ic0(nm:`j)(l:`k)(hl:`bfN)(h:`B9∈l):ta0 `l `lc (`v7)=`iL:=by
 show (`ba (`ajp/\`bfN) (`YR (l.any `aJc)))=_;rw[`t7 hl];congr 2;rw[`tS];exact r8.mpr #[_,h,`Hx rfl]
def R90(S:RS)(ws:`ag)(hw:`cd=`f?::ws)(b:Nat)(hb:b<`gp)(nm:`j)(hnm:`avz)
  (k:Nat) (u:`j) (q:`e2) (hu:`vl) (hq:`kx) (hh:`J9) (hni:`B9∈`wC):`avA=`jW:=by
 refine `bq `nG
 show v30 `hk=_;refine m9 (δ':=`hk) (by
  rw[yi0 (by
   apply `aC;apply `avB;apply `avC;rw[`Sl])]
  rfl) ?_
 refine m9 (δ':=`nG) (U9 (yn0 (Wb0 p S _ _ (`x0 - b) nm (by
  apply `bd3;show `bd4;congr 2;omega) hnm))) `b!
 have t1:`bd5=`bfO:=by
  apply `Be;rw[`bd6,`QI `f? `f?];rfl
 have t2:`bd7=`bfO:=by
  delta xm0 du0;apply `bd8;show `bd';rw[Ic0 nm _ hh.fl hni];rfl
 delta ifX Ue0;rw[t1,`h];apply `bd!;rw[`a_,t2];rfl
def cm0(S S':RS)(b:Nat)(hb:b%2=0)(r:D)(h:xp0 `bo [`bfP]=`gC):`bfJ=`gC:=by
 refine `bq [`uk,`gY,.un]
 show wx0 `hk=_;apply `dV;rw[xb0 (by
  apply `aC;show `bfK;rw[`oa])]
 refine b8 (M8 (uj0 (`rA `bfP ?_) h));show `bfL;congr 2
def Rq0(S:RS)(hw:`Yh)(b:Int):`av6:=by
 refine `bq `il
 show `YG;apply `dV;have t:`bc2=`c (`f,`il):=by
  delta xm0;rw[`YF,hw];rfl
 delta ifX;rw[t];rfl
open Bw (bs its two kn cnt Vb Gq)
open Km (hb nB nT nW pk lkd It Wb)
def n00:∀{l:`k},(∀d∈l,`AV)->`bfQ:=by
 intro z;induction z with
 | nil=>intro _;exact rfl
 | cons d l ih=>
  intro h
  delta trs;rw[h d A7,`Ke];rfl
open Bw (bs sg its two kn cnt tx Vb Gq)
open Km (hb nB nT nW pk lkd It Wb ix)
section
variable{ps:`c6}{B:`j}{T:`i}{S:RS}
def Ft0{l:`bn}{k:Nat}{f:α->α}{a:α}(ha:l[k]?=`k0):(l.modify k f)[k]?=`c (f a):=by
 rw[`JV,ha];simp
def S20{k:Nat}{u:`j}(hu:`vl)(d:D):`Zd=`vd:=by
 delta RS.hold;rw[hu]
omit z
def Nm(l:`j):Prop:=1<=`bT/\`bT<=8/\∀c∈l,`tl
def Ft(n:Nat):`aw->`YT
 | `fR,d=>∃c,`vt/\d=`Ez
 | `eY,d=>`R!∨(∃z,d=`g8)∨∃j,j<n/\d=link j
 | `f?,d=>`bfR
 | `kN,d=>`bfR
 | _,_=>`b_
inductive Fts (n:Nat):`ag->`k->Prop
 | nil:Fts n [] []
 | cons {w:`aw} {ws:`ag} {d:D} {ds:`k}:`Kf->`Bv->Fts n (`mm) `pY
def Ft.mono(h:n<=m){w:`aw}{d:D}(f:`Kf):Ft m w d:=by
 skip;cases w with
 | value=>
  rcases f with f|f|⟨j,hj,f⟩
  ·done;exact `m f
  ·done;apply `ko f
  ·done;apply `gO #[j,`E,f]
 | root=>done;exact f
 | sign=>done;exact f
 | name=>done;exact f
 | cls=>done;exact f
 | fin=>done;exact f
def Fts.mono(h:n<=m)(f:`Bv):Fts m ws ds:=by
 induction f with
 | nil=>exact `_
 | cons a _ ih=>exact `ai (a.mono h) ih
def Fts.snoc(f:`Bv){w:`aw}{d:D}(h:`Kf):Fts n (ws++[w]) (ds++[d]):=by
 induction f with
 | nil=>exact `ai h `_
 | cons a _ ih=>exact `ai a ih
def Fts.len(f:`Bv):`amz=`cy:=by
 induction f with
 | nil=>rfl
 | cons a _ ih=>rw[`an,`an,ih]
def Ft.tr{w:`aw}{d:D}(h:`Kf):`AV:=by
 cases w with
 | value=>rcases h with rfl|⟨z,rfl⟩|⟨j,_,rfl⟩<;>rfl
 | sign=>apply `Bw;rfl
 | name=>apply `Bw;rfl
 | cls=>apply `Bw;rfl
 | root=>exact `fE
 | fin=>exact `fE
def Ft.nr{w:`aw}{d:D}(h:`Kf):`n9:=by
 skip;cases w with
 | value=>
  rcases h with rfl|⟨z,rfl⟩|⟨j,_,rfl⟩
  ·done;rfl
  ·done;rfl
  ·done;exact de0 j
 | sign=>apply `Bw;done;rfl
 | name=>apply `Bw;done;rfl
 | cls=>apply `Bw;done;rfl
 | root=>done;exact `fE
 | fin=>done;exact `fE
def Fts.trs(f:`Bv):`a'O:=by
 induction f with
 | nil=>rfl
 | cons a _ ih=>
  show (DL.tr _&&DL.trs _)=`f;rw[a.tr,ih];rfl
def Fts.nrs(f:`Bv):`W_:=by
 induction f with
 | nil=>rfl
 | cons a _ ih=>
  show (nrf _&&qg0 _)=`f;rw[a.nr,ih];rfl
def lim(kd:Nat):Nat:=`Oj
def Pq(N:Nat)(q:`e2)(todo:`ag):Prop:=∃n done,`Bm/\`av7/\`aET=done++`ie/\Fts N done q.2
inductive Opens (N:Nat) (bg:`rq):`bfS
 | nil:`fA N bg [] []
 | cons {k:Nat} {q:`e2} {us:`j} {todo ws:`ag}:`vu->Pq N q `ie->`av8->`bfT->`fA N bg `sr (`Ms)
def Nw0(kd:Nat):`Mq<=20:=by delta lim;split<;>lia
def Pq.mono{N:Nat}(h:N<=M){t:`ag}(p:`Ze):Pq M q t:=by
 let#[n,d,a,b,c,e]:=p;exact#[n,d,a,b,c,e.mono h]
def Opens.mono{N:Nat}(h:N<=M){u:`j}{w:`ag}(o:`vv):`fA M bg u w:=by
 induction o with
 | nil=>exact `_
 | cons a b c _ ih=>exact `ai a (b.mono h) c ih
def Opens.same{N:Nat}{bg':`rq}{u:`j}{w:`ag}(o:`vv)(h:∀j∈u,∀q,bg[j]?=`dY->bg'[j]?=`dY):`fA N bg' u w:=by
 induction o with
 | nil=>exact `_
 | cons a b c _ ih=>exact `ai (h _ A7 _ a) b c (`bdI)
def Opens.un{N:Nat}{u:`j}{w:`ag}(o:`vv):∀k∈u,k<bg.length:=by
 induction o with
 | nil=>intro k hk;cases hk
 | cons a b c _ ih=>
  intro k hk;rcases `cg hk with rfl|hk
  ·exact(`ch a).1
  ·exact ih k hk
def Opens.len{N:Nat}{u:`j}{w:`ag}(o:`vv):∀m,(∀k∈u,k<m)->`FV<=m:=by
 induction o with
 | nil=>intro m _;exact `b7
 | cons a b c _ ih=>
  intro m hm;have h1:=hm _ A7;have h2:=ih _ c;rw[`an];lia
def Qq0(kd n:Nat):`Bb ∉`hg:=by
 have hf:`q' (`Bb ∉`aiP):=λn hm=>by
  apply `bfU;rw[`av9] at hm;simp at hm
 intro h
 match kd with
 | 0=>cases `Zf
 | 1=>cases `Zf
 | 2=>exact `Zg
 | k+3=>
  rcases `D? with h|h
  ·cases h
  ·exact `Zg
def cg0(kd n:Nat):Want.root∉`hg:=by
 have hf:`q' (Want.root∉`aiP):=λn hm=>by
  apply `bfU;rw[`av9] at hm;simp at hm
 intro h
 match kd with
 | 0=>cases `Zf
 | 1=>cases `Zf
 | 2=>exact `Zg
 | k+3=>
  rcases `D? with h|h
  ·cases h
  ·exact `Zg
def Pq.todo{N:Nat}{t:`ag}(p:`Ze):`ahK<=50/\`d1 ∉t/\`jm ∉t/\`wT<=50:=by
 let#[n,d,a,b,c,e]:=p;have h1:=cv0 q.1 n (B7 b (Nw0 _));have h2:=e.len;rw[c,`W] at h1;refine#[`E,λz=>Qq0 q.1 n `bfV,λz=>cg0 q.1 n `bfV,`E]
def Opens.wl{N:Nat}{u:`j}{w:`ag}(o:`vv):`dA<=51*`FV/\`bb6=`FV:=by
 induction o with
 | nil=>exact#[`gW,rfl]
 | cons a b c _ ih=>
  have h1:=b.todo;refine`hL
  ·rw[`W,`an,`an]
   have:=ih.1;have:=h1.1;lia
  ·rw[List.count_append,`auP,ih.2,List.count_eq_zero.mpr h1.2.1,`an,`ft]
def Opens.pq{N:Nat}{u:`j}{w:`ag}(o:`vv){k:Nat}(h:`vu)(hk:k∈u):∃t,`Ze:=by
 induction o with
 | nil=>cases hk
 | cons a b c _ ih=>
  rcases `cg hk with e|hk
  ·rw[← e,h] at a;cases a;exact#[_,b]
  ·exact ih hk
structure Gi(S:RS):Prop where
 few:`Yi
 op:`cI=[]/\`a7=[]/\`bfW/\`b'=[]/\`ed∨`av'/\`fA `a1 `cI `a7 `cd
 cl:∀k q,`kx->k∉`a7->Pq `a1 q []
 nl:`gp<=60
 nm:∀n∈`b',Nm n
 dg:0<=`mz
 l8:`Bk
 sp:`bfX∨`YM/\`Gf/\∀c∈`rY,`tl
 ln:`dF≠0->∃w ws,`dW/\(`oe)
 dv:`mz≠0->∃w ws,`dW/\(`od)
theorem Kb0:Gi `k5 where
 few:=`aV
 op:=`m #[rfl,rfl,rfl,rfl,rfl]
 cl:=λk q h=>`bfY
 nl:=`aV
 nm:=λn h=>`bfY
 dg:=`aV
 l8:=`aV
 sp:=`m `nT
 ln:=`av!
 dv:=`av!
def Gi.pq{S:RS}(G:`bM){k:Nat}(h:`kx):`bfZ:=by
 by_cases hk:k∈`a7
 ·rcases G.op with⟨e,_⟩|⟨_,o⟩
  ·rw[e] at h;cases h
  ·exact o.pq h hk
 ·exact#[[],G.cl k q h hk]
def Gi.wl{S:RS}(G:`bM):`s2<=4000/\`bb!/\`xW<=60/\∀k∈`a7,`A!:=by
 skip;apply `bf_
 ·done;rw[e2,e3]
  exact#[`aV,`aV,`aV,λk hk=>by cases hk]
 ·have h1:=o.wl
  have h2:=o.len _ o.un;have h3:=`qq;done;exact#[`E,`E,`E,o.un]
def Gi.ok{S:RS}(G:`bM):Ok S:=by
 have w:=G.wl;have few:=`qq;have nl:=`gG;refine#[w.2.2.2,few,`a2x,`E,`E];let#[k,hk]:=B00.mp hq;let#[t,p]:=G.pq hk;have:=`bf0;lia
def Opens.top{N:Nat}{u:`j}{w:`aw}{rest:`ag}(o:`fA N bg u (`KY))(hf:`j8):∃k us q todo ws,u=`oS/\`vu/\`bf1/\`aA=`Ms/\`av8/\`bfT:=by
 generalize e:`KY=l at o;cases o with
 | nil=>cases e
 | @cons k q us todo ws a b c o=>
  cases `ie with
  | nil=>cases e;exact `av?
  | cons t todo=>cases e;exact#[k,us,q,`ie,ws,rfl,a,b,rfl,c,o]
def Ni0{l:`bn}{k:Nat}{f:α->α}(h:j≠k):(l.modify k f)[j]?=l[j]?:=by
 rw[`JV];cases l[j]? with
 | none=>rfl
 | some x=>
  show `c (`w (k=j) (f x) x)=`c8;rw[`Q `bc']
def Pq.snoc{N:Nat}{w:`aw}{todo:`ag}(p:`bf1){d:D}(h:Ft N w d):Pq N `bf2 `ie:=by
 let#[n,dn,a,b,c,e]:=p;exact#[n,dn++[w],a,b,`b9 c `km,e.snoc h]
def Gi.open'{S:RS}(G:`bM){w:`aw}{rest:`ag}(hw:`f6)(hr:`vw):`av'/\`fA `a1 `cI `a7 (`KY):=by
 skip;rcases G.op with⟨_,_,e,_⟩|⟨a,o⟩
 ·rw[e] at hw;cases hw;done;exact `bf3
 ·rw[hw] at o;done;exact#[a,o]
def Gi.aft{S T:RS}(G:`bM)(hM:`a1<=M){w:`aw}{rest:`ag}(hw:`f6)(hr:`vw)(hf:`j8){d:D}(hd:Ft M w d)
  (e1:`Kg=`Zd) (e2:T.un=`a7) (e3:`bf4):T.begun.length=`a1/\`av'/\`fA M `Kg T.un T.wait/\∀k q,`Kg[k]?=`dY->k∉T.un->Pq M q []:=by
 skip;let#[U,o]:=`bf5;let#[k,us,q,todo,ws,hu,hq,p,he,O,o']:=o.top hf;have eb:`Kg=`vd:=by rw[e1,S20 hu]
 have hk:∀j∈us,j≠k:=λj hj=>`d' (O j hj)
 done;refine#[by rw[eb,`auH],U,?_,?_]
 ·rw[e2,e3,hu,he]
  refine `ai (`o eb (Ft0 hq)) ((p.mono hM).snoc hd) O ?_;refine(o'.mono hM).same λj hj q' h=>?_
  rw[eb,Ni0 (hk j hj)];exact h
 ·intro j q' h hj
  rw[e2] at hj;have Y:j≠k:=λz=>hj (`d? hu z A7)
  rw[eb,Ni0 Y] at h;exact(G.cl j q' h hj).mono hM
def Gi.held{S T:RS}(G:`bM){w:`aw}{rest:`ag}(hw:`f6)(hr:`vw)(hf:`j8){d:D}(hd:Ft `a1 w d)
  (e1:`Kg=`Zd) (e2:T.un=`a7) (e3:`bf4) (n1:T.names.length<=60) (n2:∀n∈T.names,Nm n) (d0:T.digits=0) (l0:`pz=0) (s0:T.spelled=[]):Gi T:=by
 let#[a,b,c,d']:=G.aft `bQ hw hr hf hd e1 e2 e3;refine#[`o a `qq,`p #[λz=>b (`N8 (by rw[← a,z];rfl)),`o a c],`o a d',n1,n2,`o d0 (Int.le_refl _),`ci l0,`m #[l0,s0],`bf6,λh=>`J d0 h]
def Gi.part{S:RS}(G:`bM){w:`aw}{rest:`ag}(hw:`f6)(hv:`od)(kd n:Nat)(hk:`eS)(hn:`Kh)(h60:`a1<60)(l0:`ed)(s0:`nH):Gi (`ry):=by
 have O:`bf7=`a1:=rb0 _ _;have Y:`fA (`a1+1) `F6 `a7 `aA/\∀k q,`F6[k]?=`dY->k∉`a7->Pq (`a1+1) q []:=by
  rcases hv with rfl|rfl
  ·skip;apply `bf_
   ·rw[e3] at hw
    cases hw;have e:`F6=[]:=`bf8 e2 e1
    done;rw[e,e2];exact#[`_,λk q h=>by cases h]
   ·rw[hw] at o
    let#[k,us,q,todo,ws,hu,hq,p,_]:=o.top `u;done;exact `J A7 p.todo.2.2.1
  ·let#[a,b,c,d]:=G.aft (T:=`o?) (E5 _) hw `u `u (d:=`Lj) (`p (`p #[_,H0 _,rfl])) rfl rfl `Ki
   have e3:`au1=`aA:=`Mr
   rw[e3] at c;exact#[c,d]
 have eb:(`ry).begun=`bf9:=rfl;have eu:(`ry).un=`JY:=by
  show `bf7::`a7=_;rw[O]
 have ew:(`ry).wait=`hg++`d1::`aA:=by
  show `hg++([`Bb]++`xt)=_;rw[hw];rfl
 have el:(`ry).begun.length=`a1+1:=by rw[eb,`W,O];rfl
 have Z:=G.wl.2.2.2;refine#[`ci el,`p #[(λz=>by rw[z] at el;cases el),?_],?_,`gG,`jN,Int.le_refl _,?_,`m `hL,`bf6,`av!]
 ·rw[el,eu,ew]
  refine `ai (q:=`LH) (by rw[eb,`I4,O,`iF];rfl) #[n,[],hk,hn,rfl,`_] Z (Y.1.same λj hj q h=>?_);rw[eb,`fa `V0];exact h
 ·intro k q h U
  rw[eu] at U;rw[el];rw[eb] at h;have h1:k≠`a1:=λz=>U `apG
  have h2:=`V0;rw[`W,O,`e8] at h2;rw[`fa (`ci O)] at h;exact Y.2 k q h λz=>U (B3 _ z)
 ·show `Bk
  exact G.l8
 ·exact l0
 ·exact s0
def Lz0{N:Nat}{u:`j}{w:`ag}(o:`vv)(h:∀k q,`vu->k∉u->`Zh):`fA N bg (`JJ).2 (`JJ).1/\(∀k q,`vu->k∉(`JJ).2->`Zh)/\(`JJ).1.head?≠`sT:=by
 induction o with
 | nil=>exact#[`_,h,λz=>by cases z]
 | @cons k q us todo ws a b c o ih=>
  cases `ie with
  | nil=>
   show `fA N bg `awa (`Ot).1/\_;refine ih λj q' h1 h2=>?_
   by_cases e:j=k
   ·rw[e,a] at h1
    cases h1;exact b
   ·exact h j q' h1 λz=>by rcases `cg z with z|z;exact e z;exact h2 z
  | cons t todo=>
   have ht:t≠`d1:=λz=>b.todo.2.1 `apG
   have e:`Kj=(t::(`Ms),`oS):=by
    cases t with
    | fin=>exact `J rfl ht
    | root=>rfl
    | value=>rfl
    | sign=>rfl
    | name=>rfl
    | cls=>rfl
   show `fA N bg (`Kj).2 (`Kj).1/\(∀k' q,bg[k']?=`dY->k'∉(`Kj).2->`Zh)/\(`Kj).1.head?≠`sT;rw[e];exact#[`ai (todo:=t::`ie) a b c o,h,λz=>ht `H1]
def Gi.ends{S:RS}(G:`bM):Gi `C_/\S.ends.wait.head?≠`sT:=by
 skip;rcases G.op with⟨e1,e2,e3,e4,e5⟩|⟨a,o⟩
 ·have:`JW:=by
   delta RS.ends;rw[e2,e3];show ((`atZ [`jm] []):RS)=S;rw[← e2,← e3]
  done;rw[`F];exact#[G,`qO e3]
 ·let#[x,y,z]:=Lz0 o G.cl
  by_cases h:`bb5
  ·have h1:`ed:=L4 λz=>by
    let#[w,ws,e,hv]:=`ahE;rw[e] at h;cases h;apply `bf'
   have h2:`mz=0:=L4 λz=>by
    let#[w,ws,e,hv]:=G.dv z;rw[e] at h;cases h;apply `bf'
   done;exact#[#[`qq,`p #[a,x],y,`gG,`jN,G.dg,G.l8,G.sp,λz=>`J h1 z,λz=>`J h2 z],z]
  ·have e:`JW:=by
    cases hw:`cd with
    | nil=>
     delta RS.ends;rw[hw];have:vn0 [] `a7=([],`a7):=`ain `a7
     rw[`F];show ((`atZ [] `a7):RS)=S;rw[← hw]
    | cons w ws=>exact Fe0 hw λz=>h (`b9 hw z)
   done;rw[e];exact#[G,h]
def Gi.next{S:RS}(G:`bM):Gi (next S)/\(next S).wait.head?≠`sT:=(Gi.ends (S:=`au!) (`bf! G.op G.sp))
def Tk(m:`aJ)(ds:`k)(S:RS):`bf?
 | `c S'=>`awb=`rz S'/\Gi S'/\S'.count=`k2
 | `e=>`awb=`jW
def Tk.lift{m m':`aJ}{ds':`k}{S:RS}{o:`iI}(h:Tk m ds S o)(k:∀r S',`awb=`gC->m' `bo ds'=`gC):Tk m' ds' S o:=by
 cases o with
 | none=>exact k _ _ h
 | some S'=>exact#[k _ _ h.1,h.2]
def pairs_len(n:Nat):(`aca `aaY)=2*n:=by
 induction n with
 | zero=>rfl
 | succ n ih=>
  rw[`fk,`hK,`W,ih];show 2+2*n=_;lia
def Zr0(kd n:Nat)(h:`Kh):`bcB<=25:=by
 have O:=Nw0 kd
 match kd,h with
 | 0,h=>apply `Yw;rw[`kh];lia
 | 1,h=>apply `Yw;rw[`kh];lia
 | 2,h=>
  have:n<=12:=h;show `Yu<=_;rw[pairs_len];lia
 | k+3,h=>
  have:n<=12:=h;show `bcC;rw[`an,pairs_len];lia
def Fts.pairs{N:Nat}(n:Nat):∀(ws todo:`ag) (ds:`k),Fts N ws ds->`DX=ws++`ie->∀x∈`bdP `gc,∃l,Nm l/\x=K5 l:=by
 induction n with
 | zero=>
  intro ws todo ds f h x hx;cases f with
  | nil=>cases hx
  | cons _ _=>cases h
 | succ n ih=>
  intro ws todo ds f h x hx;cases f with
  | nil=>cases hx
  | @cons a ws' d ds' fa f=>
   cases f with
   | nil=>cases hx
   | @cons b ws d' ds'' fb f=>
    rw[`fk,`hK] at h;have h':`DG::`Nj::`DX=a::b::(ws++`ie):=h;injection h' with e1 h'
    injection h' with e2 h'
    rcases `abk with hx|hx
    ·rw[← e1] at fa
     rw[hx];exact fa
    ·exact ih ws `ie _ f h' x hx
def Le0(h:∀x∈l,`bga):`bgb:=by
 induction l with
 | nil=>rfl
 | cons a l ih=>
  let#[n,_,e]:=h a A7;have h2:=`Ke
  rw[e];show (`cH (K5 n)&&`h' l)=`f;rw[h2];rfl
def Pq.names{N:Nat}{t:`ag}(p:`Ze):∀x∈`wC,`bga:=by
 skip;apply `awc;let#[kd,ds]:=q
 apply `Yr
 ·done;intro x hx;cases hx
 ·done;intro x hx;cases hx
 ·done;exact Fts.pairs n dn t ds f e
 ·done;intro x hx;have hx:x∈`yC (`kZ (`agw 1)):=hx;cases f with
  | nil=>cases hx
  | @cons w ws d ds a f=>
   have e':`aL6::`DX=w::(ws++t):=e;injection e' with e1 e2
   exact Fts.pairs n ws t ds f e2 x hx
def Pq.held{N:Nat}{t:`ag}(p:Pq N q (`f?::t)):`J9:=by
 have O:=p.names;apply `awc;have hl:=`bgc;have hf:=f.len;rw[e,`W] at hl;refine#[hk,`bgd,f.trs,f.nrs,Le0 O]
 ·rw[h0] at e
  have:`DG∈`awd:=by
   rw[`a0 (`awd=`K0 0 n),e];exact `awe
  cases (`xp `F).2
 ·rw[h3] at e
  intro hz;rw[hz] at f;cases f;cases e
def Pj0{S:RS}(G:`bM){w:`aw}(hw:`dW)(hv:`oe)(h0:`ed)(hs:`nH)(b:Nat):`vx xp0 (S.known b eqS):=by
 delta RS.known
 by_cases hb:`gp<=b
 ·rw[`f_]
  exact O90 S b hb
 ·rw[`eP]
  obtain⟨nm,O⟩:∃nm,`avz:=#[_,C4 `c_];have Y:=`jN nm (D3 O);have eg:`aim (`x0 - b) []=nm:=`b9 `bz O
  simp only[eg];skip;have hr:`vw:=`Ci
  have hf:`j8:=`Ci
  let#[a1,o]:=`bf5;let#[k,us,q,todo,a2,hu,hq,p,he,Z,o']:=o.top hf;done;have eq:`agX=q:=by rw[hu,`bz];show `cI[k]?.getD _=q;rw[hq];rfl
  rw[eq,hw]
  by_cases hc:(`mm).head?=`aIK/\eqS `lc `xx=`f
  ·rw[`Uo]
   have U:`jl:=A4 hc.1;subst U;refine R90 S ws hw b `c_ nm O k us q hu hq p.held ?_;let#[y,hy,e]:=r8.mp hc.2;cases y with
   | str t=>
    have:`aF nm=t:=E9 e;rw[← `F] at hy;exact hy
   | _=>cases e
  ·rw[`z8]
   refine`q5 (Lr0 S G.ok w ws hw b `c_ nm O λU=>?_)
   ·subst U
    refine#[k,us,q,hu,hq,p.held,λhm=>hc `SH];exact r8.mpr #[_,hm,F0 rfl]
   ·exact `Zi hw hr hf (d:=`B9) (`bge #[nm,Y,rfl]) rfl rfl `Ki `gG `jN rfl h0 hs
def R70{S:RS}(G:`bM){w:`aw}(hw:`dW)(hv:`oe)(h0:`ed)(hs:`nH)(b:Nat):`vx xk0 `bgf:=by
 apply `bgg
 have nl:=`gG;delta RS.number
 by_cases h2:b%2=0
 ·rw[`anW]
  exact`F7 (Pj0 G hw hv h0 hs `xw) (cm0 S S' b h2 r h)
 ·rw[`Q h2]
  by_cases h:`atV
  ·rw[`cA]
   exact Ov0 S `gG hl b `n h
  ·rw[`dO]
   have h1:b/2≠0:=`I9
   have h8:b/2<=8:=A70 λz=>h `Zc
   have U:`gp≠60:=λz=>h (`p `Zc)
   have O:`adE=`f:=by
    cases e:`adE with
    | true=>rfl
    | false=>exact `J (`l6 e) h
   have e:=Rc0 S `n hl `xw `n h8 O;rw[`cP (2*`xw+1=b)] at e;refine#[e,#[`qq,?_,G.cl,`gG,`jN,G.dg,h8,`p #[?_,`d7 `Gf,?_],`bgh,G.dv],rfl]
   ·skip;rcases G.op with⟨_,_,z,_⟩|o
    ·rw[z] at hw;cases hw;done;rcases hv with z|z<;>cases z
    ·done;exact `p o
   ·show `o!<b/2
    rw[hs];show 0<b/2;lia
   ·intro c hc
    have hc:c∈`rY:=hc;rw[hs] at hc;cases hc
def Rf0{S:RS}(G:`bM){w:`aw}(hw:`dW)(hv:`oe)(h0:`nK)(b:Nat):`vx we0 (`GQ b):=by
 apply `bgg
 have nl:=`gG;have l8:=G.l8;let#[a2,Z,a1]:=G.sp.resolve_left λz=>`d' z.1
 have hr:`vw:=`Ci
 have hf:`j8:=`Ci
 delta RS.letter
 by_cases h:`atW
 ·rw[`cA]
  exact Nf0 S b `n hl a2 l8 h
 ·rw[`dO]
  have hb:`J7:=L4 `I9
  have U:`YN:=by
   cases e:`acc with
   | true=>rfl
   | false=>exact `J (`p e) h
  have O:∀c∈`v!,`tl:=λc hc=>by
   rcases `auu with z|z
   ·exact a1 c z
   ·rw[`Jp];exact hb
  by_cases he:`atX
  ·rw[`I he]
   have Y:Nm `m6:=#[`F_,`F_,O];refine`q5 (Q90 S G.ok `JX b hb `n hl he l8 U);refine `Zi hw hr hf (d:=K5 `m6) (`bge `a2A) rfl rfl `Ki ?_ ?_ rfl rfl rfl
   ·show (`z `atY)<=60
    rw[`W,`e8];lia
   ·intro n hn
    have hn:n∈`atY:=hn;rcases `d9 hn with z|z
    ·exact `jN n z
    ·rw[`Jp];exact Y
  ·rw[`Q he]
   refine#[Pt0 S b hb `n hl `n l8 U,(`bf! ?_ (`p #[?_,Z,O])),rfl]
   ·exact G.op
   ·show `avm<`dF
    rw[`W,`e8];lia
def ao0(kd:Nat):`acE=(`aM `Mq):=by delta lim;split<;>rfl
def Lo0{S:RS}(G:`bM){w:`aw}(hw:`dW)(hv:`od)(l0:`ed)(s0:`nH)(kd:Nat)(hk:`eS)(n:Int)(hn:0<=n):Tk v00 `bfE S (`bgi):=by
 have few:=`qq;have wl:=G.wl
 by_cases h:`bfD
 ·have e:`bgi=`e:=by delta RS.part;exact `cA
  rw[e];exact Z10 S kd hk n h
 ·obtain⟨m,rfl⟩:∃m:Nat,n=`jE:=#[`tR,`E]
  have h1:m<=`Mq:=by
   have:=mt `adX h;apply `aT ao0;lia
  have h2:`J0:=`arK
  rw[H70 S kd m h1 h2];exact#[X20 S G.ok `JX `n `n kd hk m h1 h2,G.part hw hv kd m hk h1 `n l0 s0,rfl]
def K60{S:RS}(G:`bM){w:`aw}(hw:`dW)(hv:`od)(l0:`ed)(s0:`nH)(n:Int)(hn:0<=n):Tk wm0 `V4 S (`X5 n):=by
 delta RS.head
 by_cases h3:`lk
 ·rw[`at8]
  exact`F7 (Lo0 G hw hv l0 s0 `bav `c_ `O6 `c_) (V60 S S' n hn h3 r h)
 ·rw[`Q h3]
  by_cases hr:`oG
  ·rw[`I (`b9 hw hr)]
   exact Se0 S w ws hw n h3 (`m hr)
  ·have O:=`bgj hr
   subst O;rw[`Q (by rw[hw];exact λz=>nomatch z)];have held:∀d,Ft `a1 `eY d->Gi `yb:=λd hd=>`Zi hw `u `u hd rfl rfl `Ki `gG `jN rfl l0 s0
   by_cases h1:n%4=1
   ·rw[`T']
    exact`bgk (`m #[h1,rfl]) (`p (`m `Y))
   ·rw[`T!]
    by_cases h2:`bax
    ·rw[`anW]
     exact#[i20 S G.ok ws hw n _ (de0 _) (`p (`m #[h2.1,h2.2,hn,rfl])),`bt _ (`p (`p #[_,`em,rfl])),rfl]
    ·rw[`Q h2]
     by_cases h4:n=0
     ·rw[`I h4]
      exact`bgk (`p (`p #[h4,rfl])) `du
     ·rw[`Q h4]
      exact Se0 S `eY ws hw n h3 (`p #[h1,h2,h4])
def Yr0{S:RS}(G:`bM){w:`aw}(hw:`dW)(hv:`od)(l0:`ed)(s0:`nH)(b:Nat):`vx wj0 (S.digit b):=by
 have dg:=G.dg;delta RS.digit
 by_cases hb:`Sn
 ·have e:`bgl=`fv:=`E
  simp only[`f_,e];exact`F7 (K60 G hw hv l0 s0 (`sj+`fv) `n) (Ng0 S S' `fv `Zj r h)
 ·have e:`bgl=`fv%128:=`E
  simp only[`eP,e];have hh:`aEe↔`ge:=`Gw hw #[λz=>A4 z,λz=>`ae z]
  by_cases h:`atT `awf (`awf)
  ·rw[`cA]
   refine L60 S w ws hw `fv `n (h.imp id λz y=>z (y.imp hh.mpr λq=>?_));lia
  ·rw[`dO]
   refine#[Mm0 S w ws hw `fv `n (`I9) ?_,#[`qq,G.op,G.cl,`gG,`jN,`d7 (0<=`awf),G.l8,G.sp,G.ln,`bgh],rfl];have:=y10.mp (mt Or.inr h);exact this.imp hh.mp λq=>`E
def takes_all{S:RS}(G:`bM)(hf:`Zk)(b:Nat):`vx yj0 (S.takes b eqS):=by
 delta RS.takes;cases hw:`cd with
 | nil=>exact Rq0 S hw b
 | cons w ws=>
  have U:(`oG∨`ge∨w=`fR)->`bfX:=λh=>by
   have l0:`ed:=L4 λz=>by
    let#[w',Y,e,hv]:=`ahE;rw[hw] at e;cases e;rcases hv with rfl|rfl<;>rcases h with h|h|h<;>cases h
   refine#[l0,?_];apply `Zl
   ·exact z.2
   ·rw[l0] at z;exact `bgm
  have O:(`oe)->`vx yj0 (`w `Su (`GQ b) `bgf):=λhv=>by
   by_cases h0:`Su
   ·rw[`amP]
    exact`bgn (Rf0 G hw hv h0 b) (`m #[h0,h])
   ·rw[`amQ]
    have l0:`ed:=`E
    have s0:`nH:=by
     apply `Zl
     ·exact z.2
     ·rw[l0] at z;exact `bgm
    exact`bgn (R70 G hw hv l0 s0 b) (`p #[l0,h])
  cases w with
  | root=>
   let#[l0,s0]:=U `du;exact`bgo `du `du
  | value=>
   let#[l0,s0]:=U (`beX);exact`bgo `kk `kk
  | sign=>
   let#[l0,s0]:=U (`p `kk);show `vx yj0 `baF
   by_cases hb:`agY
   ·rw[`f_]
    exact#[d50 S _ ws hw b _ (Xf0 S G.ok `JX b hb),`Zi hw `u `u (d:=K5 [b]) #[b,hb,rfl] rfl rfl `Ki `gG `jN rfl l0 s0,rfl]
   ·rw[`eP]
    exact d50 S S ws hw b _ (Gi0 S b hb)
  | name=>exact O `du
  | cls=>exact O `kk
  | fin=>rw[hw] at hf;exact `av?
open Bw (bs hi sg its two kn cnt tx)
theorem Y70{N:Nat}:∀(n:Nat) {ds:`k},Fts N (`bat) ds->∃l:`j,ds=`cY (`aBz)/\`bT=n/\∀c∈l,`vt
 | 0,_,h=>by cases h;exact`I0 [] λc hc=>by cases hc
 | n+1,_,h=>by
  skip;rw[`fk] at h;cases h with
  | cons a f=>
   let#[l,e1,e2,e3]:=Y70 n f;let#[c,hc,e]:=a;done;refine#[c::l,`b9 e e1,by rw[`an,e2],`uR];apply `HP
   ·exact hc
   ·exact e3 x hx
open Km (hb nB nT nW pk lkd ix)
def zs(l:`j):`aB:=`cY `bep
section
variable{F:`rq}{ps:`c6}{S:RS}{l:`j}{b:Nat}
def Opens.done{N:Nat}{u:`j}(o:`fA N bg u []):u=[]:=by
 generalize hl:([]:`ag)=w at o;cases o with
 | nil=>rfl
 | cons a b c o=>exact `J hl `a?
def W20(a c:`j):zs (a++c)=zs a++zs c:=(`aQ)
omit z
open Bw (bs hi sg its two kn cnt tx Vb Gq)
open Km (hb nB nT nW pk lkd ix It Wb)
def Gi.end'{E:RS}(G:Gi E)(hE:`awg):`awh≠[]/\∀(k:Nat) (q:`e2),`awh[k]?=`dY->Pq `bgp q []:=by
 skip;rcases G.op with⟨_,_,e3,_⟩|⟨a,o⟩
 ·rw[hE] at e3;cases e3
 ·rw[hE] at o
  done;exact#[a,λk q h=>G.cl k q h (by rw[o.done];exact λz=>by cases z)]
structure Whl(q:`e2):Prop where
 kd:`Bm
 fits:`bdX
 tr:∀d∈q.2,`AV
 nr:`bdY
def Qp0(S:RS)(k:Nat)(q:`e2)(hq:`kx)(h:`t5):`bdZ:=by
 have e2:`bd_:=by
  show `auL;rw[`dl,hq];rfl
 have e1:`bd0:=by
  delta xg0;rw[`bz,hq];rfl
 rw[e1];delta qk0 M7;simp only[ut0,`h,e2];rw[`I #[rfl,n00 h.tr,h.nr]]
theorem Y60(S:RS):∀(ks:`j) (qs:`rq),`h6=`vy->(∀(i k:Nat) (q:`e2),ks[i]?=`gF->qs[i]?=`dY->`kx)->`bgq->`ab8 `EK (ks.map `Ll)=`c (qs.map λq=>`H `x_)
 | [],[],_,_,_=>rfl
 | [],_::_,h,_,_=>by cases h
 | _::_,[],h,_,_=>by cases h
 | `n2,q::qs,h,hat,hw=>by
  have ih:=Y60 S ks qs `nc (λi k' q' h1 h2=>hat `eA k' q' h1 h2) λx hx=>hw x `MF
  rw[`av,`av];delta partsOf;rw[Qp0 S k q (hat 0 k q rfl rfl) (hw q A7),ih];rfl
theorem dk0:∀(xs:`k),(∀d∈xs,`AV)->∀q∈`GD,tr q.1=`f/\tr q.2=`f
 | [],_,q,hq=>by cases hq
 | [a],_,q,hq=>by cases hq
 | `ve,h,q,hq=>by
  rcases `zM `cg (q∈`atU) hq with rfl|hq
  ·exact#[h a A7,h b (B3 _ A7)]
  ·exact dk0 r (λd hd=>h d (B3 _ (B3 _ hd))) q hq
def cr0(a b:D)(ha:tr a=`f)(hb:tr b=`f):tr (`a0u)=`f:=by
 show trs [a,b]=`f;exact n00 λd hd=>by
  apply `vr
  ·exact ha
  ·rw[`Y?];exact hb
def We0(xs:`k)(h:∀d∈xs,`AV):tr `bdL=`f:=by
 show trs _=`f;exact n00 λd hd=>by
  let#[q,hq,rfl]:=`ky;exact cr0 _ _ (`bgr).1 (`bgr).2
def H30(h:`t5):tr (`jV q)=`f:=by
 skip;let#[kd,held]:=q;have ht:=h.tr
 rcases k4 h.kd with rfl|rfl|rfl|rfl
 ·done;exact cr0 _ _ rfl rfl
 ·done;exact cr0 _ _ rfl (show trs `bt=`f from n00 ht)
 ·done;exact cr0 _ _ rfl (We0 `bt ht)
 ·done;show trs [`cs `Cw,`bdW,`GC (`bdV).map]=`f;refine n00 `Bs
  skip;apply `vr
  ·done;rfl
  apply `vr
  ·cases `bt with
   | nil=>done;rfl
   | cons a r=>done;exact ht a A7
  ·done;rw[`Y?]
   exact We0 _ λd hd=>ht d (P1 hd)
def fw0(S:RS)(hl:`Yi)(h:∀q∈`cI,`t5)(p:`d):fm0 0 `sD 1 [] `cM `R3 `ee=`c (`aKe,`ee):=by
 apply `n?
 delta fm0;rw[Sr0,`h,td0,`h,wc0,`h];show `rs (`ab8 `EK (`xX))=_;rw[Y60 S (`bJ `a1) `cI (by rw[`JU]) (λi k q h1 h2=>by
  let#[a,b]:=`ch h1;rw[List.getElem_range] at b;rw[← b];exact h2) h,`h]
 have e:vq0 1 [] (λ_=>`c (`s3 `bgs)) `cM noT `R3 (`bG ([`t_]:Ds).length .un)=`c (`s `aFw):=by
  refine pc0 rfl `pT ?_;have O:∀qs:`rq,`bgq->sa0 `cM noT `R3 [.un] (qs.map `bgs)=`c (qs.map `jV):=by
   intro qs
   induction qs with
   | nil=>exact `gK
   | cons q qs ih=>
    intro hq;have h1:=hq q A7;rw[`av];delta sa0;have e1:oA `aCb vf0 [`avx]=`c (`jV q):=by
     rw[`bd1];exact g40 q.1 h1.kd q.2 h1.fits
    simp only[`a0 (gN 0 (`j4 `x_) [.un]=`c [`avx]),`h,noT,e1,ih λx hx=>hq x `MF];rfl
  exact O `cI h
 rw[e,`h];simp only[];rw[`I (n00 λd hd=>by let#[q,hq,rfl]:=`ky;exact H30 (h q hq))]
omit Rk
open Y
section
variable{k:Nat}{f C:`d}{sp:Sp}{ds:`N}{E:XK}{m:Str}{p:Pos}{t:TA}
def R10{pins:`az}{σ:St}{H:Hp}{s:`v}{Q:VK}{us:`N}{vs:`S}(F:`WC)(hr:`nU)(hb:`lS)(hd:`lT)
  (I:`C) (r:`ux) (h:sp `lf H Q `WB):`aUd:=by
 apply `amq;apply `aUe
 refine `aUf _;skip;cases r with
 | error ex=>
  apply `a6d;done;exact `a6e I.call' I.fpW
 | ok fl=>
  cases fl with
  | ret u=>done;exact `aUg
  | next=>done;apply `iY
  | brk=>done;apply `iY
  | cont=>done;apply `iY
def Mq0{pl:`iV}(he:`uH)(c:`uG)(hm:`TN)(F:`WC)(hr:`nU)(hb:`lS)(hd:`lT)(ha:`q2)
  (hst:`dk) (hpl:`eO)
  (ht:`G (`aUk=(do
   let ov ← `o9
   `nV
   let (f,`im) ← `q3
   `TO)) Aa):
  PE X `ae! (`zS ta (∃a dx fs,`eJ/\`FJ/\`FK/\`aT! `WB)):=by
 apply `bg;refine `TP λu s1 hq207=>?_;skip;let#[x,H1,I1,rx,a,dx,fs,ex,ea,l,q]:=hq207;subst ex;apply `q1;done;apply `TQ;refine `aUl λus s2 hq208=>?_;let#[vs,H2,I2,r,q2]:=hq208;refine `aUm;exact R10 (us:=`a'::us) (vs:=`a'::vs) F hr hb hd I2 `aUn q2
def Qy0{pl:`iV}(he:`uH)(c:`uG)(hm:`TN)(F:`WC)(hr:`nU)(hb:`lS)(hd:`lT)
  (ht:`G (`a9u=(do
   let ov ← `o9
   `nV
   let (f,`im) ← `q3
   `Xd)) Aa):
  `a9v `WB:=by
 apply `bg;refine `TP λu s1 hq209=>?_;skip;apply `a9w hq209;subst ex;apply `q1;done;apply `TQ;exact `a9x (R10 (us:=`eb) (vs:=`eb) F hr hb hd (I1.closed cl) `ant q)
def Oc0{ae:`K}{k:Nat}{C f:`d}{fd:`fK}{np cpos pos:Pos}{t:TE}(hm:`aqS=`wq)(ri:∀h:`D,X.K.In h->XC.Ri h C tl f)(cl:`aHI)(hbase:`a6G)
  (F:`kA `cF X.w X.K `cx `e7 CX0 k f fd `hy (Wf0 C)) (hb:`Cc X.K fd `hy []) (hr:`ams) (hcalm:`dH) (hg:`agl) (ha:PE X ae t)
  (hd:`WD)
  (he:`bgt) (hbt:`bgu):
  PS X `bgv (λ_ σ H=>t σ H λv H1=>∃n:Int,v=`ev/\`AJ/\∀dx,`amp->k80 X σ (upd H1 dx `zf) C `OK):=by
 intro pins s σ H D I a3;rw[arm_exec_Raise];simp only[evalOpt,`wo];refine A0 (P8 (Oe0 (C:=C) (tl:=tl) `hj (I.ok.hd hcalm) (A0 (C9 (wpAny_Call_ofName (`ak7 ?_)) (λv s₃ h₃=>A0 (P8 (A2 h₃))) `ur))));rw[he,hbt];delta callWith;refine A0 (D2 (A60 (N2 (thn (`bZ ha _ a3) λu s1 hq210=>?_))));skip;let#[v,H1,I1,r1,n,a2,hn,wish]:=hq210;done;refine Q1 (A0 (P8 ?_));skip;subst a2;let#[tk,rfl]:=r1;let#[nm,q,N,bs,b1,sn,sub,ab,b2,dd,k0,k1,k2,k3,k5,a9,hC]:=(`a6o).obj;let#[hh,g,d,t',os]:=s1;have fl:(`QJ:`aa (`B×`Ni)).any `gc=`l:=rfl;done;simp only[fl];apply `lI wpAny_keeperOf_exc hC;refine A0 (XC.P90 (ri _ `E9) (λh' e mk=>?_) (`DE ((1:Nat)<=`R)));have new:=mk.new;have I2:`br H1 `Zm:=`Ru (t':=t') mk.keeps;have fp:FpW X `t H1 e:=I1.fpW new (I1.dead new);have Z:=Mw0 mk;let#[oe,_,a1,_]:=id Z;have I3:`br `bgw `Zm:=I2.track fp Z #[oe,a1] `aqU;have U:H1 e=`e:=fp.1;have sp:Wf0 C `aqV `bgw (λv H'=>`zj/\∃dx,`Qf/\`amp/\H'=`aia H1 `zf) `HL:=
  #[e,n,rfl,Y7,hn,λdx n1 n2=>#[rfl,dx,n1,by rw[Y4 n1] at n2;exact n2,by rw[Iv0]]]
 have vals:`bV [V.ref e,`OJ n] `Zn:=`ai rfl (`ai `a7s `_);have bd:=hb `Zm `Zn I3.kIn rfl;rw[`cT] at bd;refine L7 (I0 (`E6 _ `g! `Zm _ #[`Zn,[]] `Zn `aqV _ `HL (hr.make C _ _) (I3.env0.make C _ _) bd `jv sp) `E8);skip;cases r with
 | error ex=>done;exact hq.elim
 | ok fl=>
  cases fl with
  | next=>done;apply `iY
  | brk=>done;apply `iY
  | cont=>done;apply `iY
  | ret u=>
   let#[v,H2,I4,ru,a7,dx,n1,n2,a5]:=I3.after hq;subst a7 a5;obtain rfl:u=`aY:=ru;have Y:upd (upd H1 e `acM) dx `zf e=`c `acM:=`Hz `aJv
   let#[O,_,_]:=I4.hok e _ Y;done;refine#[rfl,A0 (D2 (l6 (A2 #[e,`sw,rfl,cl _ I4.kIn,O,?_])))];skip;have I5:`br (upd H1 dx `zf) s':=I4.forget Y (`bgx) λb hb=>by
    by_cases z:b=dx
    ·subst z;rw[Y7,Y7]
    ·rw[Y4 z,Y4 z,Y4 hb]
   let#[a4,a6,g1,g2,g3,g4,g5,g6,g7]:=O;done;exact wish dx n2 `t s' e I5 #[a4,a6,g1,g2,g3,g4,g5,#[`bgx,fp.2],_,g6,`ml]
omit z
omit L2
open X
inductive DXB where
 | ok (r b':D)|ex (c:Str) (n:`aI) (b':D)
inductive RXB where
 | ok (r:ResB)|ex (c:Str) (n:`aI) (δ:Ds)
abbrev GZB:=Ds->`aH RXB
def y31(X:Cx)(H₀:Hp)(B₀:BS)(D:`fO):RXB->Prop
 | .ok r=>Jg0 X.K `as `al D r
 | `WF=>`a6K
def tXB(X:Cx)(H₀:Hp)(B₀:BS)(δ:Ds)(G:GZB):TS:=`U_ `FC y31 X
structure PSXB(X:Cx)(st:`aO)(G:GZB):Prop where
 mk::go:`nw PS st `bgy
structure PSsXB(X:Cx)(st:`bb)(G:GZB):Prop where
 mk::go:`PN `bgy
def nv0(G:GZ):GZB:=fun δ=>match `gx with
 | `kv=>`kv
 | `i7=>`i7
 | _=>`e
def Ql0(G:GSB):GZB:=`a6H
def Qf0:GZB:=`a6I
def pm0(G1 G2:GZB):GZB:=fun δ=>match `d! with
 | `kv=>`xi
 | r=>r
def kd0(gt:GTX)(Ga Gb:GZ):GZ:=`asY
def ld0(c:Str)(g:GE):GZ:=fun δ=>`kD λd=>match d with
 | `ev=>`ba `AJ (.ex c (`sI) δ)
 | _=>`e
section
variable{c ae:`K}{st:`aO}{as bs rest:`bb}{Gz Za Zb:GZ}{Gs:GSB}{G1 G2:GZB}{gt:GTX}{g:GE}
open T in
def Sy0(h:PSX X st Gz):PSXB X st (nv0 Gz):=(.mk λH₀ B₀ δ pins s σ H D I hq211=>by
 apply `gR hq211
 delta nv0 at e;split at e
 ·rename_i δ' e1
  cases e;apply `WU
 ·rename_i c n δ' e1
  cases e;apply `WU
 ·cases e)
def Cv0(h:PSB X st Gs):PSXB X st (Ql0 Gs):=(.mk λH₀ B₀ δ pins s σ H D I hq212=>by
 apply `gR hq212
 delta Ql0 at e;cases e1:Gs δ with
 | none=>rw[e1] at e;cases e
 | some r1=>
  rw[e1] at e;cases e;apply `WU)
def Yb0:PSsXB X [] Qf0:=(.mk λH₀ B₀ δ pins s σ H D I hq213=>by
 apply `gR hq213
 cases e;apply `U1)
def jz0(h1:PSXB X st G1)(h2:PSsXB X `aA G2):`U2 PSsXB pm0:=(.mk λH₀ B₀ δ pins s σ H D I hq214=>by
 skip;apply `gR hq214
 delta pm0 at e;cases e1:`d! with
 | none=>rw[e1] at e;cases e
 | some r1=>
  rw[e1] at e;cases r1 with
  | ex c n δ'=>cases e;done;apply `rg
  | ok r1=>
   cases r1 with
   | nx δ'=>done;apply `aqZ
   | rt d δ'=>cases e;done;apply `rg)
def St0(hc:`as_)(ha:PSsX X as Za)(hb:PSsX X bs Zb):PSX X `ab_ (kd0 gt Za Zb):=(.mk λH₀ B₀ δ pins s σ H D I hq215=>by
 apply `a4 hq215
 delta kd0 at e1;apply `Jv;apply `as0;cases hq:q.1 with
  | true=>apply `Jw;apply `l!
  | false=>apply `Jx;apply `l!)
open T in
def cp0{r:`d}{k:Nat}{np cpos:Pos}(T:IniC `cF X.w X.K `cx `e7 cn r k)(hr:`rb)(hk:k+1<=m)(ha:PD X ae g)(hcalm:`l4)(hg:`a6B)
  (hd:`WD)
  (he:`bgt) (hbt:`bgu):
  PSX X `bgv (ld0 cn g):=(.mk λH₀ B₀ δ pins s σ H D I hq216=>by
 let#[r',en,e1,kk]:=hq216
 delta ld0 at e1;apply `aU;apply `W!;split at e1
 ·rename_i n
  split at e1
  ·rename_i hn
   cases e1;let#[C,f,fd,a,ri,F,hb]:=T.ex;refine Oc0 a.mg ri a.cl Kj0 F hb `i3 hcalm hg `u? hd he hbt `t s σ H D I #[_,env,e2,`Fn];rw[zk0] at r1;refine#[n,r1,hn,λdx z=>?_];have O:=`XF;exact kk σ _ C `OK (`Fq (yl0 z)) a.ns #[dx,B,rfl,lz0 `ai2 z,Y7,b1,b2,`bgz (yl0 z),λy=>`yS dx y z]
  ·cases e1
 ·cases e1)
omit z
def a90(K:`y)(j:Nat)(f:`rE):Sp:=λvs H Q E=>∃(B:BS) (ds:`k) (us:`S) (p:`d) (b:D) (r:DXB),`nv/\B p/\vs=`arq/\`u'/\`arr/\`ars/\`Oa=`bK/\match r with
 | `Kk=>∀v H',`AM->`aru->`aBc
 | `Bx=>∀C od H',`AM->`aru->`a6N
def EndBX(G:GZB)(δ:Ds)(j:Nat)(p:`d):DXB->Prop
 | .ok r b'=>(`u! (`gx=`kH `aCA))∨(r=`x/\`u! (`gx=`kv))
 | `Bx=>`u! (`gx=`i7)
def dc0{δ:Ds}{p:`d}{b:D}(e1:`lr=`ary)(e2:`lr=`ajF):b=b':=by
 rw[e1] at e2;have e8:=A4 e2;injection e8 with e9
 delta v5 at e9;injection e9 with e10
 exact`a8w
def EndBX.one{G:GZB}{δ:Ds}{p:`d}{r r':DXB}(h:`QK G δ j p r)(h':`QK G δ j p r'):r=r':=by
 skip;cases r with
 | ok d b=>
  cases r' with
  | ok d' b'=>
   done;apply `a8x
   ·have e5:=A4 e3
    injection e5 with e5
    injection e5 with e6 e7
    subst e7;rw[e6,`awi]
   ·cases e3
   ·cases e3
   ·have e5:=A4 e3
    injection e5 with e5
    injection e5 with e7
    subst e7;rw[rn,O,`awi]
  | ex c n b'=>
   let#[δ2,e3,e4]:=h';done;rcases h with⟨δ1,e1,e2⟩|⟨rn,δ1,e1,e2⟩<;>rw[e1] at e3<;>cases e3
 | ex c n b=>
  let#[δ1,e1,e2]:=h;cases r' with
  | ok d' b'=>done;rcases h' with⟨δ2,e3,e4⟩|⟨O,δ2,e3,e4⟩<;>rw[e1] at e3<;>cases e3
  | ex c' n' b'=>
   let#[δ2,e3,e4]:=h';rw[e1] at e3;have e5:=A4 e3;done;injection e5 with h1 h2 h3
   subst h1 h2 h3;rw[`awi]
noncomputable def c50(n:Nat)(N:`i)(j:Nat)(G:GZB)(b:D)(ds:`k):`aH DXB:=`a8t `bgA
def S60{G:GZB}{b:D}{r:DXB}(h:`bgB):`nD/\`bgC:=by
 delta c50 at h;split at h
 ·rename_i hh
  have e:=A4 h;have:=n9 hh.2;apply `aT e;exact`a8v
 ·cases h
def e50{G:GZB}{b:D}{r:DXB}(hl:`nD)(h:`bgC):`bgB:=by
 have hh:`nD/\`bgA:=#[hl,r,h];delta c50;rw[`a8y];exact D0 `c (`a8z)
section
variable{P:`aj}{w:`M}
open T in
def Ac0{st:`aO}{k:Nat}{G:GZB}(F:`Am)(S:`z6)(hjp:j<`aS)
  (body:`N5 PSsXB `a6P):
  `u7 `cX ps (a90 K j (c50 `aS N j G)):=by
 let#[oc,od,kV,doc,pm,an,cdv,ct,osl,rfl,lk,a2]:=F.ex;refine R60 lk a2 S `aKx (λA outer s H vs Q E hr zQ=>?_)
 ·let#[B,ds,us,p,b,r,_,_,hv,_,hr,_,h,_]:=zQ;apply `a8k
  have:=(S60 h).1;lia
 ·let#[B,ds,us,p,b,r,hb,hp,hv,hj,rs,ro,h,q]:=zQ;subst hv
  refine`a8m;have en:=`a8n;have he:=(S60 h).2 p;cases r with
  | ok r b'=>
   rcases he with⟨δ',e,e'⟩|⟨rn,δ',e,e'⟩
   ·apply `a8o
    apply `arw;apply `I5;apply `I6;apply `I7;apply `a8p
   ·apply `a8q
    apply `a8r;apply `I5;apply `I6;apply `I7;apply `a8s
  | ex c n b'=>
   let#[δ',e,e']:=he;refine#[_,en,e,fun σ' H' C od' en' nn x pins s1 ea I lie=>?_];refine A0 (I.noted rfl lie λh' I' Z=>?_);let#[B',c1,c2,O,xd]:=xdB en' x;apply `I5;apply `I6;apply `I7;have xs:XdS H H' od' n:=by
    cases n with
    | none=>trivial
    | some k=>
     let#[dx,B2,q1,q2,q3,_]:=x;let#[a3,Y,a1,a4]:=xd;obtain rfl:dx=a3:=`a96 q1
     refine#[dx,q1,?_,q3]
     by_cases z:dx=a
     ·subst z;exact `J hB a1
     ·simpa only [z,`kK] using q2
   refine`a6R Z.mono (q C od' H' (l00 `RX) `aiB nn xs);rcases `aqL with y|y
   ·exact `a6S
   ·exact y
omit z
structure FnTX(P:`aj)(w:`M)(K:`y)(mg:`a2)(base:`D)(c m:Str)(k:Nat)(ps:`i)(F:`i)(f:`rE):Prop where
 ex:∃C fa fd,`u7 k ps (a90 K 0 f)/\`a9Z
def px0(i:Nat)(c:Str)(F:`i)(gA:GA)(f:`rE):`By:=fun δ=>`AP λb=>if `a9_ then `pf λds=>`aMW λr=>match r with
 | `Kk=>(`Kk,`bgD)
 | `Bx=>(`Bx,`bgD) else `e
def eb0(g:`By):GZ:=fun δ=>`aaO λr=>match r.1 with
 | .ok _ _=>.ok (.nx r.2)
 | `N'=>`bgE
def Wa0(g:`By):GZ:=fun δ=>`aaO λr=>match r.1 with
 | .ok d _=>.ok (.rt d)
 | `N'=>`bgE
def tZT(X:Cx)(H₀:Hp)(B₀:BS)(δ:Ds)(g:`By):TE:=fun σ H Q=>∃r,`FC/\`au=`bK/\match r.1 with
 | .ok d _=>`a2e X.K d
 | `N'=>∀H' C od,`ja X.K H' r.2->`Qh->XdX X.K `as `al H' σ r.2 od n->`aCz
structure PZT(X:Cx)(e:`K)(g:`By):Prop where
 mk::go:`nw PE e (tZT X `as `al δ g)
section
variable{gA:GA}{m:Str}{g:`By}
def Q3(i:Nat){pl:`iV}{k:Nat}{f:`rE}(C:`bgF)(hr:`AT)(hk:k<=n)(ha:`lZ)(hN:`rh)(hv:`rj)(hd:`n6)(hcd:`rk)
  (hst:`dk) (hpl:`eO)
  (ht:`G (`a91=(do
   let ov ← `FH
   `nV
   let (f,`im) ← `q3
   `TO)) Aa):
  PZT X `agE (px0 i c F gA f):=(.mk λH₀ B₀ δ pins s σ H Q I hq217=>by
 skip;apply `eQ hq217
 delta px0 at e1;apply `aU;apply `bgG;apply `I8;split at e1
 rotate_left
 ·cases e1
 rename_i hfl;let#[d0,hi,a3]:=`n8;apply `WM;cases e3:`arD with
 | none=>apply `cb;cases e1
 | some q=>
 apply `cb;let#[a,Y,hB,ro]:=`pO;let#[h1,h2]:=`rl a3;let#[x,ns,as,sos,C',dx,fs,b3,w,a9,a1,a5]:=`ar8;have a7:C'=Ca:=`bgH
 subst a7;apply `Xo;done;refine`bZ (Mq0 (pl:=pl) `Xp cl a4 Fo `i3 hb `_ (Yk0 `bD) hst hpl ht) Q (`Xq Y (`FL w.hd a9) a5);rw[c2];refine`arf;show a90 X.K 0 f `a93 H1 _ _;rw[`cT];refine#[B,ds,vs,a,`jQ,q,`yS,hB,rfl,`b7,r1,`aH3,e3,?_];cases q with
 | ok d b'=>
  cases e1;intro v H' hh Z rv;have U:`AN:=`WX;apply `bgI;exact `ar9 `bgJ O
 | ex cn n b'=>
  cases e1;intro Cx od H' hh Z nn xx C3 q;cases q;have U:`AN:=`WX;apply `bgI;refine kk H' Cx od `bgJ nn ?_;cases n with
  | none=>trivial
  | some n=>
   let#[a2,q1,x1,x2]:=xx;exact#[a2,B,q1,`a7J,x2,b1,b2,O,λz=>`yS a2 z x1])
def U3(i:Nat){pl:`iV}{k:Nat}{f:`rE}(C:`bgF)(hr:`AT)(hk:k<=n)(hN:`rh)(hv:`rj)(hd:`n6)(hcd:`rk)
  (ht:`G (`a94=(do
   let ov ← `FH
   `nV
   let (f,`im) ← `q3
   `Xd)) Aa):
  PZT X `agF (px0 i c F v6 f):=(.mk λH₀ B₀ δ pins s σ H Q I hq218=>by
 skip;apply `eQ hq218
 delta px0 at e1;apply `aU;apply `bgG;apply `I8;split at e1
 rotate_left
 ·cases e1
 rename_i hfl;let#[d0,hi,a2]:=`n8;apply `a95;cases e3:f `jQ [] with
 | none=>apply `cb;cases e1
 | some q=>
 apply `cb;let#[a,U,hB,ro]:=`pO;let#[h1,h2]:=`rl a2;let#[x,ns,as,sos,C',dx,fs,a9,w,a7,a1,a5]:=`ar8;have a3:C'=Ca:=`bgH
 subst a3;apply `Xo;done;refine`bZ (Qy0 (pl:=pl) `Xp cl a4 Fo `i3 hb `_ ht) Q (`Xq U `a92 a5);rw[c2];show a90 X.K 0 f `eb H _ _;refine#[B,[],[],a,`jQ,q,`va,hB,rfl,`b7,`k_,h1,e3,?_];cases q with
 | ok d b'=>
  cases e1;intro v H' hh Y rv;apply `bgK;exact `ar9 `bgL O
 | ex cn n b'=>
  cases e1;intro Cx od H' hh Y nn xx C3 q;cases q;apply `bgK;refine kk H' Cx od `bgL nn ?_;cases n with
  | none=>trivial
  | some n=>
   let#[Z,q1,x1,x2]:=xx;exact#[Z,B,q1,lz0 `f' x1,x2,b1,b2,O,λz=>`va Z z x1])
def P0(h:PZT X e g)(hs:`ali):PSX X `alj (eb0 g):=(.mk λH₀ B₀ δ pins s σ H D I hq219=>by
 skip;apply `a4 hq219
 delta eb0 at e1;cases e2:`au with
 | none=>apply `ac;cases e1
 | some q=>
  apply `ac;let#[q1,q2]:=q;cases q1 with
  | ok d b'=>cases e1;done;exact `VW `jR #[_,en,e2,λv H' ev=>k σ H' ev.s]
  | ex c n b'=>cases e1;done;exact `VW `jR `bgM)
def Q0(h:PZT X e g):PSX X `Dk (Wa0 g):=(.mk λH₀ B₀ δ pins s σ H D I hq220=>by
 skip;apply `a4 hq220
 delta Wa0 at e1;cases e2:`au with
 | none=>apply `ac;cases e1
 | some q=>
  apply `ac;let#[q1,q2]:=q;cases q1 with
  | ok d b'=>
   cases e1;done;refine `q9 `jR #[_,en,e2,`aEa];apply `AY;exact `a!o
  | ex c n b'=>cases e1;done;exact `q9 `jR `bgM)
omit z
def Za0(gt:GTX)(Ga Gb:GS):GS:=`asY
section
variable{a c:`K}{rest:`bB}{as bs:`bb}{gt:GTX}{ga gb:GX}{g:GE}{Ga Gb:GS}
def J9(hc:`as_)(ha:`aZu)(hb:`aZv):`U5 PSD Za0:=(.mk λH₀ B₀ δ pins s σ H D I hq221=>by
 apply `a4 hq221
 delta Za0 at e1;apply `Jv;apply `as0;cases hq:q.1 with
  | true=>apply `Jw;apply `l!
  | false=>apply `Jx;apply `l!)
omit z
omit DL
namespace Qk
open DL W Rk Rm
open Bt (U6 m9 b8 U9 xb0 yi0 M8 K8 Y0)
def jh0{G1 G2:GZB}{δ:Ds}{r:`aH RXB}(h:`d!=`kv)(k:`Vw):`awj=r:=by delta pm0;rw[h];exact k
def c00{G1 G2:GZB}{δ:Ds}{d:D}(h:`d!=`kH `abo):`awj=`kH `abo:=`bgN
def jv0{G1 G2:GZB}{δ:Ds}{n:`aI}(h:`d!=`i7):`awj=`i7:=`bgN
def n60{G1 G2:GZ}{δ:Ds}{r:`WE}(h:`d!=`kv)(k:`Vw):`awk=r:=by delta ug0;rw[h];exact k
def p30{G1 G2:GZ}{δ:Ds}{n:`aI}(h:`d!=`i7):`awk=`i7:=`bgO
def ae0{G1 G2:GZ}{δ:Ds}{d:D}(h:`d!=`AK):`awk=`AK:=`bgO
def f60{δ:Ds}(h:`WW):okZ G δ=`kv:=by delta okZ;rw[h];rfl
def l30(p:`d)(S:RS)(δ:Ds)(hc:`Kl):ld0 `e9 `aKZ `bI=`QL `bI:=by
 have hn:(`Qx).natAbs.log2<1920:=by
  show S.count.log2<1920;have:`k2<2 ^ 1920:=S2 hc `c7
  by_cases z:`k2=0
  ·rw[z];decide
  ·exact(Nat.log2_lt z).mpr `F
 delta ld0;rw[show plN `aLj `bI=`bbP from by delta plN;rw[Iu0];rfl,`h];simp only[];rw[`I hn]
def GB1:GZ:=ug0 (kd0 (orT `awl `Zo)
 (ug0 `awm
 ow0)
 ow0)
 (ug0 `bgP
 (ug0 `bgQ
 ow0))
def Tn0(p:`d)(S S1:RS)(s1:Sl)(b:Int)(hb:`rB)(t:`B)(ht:`Ok=`c (`wv,R S1)):orT `awl `Zo `qr=`c (!t,`bgR):=by
 have e1:`qm `ah8 `qr=`c (`l,`qr):=by
  delta DL.liftT yo0;rw[show ob `ajq `qr=`dz from Y0 (H90 b hb)];rfl
 delta orT;rw[e1,`h];show `aNo=_;rw[`d6];apply `Bf;rw[uj0 (ds:=`pn) `mL ht];rfl
def Ch0(p:`d)(S S1:RS)(s1:Sl)(b:Int)(hb:`rB)(ht:`bgS)(hl:`bgT)(hc:`bgU):
  GB1 `qr=`kH (.nx `awn):=by
 refine n60 (δ':=`bgR) (by delta kd0;rw[Tn0 p S S1 s1 b hb `f ht];rfl) ?_;refine n60 (f60 (Oa0 p S1 _)) (n60 (δ':=`awn) (f60 ?_) rfl);delta T8;rw[uj0 (S:=`bgV) (ds:=[]) rfl (Ux0 `bgV hl hc)];rfl
def Cm0(p:`d)(S:RS)(s1:Sl)(b:Int)(hb:`rB)(ht:`av6)(hc:`Kl):
  GB1 `qr=`bgW:=by
 refine `Zp;delta kd0;rw[Tn0 p S S s1 b hb `l ht,`h];show ug0 _ ow0 _=_;exact `bgX
def Xu0{p:`d}{S:RS}{s1:Sl}{b:Int}{l:`k}(hb:`rB)(ht:`bgS)(hl:`bgT)(hc:`bgU)(s2:Sl):
  `bgY=`F8 l `awn:=by
 have e:`bgZ:=rfl;show `rs `ahn=_;rw[e,`h,Ch0 p S S1 s1 b hb ht hl hc]
def U30{p:`d}{S:RS}{s1:Sl}{b:Int}{l:`k}(hb:`rB)(ht:`av6)(hc:`Kl)(s2:Sl):
  `bgY=`bgW:=by
 have e:`bgZ:=rfl;show `rs `ahn=_;rw[e,`h,Cm0 p S s1 b hb ht hc]
def Ln0(s0:Sl):DXB->DXB×Ds
 | `Kk=>(`Kk,`bg_)
 | `Bx=>(`Bx,`bg_)
def pe0{f:`rE}{gA:GA}{S:RS}{r:DXB}(hA:gA `bg0=`oO)(hf:`Yp=`bK):px0 1 `bd d9 gA f `bg0=`c (Ln0 s0 r):=by
 have h:`ajn:=`dZ
 delta px0;show `bb?;rw[`cA,hA,`h];show `A' `Yp;rw[hf];cases r<;>rfl
def Vd0{N:Nat}(p:`Zh):`t5:=by
 skip;apply `awc;rw[`cT] at e;subst e;have hl:=`bgc;have hf:=f.len;done;refine#[hk,`bgd,`Bs,f.nrs]
 ·rw[h0] at f
  let#[l,e1,_]:=Y70 n f;rw[e1];intro d hd;let#[c,_,rfl]:=`ky;exact#[c,rfl]
 ·rw[h3] at f
  intro z;rw[z] at f;cases f
 ·have:=f.trs
  exact(show ∀{l:`k},`bfQ->∀d∈l,DL.tr d=`f from λ{l} h=>by
   induction l with
   | nil=>exact λd hd=>by cases hd
   | cons a l ih=>
    have h:(DL.tr a&&trs l)=`f:=h;apply `rf;intro d hd;apply `vr
    ·exact h.1
    ·exact ih h.2 d hd) `F d hd
omit Qk
namespace Ta
open DL W K22
def Mi0(xs:`k)(n:Nat):cutD xs `e `ET=`SQ:=by
 delta cutD;show (`s8 0).take (sIx `ax `ax `ET - 0)=_;rw[`bdc,Nat.sub_zero];delta sIx;simp only[];rw[`aux,`b?]
 by_cases h:n<=`ax
 ·rw[`TZ h]
 ·rw[`auy,`beH,`aIV `n]
def Kp0(xs:`k)(n:Nat):cutD xs `ET `e=`s8 n:=by
 delta cutD;show (`s8 (`bg1)).take (`ax - `bg1)=_;delta sIx;simp only[];rw[`aux,`b?]
 by_cases h:n<=`ax
 ·rw[`TZ h,`bbN]
 ·rw[`auy,`Io,`bbO,`auz `n]
def Jp0{g gh:GE}{δ:Ds}{xs:`k}(h1:`awo)(h2:`yM=`YL):wz0 g wt0 `bg2 δ=`n3 `SQ:=by
 delta wz0 someO;rw[h1,h2,← Mi0];rfl
def ar0{g gh:GE}{δ:Ds}{xs:`k}(h1:`awo)(h2:`yM=`YL):wz0 g `bg2 wt0 δ=`c (`s `ake):=by
 delta wz0 someO;rw[h1,h2,← Kp0];rfl
def add_l{xs ys:`k}(h:`PV):Z7 `kV `pE=`c (`s `DZ):=by
 simp only[Z7];rw[`cA]
omit Ta
namespace Rk
open DL W Rm StrLaws
open Bt (Y0)
open Bw (bs sg its two kn cnt tx Vb Gq)
open Km (lkd It Wb ix)
open K22 (nd)
open Gw (Vk)
def J80{v:D}(hn:n<=60)(h:Vk v `aW):Vb v/\Bw.Lk n v:=by
 skip;rcases Pw0 h.ok with rfl|⟨i,rfl⟩|⟨i,rfl,hi⟩
 ·done;exact#[`x,λj e=>nomatch e]
 ·done;refine#[`g i ?_,λj e=>nomatch e]
  have h1:=h.bd i rfl;have h2:(10:Nat) ^ 60<`adQ:=`bc
  exact N3 h1 h2
 ·have:=h.lk i rfl
  obtain⟨k,rfl⟩:∃k:Nat,i=`cv:=#[`ix,`E];done;exact#[.lk k `n,Bw.Au0 `n]
omit Rk
open X
def spE(K:`y)(f:`Bz):Sp:=λvs H Q _=>∃(B:BS) (c:Str) (n:`aI) (a:`d) (d:D),`nv/\vs=`eb/\`aof/\`bg3/\`u_
def rr0(N:`i)(c:Str)(n:`aI):Ds:=`ph::`anN 1
def mkE(N:`i)(G:GS)(c:Str)(n:`aI):`cD:=(G `x3).bind λr=>match r with
 | .rt d=>`aX
 | _=>`e
def Ep0{n:`aI}{d:D}(h:`bg4):`awp:=by
 delta mkE at h;cases e:G `x3 with
 | none=>rw[e] at h;cases h
 | some r=>
  rw[e,`h] at h;cases r<;>first|(cases h;rfl)|cases h
def Fu0{n:`aI}{d:D}(h:`awp):`bg4:=by
 delta mkE;rw[h];rfl
section
variable{P:`aj}{w:`M}
def Zk0{n:`aI}{d:D}(h:`x3[i]?=`m8):`b_:=by
 delta rr0 at h;cases i with
 | zero=>cases h
 | succ i=>
  rw[`ri,`iZ] at h;apply `aoT
def okE{st:`aO}{p:Str}{k:Nat}{f:`Bz}{G:GS}(F:`Am)(S:`ao N [p] `sh)
  (body:`aoU)
  (hf:∀c n d,`bg3->`awp):`ec `cX [p] (spE K f):=by
 apply `Vg
 ·skip;let#[B,c,n,a,d,_,e,_]:=zQ;done;rw[e];rfl
 ·skip;let#[B,c,n,a,d,hb,e,r,h,q]:=zQ;done;refine#[_,`aMG `x3,?_]
  have en:`kF K H B H `aDU `x3:=by
   refine`a6Q (`aMH `bg5) λi O a h1 _=>`bg5;rw[e];delta L2.start rr0;exact `ai #[a,rfl,r] `afQ
  exact#[_,en,hf c n d h,`aG7]
omit z
def FnE(P:`aj)(w:`M)(K:`y)(mg:`a2)(base:`D)(x:Str)(k:Nat)(ps:`i)(f:`Bz):Prop:=
 `ao6 (`ec k ps (spE K f))
def Qt0(i:Nat)(f:`Bz):GE:=fun δ=>match `bY with
 | `IX=>f c n
 | _=>`e
section
variable{p:Pos}
open T in
def yc0(i:Nat){k:Nat}{f:`Bz}(C:`Fo FnE x)(hr:`rb)(hk:k<=m)(hg:`fn)(hdb:`aL)
  (hN:`rh) (hv:`rj) (hd:`n6) (hcd:`rk)
  (he:`hi `AL (`a8J::`oD)) (hpl:`l2):PD X (`g4 `mw `AL) (Qt0 i f):=by
 apply `Vr;exact .mk λB δ=>(`Ih `i3 kp (`V2 `k?)).imp fun σ H Q hq222=>by
  apply `b2 hq222
  delta Qt0 at h;split at h
  ·apply `IZ
   let#[o,h1,a,rfl,r]:=`I_;refine#[_,h1,?_];show spE X.K f (`eb++[]) H _ E0;rw[`cT];exact#[B,c,n,a,d,`Vc,rfl,r,h,k]
  ·cases h
omit z
omit DL
open Y
def f20{t:Qc0}(h:Qd0 X t):Qd0 X (λo i v H Q=>t o i v H λH'=>`qf (`agy/\Q `agz)):=(λpins s σ H o i v ov iv u Q I ro ri rv q=>
 thn (h `t s σ H o i v ov iv u _ I ro ri rv q) λ_ s' z9=>by let#[H',I',a,sub,c,k]:=z9;exact#[_,`arH c,k])
omit L2
open X
def putN(i:Nat)(go gk:GE):`a9:=λv δ=>`l9 λd=>`tZ λdk=>`cN λns=>`l' λk=>match `ff with
 | `W5=>`WO λq=>`dM `bg6 `bg7
 | _=>`e
theorem ki0[`l5]{q:κ}{d:D}(hv:`gQ):`a3O (`fQ->`ot `a3P (`V!))
 | [],_,_,_=>`fg vm0
 | `n2,[],xs,h=>by rw[vm0] at h;subst h;simp[vm0]
 | `n2,d'::ds,xs,h=>by
  rw[wn0] at h;apply `u1;rw[`dU,`dU,`av,`av,wn0];refine`gM ?_ (ki0 hv h2)
  apply `AC
  ·simp only[e,`nC];exact hv
  ·apply `lE e;exact h1
open T in
def U8(hu:`fr)(ho:`ro)(h:PD X e gk)
  (ha:`G (∀v,`bg8=(do
   let ov ← `alq
   let iv ← `Wf
   `Hl
   `Hm
   `Hn)) Ad):PTG X (`M?) (`wE i go gk):=(.mk λH₀ B₀ d δ pins s σ H v u Q I r hq223=>by
 let#[δ',en,e1,k]:=hq223
 delta putN at e1;apply `VV;cases e2:go δ with
 | none=>apply `ac;cases e1
 | some dx=>
 apply `I?;cases e3:`LA with
 | none=>apply `cb;cases e1
 | some dk=>
 rw[e3,`h] at e1;cases e5:`kB with
 | none=>rw[e5] at e1;cases e1
 | some ns=>
 rw[e5,`h] at e1;cases e6:t70 dx with
 | none=>rw[e6] at e1;cases e1
 | some kk=>
 rw[e6,`h] at e1;split at e1
 rotate_left
 ·cases e1
 rename_i ks ds hnode;cases e4:`Dp with
 | none=>rw[e4] at e1;cases e1
 | some q=>
 rw[e4,`h] at e1;split at e1
 rotate_left
 ·cases e1
 rename_i hz;cases e1;apply `Jd;refine c70 `Mi `bg9 `bg' ha `t s σ H v u Q I r (`Od dx e2 (`mE #[dk,`gq,e3,`xB]));have U:=`jg;have O:=`g5 U;apply `w4 (`Mj `xk e6 `Mk);apply `Jb;have:=qp0 e4 r2;subst this;let#[ys,hy,a3,a1,a2]:=`aHq;apply `bg!;have Y:RpN X.K H2 B as d v:=o80 hz.1 (`wR U);have nk:`aiE (`a8N) `arG:=by
  refine`bg?;delta ui0;cases hk:`qb with
  | true=>rw[`a_,a1 hk];exact ki0 Y rx
  | false=>rw[`hP,a2 hk];exact `Jq Y
 rw[hy];let#[Z,q1,q2]:=`Xc en.s.setN U;exact#[a,Z,q1,`a9U])
omit DL
open Y
def ch0{t:TT}(h:`Tb):PT X e (`cS t λk H'=>`qf (`agy/\Q k `agz)):=(λpins s σ H Q I q=>
 thn `WY λk s' z9=>by let#[H',I',a,sub,c,z]:=z9;exact#[_,`arH c,z])
omit L2
open X
section
variable{p:Pos}{ge:GE}
def zm1{g:GE}{δ:Ds}{t:`B}(h:`bha):`au=`awq:=by
 delta ob at h;cases e:`au with
 | none=>rw[e] at h;cases h
 | some d=>
  rw[e] at h;cases d<;>first|(cases h;rfl)|cases h
omit z
abbrev GQ':=`wG (`aa (D×`cD))
def a00:GQ':=`anL
def vh0(gk gv:GE)(gP:GQ'):GQ':=fun δ=>`a!t (k,`bR)
def mf0(gk:GE)(gP:GQ'):GQ':=fun δ=>`tZ λk=>`aIp λps=>(k,`e)::ps
inductive RQ (K:`y) (H:Hp) (B:BS):`md->`S->`aK->Prop
 | nil:RQ K H B [] [] []
 | dat {d:D} {q:`md} {v:V} {vs:`S} {ls:`aK}:`cz->`BA->RQ K H B (`awr) (v::vs) ls
 | new {l:`d} {q:`md} {vs:`S} {ls:`aK}:H l=`Jl->`BA->RQ K H B (`Zq) (`pN::vs) (l::ls)
def RQ.mono{q:`md}(l:`Aa)(h:`BA):RQ K H B' q vs ls:=by
 induction h with
 | nil=>exact `_
 | dat r _ ih=>exact .dat (`an1) ih
 | new e _ ih=>exact .new e ih
def RQ.at{q:`md}(h:`BA):∀l∈ls,H l=`Jl:=by
 induction h with
 | nil=>intro l hl;cases hl
 | dat _ _ ih=>exact ih
 | new e _ ih=>
  intro l hl;rcases `cg hl with rfl|hl
  ·exact e
  ·exact ih l hl
def dsQ:Nat->`md->`k
 | _,[]=>[]
 | n,`awr=>d::dsQ n q
 | n,`Zq=>M7 n::dsQ `qc q
def nrQ:`md->`B
 | []=>`f
 | `awr=>nrf d&&nrQ q
 | `Zq=>nrQ q
def noQ:`md->Nat
 | []=>0
 | `SW::q=>noQ q
 | `Zq=>noQ q+1
def RQ.no{q:`md}(h:`BA):noQ q=`QM:=by
 induction h with
 | nil=>rfl
 | dat _ _ ih=>exact ih
 | new _ _ ih=>show noQ _+1=_;rw[ih];rfl
def RQ.rpns{q:`md}(h:`BA)(g:`dS)(as:`aK):∀pre:`aK,as=pre++ls->nrQ q=`f->`Zr (`bhb) vs:=by
 induction h with
 | nil=>intro pre _ _;show `Zr [] [];rw[vm0]
 | @dat d q v vs ls r _ ih=>
  intro pre e n;delta nrQ at n;rw[`b5] at n;show `Zr (d::`bhb) _;rw[wn0];exact`gM (o80 n.1 (`qh)) (ih pre e n.2)
 | @new l q vs ls r _ ih=>
  intro pre e n;show `Zr (M7 `hc::dsQ (`hc+1) q) _;rw[wn0];refine`gM ?_ ?_
  ·delta M7
   rw[tj0];refine `m #[_,l,ut0 _,?_,rfl];rw[e,`nE,`iF];rfl
  ·have:=ih (pre++[l]) (`b9 e `km) n
   apply `aT `W;exact `F
structure PDQ(X:Cx)(pos:Pos)(keys:`zB)(vals:`bB)(gP:GQ'):Prop where
 mk::go:`a!u (∀vs H' ls,`aZ->(∀l∈ls,`EU)->ls.Nodup->Rps X.K H' B `QO (`asH)->RQ X.K H' (λa=>B a∨a∈ls) `p3 (`L0) ls->`Ta)
section
variable{vals:`bB}{gv:GE}{gP:GQ'}
def G4:PDQ X pos [] [] a00:=(.mk fun δ=>#[[],Sv0,λB σ H Q hq224=>by
 let#[ps,en,e,k]:=hq224
 cases e;exact k [] H [] `ox (λl z=>nomatch z) `_ (`asI) `_])
def O4(hk:`Xs)(hv:`a!v)(hr:`bhc):PDQ X pos `asJ `a!x (vh0 gk gv gP):=(.mk fun δ=>by
 apply `asK;refine #[_,`a!y,λB σ H Q hq225=>?_];skip;let#[ps,en,e,k]:=hq225;delta vh0 at e;apply `asL;let#[b,e2,e]:=`Ei;cases e3:`y2 with
 | none=>rw[e3] at e;cases e
 | some qs=>
 rw[e3] at e;cases e;done;refine`asM (`a!z (`bhd (k _ H3 ls `IT (λl hl=>`apZ (fr l hl)) nd ?_ ?_)))
 ·apply `Jt
  exact`asN rk
 ·rw[`av,`av]
  exact .dat (r2.mono λc o n z=>#[λq=>q.elim n (λq=>by rw[fr c q] at z;exact nomatch z),s3 _ _ z]) rq)
def z80(hk:`Xs)(hr:`bhc):PDQ X pos `asJ (.List [] lpos::`jv) (mf0 gk gP):=(.mk fun δ=>by
 apply `asK;refine #[_,do0 (tk:=`aIr) `aIs (ff0 vj0) h1,λB σ H Q hq226=>?_];skip;let#[ps,en,e,k]:=hq226;delta mf0 at e;apply `asL;cases e3:`y2 with
 | none=>rw[e3] at e;cases e
 | some qs=>
 rw[e3] at e;cases e;done;refine`asM #[by show 0<=`R;exact `b7,`a'7];have s2:`cE H1 (upd H1 l `h9):=`O2;have Y:=`io;refine h2 (λa=>B a∨a=l) _ _ _ #[qs,Y.freshS hl s2 (.of Y7 `an? λ_ z=>nomatch z),e3,`bhd ?_];have O:∀c∈ls,c≠l:=λc hc z=>by
  have:=fr c hc;rw[z,Y7] at this;cases `F
 have U:∀c∈ls,H1 c=`e:=λc hc=>by
  have:=fr c hc
  apply `AZ (O c hc)
 refine k _ H3 (l::ls) `IT (`G_) (`DW #[λz=>O l z rfl,nd]) ?_ ?_
 ·rcases `cg hc with rfl|hc
  ·exact `nm hl
  ·exact `nm (U c hc)
 ·apply `Jt
  exact`asN (rk.mono (`lg `agn))
 ·rw[`av,`av]
  refine .new (s3 _ _ Y7) (rq.mono λc z=>?_);apply `IU
  ·exact `m `w3
  ·rcases `cg z with z|z
   ·exact `bhe
   ·exact `L_)
omit z
def Q70(i:Nat)(gP:GQ'):GS:=`a!A (`ba `bhf (.nx (`gA (`ob (`b4 `st (dsQ 1 `p3)::`aJE)))))
def dm0:`q' (`bH (`he K H B as) (`bG n `h9) (`bG n `h9)):=by
 intro z;induction z with
 | zero=>exact `_
 | succ n ih=>exact `ai `a'w (ih)
section
variable{dpos:Pos}{vals:`bB}{gP:GQ'}
def Q8(i:Nat)(nd:`dh)(h:`bhg)(hi:`rh)(hy:`hO)
  (hall:`asO) (hl:`asP) (h0:`asQ) (h15:`asR)
  (hsw:`lb (`y3) `Du `m0)
  (hf:`gP):
  PSD X (`gB `ng (`y3) pos) (Q70 i gP):=(.mk λH₀ B₀ δ pins s σ H De I hq227=>by
 skip;apply `eQ hq227
 delta Q70 at e1;apply `aU;let#[ps,e2,e1]:=`dv;let#[ks,e3,e1]:=`dv;split at e1
 rotate_left
 ·cases e1
 rename_i hnd;cases e1;apply `asS;done;refine `a'e `bhh De λp hp=>`asT env.fresh e2 λvs H' ls s' fr c1 rk rq=>`a!B
 ·exact js0 `bhi
 ·rw[`oX]
  have:=hnd.1.2;lia
 have a3:`asU:=by
  have:=D0 `uI `bhi
  apply `dX `XH
 have hm:`asV:=by
  rw[lt0 _ [] (by
   rw[`q8];apply `asW;rw[`F];exact hnd.1.1)]
  rfl
 rw[hm];obtain⟨xs,c2⟩:∃xs,xs=`asX:=`Y;rw[← c2] at a3 rq ⊢;have a7:p∉ls:=λz=>by
  have:=fr p z;apply `aT Y7;cases `F
 have Y:∀l∈ls,l≠p:=λl z q=>`Ve q (a7 z)
 have a5:`bhj:=`DW #[a7,c1];have a4:∀l∈ls,`EU:=λl z=>by
  have:=fr l z
  apply `AZ (Y l z)
 obtain⟨Hl,Z⟩:∃Hl,Hl=upd H' p (`yH):=`Y;obtain⟨sos,O⟩:∃sos:`uX,sos=`yH::`bhk:=`Y;have U:(`z `h!)=`Di:=by rw[O,`an,`an,`kh]
 have ins:`an':=λk C dx fs e=>by
  rw[O] at e;cases k with
  | zero=>rfl
  | succ k=>
   rw[`ri,`iZ] at e;apply `ara
 have c0:∀(k:Nat) c so,(`h!)[k]?=`d_->`lw->Hl c=`yR:=λk c so f1 f2=>by
  rw[O] at f2;cases k with
  | zero=>cases f1;cases f2;rw[Z,Y7];rfl
  | succ k=>
   rw[`ri] at f1;rw[`ri,`iZ] at f2;split at f2
   ·cases f2
    have hc:=D3 f1;rw[Z,Y4 (Y c hc)];exact rq.at c hc
   ·cases f2
 have cl:`gn Hl p `aws:=pf0 rfl a5 U c0 ins;rw[← Z];refine#[p,_,cl,`Xu];obtain⟨Hc,a2⟩:∃Hc,Hc=`er Hl p `aws:=`Y;have a6:`Jm p `aws:=`agH a2
 have a9:∀l∈ls,Hc l=`c (`kO p):=λl hl=>by
  let#[so,q]:=s80 U (B3 p hl) a5;rw[a2];apply `fH;rw[`Q (Y l hl),q]
 have a1:∀b,`Zs->`tQ:=λb z q=>z (`o q A7)
 have off:∀b,`Zs->Hc b=`fw:=λb hb=>by
  rw[a2];apply `fH;rw[`Q (a1 b hb),`Jn,Z,Y4 (a1 b hb)]
 have b3:∀b o,`aek->`Zs:=λb o z q=>by
  rcases `YV with q|q
  ·rw[q,hp] at z;cases z
  ·rw[`U9] at z;cases z
 have sm:`cE H Hc:=#[λb o z=>by
  rw[off b `bhl];exact s' b o (`o (Y4 (a1 b `bhl)) z),λb o ys z=>by
  by_cases hb:b∈`h!
  ·rcases `awt with q|q
   ·rw[q,a6] at z;cases z
   ·rw[a9 b q] at z;cases z
  ·rw[off b hb] at z
   have:=s'.nf b o ys z
   apply `AZ (a1 b hb)]
 rw[← a2];refine en.takeL b1 b2 env i hp sm (`p (`p #[_,_,rfl,`h!,sos,rfl,a5,a6,`eB,U,?_,ins]))
 ·rcases `awt with q|q
  ·exact `mU
  ·exact `p #[λz=>`cO (λz=>`va _ z (`U9)) (Y b q),a9 b q]
 ·have g:Gr H' Hc (λa=>(`aEP)∨a∈ls) `pS:=λb o n z=>#[`awu,by
   rw[off b (λq=>by
    rcases `YV with q|q
    ·exact n (`bhm)
    ·exact n `QN)]
   exact z]
  rw[O];refine `ai #[xs,rfl,a3,rq.rpns g (`h!) [p] rfl hnd.2] ?_;rw[rq.no];exact dm0 `QM)
omit z
omit DL
open Y
theorem ga0{M:`eM}{Γ:PySem.Ctx}{env:`ajC}{bs:`bb}{Q:Flow->`bhn}{E:`A->`bhn}:∀(as:`bb) (p:Pos) (s:`v),`bho as (λf p' s'=>match f with|`PE=>Sem.wp M Γ (execs bs env) Q E p' s'|f=>Q f p' s')->`bho `awv Q
 | [],p,s,h=>by
  rw[execs_nil,Sem.wp_pure'] at h;exact h
 | a::as,p,s,h=>by
  rw[`Ab,`bhp,`bhq];rw[`bhp,`bhq] at h;refine `bhr M Γ _ (λf p' s' h'=>?_) `bhs _ _ h;cases f with
  | next=>exact ga0 as p' s' h'
  | ret v=>exact h'
  | brk=>exact h'
  | cont=>exact h'
def Sc0{as bs:`bb}{t u:TS}(h1:PSs X as t)(h2:PSs X bs u):PSs X `awv (Ex0 t u):=by
 intro pins s σ H D I h Γ p hΓ;refine ga0 as p s (`bhr `ek Γ _ (λf p' s' q=>?_) `bhs _ _ (h1 `t s σ H `alf I h Γ p hΓ));cases f with
 | next=>
  apply `alg;exact h2 `t s' σ' H' D I' q Γ p' hΓ
 | ret v=>exact q
 | brk=>exact q
 | cont=>exact q
omit L2
open X
def flS:Sl->Sl
 | `cJ=>`w `ku `cJ .un
 | _=>.un
def Oz0(e:D):flS (.sh e)=`w `Wg (.sh e) .un:=(rfl)
def En0{s:Sl}{d:D}:flS s≠`rX:=(λh=>by
 cases s with
 | sh e=>
  rw[Oz0] at h
  by_cases q:`Wg
  ·rw[`gJ] at h;cases h
  ·rw[`fj] at h;cases h
 | un=>cases h
 | ow e=>cases h
 | ex c n=>cases h)
def Ip0{o:`dL}{s:Sl}(h:`Ia):SlR K H' B' o (flS s):=by
 cases s with
 | sh e=>
  rw[Oz0]
  by_cases q:`Wg
  ·rw[`gJ]
   let#[v,e1,r]:=h;exact#[v,e1,p80 q r]
  ·rw[`fj];trivial
 | un=>trivial
 | ow e=>trivial
 | ex c n=>trivial
def Env.flats{σ:St}{δ:Ds}(h:`a3):Env K H' `iJ σ (`Gq):=by
 refine`a'P
 ·have:∀{σ:St} {δ:Ds},`aoi->`bH (SlR K H' `iJ) σ (`Gq):=by
   intro σ δ h
   induction h with
   | nil=>exact `_
   | cons r t ih=>exact `ai (Ip0 r) ih
  exact `F h.all
 ·rw[`dl] at h1
  cases e:`bY with
  | none=>rw[e] at h1;cases h1
  | some s=>rw[e] at h1;exact `J (A4 h1) En0
omit DL
open Y
def Rm0{t:TT}(h:`Tb):PT X e (`c0 (`a'L t)):=(`a'M)
omit L2
open X
def yh1(K:`y)(H₀:Hp)(B₀:BS)(i j:Nat)(dp:D)(D:`fO):`a77
 | `Co=>∀σ H,`aww->`PM
 | .rt d δ=>`a78
def Bc0(K:`y)(H₀:Hp)(B₀:BS)(δ:Ds)(i j:Nat)(dp:D)(G:`kz):TS:=`iP (∃r,`aww/\G dp δ=`bK/\yh1 K `as `al i j dp D r)
structure PSA(X:Cx)(i j:Nat)(st:`aO)(G:`kz):Prop where
 mk::go:`bht PS
structure PSAs(X:Cx)(i j:Nat)(st:`bb)(G:`kz):Prop where
 mk::go:`bht PSs
structure PTA(X:Cx)(i j:Nat)(e:`K)(gt:D->GB):Prop where
 mk::go:∀H₀ B₀ δ dp,PT X e (`c0 (∃b,`aD'/\gt dp δ=`it/\∀H',`Eq X.K H' δ->Q b H'))
def PartAt.grow{σ:St}{δ:Ds}{dp:D}(h:`aww)(s:`aZ):`Eq K H' δ:=by
 skip;apply `aD! h;done;exact#[`sQ s,B,a,ns,as,sos,v,b1,b2,`jd s,`g5 s,hj,`wR s]
section
variable{c:`K}{st:`aO}{as bs rest:`bb}{G1 G2 Ga Gb:`kz}{gt:D->GB}
def ub0:`BB [] `aAO:=(.mk λH₀ B₀ δ dp pins s σ H D I hq228=>by
 let#[r,pt,e,k]:=hq228
 cases e;exact `bZ p40 D (k σ H pt))
def ve0(h1:PSA X i j st G1)(h2:`BB `aA G2):`BB `abZ (λdp=>u9 `Zt `awx):=(.mk λH₀ B₀ δ dp pins s σ H D I hq229=>by
 skip;let#[r,pt,e,k]:=hq229
 have e:u9 `Zt `awx δ=`bK:=e;delta u9 at e;cases e1:G1 dp δ with
 | none=>rw[e1] at e;cases e
 | some r1=>
  rw[e1] at e;cases r1 with
  | nx δ'=>done;exact `bhu (h2.go `as `al δ' dp) fun σ' H' pt'=>#[r,pt',e,k]
  | rt d δ'=>cases e;done;exact `bhu vr0 k)
def kz0(hc:PTA X i j c gt)(ha:`BB as Ga)(hb:`BB bs Gb):PSA X i j `ab_ (λdp=>ifB (gt dp) (Ga dp) (Gb dp)):=(.mk λH₀ B₀ δ dp pins s σ H D I hq230=>by
 let#[r,pt,e1,k]:=hq230
 have e1:ifB (gt dp) (Ga dp) (Gb dp) δ=`bK:=e1;delta ifB at e1;cases e2:gt dp δ with
 | none=>apply `ac;cases e1
 | some t=>
  apply `ac;refine e90 (`R2 hc.go) (`R2 `Cs) (`R2 `FE) `t s σ H D I #[t,pt,e2,`aFC];cases t with
  | true=>apply `l!
  | false=>apply `l!)
def G10(h:`n4):PSA X i j `Dk (λ_=>K6 gx):=(.mk λH₀ B₀ δ dp pins s σ H D I hq231=>by
 let#[r,pt,e1,k]:=hq231
 have e1:K6 gx δ=`bK:=e1;delta K6 at e1;cases e2:`gr with
 | none=>apply `ac;cases e1
 | some q=>
  apply `ac;cases e1;exact `q9 `jR #[q,pt.en,e2,`a7'])
def L70{gb:GB}(h:`a!G):PTA X i j e (λ_=>gb):=(.mk λH₀ B₀ δ dp pins s σ H Q I hq232=>by
 skip;let#[b,pt,e1,k]:=hq232
 apply `awy;done;exact `yU h.go #[b,env,e1,λH' s'=>k H' (pt.grow s')])
def rk0(i j:Nat)(g:GE)(G:`kz):GSB:=`uS λdp=>`cN λ_=>G dp `bhv
def bn0{py:Pos}{g:GE}{G:`kz}(i j:Nat)(nd:`dh)(he:`rn)(h:`BB `aA G)(hij:`y5)(hi:`hN)(hy:`hO)
  (hsw:`XA)
  (hf:`gP):
  `fh X (`ahq::`aA) (rk0 i j g G):=(.mk λH₀ B₀ δ pins s σ H D I hq233=>by
 skip;apply `eQ hq233
 delta rk0 at e1;apply `aU;apply `asx;apply `asy;apply `XB;have jl:j<`s!:=by
  apply `akW;have h1:=`Gx;have:=`jr;lia
 done;refine xv0 `a'R (h.go `as `al `bhv d) `t s σ H D I (`Od d q1 (`mE #[r,?_,e1,?_]))
 ·apply `hR
  refine#[(`XF).unset j (`c v1),B,a,ns,as,sos,v1,b1,b2,(`gq).unset j (`c v1),#[`o `bhw O.sl,O.bad,?_,O.w],B20 jl,r1];delta dpN;rw[`bhw];exact O.dp
 ·cases r with
  | nx δ'=>exact fun σ' H' pt=>kk σ' H' pt.en
  | rt d' δ'=>exact kk)
def Vp0{A B:GSB}(h1:`fh X as A)(h2:`fh X bs B):`fh X `awv (u9 A B):=(.mk λH₀ B₀ δ pins s σ H D I hq234=>by
 skip;apply `gR hq234
 delta u9 at e;cases e1:A δ with
 | none=>rw[e1] at e;cases e
 | some r1=>
  rw[e1] at e;cases r1 with
  | nx δ'=>done;exact `aKO Sc0
  | rt d δ'=>cases e;done;exact `ahZ Sc0 `aey)
omit z
def viewV(ns:`k)(d:D):`cD:=if `ku then `aX else `l' λk=>match `ff with
 | `f5=>`w `Jj `f5 `e
 | _=>`e
def viewVs(ns:`k):`Ux
 | []=>`m?
 | `b0=>(`bhx).bind λe=>`bhy `aci
def viewD(ns:`k)(dp:D):`cD:=(t70 dp).bind λk=>match `ff with
 | `W5=>`bhy λes=>`b4 `st es
 | _=>`e
def RpW.viewV(w:`ei){d e:D}(r:`gQ)(h:`bhx=`sm):`bhz:=by
 delta DL.viewV at h
 by_cases hf:`ku
 ·rw[`u5] at h
  cases h;exact p80 hf (cq0 (dq0 hf) r)
 ·skip;rw[`II] at h
  let#[k,hk,h]:=`fs;split at h
  rotate_left
  ·cases h
  rename_i es hn;split at h
  rotate_left
  ·cases h
  rename_i hfl;cases h;apply `bhA;apply `hQ;done;rw[w60];exact#[c,xs,rfl,`m #[`tt,`m (`bhB)],`bhC]
theorem RpW.viewVs(w:`ei):∀{ds es:`k} {xs:`S},`fQ->`aJB=`c es->Rps K `nI `iJ es xs
 | [],es,xs,r,h=>by
  cases h;rw[vm0] at r;rw[O8];exact r
 | `b0,es,xs,r,h=>by
  skip;delta DL.viewVs at h;let#[e,h1,h]:=`fs;cases h2:`bhD with
  | none=>rw[h2] at h;cases h
  | some es'=>
   rw[h2] at h;cases h;rw[wn0] at r;let#[x,r',rfl,q1,q2]:=r;done;rw[W5];exact#[x,r',rfl,w.viewV q1 h1,RpW.viewVs w q2 h2]
open T in
def RpW.viewD(w:`ei){d e:D}(r:`gQ)(h:viewD ns d=`sm):`bhz:=by
 delta DL.viewD at h;let#[k,hk,h]:=`fs;split at h
 rotate_left
 ·cases h
 rename_i ks ds hn;cases h2:`bhD with
 | none=>rw[h2] at h;cases h
 | some es=>
  rw[h2] at h;cases h;apply `bhA;apply `Jb;rw[fe0];exact#[c,xs,rfl,`tt,`bhB,hl,w.viewVs rx h2]
def ur0(i j:Nat)(gt:GB):D->GB:=λdp δ=>`cN λns=>(viewD ns dp).bind λd=>gt `awz
def mr0{gt:GB}(i j:Nat)(h:`aY'):PTA X i j e (ur0 i j gt):=(.mk λH₀ B₀ δ dp pins s σ H Q I hq235=>by
 skip;let#[b,pt,e1,k]:=hq235
 apply `awy;delta ur0 at e1;rw[`la,`h] at e1;let#[d,hv,e1]:=`fb;have O:Env X.K `nI `iJ σ `awz:=by
  have:=(env.flats (H':=`aAS)).set j (at'.w.viewD rv hv);have z:`bhE=σ:=by
   let#[hl,z]:=`ch hj;rw[← z,List.set_getElem_self]
  rwa [z] at this
 done;refine ch0 (Rm0 (h.go `iJ `awz)) `t s σ H Q I #[a,`a!,`a9N,b,O,e1,`aG0];let#[c1,c2]:=at'.w.backS s';exact#[a,`a!,c1,k _ (pt.grow c2)])
def Uz0{σ:St}{δ:Ds}{dp:D}(en:`cm)(b1:`jY)(b2:`jZ)(env:`a3)(at':`l8)(hj:`HS)(rv:`ar')(s:`cE H H2)
  {k:Nat} {c:`d} {so so':`dw} {n':D} (f1:`iE) (f2:`lw) (nk:`arM H2) (hi:`arN):
  ∃sub',`gn `bhF a sub'/\`aaX K `as `al (`er `bhF a sub') σ (`W4) i j dp:=by
 have Z:=`g5 s;let#[p1,p2,p3]:=Z.w.put `j3 f1 f2 nk hi;refine`a9o;rw[p2];skip;let#[d0,d',a1,q1,O]:=`a9p Z p3;let#[x,mk,Y]:=`Xz;have U:dpN i (`W4)=`c `arO:=by
  delta DL.setN;rw[Y];exact Xp0 Y _
 done;rw[q1] at U ⊢;exact#[`zs s b1 b2 a1 `fM O,B,a,_,as,_,v,b1,b2,O,#[`fM,`j3,U,p3],hj,(`wR s).mono `a'I `D3]
def tNA(K:`y)(B:BS)(δ:Ds)(i j:Nat)(dp:D)(g:`BC):TE:=`c0 (∃d a ns as sos v,`a3/\g dp δ=`aX/\`l8/\`HS/\`ar'/\∀v' H',`aZ->RpN K H' B as d v'->Q v' H')
structure PNA(X:Cx)(i j:Nat)(e:`K)(g:`BC):Prop where
 mk::go:∀B δ dp,PE X e (tNA X.K B δ i j dp g)
section
variable{a val:`K}{g ga:`BC}{gb gv:GE}{go:`BC}
def bi0{g:GE}(h:`rn):PNA X i j e (λ_=>g):=(.mk λB δ dp=>`a8! fun σ H Q q=>by
 skip;apply `bhG q;done;exact`W7 env h k)
def Tv0(hN:`hN)(hv:`rj)(hd:`n6)(hcd:`rk):PNA X i j `L4 `Km:=(
 .mk λB δ dp=>(`a'H).imp fun σ H Q hq236=>by
  skip;apply `bhG hq236
  cases h;done;exact#[v,hj,k v H `ox rv])
def Hq0(hu:`fr)(ha:PNA X i j a ga)(hb:`cU)(hs:`Wa):PNA X i j `uN (λdp=>X5 i (ga dp) gb):=(.mk λB δ dp=>
 (wk0 (fl0 hu (`Cs B δ dp) `arQ hs)).imp fun σ H Q hq237=>by
  skip;let#[d,ad,ns,as,sos,v0,en,h,at',hj,rv0,k]:=hq237
  have h:X5 i (ga dp) gb δ=`aX:=h;delta X5 at h;let#[dx,e1,h]:=`fs;let#[y,e2,h]:=`fs;rw[`la,`h] at h;done;refine#[dx,ad,ns,as,sos,v0,en,e1,at',hj,rv0,`ah_];apply `W8;apply `n';apply `Ja;skip;split at h
  rotate_left
  ·cases h
  rename_i ks ds hn;let#[q,e3,h]:=`fs;apply `W9;apply `Jb;let#[v,U,rv]:=(dw0 rx).1 d h;have:=`Wb;subst this;done;apply `a9g;rw[c2];exact `Wc)
def nz0(i:Nat)(go:`BC)(gk gv:GE):`kz:=λdp δ=>`yT λv=>`bhH λd=>`tZ λdk=>`cN λns=>`l' λk=>match `ff with
 | `W5=>`WO λq=>`ba `bg6 (.nx `bg7)
 | _=>`e
open T in
def lh0(hu:`fr)(hv:PD X val gv)(ho:`bhI)(h:PD X e gk)(hs:`NQ `Zu val pos'.line)(hw:`NR `Zu val)(h1:`NS `Zu (`M?))
  (ha:`G (∀v,`bg8=(do
   let ov ← `alq
   let iv ← `Wf
   `Hl
   `Hm
   `Hn)) Ad):PSA X i j (`gB `Zu val pos') (nz0 i go gk gv):=(.mk λH₀ B₀ δ dp pins s σ H D I hq238=>by
 let#[r,pt,e1,kk]:=hq238
 apply `asv;delta nz0 at e1;let#[dv,e2,e1]:=`fb;let#[d,e3,e1]:=`fb;let#[dk,e4,e1]:=`fb;rw[`la,`h] at e1;let#[k,e5,e1]:=`fb;split at e1
 rotate_left
 ·cases e1
 rename_i ks ds hnode;let#[q,e6,e1]:=`fb;split at e1
 rotate_left
 ·cases e1
 rename_i hz;cases e1;refine gk0 `Sf (c70 (ho.go B δ dp) `bg9 `bg' ha) hs hw h1 `t s σ H D I #[dv,env,e2,λw H1 s1 a4=>#[d,a,ns,as,sos,v,`gq,e3,`rM,hj,`Fu,λv1 H2 s2 r1=>#[dk,`bgz s2,e4,λv2 H3 s3 r2=>?_]]];have Y:=`w1;have O:=`g5 Y;apply `w4 (`Mj (`Lt s3) e5 `Mk);apply `Jb;have:=qp0 e6 r2;subst this;let#[ys,hy,a3,a1,a2]:=`aer w;apply `bg!;have U:RpN X.K H3 B as dv w:=o80 hz.1 ((a4.same s2).same s3);have nk:`he X.K H3 B as (`agx dv) `arG:=by
  refine`bg?;delta ui0;cases hk:`qb with
  | true=>rw[`a_,a1 hk];exact ki0 U rx
  | false=>rw[`hP,a2 hk];exact `Jq U
 rw[hy];apply `bhJ
 exact`bhK)
def ax0(i:Nat)(go:`BC)(g1:GE):`kz:=λdp δ=>`bhH λd=>(g1 δ).bind λdv=>`cN λns=>`l' λk=>match `ff with
 | `f5=>`ba `a9j (.nx (`a9k))
 | _=>`e
open T in
def Lj0(ho:`bhI)(h1:`arT)
  (hbase:`W')
  (hfew:`G ((`ra
  &&`IK)=`f) Aa)
  (hline:`fZ) (hs:`f3) (hplain:`l3)
  (hsw:`NP `arU):
  PSA X i j (`xH `arU pos) (ax0 i go g1):=(.mk λH₀ B₀ δ dp pins s σ H D I hq239=>by
 let#[r,pt,e1,kk]:=hq239
 apply `asv;delta ax0 at e1;let#[d,e2,e1]:=`fb;let#[dv,e4,e1]:=`fb;rw[`la,`h] at e1;let#[k,e6,e1]:=`fb;split at e1
 rotate_left
 ·cases e1
 apply `Jc;split at e1
 rotate_left
 ·cases e1
 rename_i hz;cases e1;refine `ar6 (`W? (yh0 (ho.go B δ dp)) `arW) D #[d,a,ns,as,sos,v,env,e2,at',hj,rv,`xQ];apply `hR;apply `Jf;apply `hQ;apply `arX;apply `n';apply `Xa;rw[c2];refine`a9q;have Y:=`jg;have U:=`g5 Y;have a1:=`Xb;apply `a9r;apply `a9s;apply `bhJ
 exact`bhK)
omit z
def W80(i:Nat)(ms:`k)(δ:Ds):Ds:=match `kT with
 | `c (`H (`cw::_),mk)=>`Xr
 | _=>δ
def NodeOk.extN{new:`aK}(g:`dS){n:D}(hdx:`Ob so (dx∉new))(h:`H'):`an7 `BD:=by
 have l:`afD `BD:=`a99
 apply `an8;split at h
 ·apply `nY;exact`a9'
 ·let#[xs,e,z,r]:=h;exact`a9!
 ·skip;apply `a9?
  done;exact`a'a w
 ·exact `fE
def Ma0{as new:`bn}{k:Nat}{c:α}(h:`BD[k]?=`d_):`iE∨`fF<=k/\new[k - `fF]?=`d_:=by
 by_cases hk:k<`fF
 ·rw[`fa hk] at h;exact `Ma
 ·rw[`I4] at h;exact `p #[`E,h]
def Ew0{H3 Ho:Hp}{σ:St}{δ:Ds}{ms:`k}{new:`aK}{sos' nso:`uX}(en:`cm)(b1:`jY)(b2:`jZ)(env:`a3)(at':`l8)
  (s13:`asc) (hoff:∀b,`I'->Ho b=H3 b) (hlen:`fF=sos'.length) (hat:`awA `iE sos' `a8Y) (hins:`D4 (sos'[k]?))
  (nlen:new.length=nso.length) (nnd:new.Nodup) (nfr:∀l∈new,`EU) (nat':`awA (new[k]?=`d_) nso (H3 c=`yR)) (nins:∀(k:Nat) C dx fs,nso[k]?≠`mJ)
  (hw:`bH (`he K H3 `bhL `BD) ms `RA):
  `bhM/\∃Hc,`bhN/\`ja K Hc (`awB)/\`hV Hc (`awB):=by
 apply `ar?;have c0:∀b∈as,`Uh:=λb hb z=>by
  apply `asd
  ·rw[q,hH] at z;cases z
  ·rw[q.2] at z;cases z
 have na:∀l∈new,l∉as:=λl h z=>c0 l z (nfr l h)
 have U:(`z `o2)=(`z `aCa):=by rw[`W,`W,hlen,nlen]
 have a2:(`o2).Nodup:=by
  rw[`Iw];exact#[`aiG,nnd,λx hx y hy z=>na y hy `ase]
 have a5:`BD[0]?=`k0:=`asf
 have a4:`D4 (`RA[k]?):=λk C dx fs e=>by
  rcases Ma0 e with e|⟨_,e⟩
  ·exact hins k C dx fs e
  ·exact `J e (nins _ C dx fs)
 have cl:`bhM:=pf0 a5 a2 U (λk c so q1 q2=>by
  rcases Ma0 q1 with q1|⟨hk,q1⟩
  ·have hk:=`asg
   rw[`fa `n] at q2;exact hat k c so q1 q2
  ·rw[hlen,] at hk
   rw[`mu hk] at q2;rw[hlen] at q1;rw[hoff c (na c (D3 q1))];exact nat' _ c so q1 q2) a4
 obtain⟨Hc,Y⟩:∃Hc,`bhN:=`Y;refine#[cl,Hc,Y,?_];skip;have ca:`Jm a `aho:=`a't
 have Z:∀b∈`o2,`asj:=λb hb n=>by
  rw[Y];apply `fH;let#[so,q]:=s80 U hb a2;rw[`Xv,q]
 have O:∀b,b∉`o2->`aIf:=λb hb=>by
  rw[Y];apply `fH;rw[`a!O,`Jn,hoff b `aIg]
 have but:`ask:=#[λb u n z=>by
  by_cases hb:b∈`o2
  ·apply `AU
   ·apply `asl
    ·exact `asm
    ·rw[`awC,← w.2,z]
   ·rw[nfr b q] at z;cases z
  ·rw[`Xx];exact s13 _ _ z,λb u xs n z=>by
  by_cases hb:b∈`o2
  ·rw[`awC] at z;cases z
  ·rw[`Xx] at z;exact `a!P]
 have g3:Gr H3 Hc `bhL B:=λb o n z=>by
  refine#[`awu,?_]
  by_cases hb:`W2
  ·rcases `aD8 with w|w
   ·exact `J `j3 (w▸`awu)
   ·have:=s13 _ _ w.2
    rw[`F] at z;rw[Z b (D5 _ hb) λq=>n (`m (q▸`j3)),z]
  ·rw[O b λq=>(`d9 q).elim hb λq=>n `QN]
   exact z
 have w':RpW K Hc B ms a `BD `RA:=by
  refine#[a5,a2,ca,`eB,U,`uh (λn so r=>`c! g3) hw,a4]
  by_cases n:b=a
  ·exact `m n
  ·refine `p #[?_,`awC]
   apply `AU
   ·apply `aso
   ·exact `zm (nfr b q)
 let#[x,mk,a7]:=`Xz;let#[d0,a1,b3]:=s50 a7;let#[a',a6,hB,ro]:=`wk a1;rw[`fM] at a6;cases a6;have a9:`awB=`Xr:=by delta W80;rw[a7]
 have a3:`hV Hc (`Xr):=`asq a1 b3 #[x,_,rfl,_,_,w'];done;rw[a9];exact#[`asr a1 a3,a3]
def Ed0:`xm
 | `u2::_=>`f
 | _=>`l
def Id0(h:`aYL)(hd:`bhO)(C dx:`d)(fs:`hG):sos[0]?≠`mJ:=(λe=>by
 skip;cases h with
 | nil=>cases e
 | @cons n so _ _ r t=>
  cases e;cases n with
  | dct kk ds=>
   cases kk with
   | inl kk=>let#[_,z,_]:=or0 r;cases z
   | inr kk=>done;exact r
  | _=>cases hd)
def Vc0(i:Nat)(go:GE)(gP:GQ'):GX:=fun δ=>`l9 λd=>`aIv λps=>`aIw λks=>`cN λns=>`l' λk=>match `ff with
 | `f5=>`ba ((`bhf)/\`agA/\`bhO) (`x,W80 i (`bhP) δ)
 | _=>`e
section
variable{dpos:Pos}{vals:`bB}{gP:GQ'}
open T in
def z60(ho:`ro)(h:`bhg)
  (hall:`asO) (hl:`asP) (h0:`asQ) (h15:`asR)
  (hbase:`W')
  (hfew:`G ((`Lr `bhQ
  &&`Me [`y3])=`f) Aa)
  (hline:`fZ) (hs:`BZ `bhQ (`ih (`y3))) (hplain:`l3):
  PX X (`qz `ah4 [`y3]) (Vc0 i go gP):=(.mk λH₀ B₀ δ pins s σ H Q I hq240=>by
 apply `eQ hq240
 delta Vc0 at e1;apply `aU;let#[d,e2,e1]:=`fb;let#[ps,e3,e1]:=`fb;let#[ks,e4,e1]:=`fb;let#[ns,e5,e1]:=`fb;let#[k,e6,e1]:=`fb;split at e1
 rotate_left
 ·cases e1
 apply `Jc;split at e1
 rotate_left
 ·cases e1
 rename_i hz;let#[#[#[knd,e7],a9],c4,d2]:=hz;cases e1;apply `Jd;apply `asS;refine `arV (`W? `Je (`P4 (lb0 `bhh)));have Y:=`rM;apply `w4 (Y.w.nodeK r1 e6 `Mk);apply `hQ;refine#[a,`a!,`a9O,`m #[rfl,xs,`m (`m (Y.w.opAt f1 f2))],?_];let#[c1,c2]:=Y.w.back;apply `Xa;rw[c2];refine λp hp=>`asT (`gq).fresh e3 λvs H' ls s' fr b3 rk rq=>#[`aIx,`Ej,js0 `bhR,`ci `oX,?_]
 have Z:`asU:=by
  have:=D0 `uI `bhR
  apply `dX `XH
 have hm:`asV:=by
  rw[lt0 _ [] (by
   rw[`q8];apply `asW;rw[`F];exact knd)]
  rfl
 rw[hm];obtain⟨zs,c8⟩:∃zs,zs=`asX:=`Y;rw[← c8] at Z rq ⊢;have a5:p∉ls:=λz=>by
  have:=fr p z;apply `aT Y7;cases `F
 have a2:∀l∈ls,l≠p:=λl z q=>`Ve q (a5 z)
 have d1:`bhj:=`DW #[a5,b3];have a3:∀l∈`h!,H1 l=`e:=λl z=>by
  rcases `cg z with q|q
  ·rw[q];exact hp
  ·have:=fr l q
   apply `AZ (a2 l q)
 obtain⟨Hl,O⟩:∃Hl,Hl=upd H' p (`awD):=`Y;rw[← O];have U:∀b,`tQ->Hl b=`fw:=λb n=>by rw[O,Y4 n]
 have s2:`cE H1 Hl:=#[λb u e=>by
  have n:`tQ:=λz=>by rw[z,hp] at e;cases e
  rw[U b n];exact s' _ _ (`o (Y4 n) e),λb u xs e=>by
  by_cases n:b=p
  ·rw[n,O,Y7] at e;cases e
  ·rw[U b n] at e
   have:=s'.nf _ _ _ e
   apply `AZ n]
 have a4:=`jg;have a1:=`g5 a4;have nl:`ass:=`ast
 have a7:∀b u,H1 b=`bC->`Zs:=λb u e z=>by rw[a3 b z] at e;cases e
 refine#[_,a1.w.openOk,c,xs,`g_,rfl,rfl,a1.w.opAt f1 f2,`cu `zt c4,?_];have g1:Gr H1 Hl B `BE:=`IF #[λz=>`cO n (a7 b u e),s2 _ _ e]
 have ga:Gr H Hl B `BE:=`IF (g1 b u n (s1 _ _ e))
 have la:∀(k:Nat) b,`K3=`it->`BF[k]?=`it:=λk b e=>`aIe
 have rp:RpN X.K Hl `BE `BF (`EL) `hZ:=by
  delta M7;rw[tj0];refine `m #[_,p,ut0 _,?_,rfl];rw[nl,`nE,`iF];rfl
 have nk:`he X.K Hl `BE `BF `aJC `bhS:=#[_,rfl,`CY (`Ml (`tp (rx.mono g1 la)) rp)];have nd:`he X.K Hl `BE `BF (`aJD) (`awD):=by
  refine#[zs,rfl,Z,?_];have:=rq.rpns (B':=`aBu) (H':=Hl) (`IF #[λz=>n (`cO (λq=>`m `Ou) λq=>(`YV).elim (λq=>`bhm) `p),`o (U b λz=>n (`bhe)) e]) `BF (as++[p]) (`ae `km) a9;rw[`W,← nl] at this;exact `F
 have no:=Id0 `Eg d2;have old:`bH (`he X.K Hl `BE `BF) ns sos:=`RW (λk n so q1 q2 r=>r.extN ga λC dx fs e=>by
  subst e;have c0:=`asp;subst c0;exact `J q2 (no C dx fs)) `Eg
 have e0:noQ `p3=`QM:=rq.no;let#[cl,Hc,c3,d3,a6]:=Ew0 (H3:=Hl) (Ho:=upd (`ig Hl `dK) c (HO.lst (`QP))) (new:=`h!) (sos':=sos.set k `bhS) (nso:=`awD::`bhk) (ms:=`bhP) en b1 b2 env at' a4
  (λb hb=>`o (`zM Y4 (b≠c) λz=>hb (`o z (D3 f1))) (tc0 hb)) (by apply `I!;exact `xT)
  (λj b so q1 q2=>by
   rcases `jx q2 with⟨rfl,e,_⟩|⟨n,e⟩
   ·rw[f1] at q1
    cases q1;rw[Y7,← e];rfl
   ·have:b≠c:=λz=>by
     let#[g1,g2]:=`ch f1;let#[g3,g4]:=`ch q1;exact n ((x4 `aiG).mp `a84)
    rw[`Au];exact a1.w.opAt q1 e)
  (λj C dx fs e=>by
   rcases `jx e with⟨_,e,_⟩|⟨_,e⟩
   ·cases e
   ·exact `adA j C dx fs e)
  (by rw[`an,`an,`kh]) d1 (λl hl=>`nm (a3 l hl))
  (λj b so q1 q2=>by
   cases j with
   | zero=>cases q1;cases q2;rw[O,Y7];rfl
   | succ j=>
    rw[`ri] at q1;rw[`ri,`iZ] at q2;split at q2
    ·cases q2
     have hc:=D3 q1;rw[U b (a2 b hc)];exact rq.at b hc
    ·cases q2)
  (λj C dx fs e=>by
   cases j with
   | zero=>cases e
   | succ j=>
    rw[`ri,`iZ] at e;apply `ara)
  (`w? (`D5 nk k old) (`ai nd (`o e0 (dm0 _))))
 refine#[a,_,cl,`Xu];rw[← c3];exact `ww d3 b1 b2 a6 `k!)
omit z
def gd0:`k->`aH (`y4)
 | []=>`m?
 | `wv::ds=>`awE λr=>t::r
 | _=>`e
def Wj0:`O
 | `z?=>`awE λts=>`aFs
 | _=>`e
def W60:∀ts:`y4,`bhT=`Zv:=by
 intro z;induction z with
 | nil=>exact rfl
 | cons t ts ih=>show (`bhT).map _=_;rw[ih];rfl
omit DL
open Y
section
variable{w:`M}{R:`ka}{J:`d}{wr:`aK}{P:`ap2}{St:`Tj}
def Bb0(W:Walks `m5 w `g1 J fp wr n P St)(tv:`ao9)(ht:∀i v,P i v->v=`dJ (tv i))(z:`B):∀(m i:Nat) (s:`v),n - i=m->i<=n->St i `ay->(z=`f↔∃k,i<=k/\k<n/\tv k=`f) ->
  (∀h' tk,(`Fy (b∉wr))->`qQ (`dJ z) `uD) ->
  `qI (`b6 "any.loop" #[[`U J],[]]) s:=by
 intro m
 induction m with
 | zero=>
  intro i s hm hi U hz hR;obtain rfl:i=n:=Nat.le_antisymm hi (Nat.le_of_sub_eq_zero hm)
  refine `bhU;rw[`u6 r9 _];apply `bhV;refine A0 (W.done s _ _ U `bhW);refine `aqi;obtain rfl:z=`l:=by
   cases z with
   | false=>rfl
   | true=>let#[k,a1,a2,_]:=hz.mp rfl;exact `J a2 (`awF a1)
  exact `bhX
 | succ m ih=>
  intro i s hm hi U hz hR;have O:i<n:=Nat.lt_of_sub_pos (hm ▸ Nat.succ_pos _)
  refine `bhU;rw[`u6 r9 _];apply `bhV;refine A0 (W.item i s _ _ O U λv h' tk hP a4 hk=>?_);obtain rfl:=ht i v hP;refine A0 (D2 (E7 ?_));refine A0 (`a3s ?_);cases hv:tv i with
  | true=>
   rw[`a_];refine `aqi;obtain rfl:z=`f:=hz.mpr #[i,`gW,O,hv];exact `bhX
  | false=>
   rw[`d6];have m1:n - `eA=m:=by rw[← Nat.sub_sub,hm];rfl
   refine A2 #[N4 r9 _,ih `eA _ m1 O a4 (hz.trans #[λhq241=>?_,λ#[k,a1,a2,a3]=>#[k,B7 (Nat.le_succ i) a1,a2,a3]]) λa5 Y Z=>hR a5 Y λb o hb e=>Z b o hb (hk b o hb e)];let#[k,a1,a2,a3]:=hq241;refine #[k,?_,a2,a3]
   by_cases q:k=i
   ·rw[q,hv] at a3;cases a3
   ·lia
omit z
def Ae0{ts:`y4}{its:`N}(rv:`bV (`ahp) its){v:`A}(h:its[i]?=`bR):v=`dJ (`bhY):=by
 have hl:=`qV;rw[`T] at hl;have hi:i<`an2:=`d' `V0
 let#[u,hu,ru]:=rv.get (i:=i) (x:=.bl ts[i]) (`a5A);rw[h] at hu;cases hu;cases ru;simp[hi]
def P80(hc:`dH):`z3 `bhZ (`bh_ X.K):=by
 apply `a_P;skip;let#[p,ts,rfl,hq,q]:=h;let#[u,rfl,ru]:=rs.one;cases ru;let#[its,rv,pl,hz]:=`tc;have hp:p<`Z:=by
  let#[o,n,e,_]:=pl;exact `ew
 have e1:`jP=`an2:=by
  have:=`qV;apply `aT `T;rw[`b8,`F]
 done;refine call_function_tree F.kind_any F.plain_any F.entry_any (F.args_any1 _) ?_;delta Builtin.«any»;refine `G0;apply `lI `aSB `kj;refine A2 #[N4 r9 _,Bb0 (Walks.list (A:=X.A.in1) `ke `Z p (B5 hp) `b3) (λi=>`bhY) (λi v hP=>Ae0 rv (`bA hP)) `aFb _ 0 _ rfl `yZ #[`ae2,pl.isList.push _] ?_ `bhW]
 ·rw[e1,`Js]
  constructor
  ·rintro⟨t,ht,hv⟩
   let#[k,hk,ek]:=o0.mp ht;refine#[k,`b7,hk,?_];rw[`bz,`arL,ek];exact hv
  ·rintro⟨k,_,hk,hv⟩
   rw[`bz,`arL] at hv;exact#[ts[k],O0 hk,hv]
 ·refine#[`cl,H,`Hk (t':=tk) `anu,rfl,q]
  refine hk b o ?_ (`o8);have:=`ew;simp only[`hq,`te,`tf];exact B5 `F
omit L2
open X
def Tx0:∀{ds:`k} {xs:`S} {ts:`y4},`bv->gd0 ds=`Zv->xs=`ahp:=by
 intro z;induction z with
 | nil=>intro xs ts r h;rw[O8] at r;cases h;exact r
 | cons d ds ih=>
  intro xs ts r h
  skip;rw[W5] at r;apply `In;cases d with
  | bl i=>
   have h:`awE (λr=>i::r)=`Zv:=h;let#[js,e,rfl]:=`Vn;rw[xn0] at r1;done;rw[r1,ih r2 e];rfl
  | _=>cases h
def Cr0:`Vp (`bh_ K) Wj0:=by
 apply `q?;delta Wj0 at h;split at h
 ·skip;let#[ts,e,rfl]:=`Vn
  apply `i2;rw[w60] at r1;apply `u3;have:=Tx0 rr e;subst this;done;exact#[a,ts,rfl,`fJ,`UU]
 ·cases h
def fr0(i:Nat)(go:GE)(n:Nat)(caps:`j)(f:`a9)(gt:GB)(ge:GE):GE:=fun δ=>`l9 λd=>`cN λns=>match `rm with
 | `a'_=>if `bh0 then (vq0 n `cj (`bh1) f gt ge (`Gq)).bind λr=>match r with
  | `AW=>`dM `bh2 (`AW)
  | _=>`e else `e
 | _=>`e
omit DL
open Y
def L40(hu:`fr):`h1 .NotEq (`ef (∃p q xs,`afh/\y=`U q/\H p=`Df/\H q=`Jl/\Q (.bl (!`apz)) H)):=by
 apply `hJ;skip;let#[p,q,xs,rfl,rfl,hp,hq,k]:=h;cases rx;cases ry;let#[its,rv,pl,_]:=`g6 (`m (`m hp));let#[U,Y,O,_]:=`g6 (`m (`m hq));have z':U=[]:=by cases Y;rfl
 subst z';have hA:`aaj<`os:=`E
 cases xs with
 | nil=>
  have z:its=[]:=by cases rv;rfl
  subst z;have:=`a2Z (A:=X.A) (e:=`TV) `kj O.isList rfl hA (λj h1=>`J h1 `t4);done;apply `bh3
 | cons a xs=>
  have hl:`p'=`ax+1:=by have:=`qV;apply `aT `an;exact `XH
  have:=r20 (A:=X.A) `kj O.isList (by rw[`b8,hl];simp) hA;done;apply `bh3
omit L2
open X
def k30(i:Nat)(go:GE):GB:=fun δ=>`l9 λd=>`cN λns=>match `rm with
 | `f5=>`c (!`bh4)
 | _=>`e
open T in
def W4(hu:`fr)(ho:`ro)(hm:`G (`CL .NotEq (`Ef)=`l) Ai):PTD X (`MT o [.NotEq] [`Ef] pos) (k30 i go):=(.mk λB δ=>
 (ch0 (fu0 (L40 hu) `Mi (yh0 (ff0 vj0)) hm)).imp fun σ H Q hq242=>by
  let#[b,env,h,k]:=hq242
  delta k30 at h;let#[d,e1,h]:=`fs;let#[ns,e2,h]:=`fs;apply `a'd;split at h
  rotate_left
  ·cases h
  rename_i es hn;cases h;refine`W7 env e1 (`mE #[`b7,`aG5]);have s2:`cE H1 (`asa):=yl0 hL;apply `W8;apply `W9;apply `hQ;have U:L∉as:=λz=>by
   rcases (`rM).w.own L z with q|q
   ·rw[q,(`rM).w.at'] at hL;cases hL
   ·rw[q.2] at hL;cases hL
  apply `n';have hx:`apz=`bh4:=by
   have:=`zt;cases es<;>cases xs<;>first|rfl|(cases `F)
  refine#[a,`a!,`j9,c,L,xs,rfl,rfl,`DN,`Hz (tc0 U),_,rfl,a,`a!,c1,?_];rw[c2,hx];exact k _ `jH)
def Xz0:GSB:=fun δ=>`Zw δ
def W10:PSA X i j (`CU `e pos) `awG:=(.mk λH₀ B₀ δ dp pins s σ H D I hq243=>by
 skip;let#[r,pt,e1,k]:=hq243
 cases e1;apply `awy;done;exact `bZ Fi0 D (k `x σ H (`ww pt.en b1 b2 env `k!)))
section
variable{g:GE}{s1 s2:`aO}{bs:`bb}{G1 G2:`kz}{G:GSB}
def T10(i j:Nat)(nd:`dh)(he:`rn)(h1:`bh5)(hr:`bh6)(hij:`bh7)(hi:`hN)(hy:`hO)
  (hsw:`XA) (hf:`gP):
  `bh8 bs (u9 `Zt `q):=(`bh9 [_,s1] ub0)
def Th0(i j:Nat)(nd:`dh)(he:`rn)(h1:`bh5)(h2:PSA X i j s2 G2)(hr:`bh6)(hij:`bh7)(hi:`hN)(hy:`hO)
  (hsw:`XA) (hf:`gP):
  `bh8 (s2::bs) (`me `Zt `awx):=(`bh9 [_,s1,s2] (ve0 h2 ub0))
omit z
open T in
def Pn0(i j:Nat){y:Str}{py spos:Pos}{sc scope:`c1}{elt iter:`K}{ifs:`bB}{N N':`i}{n:Nat}{caps:`j}{idx:`j}{f:`a9}{gt:GB}{ge:GE}
  (hnd:`S!) (ok:`u4) (hidx:∀j∈idx,j<n) (hi:`a'2)
  (hg:`l0) (ht:`Iq) (he:`Al)
  (hc:`l4) (hsc:`Ap) (hN:`Aq)
  (hiN:`hN) (hy:`hO)
  (hsw:`aXN)
  (hs:`fX)
  (hf:`gP):
  PSD X `aXO (O6 (gN j) (fr0 i go n `cj f gt ge)):=(.mk λH₀ B₀ δ pins s σ H D I hq244=>by
 apply `a4 hq244
 delta O6 at e1;apply `aU;cases e2:fr0 i go n `cj f gt ge δ with
 | none=>apply `ac;cases e1
 | some d0=>
 apply `ac;cases e1;delta fr0 at e2;let#[d,q1,e2]:=ym0 e2;let#[ns,q2,e2]:=ym0 e2;split at e2
 rotate_left
 ·cases e2
 rename_i ps hn
 by_cases hfl:`bh0
 rotate_left
 ·rw[`Q hfl] at e2;cases e2
 rw[`I hfl] at e2;let#[rr,q5,e2]:=ym0 e2;split at e2
 rotate_left
 ·cases e2
 rename_i rs
 by_cases hfr:`bh2
 rotate_left
 ·rw[`Q hfr] at e2;cases e2
 rw[`I hfr] at e2;cases e2;apply `XB;refine o50 (cc0 (i:=j) (hN▸hnd) hiN hy hc hsc `Ar `a'3 (g:=`yK) (tt:=`af4) (te:=`aoQ)
  `Ir
  `a_B
  `aoR hsw hs hf) `t s σ H D I #[a,d,a,ns,as,sos,env,q1,at',`xQ]
 apply `hR;apply `a9i;apply `hQ;apply `a'4;apply `a'5;have Z:=gn0 (K:=X.K) (B:=`B3) (δ:=`Gq) (σ:=σ) (H:=`aiJ) (n:=n) (caps:=`cj) (gi:=`bh1) (idx:=idx) (f:=f) (gt:=gt) (ge:=ge) `jO
  (Q:=λv H'=>(`aH_).nx (`bhE) H') #[`AW,env.flats,q5,`asz]
 ·let#[a1,_,e',fk]:=Z
  cases e';exact `a'6 (`bhC)
 ·let#[zs,o1,rz]:=ro
  let#[c1,c2]:=`Xn s2;have U:p∉as:=λz=>by
   apply `a'U;delta opened at hp;rw[l] at hp;cases hp
  apply `a'V
  have sm:=`oy c2;have rp:Rp X.K (`er H2 a `dK) B (`AW) `hZ:=by
   rw[w60];refine#[p,zs,rfl,`a'X,tf0 hfr rz];apply `fH;apply `a'Z;exact o1
  exact#[`a!,c1,k _ _ (en.wr b1 b2 sm Xv0 ((`agL).set j rp))])
omit DL
namespace Jk
open DL W Rk
open Bt (vg0 yz0 tu0 u90 sd0 wh0 t80 vz0 tn0 wr0 se0 up0 tg0 wy0 rd0 u60)
section
def qs0:GZB:=pm0 (nv0 (Wv0 (dp0 `V) `cr
 (ug0 (kd0 (orT (`A_ `ah8) `Zo)
 (ug0 `awm
 ow0)
 ow0)
 (ug0 `bgP
 (ug0 `bgQ
 ow0)))))
 Qf0
def is0:`i:=[`cV, `Ng, "thing"]
def s40:`rE:=c50 2 is0 0 qs0
def pu0:GZB:=pm0 (nv0 (kd0 (v90 `Q8)
 (ug0 `awm
 ow0)
 ow0))
 (pm0 (Ql0 (K6 `bh'))
 Qf0)
def l50:`i:=`ey
def sq0:`rE:=c50 1 l50 0 pu0
def mg0:GZ:=ug0 `bh!
 (ug0 `bh?
 (ug0 (Wa0 (px0 1 `bd d9 v6 sq0))
 ow0))
def bh0:`i:=[`Ng, "reader"]
def us0:`IW:=mkX 1 bh0 mg0
def ez0:GS:=u6 (O6 `cr `bia)
 (u6 (ifD (`gI `aL_ `ce)
 (u6 (yp0 (o2 (`zu (`gD `XZ 14 f9)) `Gu f9))
 t8)
 t8)
 (u6 (yp0 (o2 `XZ `Gu f9))
 t8))
def ep0:`i:=[`hd, `acF, `o3]
def uq0:`O:=mkF 2 ep0 ez0
def kf0:GS:=u6 `bib
 (u6 `bic
 (u6 (O6 `iQ `FO)
 (u6 (ifD `bid
 (u6 (`XX `bie `bif)
 t8)
 t8)
 (u6 (ifD (`gI `e4 `js)
 (u6 (`XX `bie (wz0 `am `RB wt0))
 t8)
 t8)
 (u6 (ifD (`gI `e4 `qB)
 (u6 (`XX `aiQ `bif)
 t8)
 t8)
 (u6 (ifD (`gI `e4 `aLt)
 (u6 (yp0 `aiQ)
 t8)
 t8)
 (u6 (yp0 (oA `jq ss0))
 t8)))))))
def eo0:`i:=[`o3, `hd, `agV, `wy, `big]
def rp0:`O:=mkF 2 eo0 kf0
def m90:GS:=u6 (O6 `qA `RC)
 (u6 (O6 `cr `r7)
 (u6 (sh0 (tz0 `jq) `eL
 (u6 (`R4 `aNx)
 (u6 (sh0 (tz0 `aNy) `iQ
 (u6 (O6 `ze (o2 (o2 `ys `hX yr0) `e4 Z7))
 (u6 (ifD (ob (o2 `lC `pV ltD))
 (u6 (`R4 (zm0 (z7 `cZ (`bih `qB))))
 t8)
 (u6 (`R4 (zm0 (z7 `qB (`bii `lC w50 (`bih `zv)))))
 t8))
 t8)))
 t8)))
 (u6 (yp0 `aE)
 t8)))
def m70:`i:=[`x', `Rd, "_law_found", "_law_t", `aIF, `oZ]
def sk0:`O:=mkF 1 m70 m90
def et0:GS:=u6 (ifD `JA
 (u6 (v10 (o2 (o2 (`JG (gc (`g 23))) (o2 (gc (`g 50)) (`Jz `ajs) Z7) mulL) `V mw0))
 t8)
 t8)
 (u6 (v10 (o2 (o2 (o2 (`JG (gc (`g 103))) (`y6 (o2 `bij `bik ixD) sk0) Z7) (o2 `bil (`Jz `cZ) ixD) Z7) `V mw0))
 t8)
def d60:`i:=`Zx
def na0:`O:=mkN 2 d60 et0
def ox0:GS:=u6 (O6 `qA (`yr (`xl `js)))
 (u6 (yp0 (qx0 (o2 (`yr `am) `cZ eqD) (o2 `bim `bin leD)))
 t8)
def kx0:`i:=[`lm, `big]
def xz0:`O:=mkF 1 kx0 ox0
def q80:GSB:=u9 `bio
 (u9 (tr0 (`Zy)
 (u9 (rk0 0 1 `Sr λdp=>(u9 ((λdp=>ifB `awH
 ((λdp=>u9 (`Zz `aij)
 ((λdp=>u9 (`awG dp)
 `i?) dp)) dp)
 `i?) dp) (u9 ((λdp=>ifB `awI
 ((λdp=>u9 (`Zz `ty)
 ((λdp=>u9 ((λdp=>ifB `awJ
 ((λdp=>u9 (`Zz (gc (`r `j5)))
 `i?) dp)
 `i?) dp)
 ((λdp=>u9 ((λdp=>ifB `awK
 ((λdp=>u9 (`Zz `ajj)
 `i?) dp)
 `i?) dp)
 ((λdp=>u9 (`awG dp)
 `i?) dp)) dp)) dp)) dp)
 `i?) dp) `q)))
 (u9 `bip
 `q)) 100000)
 `q)
def gz0:`i:=[`c9, `biq]
def wi0:`aJ:=mkB 1 gz0 0 q80
def u30:GSB:=u9 `X_
 (u9 (ifB `ZA
 (u9 `co
 `q)
 `q)
 (u9 (ifB `awL
 (u9 `co
 `q)
 `q)
 (u9 (Z3 (ifD (`Zy)
 (u6 `bir
 t8)
 t8))
 (u9 (Z3 (ifD `RH
 (u6 `bis
 (u6 (T8 (`bit))
 t8))
 t8))
 (u9 `ZB
 (u9 `eR
 `q))))))
def nr0:`i:=[`c9, `lm, "_law_rest"]
def u00:`aJ:=mkB 2 nr0 0 u30
def t20:GSB:=u9 `awM
 (u9 (ifB `aiS
 (u9 `co
 `q)
 `q)
 (u9 `awN
 (u9 (ifB `biu
 (u9 (ifB (xd0 `ah9 (`pu (`biv)))
 (u9 `co
 `q)
 `q)
 (u9 `biw
 (u9 `bix
 (u9 `eR
 `q))))
 `q)
 (u9 (ifB `awO
 (u9 `co
 `q)
 `q)
 (u9 `biy
 (u9 `biz
 (u9 `biA
 `q)))))))
def mt0:`i:=[`c9, `wy, `lm, "_law_root"]
def su0:`aJ:=mkB 2 mt0 0 t20
def q50:GSB:=u9 (rk0 0 2 `Sr λdp=>(u9 ((λdp=>ifB `awP
 ((λdp=>u9 ((nz0 0 `Km `Gt `x!) dp)
 `i?) dp)
 ((λdp=>u9 ((λdp=>ifB `awQ
 ((λdp=>u9 ((λ_=>`aAD) dp)
 `i?) dp)
 ((λdp=>u9 ((ax0 0 (λdp=>X5 0 (`Km dp) `mB) `V) dp)
 `i?) dp)) dp)
 `i?) dp)) dp) `q))
 (u9 `ZB
 (u9 `eR
 `q))
def gh0:`i:=[`c9, `acH, `biq]
def vd0:`aJ:=mkB 2 gh0 0 q50
def qy0:GSB:=u9 (Z3 (O6 `eL (fr0 0 `uc 1 `A1 `cM (`biB) `am)))
 (u9 (K6 (Y9 (qx0 (o2 `aik `yV ltD) (o2 `aM8 (o2 (zm0 (z7 `bF (`cQ `pV `aM7))) (oA (z7 `aE `biC) L00) ixD) ltD))))
 `q)
def qt0:`i:=[`c9, `NG, `acG, `acF]
def xr0:`aJ:=mkB 3 qt0 0 qy0
def va0:GSB:=u9 (ifB `X2
 (u9 (ifB `aMm
 (u9 `co
 `q)
 `q)
 (u9 `awR
 `q))
 `q)
 (u9 (ifX (orT (`A_ `aiU) `awS)
 (u9 `co
 `q)
 `q)
 (u9 `biD
 (u9 `biE
 (u9 `eR
 `q))))
def nk0:`i:=`sZ
def u10:`aJ:=mkB 2 nk0 0 va0
def rq0:GSB:=u9 `ZC
 (u9 (Z3 (sh0 `aju `eL
 (u6 (ifD `biF
 (u6 `biG
 t8)
 t8)
 t8)))
 (u9 (ifX (orT (`A_ `ail) `ajv)
 (u9 `co
 `q)
 `q)
 (u9 `awT
 (u9 `awU
 (u9 (ifB `biH
 (u9 `biI
 (u9 `biJ
 `q))
 `q)
 (u9 `eR
 `q))))))
def d00:`i:=[`c9, `wy, `NG, "_law_sign_here"]
def rn0:`aJ:=mkB 2 d00 0 rq0
def ux0:GSB:=u9 (ifB (`biK)
 (u9 `co
 `q)
 `q)
 (u9 (ifB `biL
 (u9 `biM
 `q)
 `q)
 (u9 (ifB (`gI `F' `ty)
 (u9 `biN
 `q)
 `q)
 (u9 (ifB (`gI `F' (gc (`r `j5)))
 (u9 (`jJ (`biO))
 (u9 (Z3 (ifD `biP
 (u6 `bir
 (u6 `ach
 t8))
 t8))
 (u9 `awV
 `q)))
 `q)
 (u9 `biQ
 `q))))
def f00:`i:=[`c9, `wy, "_law_fits"]
def xj0:`aJ:=mkB 2 f00 0 ux0
def m10:GS:=u6 `biR
 (u6 (sh0 (jp0 `jq) (gm0 2 3)
 (u6 (Za0 `biS
 (u6 `awW
 t8)
 t8)
 t8))
 (u6 (ifD (ob `biT)
 (u6 `biU
 t8)
 t8)
 (u6 (`A2 (`cQ `ajr `tx))
 t8)))
def ix0:`i:=[`o3, `c9, `oZ, `wy]
def rl0:`O:=mkF 1 ix0 m10
def kk0:GS:=u6 (O6 `qA (zm0 (z7 (`mf `aa') (z7 (`mf `aa!) (`cQ (`mf `aa?) (`mf `aba))))))
 (u6 (O6 `qA (o2 `V (zm0 (z7 (`mf `abb) (z7 (`mf `abc) (`cQ (`mf `abd) (`mf `abe))))) Z7))
 (u6 (ifD (wg0 (ob (o2 `x! `V `aig)) (wg0 (ob (`mf `wU)) (wg0 (`pu (`mf `e9)) (`pu (exI 0 `Cd `TV)))))
 (u6 `biV
 t8)
 t8)
 (u6 (ifD (wg0 (`pu (te0 `RO `awX)) (ob (te0 `F9 `awX)))
 (u6 `biV
 t8)
 t8)
 (u6 (`A2 (`cQ `ajr `awX))
 t8))))
def ja0:`i:=[`aco, "_law_others"]
def so0:`Bz:=mkE ja0 kk0
def o10:GS:=u6 (O6 `qA `qx)
 (u6 (U50 `Cd 2 (ug0 (gt0 `jq us0)
 ow0)
 (u6 (cpX 1 2)
 t8))
 (u6 (ifD (ob (exN 1))
 (u6 `biU
 t8)
 t8)
 (u6 (yp0 (Qt0 1 so0))
 t8)))
def gg0:`i:=[`o3, "_law_caught", `aco]
def sr0:`O:=mkF 1 gg0 o10
def Rh0:GS:=u6 (O6 `qA (o2 (`atb `zg) `biW f9))
 (u6 (sy0 2 `r7)
 (u6 (sh0 `biX `eL
 (u6 `biY
 t8))
 (u6 (O6 `iQ (jj0 (oA (z7 `aNY `db) na0)))
 (u6 (ifD `biZ
 (u6 (`bi_ u60)
 t8)
 t8)
 (u6 (`bi0 (oA (`cQ `am `bF) yz0))
 (u6 (`bi0 (`atb `biC))
 (u6 (ifD `bi1
 (u6 `bi2
 (u6 `bi3
 t8))
 t8)
 (u6 (O6 (gN 6) (oA `xc ss0))
 (u6 (yp0 (qx0 (o2 (oA `ata sr0) (oA `xc rl0) m00) (o2 (gv 6) `e4 m00)))
 t8)))))))))
def I50:`i:=[`oY, `hd, `aCQ, "_law_one", `o3, `agV, "_law_handed"]
def e70:`O:=mkF 1 I50 Rh0
omit z
open DL W Rk Rm
open Bt (U6 m9 b8 U9 xb0 yi0 M8 K8 Y0 xy0 vi0)
structure LP where
 kind:Nat
 size:Nat
 count:Nat
 names:`i
 classed:`B
variable{qs:`bi4}
structure LB where
 parts:Nat
 qs:`oj
 un:`j
 names:`i
 want:Str
 sum:Int
 amid:`B
 left:Int
 begun:Str
def pD(u:Nat)(q:LP):D:=`b4 `bi5 `aJR
def rest:Nat->`oj->`k
 | _,[]=>[]
 | u,q::qs=>pD u q::`tk::`bi6
def ec0(b:LB):D:=`b4 (`m `awY) [`Kn,M7 1,M7 2,`Ko,`bi7,.bl `wP,`awZ,`bi8]
def kb0(un:`j):D:=`s (`aw_)
def v20(b:LB):`k:=ec0 b::`Kp::`Kq::`EM
def bkD(b:LB):D:=`ob `Ld
def lo(p:`d)(b:LB):Sl:=`a6 `ia
def U20:∀(u:Nat) (qs:`oj),(`z `Kr)=2*`vy:=by
 intro u
 intro z1;induction z1 generalizing u with
 | nil=>exact rfl
 | cons q qs ih=>show (`z `bi6)+1+1=_;rw[ih `Ga,`an];lia
def jf0:∀{qs:`oj} {u k:Nat} {q:LP},`aw0->(`Kr)[2*k]?=`c (pD (u+k) q)/\(`Kr)[2*k+1]?=`aw1:=by
 intro z;induction z with
 | nil=>intro _ _ _ h;cases h
 | cons q qs ih=>
  intro u
  intro z2;cases z2 with
  | zero=>intro _ h;cases h;exact`nT
  | succ k=>
   intro q' h
   have:=ih (u:=u+1) (k:=k) (q:=q') `nc;have e1:`bi9:=`E
   have e2:`bi':=`E
   refine`hL
   ·rw[e1,e2]
    exact this.1
   ·rw[e1]
    exact this.2
def dr0:∀{qs:`oj} {u k:Nat} {q q':LP},`aw0->(`aA u `aw2)=((`Kr).set (2*k) (pD (u+k) q')).set (`qs) (`s (q'.names.map `r)):=by
 intro z;induction z with
 | nil=>intro _ _ _ _ h;cases h
 | cons q qs iq=>
  intro u
  intro z2;cases z2 with
  | zero=>intro _ _ h;exact rfl
  | succ k=>
   intro q1 q' h
   have ih:=iq (u:=u+1) (k:=k) (q:=q1) (q':=q') `nc;have e1:`bi9:=`E
   have e2:`bi':=`E
   rw[e1,e2];show pD u q::`tk::`aA `Ga `aw2=_;rw[ih];rfl
def Vg0:∀(u:Nat) (qs:`oj) (q:LP),`aA u (qs++[q])=`Kr++[pD (u+`vy) q,`tk]:=by
 intro u
 intro z1;induction z1 generalizing u with
 | nil=>intro q;exact rfl
 | cons q0 qs ih=>
  intro q
  show pD u q0::`s (q0.names.map `r)::`aA `Ga (qs++[q])=_;rw[ih `Ga q,show u+1+`vy=u+(`z (q0::qs)) by rw[`an];lia];rfl
def jb0{b:LB}{k:Nat}{q:LP}(h:`Q_):`nJ[3+2*k]?=`c (pD k q)/\`nJ[4+2*k]?=`aw1:=by
 have:=`ZD;apply `aT `ft;refine`hL
 ·rw[`bi!]
  exact this.1
 ·rw[`bi?]
  exact this.2
def Yn0(b:LB):`aw3=3+2*`gv:=by
 show (`z `EM)+1+1+1=_;rw[U20];lia
def V00{b:LB}{k:Nat}{q q':LP}(h:`Q_)(hn:q'.names=`DT):`Ks (3+2*k) (pD k q')=v20 (`y7 `aJO):=by
 have e:`bja=`bjb:=by
  have:=dr0 (u:=0) (q':=q') h;apply `aT `ft;rw[`F,hn];refine `bjc
  rw[`Yj]
  by_cases z:`qs=j
  ·subst z
   rw[`a_,`h0 `n,(`ZD).2];have hl:`qs<(`z `bjb):=by
    apply `I!;exact(`ch (`ZD).2).1
   rw[`na]
  ·rw[`cc]
 show _=ec0 _::`Kp::`Kq::`bja;rw[e];rw[`bi!];rfl
def Me0{b:LB}{k:Nat}{q:LP}{ns':`i}(h:`Q_):`Ks (4+2*k) `bjd=v20 (`y7 `aJQ):=by
 have e:`bje=`aJP (`qs) `bjd:=by
  have:=dr0 (u:=0) (q':=`aFu) h;apply `aT `ft;rw[`F];refine D0 (λl=>List.set l (`qs) (`gy (ns'.map `cs))) ?_;have r:=(`ZD).1;rw[`ft] at r;refine `bjc
  rw[`Yj]
  by_cases z:2*k=j
  ·subst z
   rw[`a_,`I (`ch r).1,r];rfl
  ·rw[`cc]
 show _=ec0 _::`Kp::`Kq::`bje;rw[e];rw[`bi?];rfl
omit Jk
variable{qs:`bi4}
namespace Nk
open DL W Rk Rm
open Bt (U6 m9 b8 U9 xb0 yi0 M8 K8 Y0 xy0 vi0)
open Bw (bs hi its)
def da0{gt:GB}{G:GSB}{δ:Ds}(h1:`bjf)(h2:`WW):`bjg=`ajt:=by
 apply `bjh;rw[h1];dsimp only;rw[h2]
def U90{gt:GB}{G:GSB}{δ:Ds}{d:D}(h1:`bjf)(h2:`gx=`JK):`bjg=`JK:=by
 apply `bjh;rw[h1];dsimp only;rw[h2]
open Bw (bs hi its sg)
open Km (hb nT ix)
def fz0{g:GB}{δ:Ds}(h:`UB):`aw4=g' δ:=`bji
def Qm0{g:GB}{δ:Ds}(h:`UA):`aw4=`dz:=`bji
def j70{g:GB}{δ:Ds}(h:`UA):`aw5=g' δ:=`bjj
def j10{g:GB}{δ:Ds}(h:`UB):`aw5=`bu:=`bjj
omit Nk
namespace Jk
open DL W Rk Rm
open Bt (U6 m9 b8 U9 xb0 yi0 M8 K8 Y0 xy0 vi0)
open Nk (da0 U90 j70 j10 Qm0 fz0)
section
variable{p:`d}{b:LB}{r:Ds}
def ty0:dpN 0 `dx=`c `nJ:=(rfl)
def i00:X5 0 `kG `aaz `dx=`auB:=(rfl)
def no0:X5 0 `kG `mB `dx=`auC:=(rfl)
def lv0:`vz (`jo `C8) `Kn:=(rfl)
def Ug0:`vz (`jo `mM) `Ko:=(rfl)
def H60:`vz `aNI `bi7:=(rfl)
def Mv0:`vz `aLp (.bl `wP):=(rfl)
def dj0:`vz (`jo `Da) `awZ:=(rfl)
def Zq0:`vz `aLs `bi8:=(rfl)
def Pu0(n:Nat):`BG `C8 `vP (lo p { b with parts:=n }::r):=(rfl)
def Kg0(w:Str):`BG `mM (`x6) (`aw6::r):=(rfl)
def S50(n:Int):`BG `RK `Cl (lo p { b with sum:=n }::r):=(rfl)
def Vn0(t:`B):`BG `RL (`wv) (lo p { b with amid:=t }::r):=(rfl)
def Wu0(n:Int):`BG `Da `Cl (lo p { b with left:=n }::r):=(rfl)
def Zw0(w:Str):`BG `RM (`x6) (lo p { b with begun:=w }::r):=(rfl)
def k90(w:Str)(dp:D):nz0 0 (λ_=>o4 0) `mM `aw7 dp `dx=`af (`aw6::r):=(rfl)
def ko0:k30 0 `sU `dx=`c (!b.un.isEmpty):=by
 delta k30;rw[i00,`h,ty0,`h];show `c (!(`aw8).isEmpty)=_;cases `d3 with
 | nil=>rfl
 | cons u un=>
  rw[`eh,`aQ];cases `aw_<;>rfl
def b40{u:Nat}{un:`j}(h:`mg):wf0 0 `sU `k9 `dx=`QX:=by
 delta wf0;rw[i00,`h,`a0 (`ag4 `dx),`h,ty0,`h];rw[`FU `aw8,h,`eh,`aQ];exact `Yk
omit z
def vD(q:LP):D:=`b4 `bi5 `bjk
def jo0:∀l:`i,`Bh `QW:=by
 intro z;induction z with
 | nil=>exact rfl
 | cons s l ih=>show (`bjl&&`h' (`QW))=`f;rw[ih];rfl
def wc0(k:Nat):`bbT:=(ut0 k)
def fw0{b:LB}{u:Nat}{q:LP}(h:`dE):viewD `nJ `gw=`c (vD q):=by
 let#[h1,h2]:=jb0 h;have hv:`bjm=`aw1:=by
  delta viewV;rw[`Q (show ¬`cH `aht=`f from C0),wc0,`h,h2];apply `dq (`Bh `Gb) `gy (`Gb);rw[`bjn]
 delta viewD;rw[wc0,`h,h1];show (`bjo).map _=_;have:`bjo=`c `bjk:=by
  show (`eg `L2).bind (λe=>(`ZE (`eg `acx) (`ZE (`eg `L3) (`ZE `bjm (`ZE (`c (`ds `ss)) `m?)))).map `aci)=_;rw[hv];rfl
 rw[`F];rfl
def q60{p:`d}{b:LB}{s:Sl}{u:Nat}{q:LP}(h:`dE)(gt:GB):ur0 0 1 gt `gw `hA=gt `mh:=by
 delta ur0;rw[ty0,`h,fw0 h,`h];rfl
def wq(q:LP):Str:=`w `ZF `jB `bjp
def wantOf(q:LP):`aH Str:=
 if `Kt then `c `nh
 else if `Ku then `bjq
 else `e
def aft(qs:`oj):`j->`j×Str
 | []=>([], `fG)
 | `Ce=>match `bjr with
  | `DA=>(`Ce,w)
  | `e=>`vA
def AT:GB:=`Zy
def S80{q:LP}:`aK_ `mh=`ak `Kt:=by
 have e1:ob `aNA `mh=`ak (`mO=3):=by
  apply `aC;rw[`aq `EN `or rfl];show `a5 (`L2=3);congr 2;apply `cp
 have e2:yo0 `aNB `mh=`c (!`ss):=by
  delta yo0;rw[show ob `aLk `mh=`c `ss from `jU];rfl
 by_cases z:`mO=3
 ·rw[`bjs,e2]
  cases hc:`ss<;>simp[z]
 ·rw[`bjt]
  simp[z]
def M10{q:LP}:`aK0 `mh=`ak `Ku:=by
 apply `aC;rw[`aq `EO `aev rfl];show `a5 (`L3<`acx);congr 2;apply `rx
def Nh0{q:LP}:`aK1 `mh=`ak `QR:=by
 apply `aC;rw[`aq `EN `ez rfl];show `a5 (`L2=0);congr 2;apply `cp
def Or0{q:LP}:`aK2 `mh=`ak `ZF:=by
 have e1:ob `aND `mh=`ak (1<`mO):=by
  apply `aC;rw[`aq `EN `eV rfl];show `a5 ((`mO:Int) > 1);congr 2;apply `cp
 have e2:ob `aNE `mh=`ak `aCV:=by
  apply `aC;rw[n6 (x:=`g `bju) (y:=`EO) (by
   rw[`bw [`tk]];show `A6 `bjv;rw[`T]) rfl]
  show `a5 (`bju=`L3);congr 2;apply `cp
 by_cases z:1<`mO
 ·rw[`bjs,e2]
  simp[z]
 ·rw[`bjt]
  simp[z]
def TOP:GE:=`aCd
def PW(w:Str):`kz:=nz0 0 `aCR `mM `aw7
def I1(dp:D):GSB:=ifB `awH
 (`me (PW `nh dp) Xz0) `q
def I3(dp:D):GSB:=`vi `awJ (PW `j5 dp)
def I4(dp:D):GSB:=`vi `awK (PW `jB dp)
def I2(dp:D):GSB:=ifB `awI
 (u9 (PW `gb dp) (u9 (I3 dp) (`me (I4 dp) Xz0))) `q
def GA(dp:D):GSB:=`me (I1 dp) (I2 dp)
def AB:GSB:=`me (rk0 0 1 TOP GA) `bip
def Uf0:q80=`me `bio (tr0 AT AB 100000):=(rfl)
def Dy0{p:`d}{b:LB}{r:Ds}{u:Nat}{un:`j}(h:`mg):popS 0 `sU `dx=`af (`bjw::r):=by
 delta popS;rw[i00,`h,ty0,`h,wc0,`h];have e1:`nJ[1]?=`n3 ((`aw_)++[`KZ]):=by
  show `c (`Kp)=_;delta kb0;rw[h,`eh,`aQ];rfl
 rw[e1];show `auI `bjx (`kY 0 1 (`Qz `bjx) `dx);rw[`hP,`Ym];rfl
section
variable{p:`d}{b:LB}{s:Sl}{u:Nat}{un:`j}{q:LP}
def Qj0(hq:`dE):I1 `gw `hA=if `Kt then `Zw [lo p (`aew `nh),s] else `bjy:=by
 delta I1
 by_cases c:`Kt
 ·rw[`Kv,`ZG S80]
  exact m9 (k90 `nh _) (b8 rfl)
 ·rw[`Kw,`ZH S80]
  rfl
def zc1(hq:`dE):I3 `gw `hA=`af [`Ov (`w `QR `j5 `e?),s]:=by
 delta I3
 by_cases c:`QR
 ·rw[`Kv,`ZG Nh0]
  exact m9 (k90 `j5 _) rfl
 ·rw[`Kw,`ZH Nh0]
  rfl
def y41(hq:`dE):I4 `gw `hA=`af [`Ov (`w `ZF `jB `e?),s]:=by
 delta I4
 by_cases c:`ZF
 ·rw[`Kv,`ZG Or0]
  exact m9 (k90 `jB _) rfl
 ·rw[`Kw,`ZH Or0]
  rfl
def Jq0(hq:`dE):I2 `gw `hA=if `Ku then `Zw [`Ov (wq q),s] else `bjy:=by
 delta I2
 by_cases c:`Ku
 ·rw[`Kv,`ZG M10]
  refine m9 (k90 `gb _) (m9 (zc1 (b:=(`aew `gb)) hq) (m9 (y41 (b:={ b with want:=`bjp }) hq) (b8 rfl)))
 ·rw[`Kw,`ZH M10]
  rfl
def Gw0(hu:`mg)(hq:`dE):AB `hA=match `QS with|`DA=>`Zw [`aw6,.un]|`e=>`af [`bjw,.un]:=by
 have hA:rk0 0 1 TOP GA `hA=GA `gw `Kx:=by
  delta rk0;rw[`ahu `hA `QX,`h,ty0,`h];rfl
 delta AB
 by_cases c1:`Kt
 ·rw[show `QS=`c (`nh: Str) by delta wantOf;rw[`BH]]
  apply `dV;rw[hA];exact b8 (by rw[Qj0 hq,`BH])
 ·by_cases c2:`Ku
  ·rw[`bjz `bjq `vB]
   apply `dV;rw[hA];exact m9 `bjA (b8 (by rw[Jq0 hq,`vB]))
  ·rw[`bjz `e `vC]
   apply `bL `Kx ?_ (`Yo (Dy0 hu));rw[hA];exact m9 `bjA (m9 (by rw[Jq0 hq,`vC]) rfl)
omit z
def Gb0{p:`d}(un:`j):∀(n:Nat) (b:LB) (s:Sl),`f8=qs->`d3=un->`ahz->(∀u∈un,u<`vy)->un.length<n ->
  ∃s',tr0 AT AB n `hA=`bjB (`vA).1 ({ b with un:=(`vA).1,want:=(`vA).2 }):=by
 induction un with
 | nil=>
  intro n b s hq hu hw _ hn;cases n with
  | zero=>exact `bjC
  | succ n=>
   refine`beg;have t:AT `hA=`bu:=`bjD
   rw[`I (`a0 ((aft qs []).1=[]))];delta tr0;rw[t];show `c (`GP `hA)=_;rw[show b=`aEq by rw[← hu,← hw]]
 | cons u un ih=>
  intro n b s hq hu hw hl hn;cases n with
  | zero=>exact `bjC
  | succ n=>
   have t:AT `hA=`dz:=`bjD
   have O:=hl u A7;obtain⟨q,eq⟩:∃q,qs[u]?=`dY:=`bjE;have tr:=Gw0 (p:=p) (s:=s) hu (`o hq eq);cases hw1:`QS with
   | some w=>
    rw[hw1] at tr;have ea:`bjF=(`Ce,w):=by delta aft;rw[eq,`h,hw1]
    refine#[.un,?_];rw[ea,`Q (List.cons_ne_nil u un),U90 t tr];rw[← hu]
   | none=>
    rw[hw1] at tr;have ea:`bjF=`vA:=by conv=>lhs;delta aft;rw[eq,`h,hw1]
    let#[s',ih]:=ih n `aJS .un hq rfl hw (`Nl hl) (by rw[`an] at hn;lia);refine`beG;rw[da0 t tr,ih,ea]
def next'(b:LB):LB:=`bjG
def S40:∀{un:`j},(`vA).1=[]->(`vA).2 = `fG:=by
 intro z;induction z with
 | nil=>intro _;exact rfl
 | cons u un ih=>
  intro h
  delta aft at h ⊢;cases e:`bjr with
  | some w=>rw[e] at h;cases h
  | none=>rw[e] at h;exact ih h
def dn0(b:LB)(hl:∀u∈`d3,u<`gv)(hn:`ahv<100000):wi0 `ia []=`c (`x,bkD `aw9):=by
 have O:∀p,∃s',tr0 AT AB 100000 `bjH=`bjB `QT `bjG:=λp=>Gb0 `d3 100000 `aJT .un rfl rfl rfl hl hn
 have pre:∀p,Z3 `aMd `Kx=`af `bjH:=λp=>`vD `aa8 Kg0 `fG
 by_cases z:`QT=[]
 ·refine Vk0 rfl `ack
  let#[s',e]:=O p;rw[`eT] at e;refine#[`bjI,?_,by delta next';rw[z,S40 z];rfl];show q80 `Kx=_;rw[Uf0];exact m9 (pre p) (m9 e rfl)
 ·refine `ZI
  let#[s',e]:=O p;rw[`cc] at e;refine`q5 [lo p `aw9,s'];show q80 `Kx=_;rw[Uf0];exact m9 (pre p) (b8 e)
def Wm0(k:Nat):Nat:=`w (k=0) 20 12
def isRoot(n:Nat):Prop:=`lk/\n/16<=Wm0 `Ow
instance(n:Nat):`f2 (`m4 n):=by delta isRoot;infer_instance
def lu0{g h:GE}{δ:Ds}{xs:`k}{x:D}(h1:`awo)(h2:h δ=`c (`AH))(hx:`p5):o2 g h ixD δ=`c8:=by
 rw[`at3];have hi:`uM:=(`ch hx).1;show atI xs `wH=_;rw[sx0 `n `n `x,`b?,`bz,hx];rfl
def Z30{ga gb:GE}{δ:Ds}{x y:`B}(h1:`df=`c (.bl x))(h2:`dy=`c (.bl y)):qx0 ga gb δ=`B4 (x&&y):=by
 delta qx0;rw[`bjJ];cases x
 ·rfl
 ·exact h2
def ah0(n:Nat):xz0 `t2=`i0 (`m4 n):=by
 have hk:`w!<4:=`bjK;obtain⟨k,ek⟩:∃k,k=`w!:=`Y;refine `BI;show ox0 [`bS,.un]=_;refine `vn `aw' `ZJ
 ·rw[`zp (`aW/4) 4 `bjL]
  congr 2;rw[ek];lia
 ·have e1:o2 (`yr `am) `cZ eqD `aw'=`i0 `lk:=by
   rw[n6 `bjM rfl];show `a5 (`aW%4=3);congr 2;apply `cp
  have e2:o2 `bim `bin leD `aw'=`i0 (n/16<=Wm0 k):=by
   rw[n6 (x:=`g (`aW/16)) (y:=`g `bjN) (`ae (`A9 `gl 16)) (by
    refine lu0 (xs:=[`aNh,`LK,`LK,`LK]) (i:=k) `ex rfl ?_;have:`aOe:=`E
    rcases `F with z|z|z|z<;>rw[z]<;>rfl)]
   show `a5 (`aW/16<=`bjN);congr 2;apply `cp
  rw[Z30 e1 e2,← Bool.decide_and];congr 2;exact `li (by delta isRoot;rw[ek])
section
variable{p:`d}{b:LB}{r:Ds}{u:Nat}{un:`j}{q:LP}
def Ut0(hq:`dE):pr0 `nJ `gw=`c (pD u q):=by
 rw[l80 (wc0 _)];exact`aw!
def Ul0(hu:`mg)(hq:`dE):`vz `aN0 `EO:=by
 delta plN X5;rw[`bjO,`h,`bjP,`h,ty0,`h,Ut0 hq];rfl
def Zm0(hu:`mg)(hq:`dE)(n:Nat):`wE 0 TOP `ud `vP `dx=`c (lo p (`y7 (`jL u `aw?))::r):=by
 delta DL.putN;rw[`bjO,`h,`bjP,`h,ty0,`h,wc0,`h,`aw!];show `c (`bjQ `aw?::r)=_;rw[V00 (q':=`aw?) hq rfl];rfl
omit z
def inc(b:LB):LB:=match `axa with
 | `c qs=>(`y7 qs)
 | `e=>b
def ap0{b:LB}(h:`axb):`oK=b:=by
 have e:(`axa)=`e:=`arc
 delta inc;rw[e]
def c10{b:LB}{u:Nat}{un:`j}{q:LP}(h:`mg)(hq:`dE):`oK=`bjR:=by
 have e:(`axa)=`c (`adW):=by
  rw[h];show `aEr _=_;rw[hq];rfl
 delta inc;rw[e]
def g30(b:LB)(k n:Nat):LB:={ b with parts:=`EP,qs:=`f8++[#[k,n,0,[],`l]],un:=`QV }
def IC:GS:=ifD (`Zy)
 (u6 `bjS t8) t8
def Be0{p:`d}{b:LB}{r:Ds}(hl:∀u∈`d3,u<`gv):IC `dx=`af (lo p `p_::r):=by
 delta IC;rcases List.eq_nil_or_concat `d3 with hn|_
 ·rw[ap0 hn,`bjT]
  rfl
 ·by_cases hn:`axb
  ·rw[ap0 hn,`bjT]
   rfl
  let#[u,un,hu]:=List.exists_cons_of_ne_nil hn;rw[wl0 (`b9 ko0 hu)];have O:=hl u `bb0;obtain⟨q,hq⟩:∃q,`dE:=`bjE;rw[c10 hu hq];refine m5 (δ':=lo p `bjR::r) (`bjU) rfl;rw[`bjV];rfl
def Oj0(b:LB):`bjW=`d3:=by delta inc;split<;>rfl
open T in
def Go0(b:LB):`bjX=`gv:=by
 delta inc;split
 ·rename_i qs h
  let#[u,hu,h]:=`fL;cases hq:`f8[u]? with
   | none=>rw[hq] at h;cases h
   | some q=>
    rw[hq] at h;cases h;exact B70
 ·rfl
def AQ:GX:=`bit
def Bv0{p:`d}{b:LB}{s:Sl}(hn:`bjY):AQ `Ky=`c (`x,[lo p `bjZ,s,`w6]):=by
 have e1:o2 `aE `js f9 `Ky=`bj_:=by
  rw[`zp `jE 4 rfl];rfl
 have e2:o2 `aE `js c7 `Ky=`bj0:=by
  rw[`aq `LE `oz rfl];rfl
 have ep:`aJF `Ky=`c [(`aNz,`bj_),(`aLl,`bj0),(`Cq,`J4),(`Cg,`e),(`L9,`j2)]:=by
  delta vh0;rw[e1,e2];rfl
 delta AQ Vc0;rw[i00,`h,ep,`h];show ((dpN 0 `Ky).bind λns=>(t70 (M7 1)).bind λk=>_)=_;have e3:`nJ[1]?=`n3 `aw8:=rfl;simp only[ty0,wc0,`h,e3];rw[`I #[`bj1,`d? `T `lx hn,rfl]];have e4:`Ks 1 (`s (`adV (`Er)++[M7 `aw3]))++`bj2=v20 `bjZ:=by
  rw[Yn0];show ec0 b::`s (`adV (`Er)++[M7 (3+2*`gv)])::`Kq::(`EM++`bj2)=_;show _=ec0 b::kb0 (`QV)::`Kq::`aA 0 (`aJU);rw[Vg0,`ft];delta kb0;rw[`eh,`aQ];rfl
 delta pD at e4;rw[show M7 (4+2*`gv)=M7 (`aw3+1) by rw[Yn0];congr 1;lia] at e4;exact D0 (λX=>`c (D.non,[`Cp (v5 p (`H (`v9::X))),s,`w6])) e4
def vt(b:LB)(n:Nat):`rF:=
 if `axc then `e
 else if `axd then `e
 else `bj3
def mp0{g:GB}{δ:Ds}{P Q:Prop}[`f2 P][`f2 Q](h:`axe)(h':`bj4):`aw5=`ak (P/\Q):=by
 by_cases z:P
 ·rw[j70 (by rw[h,`j6]),h']
  congr 1;exact `li #[λq=>`af0,λq=>q.2]
 ·rw[j10 (by rw[h,`lA]),`aR λq=>z q.1]
def Ny0{g:GB}{δ:Ds}{P Q:Prop}[`f2 P][`f2 Q](h:`axe)(h':`bj4):`aw4=`ak (P∨Q):=by
 by_cases z:P
 ·rw[Qm0 (by rw[h,`j6]),`axf]
 ·rw[fz0 (by rw[h,`lA]),h']
  congr 1;exact `li #[λq=>`p q,λq=>q.resolve_left z]
def fs0{g:GB}{δ:Ds}{P:Prop}[`f2 P](h:`axe):yo0 g δ=`ak (¬P):=by
 delta yo0;rw[h]
 by_cases z:P
 ·rw[`j6,`aR λq=>q z];rfl
 ·rw[`lA,`j6];rfl
section
variable{p:`d}{b:LB}
abbrev fV(p:`d)(b:LB)(n:Nat):Ds:=[`eW,`bS,.sh (`axg)]
def Rg0(j:Nat):`BJ (`EB (gc `wi)) (n%4=j):=by
 apply `aC;rw[n6 `bjM (y:=`e3) rfl];show `a5 (`aW%4=`cG);congr 2;apply `cp
def I20:`BJ `aCc `lk:=(Rg0 3)
def Am0:`BJ `aCS (0<n):=by
 apply `aC;rw[`aq `gl `ez rfl];show `a5 ((n:Int) > 0);congr 2;apply `rx
def xe1:`BJ `aCT `aEt:=by
 apply `aC;rw[`fS `axg `Kn lv0];show `a5 ((`aEu:Int) ≥ (`jp:Int));congr 2;apply `rx
def Ir0:`BJ `aNG (`jp=60):=by
 apply `aC;rw[`aq `Kn `CB lv0];show `a5 (`abt=60);congr 2;apply `cp
def Cb0:`BJ `aNF (`m4 n):=(`bj5)
def I30:`ZA `vE=`ak `axc:=(Ny0 (mp0 (Rg0 0) Am0) (mp0 (Rg0 2) xe1))
def Jx0:`awL `vE=`ak `axd:=(mp0 (Rg0 3) (Ny0 (fs0 Cb0) Ir0))
def IP:GS:=ifD `RH
 (u6 `bis (u6 (T8 AQ) t8)) t8
def zy1(hn:`bjY):IP `vE=`af (fV p (`w `lk `bj6 b) n):=by
 delta IP
 by_cases z:`lk
 ·rw[`eT,`ma I20 `j6]
  refine m5 (δ':=`bj7) (vi0 (K8 (d:=`dg `EP) ?_) (Pu0 (`EP))) (`cB (fV p (`bj6) n) rfl)
  ·rw[n6 lv0 rfl]
   rfl
  ·delta T8
   rw[show AQ (`bj7)=_ from Bv0 (b:=`aJW) (m:=n/4) hn];rfl
 ·rw[`cc,`mb I20 `lA]
  rfl
omit z
def dz0:u30=u9 `X_ (u9 (`vi `ZA `co)
 (u9 (`vi `awL `co)
 (u9 (Z3 IC) (u9 (Z3 IP) (`me `ZB `eR))))):=(rfl)
structure Ub(b:LB):Prop where
 lt:∀u∈`d3,u<`gv
 few:`ahv<9000
def Ub.inc{b:LB}(h:Ub b):Ub `p_:=(#[`d? Oj0 Go0 h.lt,`o Oj0 h.few])
def df0{b:LB}(U:Ub b)(n:Nat):u00 `ia `t2=match `ahw with|`ZK=>`Bi `Gg|`e=>`BK:=by
 have zs:(10000:Nat)<`R:=`aV
 have few:=U.few;have go:∀(p:`d) {r:`hz} {G:GSB},G `vE=r->u9 `X_ G `ZL=r:=λp r G h=>by
  apply `bL `K5 (U9 (`ae (yn0 (d:=`axg) `bjL))) h
 by_cases c1:`axc
 ·rw[show `bj8 by delta vt;rw[`BH]]
  apply `bj9
  show u30 `ZL=_;rw[dz0];refine go p `b!;rw[`dp I30 `aiV];exact `d0
 have O:∀(p:`d) {G:GSB},ifB `ZA G `q `vE=`af `vE:=λp G=>`axh I30
 by_cases c2:`axd
 ·rw[show `bj8 by delta vt;rw[`t6,`vB]]
  apply `bj9
  show u30 `ZL=_;rw[dz0];refine go p (m9 (O p) `b!);rw[`dp Jx0 `R5];exact `d0
 ·rw[show `ahw=`bj3 by delta vt;rw[`t6,`vC]]
  obtain⟨b2,e2⟩:∃b2,b2=`aJV:=`Y;have U1:=U.inc;have U2:(∀u∈b2.un,u<b2.qs.length)/\b2.un.length<100000:=by
   have f1:=U1.few;rw[e2];split
   ·refine#[λu hu=>?_,`d7 ((`oK).un.length+1<_)]
    show u<(`z ((`oK).qs++[_]));rw[`W];have hu:u∈`bjX::`bjW:=hu;rcases `am5 with z|z
    ·apply `sE;lia
    ·have:=U1.lt u z
     lia
   ·exact#[U1.lt,`E]
  rw[← e2];refine `bq `bj'
  show u30 `ZL=_;rw[dz0];refine go p (m9 (O p) (`n! `K5 (`ae (`kw Jx0 `Ss)) (m9 (δ':=fV p `p_ n) (U9 (Be0 U.lt)) (m9 (δ':=fV p b2 n) (U9 (by rw[zy1 (`d' U1.few),e2])) (m9 (δ':=`bj') `ZM `iH)))));delta T8;rw[`axi (fV p b2 n) (`zx `kR [] (dn0 b2 U2.1 U2.2))];rfl
abbrev fN(p:`d)(b:LB)(x:Str):Ds:=[`eW,`Kc,.un]
def db0(b:LB)(u:Nat)(q:LP):LB:=`y7 (`jL u q)
def nm(b:LB)(u:Nat)(q:LP)(x:Str):`rF:=
 if `axj then `c (db0 b u `ZN)
 else `A4 `axk `aJX
def all_strs:∀l:`i,`bj!:=by
 intro z;induction z with
 | nil=>exact rfl
 | cons s l ih=>rw[`av,`lU,ih];rfl
def G70(x:Str)(l:`i):ta0 `l `jD (`s (`cY `r))=`i0 (x∈l):=by
 show (`ba (`cH (`cs x)=`f/\`bj!) (`YR ((`QW).any λy=>eqF y `jD)))=_;rw[`t7 (all_strs l),`tS];congr 2;rw[`q_,`Js,`Jk];constructor
 ·rintro⟨y,hy,e⟩
  let#[s,hs,rfl]:=`eZ hy;have e:(s==x)=`f:=e;rw[← `HE e];exact hs
 ·exact λh=>#[`cw,`ES x h,show (x==x)=`f from `zE x]
section
variable{p:`d}{b:LB}{u:Nat}{un:`j}{q:LP}
def Re0(hq:`dE):nz0 0 `Km `Gt `x! `gw `fi=`af (fN p (db0 b u `ZN) x):=by
 delta nz0;rw[`a0 (gc `K4 `fi=`iL),`h,`h,`QU `L9 `fi `L9,`h,ty0,`h,wc0,`h,`aw!];show `c (`GP [`bjQ `ZN,`Kc,.un])=_;rw[V00 (q':=`ZN) hq rfl];rfl
def M40(hq:`dE)(hl:`Kz):ax0 0 `bj? `V `gw `fi=`af (`bka):=by
 have e:`bkb=`c `aht:=by
  delta X5;rw[`h,`QU `Cg `fi `Cg,`h,ty0,`h,Ut0 hq];rfl
 delta ax0;show (`rs `bkb)=_;rw[e,`h,`a0 (gv 1 `fi=`aRI),`h,ty0,`h,wc0,`h,(jb0 hq).2];apply `dq (nrf (`cs x)=`f/\`bjv<`R) `GP [`a6 (`ob (`Ks `aE_ (`s (`Gb++`Gc)))),`Kc,.un];rw[`bkc,show `Gb++[`cs x]=(`aN1).map `cs by rw[`aQ];rfl,Me0 hq];rfl
def I70(hq:`dE):ur0 0 2 `aK4 `gw `fi=`ak `axk:=by
 delta ur0;rw[ty0,`h,fw0 hq,`h];show ob `aLr [.un,`Kc,`aAU]=_;apply `aC;rw[`aq `cw `tk rfl];exact G70 x `DT
def Si0:ob `aK3 `fi=`ak `axj:=by
 apply `aC;rw[`aq `Ko `aKE Ug0];rfl
omit z
def NI(dp:D):GSB:=ifB `awP
 (u9 (nz0 0 `Km `Gt `x! dp) `q)
 (u9 (ifB `awQ
  (u9 `co `q)
  (u9 (ax0 0 `bj? `V dp) `q)) `q)
def Wq0:q50=u9 (rk0 0 2 TOP λdp=>u9 (NI dp) `q) (`me `ZB `eR):=(rfl)
def Ju0{p:`d}{b:LB}{u:Nat}{q:LP}(hq:`dE)(hl:`Kz):NI `gw `fi=match `BL with|`ZK=>`af (`axl)|`e=>`c (.rt `rS `fi):=by
 delta NI nm
 by_cases c:`axj
 ·rw[`Kv,`dp Si0 `ZO]
  exact m9 (Re0 hq) rfl
 ·rw[`Kw,`kw Si0 `ZP]
  by_cases z:`axk
  ·rw[`eT]
   apply `dV;rw[`dp (I70 hq) `j6];exact `d0
  ·rw[`cc]
   apply `bL `bka ?_ rfl;rw[`kw (I70 hq) `lA];exact m9 (M40 hq hl) rfl
def Aq0{b b':LB}{u:Nat}{q:LP}(U:Ub b)(h:`BL=`ZK):Ub b':=by
 have st:∀q',Ub (db0 b u q'):=λq'=>#[λv hv=>by show v<(`z (`jL u q'));apply `I!;exact U.lt v hv,U.few]
 delta nm at h;split at h
 ·cases h;exact st _
 ·split at h
  ·cases h
  ·cases h;exact st _
def Wk0{b:LB}{u:Nat}{un:`j}{q:LP}(U:Ub b)(hu:`mg)(hq:`dE)(hl:`Kz)(x:Str):`bkd=match `BL with|`ZK=>`Bi (bkD (`iw b'))|`e=>`BK:=by
 have hA:∀(p:`d) (G:`kz),rk0 0 2 TOP G `fi=G `gw `fi:=λp G=>by
  delta rk0;rw[`ahu `fi `QX,`h,ty0,`h];rfl
 cases h:`BL with
 | none=>
  refine `bq `aAH
  show q50 `fi=_;rw[Wq0];apply `dV;rw[hA];exact b8 `bke
 | some b'=>
  have U':=Aq0 U h;have few:=U'.few;refine `bq `bkf
  show q50 `fi=_;rw[Wq0];apply `bL `axl ?_ (m9 (δ':=`bkf) `ZM `iH)
  ·rw[hA]
   exact m9 `bke rfl
  ·delta T8
   rw[`axi `axl (`zx `Gg [] (dn0 b' U'.lt `n))];rfl
def Mf0(n:Nat):(∃k,k<128/\`aDk)↔n<=2:=by
 delta isRoot Wm0;constructor
 ·rintro⟨k,hk,h1,h2⟩
  split at h2<;>lia
 ·intro h
  refine#[3,`E,`E,?_];rw[`vk];lia
abbrev fD(p:`d)(b:LB)(c n:Nat)(s:Sl):Ds:=[`eW,`fx,`bS,s]
def ANY:GE:=`biv
def Hu0{ts:`y4}(h:gd0 l=`Zv):Wj0 `pG=`c `aN':=by
 show (gd0 l).map _=_;rw[h];rfl
def Hm0(n:Int):yr0 (`v2) `Cl=`lV `yc:=by
 apply `dq ((`Nr<`avE/\`avE<`w9)∨(`Nr<n/\n<`w9)) `bU (`yc);rw[`I (`m `bkg)]
def Ah0{p:`d}{b:LB}{c:Nat}{s:Sl}:ANY `vF=`i0 (n<=2):=by
 have hr:tz0 `aFt `vF=`c (uy0 0 128):=ml0 rfl `u `u;have hc:vq0 1 [2] `aJG `cM noT `aJH `vF=`n3 (`ahy `bkh):=by
  refine pc0 hr (`qO i80) ?_;refine Vo0 (`bkh) λk hk=>#[_,rfl,rfl,?_]
  rw[N6 (ds:=[`dg (`yc+k)]) (`bk (by
   rw[n6 (x:=`dg `yc) (y:=`hb) (by
    rw[`aq `v2 `gl rfl];exact(Hm0 _).trans (by congr 2)) rfl]
   rfl) rfl)]
  exact ah0 (`yc+k)
 delta ANY;rw[`mc [`s `bki] hc];rw[Hu0 (ts:=`bkj) (by rw[show `bki=(`bkj).map `ds by rw[`f4];rfl,W60])];congr 2;rw[`q_,`Js,`Jk,← Mf0];constructor
 ·rintro⟨t,ht,h⟩
  let#[k,hk,rfl]:=`eZ ht;exact#[k,`apX,E9 h]
 ·rintro⟨k,hk,h⟩
  exact#[_,`ES k (`y1 hk),F0 h]
def vk0(b:LB):LB:=`axm 0 `l
def dg(b:LB)(m c:Nat):`rF:=
 if `axn then `e
 else if 127<c then (`A4 (`sV/\¬(`y8<=2)) (`axm `bkk `f))
 else if `sV/\¬`m4 (`y8) then `e
 else vt `sW (`y8)
section
variable{p:`d}{b:LB}{c:Nat}{s:Sl}
def yt1(k:Nat):ob (o2 `V (gc `B') eqD) `vF=`ak (c=k):=by
 apply `aC;rw[`YI `hb];show `a5 (`hY=`cv);congr 2;apply `cp
def Ec0:ob `aNK `vF=`c `wP:=(Y0 Mv0)
def Dn0:`aiS `vF=`ak `axn:=by
 refine mp0 (yt1 128) ?_;delta yo0;rw[Ec0];cases `wP<;>rfl
def Ru0:ob `aMe `vF=`ak (127<c):=by
 apply `aC;rw[`YI `aNt];show `a5 ((c:Int) > 127);congr 2;apply `rx
abbrev fR(p:`d)(b:LB)(c n:Nat):Ds:=fD p b c n (`bkl)
def Ee0:`bkm `ZQ=`ak `bkn:=(mp0 (`jU) (fs0 (Y0 Ah0)))
def Ji0:`awO `ZQ=`ak `ZR:=(mp0 (`jU) (fs0 (`bj5)))
omit z
def RF:GSB:=u9 `co `q
def mu0:t20=u9 `awM
 (u9 `bko
 (u9 `awN
 (u9 (ifB `biu
  (u9 (`zq `bkm)
  (u9 `biw
  (u9 `bix
  (u9 `eR `q)))) `q)
 (u9 (`zq `awO)
 (u9 `biy
 (u9 `biz
 (u9 `biA `q))))))):=(rfl)
def J60{b:LB}(U:Ub b)(hm:`QQ=`jE)(c:Nat):∃b',`bkp=`ZS (dg b m c):=by
 obtain⟨n,en⟩:∃n,n=`y8:=`Y;have h1:∀(p:`d),O6 `cr `aNJ `pi=`af (`ZT):=λp=>by
  rw[yn0 (d:=`gl) (by
   rw[n6 (x:=`dg (m*128)) (y:=`g `aBZ) (by
    rw[`aq `LE `v2 (by rw[H60,hm]),Gw.mul_r _ _ `bkg];rfl) (by
    rw[`zp `hY 128 rfl];rfl),en]
   rfl)]
  rfl
 have h3:∀(p:`d),O6 `eL `aNL (`ZT)=`af `ZQ:=λp=>by
  rw[yn0 (d:=`pL `sV) (by
   rw[`aq `Kn `ez lv0];show `a5 (`abt=0);congr 2;apply `cp)]
  rfl
 apply `axo
 delta dg;rw[← en]
 by_cases c1:`axn
 ·apply `vG
  rw[`BH];refine `bq `ZT
  show `KA;rw[mu0];refine m9 `bkq `b!;rw[`dp Dn0 `aiV,rf]
 rw[`t6];have g1:∀(p:`d) {G:GSB} {r:`hz},G `ZQ=r->u9 `awM (u9 `bko (u9 `awN G)) `pi=r:=λp G r h=>
  m9 `bkq (`n! `ZT (`axh Dn0) (`Bg (h3 p)))
 by_cases c2:127<c
 ·rw[`vB]
  by_cases c3:`bkn
  ·apply `vG
   rw[`axp];apply `bkr
   show `KA;rw[mu0];refine `bks;rw[`bkt];apply `dV;rw[`dp Ee0 (`ar c3),rf]
  ·apply `vG
   rw[`axq];refine `bku (`axm `aW `f)
   show `KA;rw[mu0];refine `bks;rw[`bkt];apply `bL `Dy (`rr Ee0 c3) (m9 (`vD `gl S50 `aW) (m9 (`vD `h2 Vn0 `f) `iH))
 ·rw[`vC]
  by_cases c4:`ZR
  ·apply `vG
   rw[`I c4];apply `bkr
   show `KA;rw[mu0];refine `bkv `b!;rw[`dp Ji0 (`ar c4),rf]
  ·rw[`Q c4]
   refine#[`mA,?_];skip;have hv:=df0 (b:=`mA) `bkw n;obtain⟨t,b2,ev,e2⟩:∃t b2,u00 (`axr) `t2=`sX/\`axs `ZU `axr `bkx:=by
    cases hq:`ZU with
    | some b''=>rw[hq] at hv;exact#[`f,b'',hv,rfl]
    | none=>rw[hq] at hv;exact#[`l,`mA,hv,rfl]
   done;rw[e2];refine `bku b2
   show `KA;rw[mu0];refine `bkv (`n! `Dy (`rr Ji0 c4) (m9 (`vD `ez S50 0) (m9 (`vD `mq Vn0 `l) (b8 (M8 (`zx `axr `t2 ev))))))
open DL W Rk Rm StrLaws
open Bt (U6 m9 b8 U9 xb0 yi0 M8 K8 Y0 xy0 vi0 mm0 jt0 a70)
def lk(k:Nat):Nat:=`w (k=0) 1 (`w (k=1) 36 1000)
noncomputable def Uh0(ns:`dD)(pre:`j)(k:Nat):Nat:=`axt
def lf(ns:`dD)(pre:`j)(k:Nat):`B:=`X (`ct<60)&&`X (`bky<lk k)
def FT:GB:=`biB
def Rz0{g:GE}{δ:Ds}{w:`j}(h:`au=`c `r1)(hl:`Yc):`bev=`c (`ll `dA):=by
 apply `n?
 rw[N6 (ds:=`ZV) `bew];apply `dq (`axu<=`R) `bU (`axu:Int);rw[vb0,`vk]
def zp1{n:`j}{k:Nat}(hn:`gH)(hp:`axv):FT `axw=`c (`aEx):=by
 have t1:ob `aJI `axw=`c (`aE'):=by
  apply `aC;rw[n6 (x:=`g `YJ) (y:=`g (`bkz)) (Rz0 rfl hn) (`ae (n6 `bkA (y:=`hb) rfl))];show `a5 (`YJ=`bkz);congr 2;apply `cp
 delta FT
 by_cases c:`ow=`EF
 ·rw[j70 (by rw[t1,`ZO]),`ZO,`bkB]
  apply `aC;rw[n6 (x:=`r (`bkC)) (y:=`kI) (by
   rw[`aur `Em `On (jt0 `bkA),a70 n _ `n `n hn,`b?]) rfl]
  show `YB (`bkC==`v4);congr 2;rw[`q_,`s7,List.isPrefixOf_iff_prefix];constructor
  ·exact λh=>W.gs0 h▸x80 _ _
  ·exact λh=>by rw[← `bdd]
 ·rw[j10 (by rw[t1,`ZP]),`ZP,`aSh]
def yf1{b:LB}{ns:`dD}{k:Nat}(hb:`vH)(hl:∀n∈ns,`gH)(hn:`ZW)(hp:`axv):xr0 `ia `bkD=`c (.bl (`axx),`rO):=by
 skip;apply `n?
 obtain⟨items,ei⟩:∃items:`k,`bf=`oV `CP:=`Y
 have Y:`pI=`bf:=by rw[hb,ei,`f4];rfl
 obtain⟨F,hF⟩:∃F:`k,F=(`aX? `bkE):=`Y;have c:sa0 `cM FT `am `bkF `bf=`c F:=by
  rw[hF];refine(pw0 (f:=gN 0) (gt:=FT) (ge:=gv 0) (δ:=`bkF) (`bkE) (`FG) (`Bs)).trans (by rw[`bdn]);rw[ei] at hd;let#[n,Z,rfl]:=`ky;refine#[`axw,rfl,?_,`gK];show FT _=`c (`X (`bdj=`EF)&&`bdk);rw[rg0];exact zp1 (hl n Z) hp
 have O:`M'=`bky:=by
  rw[hF,ei,`bdm,`T];delta Uh0;congr 1
 have a1:`M'<=100:=by
  rw[O];exact B7 (A31 _ _) hn
 have U:`bkG:=by
  have:∀l:`k,(∀d∈l,∃s,d=`cs s)->`bgb:=λl=>by
   induction l with
   | nil=>exact `gK
   | cons d l ih=>
    intro h;let#[s,rfl]:=h d A7;show (`bjl&&`h' l)=`f;rw[`Ke];rfl
  refine `F F `Bs
  rw[hF,ei] at hd;let#[n,_,rfl]:=`eZ (k7.mp hd).1;exact`Y
 have hv:∀p,fr0 0 `uc 1 `A1 `cM FT `am `bkH=`c (`s F):=λp=>by
  delta fr0;apply `axy;show (`n7 (`Bh `pI) (`rs (vq0 1 `A1 (λ_=>`c (`pI)) `cM FT `am [.un,`lj,`kU,.un])))=_;rw[`bjn,Y,pc0 (items:=`bf) rfl (`fB ei `T) c];apply `dq `bkG `gy F;rw[`I U]
 done;refine `bq `bkI
 show qy0 `bkH=_;refine m9 (δ':=`bkI) (U9 (`A7 (yn0 (i:=3) (hv p)))) (`JQ);apply `ca Z30
 ·rw[n6 (x:=`g `KB) (y:=`CB) (by
   delta ws0;apply `axy;show `bkJ;rw[`T,hb,`T]) rfl]
  show `a5 (`KB<60);congr 2;apply `cp
 ·rw[n6 (x:=`g `YK) (y:=`g `bkK) (by
   rw[`bw [`s F]];rfl) (by
   refine lu0 (xs:=[`eV,`Cj,`aLa]) (i:=min k 2) `ex ?_ ?_
   ·rw[`bw [`hb,`ou]]
    show `eg (`w ((2:Int)<`cv) 2 `cv)=_;congr 2;split<;>lia
   ·delta lk
    by_cases h0:k=0
    ·rw[h0];rfl
    ·by_cases h1:k=1
     ·rw[h1];rfl
     ·rw[`cP (min k 2=2),`amQ,`T!]
      rfl)]
  show `a5 (`YK<`bkK);rw[O];congr 2;apply `cp
def Bh0(b:LB)(ns:`dD)(u:Nat)(q:LP)(c:Nat):`rF:=
 if `Gv then (`w `axz `e ((nm b u q `axA).map `iw))
 else if `axB then `e
 else `c `bkL
abbrev fB(p:`d)(b:LB)(c:Nat):Ds:=[`eW,`fx]
def gl0{ga gb gc:GE}{δ:Ds}{x y z:Nat}(h1:`df=`axC)(h2:`dy=`c `aJ_)(h3:gc δ=`c (`g (z:Int))):ob (`F? ga gb gc) δ=`ak (x<=y/\y<=z):=by
 apply `aC;delta vl0;rw[h1,`h,h2,`h];show ((`c (`qJ (`LJ<=`O7))).bind λt=>`aHE λk=>`w `agi `bkM `j2)=_;rw[`h];show (`w (`X (`LJ<=`O7)=`f) `bkM `j2)=_
 by_cases c:x<=y
 ·rw[`I (F0 `n),h3]
  show `a5 (`O7<=(z:Int));congr 2;apply `cp
 ·rw[`Q (`ci `Jk),`aR λq=>c q.1]
section
variable{p:`d}{b:LB}{c:Nat}{ns:`dD}
def U60:ob `aCI `hl=`bkN:=by
 apply `aC;rw[n6 (`zp `hY 2 rfl) rfl];show `a5 (`hY%2=0);congr 2;apply `cp
def half:o2 `V `gh c7 `hl=`c (`g `Gd):=by
 rw[`YI `ou];rfl
def Zf0{r:Ds}(hb:`vH):ws0 0 `uc `dx=`c (`g `KB):=by
 delta ws0;apply `axy;show `bkJ;rw[`T,hb,`T]
def Em0(hb:`vH):ob `aLu `hl=`ak `axz:=by
 apply `aC;rw[n6 half (Zf0 hb)];show `a5 ((`aBH:Int) ≥ (`ct:Int));congr 2;apply `cp
def Cj0(hb:`vH)(h:c/2<`ct):plN `aNP `hl=`c (`r `axA):=by
 have e:o2 `aNO `qD w50 `hl=`c (`dg `St):=by
  rw[n6 (x:=`GE `KB) (y:=`g `Gd) (`ae (n6 (Zf0 hb) rfl)) half];show `eg (`KB - 1 - `Gd)=_;congr 2;omega
 delta plN wf0;rw[no0,`h,e,`h,ty0,`h,`FU `pI];have hl:`St<`aiT:=by rw[`T,hb,`T];omega
 rw[sx0 `c_ `c_ `x,`b?,`bz,`ik hl,`h];have e2:`axD=`cs `axA:=by
  have h2:`St<`ct:=`em
  simp[hb,`bz,h2]
 show (`dM (nrf `axD=`f) `axD)=_;rw[e2,`I (`a0 (nrf (`cs _)=`f))]
def Fm0:ob `aNQ `hl=`ak `Nx:=by
 exact gl0 rfl half rfl
omit z
def P30{p:`d}{b:LB}{r:Ds}{ns:`dD}{k:Nat}{g h:GE}(hb:`vH)(hl:∀n∈ns,`gH)(hn:`ZW)(hp:`axv)(h1:g `dx=`c (`kI))(h2:h `dx=`axE):
  v90 (xm0 (zt0 0 `bkO xr0)) `dx=`c (!`axx,`eW::r):=by
 apply `Bf;rw[show zt0 0 `bkO xr0 `dx=_ from xy0 (b:=`rO) (ds:=`bkD) rfl `bkP (yf1 hb hl hn hp)];rfl
def Xk0:va0=u9 (ifB `X2
  (u9 `bkQ
  (u9 `awR `q)) `q)
 (u9 (ifX (orT `bkR `awS) RF `q)
 (u9 `biD
 (u9 `biE
 (u9 `eR `q)))):=(rfl)
def yi1{b:LB}{ns:`dD}{u:Nat}{un:`j}{q:LP}(U:Ub b)(hu:`mg)(hq:`dE)(hql:`Kz)(hb:`vH)(hl:∀n∈ns,`gH)(hn:`ZW)(c:Nat):∃b',`bkS=`ZS (Bh0 b ns u q c):=by
 apply `axo
 apply `vG;delta Bh0
 by_cases c1:`Gv
 ·rw[`BH]
  by_cases c2:`axz
  ·rw[`vB]
   apply `bkT
   show `ZX;rw[Xk0];apply `dV;rw[`bkU];apply `dV;rw[`dp (Em0 hb) `R5,rf]
  ·rw[`vC]
   skip;obtain⟨x,ex⟩:∃x,x=`aEy:=`Y;have hv:=Wk0 U hu hq hql x;obtain⟨t,b2,ev,e2⟩:∃t b2,`bkd=`sX/\`axs ((`BL).map `iw) `rO `bkx:=by
    cases hz:`BL with
    | some b''=>rw[hz] at hv;exact`bkV
    | none=>rw[hz] at hv;exact#[`l,b,hv,rfl]
   done;rw[← ex,e2];refine `bq (fB p b2 c)
   show `ZX;rw[Xk0];apply `dV;rw[`bkU];apply `bL `vZ (`ae (`kw (Em0 hb) `Ss)) (b8 (M8 (xy0 (b:=`rO) (ds:=`Gc) rfl (`bk (by rw[Cj0 hb `n,ex]) rfl) ev)))
 ·rw[`t6]
  have e1:∀p,ifB `X2 (`me `bkQ `awR) `q `hl=`af `hl:=λp=>`axh U60
  have e3:∀p,orT `bkR `awS `hl=`c (`X (`axB),`vZ):=λp=>by
   have a1:`qm `aiU `hl=`c (`X (`adY),`vZ):=by
    apply `Be;rw[fs0 Fm0];rfl
   delta orT;rw[a1,`h]
   by_cases z:`adY
   ·rw[`j6,`axf]
    rfl
   ·rw[`lA]
    show v90 _ `hl=_;rw[P30 (pre:=[]) hb hl hn `u (`QU `v9 `hl `ZY) half];congr 2;cases `aEz<;>simp[Decidable.not_not.mp z]
  by_cases c3:`axB
  ·rw[`axp]
   apply `bkT
   show `ZX;rw[Xk0];refine m9 (e1 p) `b!;delta ifX;rw[e3,`ar c3,`h];exact rf _
  ·rw[`axq]
   refine `bq (fB p `bkL c)
   show `ZX;rw[Xk0];refine m9 (e1 p) (`n! `vZ (by delta ifX;rw[e3,`aR c3];rfl) (m9 (U9 (vi0 (K8 half) (Wu0 _))) (m9 (`vD `ZY Zw0 _) `iH)))
def cds:`j:=`bas++`bar
def Hi0(c:Nat):c∈cds↔`tl:=by
 delta cds xq0;simp only[`axF,`YY,`bkW];exact Or.comm
def Bn0:cds.Nodup:=`bc
def SB:GS:=u6 (ifD `biF (u6 `biG t8) t8) t8
def Fc0(v w:`j)(h:`ade+`dA<=1000):Z7 (`r (`aF v)) `r1=`c (`e5 (v++w)):=by
 apply `n?
 apply `dq ((`z (`aF v))+`axu<=`R) `cs (`aF v++`si);rw[vb0,vb0,`vk];rw[Gw.Jk0]
def e80{c x:Nat}{w:`j}(hw:`dA<=900):SB `ZZ=`axG `bkX `Na:=by
 have t:ob `aMf `ZZ=`ak (x=c):=by
  apply `aC;rw[`aq `x7 `wz (`ae (`bw [`abB]))];show `a5 (`LJ=`hY);congr 2;apply `cp
 by_cases z:x=c
 ·refine `cB [s0,`fx,.sh (`bkY),`Na] (`ae `eT)
  rw[`ma t `j6];refine `og `bkY ?_ rfl;rw[`aq `wr `abB rfl,Fc0 w [x] `Rx,z]
 ·refine `cB `ZZ (`b9 `cc `cT)
  rw[`mb t `lA];rfl
def Lv0{c:Nat}(l:`j):∀(w:`j) (s3:Sl),l.Nodup->`dA+`bT<=900->∃s3',u50 `eL SB (`cY `bkZ) `axH=`axG (w++`w (c∈l) [c] []) s3':=by
 induction l with
 | nil=>exact λw s3 _ _=>#[s3,`b9 `hP `cT]
 | cons x l ih=>
  intro w s3 nd hl;rw[`aqm] at nd;rw[`an] at hl;let#[s3',e]:=ih `bkX (`Na) nd.2 (by
   rw[`W];apply `bk_)
  refine`bk0;rw[`av,ju0 (δ1:=`ZZ) rfl (e80 `n),e];congr 4
  by_cases z:x=c
  ·subst z
   rw[`a_,`Q nd.1,`I A7,`cT]
  ·rw[`cc,`cT]
   congr 1
   by_cases q:c∈l
   ·rw[`gJ,`I (B3 _ q)]
   ·rw[`fj,`Q (`o `hq λh=>`fE (λh=>z h.symm) q)]
def Ha0{c:Nat}{w:`j}(hw:`Yc)(s3:Sl):∃s3',sh0 `aju `eL SB `axH=`axG (w++`axI) s3':=by
 let#[s3',e]:=Lv0 (s0:=s0) (c:=c) cds w s3 Bn0 (`d7 (`dA+36<=_));refine`bk0;have hi:oi0 `RC `axH=`c (cds.map `bkZ):=`dZ
 refine q70 hi (`amc ?_);rw[show (`w (c∈cds) [c] [])=(`axI) by simp only[Hi0]]
def c60(b:LB)(w:`j)(k:Nat):LB:={ b with begun:=`si,left:=`cv }
def told(b:LB)(w:`j):LB:=`yg b `bk1
def sgn(b:LB)(ns:`dD)(pre:`j)(k:Nat)(u:Nat)(q:LP)(c:Nat):`rF:=
 if `axJ then `e
 else if k=0 then (nm (told (c60 b `Eu 0) `Eu) u q (`aF `Eu)).map `iw
 else `c (c60 b `Eu k)
abbrev fS(p:`d)(b:LB)(c:Nat)(w:`j)(s:Sl):Ds:=[`eW,`fx,`o7,s]
def sign_is:rq0=u9 `ZC
 (u9 `axK
 (u9 `bk2
 (u9 `awT
 (u9 `awU
 (u9 (ifB `biH
  (u9 `biI
  (u9 `biJ `q)) `q)
 (u9 `eR `q)))))):=(rfl)
section
variable{p:`d}{b:LB}{c:Nat}{w:`j}{s:Sl}
def Ca0(hb:`bk3):ob `aKF `mi=`c (`bk4):=by
 apply `aC;rw[`fS `wr `kI (by rw[Zq0,hb])];show `a5 (`si=`v4);congr 2;exact `li #[λh=>W.gs0 h,λh=>by rw[h]]
def Jo0{k:Nat}(hk:`x5=`Z_):o2 `RN `bF w50 `mi=`axE:=by
 rw[`Bp `Z_ (by rw[dj0,hk])];show `eg (`Z_ - 1)=_;congr 2;lia
def Lm0(hl:`bk5):T8 `aNV `mi=`af (`bk6):=by
 have e:qi0 0 `uc `aE `mi=`c (`x,`bk6):=by
  delta qi0;rw[no0,`h,`a0 (gv 2 `mi=`c `r1),`h,ty0,`h,wc0,`h];show (`ba (nrf (`bk7)=`f/\`aiT<`R) (D.non,[`Cp (v5 p (`ob (ec0 b::`Kp::`s (`pI++`ZV)::`EM))),`fx,`o7,s]))=_;rw[`bkc,show `pI++[`bk7]=(`bk1).map `cs by rw[`aQ];rfl];rfl
 delta T8;rw[e];rfl
def Jm0{k:Nat}(hk:`x5=`cv):ob `aMg `mi=`ak (k=0):=by
 apply `aC;rw[`aq `hb `ez (by rw[dj0,hk])];show `a5 (`cv=0);congr 2;apply `cp
omit z
def Gp0{b:LB}{ns:`dD}{k u:Nat}{un:`j}{q:LP}(U:Ub b)(hu:`mg)(hq:`dE)(hql:`Kz)(hb:`vH)(hl:∀n∈ns,`gH)(hn:`ZW)(hp:`hc<=90)(hbg:`bk3)(hk:`x5=`Z_)(c:Nat):
  ∃b',`bk8=`ZS (sgn b ns pre k u q c):=by
 have zs:`Lh:=`aV
 apply `axo
 have Y:`bk5:=`fB hb `T
 obtain⟨w,ew⟩:∃w,w=pre++`axI:=`Y;have wl:`Yc:=by rw[ew,`W];apply `bk_
 have O:∀(p:`d),∃s,∀{G:GSB} {r:`hz},G `mi=r->u9 `ZC (u9 `axK G) `pi=r:=λp=>by
  let#[s,e]:=Ha0 (s0:=`eW) (c:=c) (w:=pre) `n .un;rw[← ew] at e;exact#[s,λh=>m9 (δ':=fS p b c pre .un) (U9 (`A7 (yn0 (i:=2) (d:=`kI) (by rw[Zq0,hbg])))) (m9 (U9 e) h)]
 have t:∀p s,orT `aN3 `ajv `mi=`c (`X `bk9,`Cf):=λp s=>by
  have a1:`qm `ail `mi=`c (`bk4,`Cf):=by
   apply `Be;rw[Ca0 hbg];rfl
  delta orT;rw[a1,`h]
  by_cases z:w=pre
  ·rw[`j6,`axf]
   rfl
  ·rw[`lA]
   show v90 _ `mi=_;rw[P30 (pre:=w) hb hl hn wl rfl (Jo0 hk)];congr 2;cases `aJ1<;>simp[z]
 have hw:`bk9↔(`axJ):=by
  by_cases z:`tl
  ·have e:w=`aaZ:=by rw[ew,`eT]
   rw[e];exact#[λh=>`fE (λh=>`J (D0 `uI h) (`pD `W)) `p,λh=>`fE (λh=>`J z h) `p]
  ·exact#[λ_=>`h5,λ_=>`m (by rw[ew,`cc,`cT])]
 delta sgn
 by_cases c1:`axJ
 ·apply `vG
  rw[`BH];refine `ZI
  let#[s,g]:=O p;refine`q5 `Cf;show rq0 `pi=_;rw[`axL];refine g `b!;delta ifX;rw[t,`ar (hw.mpr c1),`h];exact rf _
 ·rw[`t6]
  have hc:`tl:=y10.mp λh=>c1 `HB
  have e:w=`aaZ:=by rw[ew,`Uo]
  have go:∀(p:`d),∃s,∀{G:GSB} {r:`hz},G (`axM)=r->u9 `ZC (u9 `axK (u9 `bk2
   (u9 `awT (u9 `awU G)))) `pi=r:=λp=>by
   let#[s,g]:=O p;exact#[s,λh=>g (m9 (δ':=`Cf) (by delta ifX;rw[t,`aR (mt hw.mp c1)];rfl) (m9 (`vD `wr Zw0 `Cv) (`Bg (vi0 (K8 (Jo0 (b:={ b with begun:=`si }) hk)) (Wu0 `cv)))))]
  rw[← e]
  by_cases c2:k=0
  ·rw[`vB]
   skip;obtain⟨b3,e3⟩:∃b3,b3=told (c60 b w 0) w:=`Y;have hv:=Wk0 (b:=b3) (`Gw e3 `bkw) (`o e3 hu) (`o e3 hq) hql `Cv;obtain⟨tt,b2,ev,e2⟩:∃tt b2,vd0 (bkD b3) `ZV=`c (.bl tt,`kR)/\(`axs ((`bk').map `iw) (bkD b3) (`ds tt,`kR)):=by
    cases hz:`bk' with
    | some b''=>rw[hz] at hv;exact`bkV
    | none=>rw[hz] at hv;exact#[`l,b3,hv,rfl]
   done;rw[← e3];refine#[b3,?_];rw[e2];refine `ZI
   let#[s,g]:=go p;refine`q5 (`LR b2);show rq0 `pi=_;rw[`axL];refine g `b!;rw[`dp `bk! `R5,c2];refine m9 (U9 (Lm0 Y)) (b8 (M8 ?_));rw[← e3];exact `zx (bkD b3) `ZV ev
  ·apply `vG
   rw[`vC];refine `ZI
   let#[s,g]:=go p;refine`q5 `axM;show rq0 `pi=_;rw[`axL];exact g (`n! `axM (`ae (`kw `bk! `Ss)) `iH)
def T0:GB:=`biK
def WG:GE:=`biO
def WI:GS:=ifD `biP (u6 `bjS (u6 `ach t8)) t8
def Rw0(w:Str):GB:=`gI `F' `aw7
def le0:ux0=u9 (`zq T0)
 (u9 (`vi `biL `biM)
 (u9 (`vi (Rw0 `gb) `biN)
 (u9 (ifB (Rw0 `j5) (u9 (`jJ WG) (`me (Z3 WI) `awV)) `q)
 (u9 `biQ `q)))):=(rfl)
abbrev fT(p:`d)(b:LB)(d:D)(s:Sl):Ds:=[`eW,`cJ,s]
section
variable{p:`d}{b:LB}{d:D}{s:Sl}{c:Nat}
def kq0(w:Str):Rw0 w (fT p b d s)=`ak (`e?=w):=by
 apply `aC;rw[`aq `Ko `x6 Ug0];rfl
def b90:ob `aMh (fT p b d s)=`ak `LP:=by
 apply `aC;rw[`aq `awZ `ez dj0];rfl
def S30(hc:`ok):T0 `KC=`bk?:=by
 delta T0;rw[fz0 (`a0 (yo0 `aJK `KC=`bu)),fz0 (`a0 (ob (te0 `F9 `V) `KC=`bu)),fz0 (by
  delta yo0;rw[show ob `aJL `KC=`dz from Y0 (by
   show (`a5E (`c (`qJ `bla)) ((`eg 256).bind λz=>ltD `vU z))=_;rw[`oa];show `a5 (`hY<256);rw[`oa])]
  rfl)]
 exact kq0 `fG
omit z
def rfT(δ:Ds):`aEv:=(`d0)
def W40{b:LB}{d:D}(h:∀p,T0 (`axN)=`dz):`KD=`BK:=by
 refine `bq `axN
 show ux0 (`axN)=_;rw[le0];apply `dV;rw[xb0 (h p),rfT]
def Nj0{b:LB}{c:Nat}(hc:`ok)(h:`ahz):`Dz=`BK:=(W40 λp=>by rw[S30 hc,`i!])
def Pe0{b:LB}{d:D}(h:d∈(`blb:`k)):`KD=`BK:=(W40 λp=>by
 apply `axO;rcases h with rfl|rfl|rfl|rfl|rfl|rfl<;>rfl)
section
variable{b:LB}{c:Nat}(hc:`ok)(hw:`Z0)
include hc hw
def Xr0(p:`d){G:GSB}{r:`hz}(h:G (`sY)=r):u9 (`zq T0) G (`sY)=r:=(`n! `sY (`rr (S30 hc) hw) h)
def takes_sign{b2:LB}{t:`B}(hl:`LP)(h:`bk8=`sX):`Z1:=by
 apply `axP
 show `Z2=_;rw[le0];refine Xr0 hc hw p `b!;rw[`dp b90 (`ar hl)];apply `blc
def takes_digit{b2:LB}{t:`B}(hl:`BM)(hv:`bld)(h:`bkp=`sX):`Z1:=by
 apply `axP
 show `Z2=_;rw[le0];refine `ble `b!;rw[`dp kq0 (`ar hv)];apply `blc
def Qu0{b2:LB}{t:`B}(hl:`BM)(hv:`axQ)(hd:`blf)(h:`bkS=`sX):`Z1:=by
 apply `axP
 show `Z2=_;rw[le0];refine `blg (`n! `sY (`rr kq0 hd) (`aJ2))
omit z
def Oy0{ga gb:GE}{δ:Ds}{x y:`B}(h1:`df=`c (.bl x))(h2:`dy=`c (.bl y)):`au5=`B4 (x||y):=by
 delta orG;rw[`bjJ];cases x
 ·exact h2
 ·rfl
def fits(c:Nat):`B:=`X (c=32)||(`X (48<=c/\c<=57)||`X (97<=c/\c<=122))
def Wl0(c:Nat):`blh↔`vt:=by
 delta fits vp0 xq0;simp only[Bool.or_eq_true,`Jk,`hq,`axF,`YY,`bkW];constructor
 ·rintro (h|h|h)
  ·exact `Ma
  ·apply `ko #[c - 48,`em,`em]
  ·apply `gO #[c - 97,`em,`em]
 ·rintro (h|⟨k,h1,h2⟩|⟨k,h1,h2⟩)
  ·exact `Ma
  ·apply `ko `c_
  ·apply `gO `c_
def O60{g:GE}{δ:Ds}{t:`B}(h:`bha):`au=`awq:=(zm1 h)
def z41{p:`d}{b:LB}{c:Nat}{s:Sl}:WG `KC=`c `aKG:=by
 refine Oy0 ?_ (Oy0 (`bli 48 57) (`bli 97 122));rw[`A9 `wz 32];show `a5 (`hY=32);congr 2;apply `cp
def Rx0{b:LB}{c u:Nat}{un:`j}{q:LP}(hc:`ok)(U:Ub b)(hu:`mg)(hq:`dE)(hl:`BM)(hd:`blj):`Dz=if `vt then `Bi (bkD `aEA) else `BK:=by
 have hw:`Z0:= `blk
 have hv:`axQ:= `blk
 have U1:=U.inc;have few:=U1.few;have go:∀(p:`d) {r:D} {δ':Ds},u9 (Z3 WI) (u9 `awV `q) (`Z3)=`WV->`Z2=`WV:=λp r δ' h=>by
  rw[le0];refine `blg `b!;rw[`dp kq0 (`ar hd)];exact m9 (δ':=`Z3) (U9 (`A7 (yn0 (i:=2) z41))) h
 by_cases z:`vt
 ·have hf:`blh:=(Wl0 c).mpr z
  rw[`eT];refine `bll `axR
  rw[← hf];apply `bL `axR `ZM `iH;delta WI;rw[wl0 (`ae hf)];refine `cB `blm (`cB `axR rfl)
  ·rw[c10 hu hq]
   refine `bjU;rw[`bjV];rfl
  ·delta T8
   rw[`axi `blm (`zx (bkD `p_) [] (dn0 `p_ U1.lt `n))];rfl
 ·have hf:`QZ=`l:=by
   cases h:`QZ with
   | false=>rfl
   | true=>exact `J ((Wl0 c).mp h) z
  rw[`cc];refine `bll `Z3
  rw[← hf];apply `bL `Z3 `ZM `iH;delta WI;rw[yu0 (`ae hf)];rfl
def toS:D->Str
 | `gf=>s
 | _=> ""
def wo0:`auU
 | a::_::r=>`Z4
 | [a]=>[a]
 | []=>[]
theorem nn0:∀l:`k,(`z (wo0 l))=(`bT+1)/2
 | []=>`bln
 | [a]=>`bln
 | `ve=>by
  show (`z (wo0 r))+1=(`bm+1+1+1)/2;rw[nn0 r];lia
def tm0(kd n:Nat)(held:`k):LP:=match kd with
 | 0=>`blo
 | 1=>`blp
 | 2=>`blq
 | k=>#[k,n,(`dI - 1)/2,`blr,`X (0<`dI)]
def wS:`aw->Str
 | `fR=> `j5
 | `f? => `jB
 | `kN=> `nh
 | _=> `gb
def Wi0(n m:Nat)(a:α):(`bG n a).drop m=`bG (n - m) a:=(List.drop_replicate)
theorem mb0:∀(n m:Nat),(`ajw m).head?=`ba (m/2<n) (`w (m%2=0) `DG `Nj)
 | 0,m=>by
  rw[`Q `t4,List.replicate_zero,List.flatten_nil,List.drop_nil];rfl
 | n+1,0=>`bls
 | n+1,1=>`bls
 | n+1,m+2=>by
  rw[`fk,`hK,Nat.add_div_right m (B80 1),Nat.add_mod_right];show ((`aaY).flatten.drop m).head?=_;rw[mb0 n m]
  by_cases q:m/2<n
  ·rw[`gJ,`I (Nat.succ_lt_succ q)]
  ·rw[`fj,`Q λz=>q (Nat.lt_of_succ_lt_succ z)]
def Ij0(kd n:Nat)(held:`k)(hk:`eS):`acj (`t9)=(`Q0).head?.map wS:=by
 apply `Z5
 apply `axS
 ·apply `dq `Z6 wq `blo
  show `blt `awd;rw[Wi0]
  by_cases q:`Z6
  ·apply `blu
   rfl
  ·rw[`fj,`blv]
   rfl
 ·apply `dq `Z6 wq `blp
  show `blt (`bG n `Nj);rw[Wi0]
  by_cases q:`Z6
  ·apply `blu
   rfl
  ·rw[`fj,`blv]
   rfl
 ·apply `dq `Z7 wq `blq
  show `blw;rw[mb0]
  by_cases q:`Z7
  ·rw[`gJ,`gJ]
   show `blx 2 2;rw[`T,nn0]
   by_cases z:`axT
   ·rw[`eT,`I `Zj]
    rfl
   ·rw[`cc,`Q (λh=>`E)]
    rfl
  ·rw[`fj,`fj]
   rfl
 ·cases `bt with
  | nil=>rfl
  | cons d held=>
   apply `dq `Z7 wq #[3,n,`pC,`x8,`f];show `blw;rw[mb0]
   by_cases q:`Z7
   ·rw[`gJ,`gJ]
    show `blx 3 3;rw[`T,nn0]
    by_cases z:`axT
    ·rw[`eT,`I `Zj]
     rfl
    ·rw[`cc,`Q (λh=>`E)]
     rfl
   ·rw[`fj,`fj]
    rfl
def O70(kd n:Nat):∀w∈`hg,`j8:=by
 have pr:∀w∈`DX,`j8:=λw hw=>by
  let#[l,hl,hw]:=B60.mp hw;rw[`av9] at hw;simp only[`hq,`te,`tf] at hw;rcases hw with rfl|rfl<;>exact λz=>nomatch z
 intro w hw;delta wanted at hw;split at hw
 ·rw[`bly];exact λz=>nomatch z
 ·rw[`bly];exact λz=>nomatch z
 ·exact pr w hw
 ·rcases `cg hw with rfl|hw
  ·exact λz=>nomatch z
  ·exact pr w hw
inductive Op (bg:`rq) (qs:`oj):`bfS
 | nil:Op bg qs [] []
 | cons {k n:Nat} {q:`e2} {us:`j} {ws:`ag}:`vu->`blz->`Bm->`av7->`av8->`KE->Op bg qs `sr (`Ge++`MB)
def wE:`aH `aw->Str
 | `DA=>wS w
 | `e=> `fG
def Ag0{us:`j}(h:`KE):aft qs us=(`awa,wE (`Ot).1.head?):=by
 induction h with
 | nil=>rfl
 | @cons k n q us ws h1 h2 h3 h4 h5 _ ih=>
  have hw:=Ij0 q.1 n q.2 h3;cases e:`Ge with
  | nil=>
   rw[e] at hw;have:`blA=aft qs us:=by
    conv=>lhs;delta aft
    rw[h2,`h,hw];rfl
   rw[`F,ih];rfl
  | cons w t=>
   rw[e] at hw;apply `blB;have:`blA=(`oS,wS w):=by
    conv=>lhs;delta aft
    rw[h2,`h,hw];rfl
   rw[`F];apply `blC
def Op.ends{us:`j}(h:`KE):Op bg qs `awa (`Ot).1:=by
 induction h with
 | nil=>exact `_
 | @cons k n q us ws h1 h2 h3 h4 h5 o ih=>
  cases e:`Ge with
  | nil=>exact ih
  | cons w t=>
   apply `blB;have hs:vn0 (`blD) `sr=(`blD,`oS):=by apply `blC
   rw[hs,← e];exact `ai h1 h2 h3 h4 h5 o
def Op.off{bg':`rq}{qs':`oj}{us:`j}(h:`KE)(hm:∀j∈us,j<m)(e1:∀j,j<m->bg'[j]?=bg[j]?)(e2:∀j,j<m->qs'[j]?=qs[j]?):Op bg' qs' us ws:=by
 induction h with
 | nil=>exact `_
 | @cons k n q us ws h1 h2 h3 h4 h5 o ih=>
  have hk:=hm k A7;exact `ai (`o (e1 k hk) h1) (`o (e2 k hk) h2) h3 h4 h5 (ih λj hj=>hm j (B3 _ hj))
def Op.hold{k:Nat}{us:`j}{w:`aw}(h:Op bg qs `sr (`mm))(hw:`j8)(d:D):
  ∃q n,`vu/\`blz/\`Bm/\`av7/\(∃t,`blE)/\Op (bg.modify k `aBf) (qs.set k `blF) `sr ws:=by
 generalize hu:`oS=us' at h;generalize hv:`mm=ws' at h;cases h with
 | nil=>cases hu
 | @cons k' n q us2 ws2 h1 h2 h3 h4 h5 o=>
  cases hu;cases e:`Ge with
  | nil=>
   rw[e] at hv;cases hv;exact `J rfl hw
  | cons w' t=>
   rw[e] at hv;cases hv;refine#[q,n,h1,h2,h3,h4,#[t,e],?_];have e':`aBI (`z `FT)=t:=by
    rw[`W,`a0 (`wT+`aCZ=`wT+1),← List.drop_drop,e];rfl
   rw[← e'];refine `ai (q:=`bf2) ?_ ?_ h3 h4 h5 (o.off h5 (`Aj) `Aj)
   ·rw[List.getElem?_modify_eq,h1];rfl
   ·rw[`LN `arP]
   ·rw[`JV]
    have n:¬k=j:=`E
    cases bg[j]? with
    | none=>rfl
    | some a=>
     show `c (if k=j then (a.1,a.2++[d]) else a)=_;rw[`Xv]
   ·rw[`h0 `n]
structure Rel(S:RS)(b:LB):Prop where
 parts:`jp=`a1
 ql:`gv=`a1
 un:`d3=`a7
 op:(`bfW/\`cI=[]/\`a7=[])∨(`BN/\`blG)
 want:`e?=wE `pB
 nm:`blH
 sum:`blI
 am:`blJ
 lf0:`blK
 lf1:`blL
 has:`blM
def b0:LB:=#[0,[],[],[], `gb,0,`l,0, ""]
def No0:Rel `k5 b0:=(#[rfl,rfl,rfl,`m #[rfl,rfl,rfl],rfl,rfl,rfl,rfl,`gK,λh=>`J h (D9 0),λk q h=>by cases h])
def Op.lt{us:`j}(h:`KE):∀u∈us,u<`vy:=by
 induction h with
 | nil=>exact λu hu=>by cases hu
 | cons h1 h2 h3 h4 h5 o ih=>
  intro u hu;rcases `am5 with rfl|hu
  ·exact`arP
  ·exact ih u hu
def Rel.ub{S:RS}{b:LB}(G:`bM)(h:`gT):Ub b:=by
 refine`hL
 ·rw[h.un]
  skip;rcases h.op with⟨_,_,z⟩|⟨_,o⟩
  ·done;rw[z];exact λu hu=>by cases hu
  ·done;exact o.lt
 ·rw[h.un]
  have:=G.wl;lia
theorem gb0:`blN 1 (wo0 l)
 | [],d,h=>by cases h
 | [a],d,h=>rfl
 | `ve,d,h=>by
  show a::`ahD=`Z4;rw[gb0 r d (by rw[`an,`an] at h;omega)]
theorem i40:`blN 0 (wo0 l++[d])
 | [],d,h=>rfl
 | [a],d,h=>by cases h
 | `ve,d,h=>by
  show a::`ahD=`Z4++[d];rw[i40 r d `blO];rfl
theorem kc0:∀(l:`k),`bT%2=0->wo0 l=`yC (`kZ l)
 | [],h=>rfl
 | [a],h=>by cases h
 | `ve,h=>by
  show `Z4=a::`blP;rw[kc0 r `blO]
def Z60{held:`k}{w:`aw}{t:`ag}(hk:`eS)(h:`blQ):
  (kd=0/\w=`fR)∨(kd=1/\`ge)∨(kd=2/\(`jl/\`axT∨`ge/\`dI%2=1))∨(kd=3/\(`bt=[]/\w=`kN∨∃a r,`bt=a::r/\(`jl/\`bm%2=0∨`ge/\`bm%2=1))):=by
 have pr:∀(n m:Nat),`ajw m=w::t->`jl/\m%2=0∨`ge/\m%2=1:=λn m e=>by
  have:=mb0 n m;apply `aT e
  by_cases q:m/2<n
  ·apply `aT `gJ
   by_cases z:m%2=0
   ·apply `aT `eT
    exact `m #[`Fx,z]
   ·apply `aT `cc
    exact `p #[`Fx,`E]
  ·apply `aT `fj
   cases `F
 have hm:w∈`hg:=P1 (`o h A7);apply `Z5
 apply `axS
 ·exact `blR
 ·exact `p (`blR)
 ·apply `gO (`m #[rfl,pr n _ h])
 ·refine `l6 `SH
  cases `bt with
  | nil=>cases h;exact `m `nT
  | cons a r=>exact `p #[a,r,rfl,pr n _ h]
section
variable{held:`k}{w:`aw}{t:`ag}
def Xw0(hk:`eS)(h:`blQ)(hw:`blS)(d:D):`axU=(`DM `t9 (`t9).count):=by
 skip;rcases `axV with⟨rfl,_⟩|⟨rfl,_⟩|⟨rfl,⟨e,_⟩|⟨_,m⟩⟩|⟨rfl,⟨_,e⟩|⟨a,r,rfl,⟨e,_⟩|⟨_,m⟩⟩⟩
 ·done;show `blT 0 0
  rw[`W];rfl
 ·done;show `blT 1 1
  rw[`W];rfl
 ·done;apply `axW
 ·done;show `blU=#[2,n,`pC+1,`x8,`l]
  rw[`W,gb0 `bt d m,`Z8 `dI (`pC+1) `blV]
 ·done;apply `axW
 ·done;apply `axW
 ·done;show `blW=#[3,n,`bm/2+1,`axX,`f]
  rw[`W,gb0 r d m,`Z8 `bm (`bm/2+1) `blX]
def Gm0(hk:`eS)(h:`Q0=`f?::t)(d:D):`axU=(`yg `t9 (`blY++`axY))/\`blY=`sb (w00 `ahc):=by
 skip;rcases `axV with⟨_,e⟩|⟨_,e⟩|⟨rfl,⟨_,m⟩|⟨e,_⟩⟩|⟨rfl,⟨_,e⟩|⟨a,r,rfl,⟨_,m⟩|⟨e,_⟩⟩⟩
 ·cases e
 ·cases e
 ·done;refine`hL
  ·show `blU=#[2,n,`pC,`x8++`axY,`l]
   rw[`W,i40 `bt d m,`aQ,`Z8 `dI `pC `blV];rfl
  ·show `x8=`sb (`yC `bdU)
   rw[kc0 `bt m]
 ·cases e
 ·cases e
 ·done;refine`hL
  ·show `blW=#[3,n,`bm/2,`axX++`axY,`f]
   rw[`W,i40 r d m,`aQ,`Z8 `bm (`bm/2) `blX];rfl
  ·show `axX=`sb `blP
   rw[kc0 r m]
 ·cases e
def Eu0(hk:`eS)(h:`Q0=`kN::t)(d:D):`axU={ `t9 with classed:=`f }:=by
 skip;rcases `axV with⟨_,e⟩|⟨_,e⟩|⟨rfl,⟨e,m⟩|⟨e,_⟩⟩|⟨rfl,⟨rfl,_⟩|⟨a,r,rfl,⟨e,m⟩|⟨e,_⟩⟩⟩
 ·cases e
 ·cases e
 ·cases e
 ·cases e
 ·done;rfl
 ·cases e
 ·cases e
def Pq0(hk:`eS)(hl:`dI<=60):(`t9).names.length<=60:=by
 apply `Z5
 apply `axS
 ·exact `b7
 ·exact `b7
 ·show `blZ<=60
  rw[`T,nn0];lia
 ·show (`z `blr)<=60
  rw[`T,nn0,`jX];lia
omit z
def Ky0(h:∀x∈l,∃n:`j,`aJs)(n:`j):`bl_=`X (`mI∈`cY toS):=by
 induction l with
 | nil=>rfl
 | cons a l ih=>
  let#[m,_,rfl]:=h a A7;have ih:=`Ke
  show (`X (`bl0)||`bl_)=`X (`mI∈`aF m::`cY toS);rw[ih];simp only[`hq]
  by_cases z:`bl0
  ·rw[`j6,`a0S,`ar `w3]
  ·rw[`lA,`ape]
   exact `li #[`p,λh=>`fE (λa=>`J a z) id]
structure Mid(S:RS)(b:LB):Prop where
 parts:`jp=`a1
 ql:`gv=`a1
 un:`d3=`a7
 op:`blG
 nm:`blH
 sum:`blI
 am:`blJ
 lf0:`blK
 lf1:`blL
 has:`blM
def Mid.next{S:RS}{b:LB}(M:Mid S b)(ne:`BN):Rel (next S) `aw9:=by
 have ha:`MN=((`X7).2,wE (`X7).1.head?):=`o M.un (Ag0 M.op)
 refine#[M.parts,M.ql,?_,`p #[ne,M.op.ends],?_,M.nm,M.sum,M.am,M.lf0,M.lf1,M.has]
 ·show `QT=_
  rw[ha];rfl
 ·show (`MN).2=_
  rw[ha];rfl
def L50(u:`j)(h:ws.head?≠`sT):vn0 ws u=(ws,u):=by
 cases ws with
 | nil=>cases u<;>rfl
 | cons w ws=>apply `t8 w `adS
def Rel.same{S:RS}{b b1:LB}(R:`gT)(hf:`Zk)(e1:S1.begun=`cI)(e2:S1.un=`a7)(e3:`bbZ)(e4:S1.names=`b')
  (f1:b1.parts=`jp) (f2:b1.qs=`f8) (f3:b1.un=`d3) (f4:`bl1) (f5:b1.names=`r') (sum:b1.sum=S1.digits) (am:b1.amid=`X (S1.digits≠0))
  (lf0:`axZ=0->b1.left=0) (lf1:0<`axZ->b1.left=(`aM (`axZ - S1.spelled.length))/\b1.begun=`aF S1.spelled/\S1.names.length<60):Rel `Ep b1:=by
 have en:`ax_=(`cd,`a7):=`d? e2 e3 (L50 _ hf)
 have n1:(`wO).un=`a7:=`rC ((`ax_).2=_) en
 have n2:(`wO).wait=`cd:=`rC ((`ax_).1=_) en
 have n3:(`wO).begun=`cI:=e1;have n4:(`wO).names=`b':=e4;refine#[`d? f1 n3 `vI,`d? f2 n3 R.ql,`d? f3 n1 R.un,by rw[f2,n1,n2,n3];exact R.op,`d? f4 n2 `abu,`d? f5 n4 R.nm,sum,am,lf0,lf1,`d? f2 f5 `t']
def Op.top{us:`j}{w:`aw}(h:Op bg qs us (`mm)):∃k us',us=k::us':=by
 generalize hv:`mm=ws' at h;cases h with
 | nil=>cases hv
 | @cons k n q us2 ws2 h1 h2 h3 h4 h5 o=>exact`ax0
def Rel.hold{S:RS}{b:LB}(G:`bM)(R:`gT){w:`aw}{rest:`ag}(hw:`f6)(hr:`vw)(hf:`j8)(d:D):
  ∃k us q n t,`bl2/\`kx/\`abN=`aJ3/\`Bm/\`blE/\`wT<=50/\(`bfZ)/\`BN/\Op `Zd (`jL k `blF) `a7 `aA:=by
 rcases R.op with⟨e,_⟩|⟨ne,o⟩
 ·rw[e] at hw;cases hw;exact `bf3
 ·skip;rw[hw] at o
  let#[k,us,hu]:=o.top;have o':=o;rw[hu] at o';let#[q,n,h1,h2,h3,h4,#[t,h5],h6]:=o'.hold hf d;let#[t',p]:=G.pq h1;done;refine#[k,us,q,n,t,hu,h1,h2,h3,h5,`bf0,#[t',p],ne,?_];rw[S20 hu,hu];exact h6
def aj0{ns ms:`i}(h:∀(k:Nat) (q:LP),`aw0->`ahC ns)(hn:∀x∈ns,x∈ms)(k:Nat){q':LP}(hq:(∀x∈q'.names,x∈ms)/\q'.names.length<=100):
  ∀(j:Nat) (q:LP),`aw2[j]?=`dY->`ahC ms:=by
 intro j q hj;rw[`Yj] at hj
 by_cases z:k=j
 ·rw[`eT] at hj
  by_cases y:k<`vy
  ·rw[`I y] at hj;cases hj;exact hq
  ·rw[`Q y] at hj;cases hj
 ·rw[`cc] at hj
  exact#[λx hx=>hn x ((h j q hj).1 x hx),(h j q hj).2]
def Rel.more{S:RS}{b:LB}(G:`bM)(R:`gT){w:`aw}{rest:`ag}(hw:`f6)(hv:`blS)(d:D):Mid `yb (inc `sW)/\`BN:=by
 skip;let#[k,us,q,n,t,hu,h1,h2,h3,h4,h5,_,ne,o]:=R.hold G hw `qt `qt d;have hl:`ed:=L4 λz=>by
  apply `bl3;rw[hw] at e;cases e;rcases hv with rfl|rfl<;>rcases O with O|O<;>cases O
 have e:inc `sW={ `mA with qs:=`jL k (`DM `EQ (`EQ).count) }:=c10 (b:=`mA) (un:=us) `Z9 h2;rw[← `ax1] at e;done;rw[e];refine#[#[?_,?_,R.un,?_,R.nm,rfl,rfl,`vJ,λz=>by have:`nK:=z;lia,?_],ne]
 ·rw[rb0];exact `vI
 ·rw[rb0]
  show (`z (`jL k _))=_;apply `I!;exact R.ql
 ·have:`bcz=`aA:=`Mr
  rw[`F];exact o
 ·refine `bl4 `hL
  ·rw[`ax1]
   exact(`bl5).1
  ·rw[`ax1]
   exact(`bl5).2
def Ej0(kd n:Nat)(h:`eS):tm0 kd n []=`aJ7:=by
 apply `Z5
 rcases hk with rfl|rfl|rfl|rfl<;>rfl
def Mid.add{S:RS}{b:LB}(M:Mid S b)(hk:`eS)(hn:`Kh):Mid { S with begun:=`xY,un:=`JY,wait:=`bl6 } (`bl7):=by
 have hl:=M.op.lt;rw[M.ql] at hl;refine#[?_,?_,?_,?_,M.nm,M.sum,M.am,M.lf0,M.lf1,?_]
 ·show `EP=`auR
  rw[`W,M.parts];rfl
 ·show (`z (`f8++[_]))=`auR
  rw[`W,`W,M.ql];rfl
 ·show `QV=_
  rw[M.ql,M.un]
 ·show Op (`xY) (`bl8) (`JY) (`bl6)
  refine `ai (q:=`LH) ?_ ?_ hk hn hl (M.op.off hl (`Aj) `Aj)
  ·rw[`nE,`iF];rfl
  ·rw[`mu (`o M.ql `gW),M.ql,`iF,Ej0 kd n hk];rfl
  ·rw[`fa hj]
  ·rw[`fa (`o M.ql hj)]
 ·intro k q h
  rw[`a0 ((`bl7).qs=`bl8),List.getElem?_append] at h
  by_cases z:k<`gv
  ·rw[`eT] at h;exact M.has k q h
  ·rw[`cc] at h
   generalize k - `gv=i at h;cases i with
   | zero=>cases h;exact#[(λx hx=>nomatch hx),`b7]
   | succ i=>cases h
def Sp(c:Nat)(b:LB):`bf?
 | `ax2=>∃b',`Dz=`Bi `Gg/\Rel `Ep b'
 | `e=>∃b',`Dz=`c `aCX
inductive Ot:`iI->`rF->Prop
 | no:Ot `e `e
 | ok {S1:RS} {b:LB}:Rel `Ep b->Ot (`ax2) (`it)
section
variable{c d:Prop}[`f2 c][`f2 d]{x y:`iI}{x' y':`rF}
def Ot.lt(h:c)(k:`Z'):`bl9:=`bl'
def Ot.lf(h:¬c)(k:Ot y x'):`bl9:=`bl!
def Ot.rt(h:c)(k:`Z'):`bl?:=`bl'
def Ot.rf(h:¬c)(k:Ot x y'):`bl?:=`bl!
def Ot.by'(h:c↔d)(k1:c->`Z')(k2:¬c->Ot y y'):Ot `aJ8 (`w d x' y'):=by
 by_cases z:c
 ·exact .lt z (.rt (h.mp z) (k1 z))
 ·exact .lf z (.rf (λq=>z (h.mpr q)) (k2 z))
omit z
def Ot.sp{c:Nat}{b b':LB}{x:`iI}{x':`rF}{r:`aab}(e:r=`ZS x')(h:`Z')(k:∀{t:`B} {b2:LB},r=`sX->`Z1):Sp c b x:=by
 cases h with
 | no=>exact#[b',k e]
 | ok h=>exact#[_,k e,h]
def P10{b:LB}(h1:`QQ=0)(h2:`Et):`mA=b:=by
 cases b;cases h1;cases h2;rfl
def Gi.dig0{S:RS}(G:`bM){w:`aw}{rest:`ag}(hw:`f6)(h1:`vw)(h2:w≠`eY):`mz=0:=(L4 λz=>by
 skip;let#[w',ws,e,O]:=G.dv z;rw[hw] at e;cases e;rcases O with O|O
 ·done;exact h1 O
 ·done;exact h2 O)
def Gi.len0{S:RS}(G:`bM){w:`aw}{rest:`ag}(hw:`f6)(h1:w≠`f?)(h2:w≠`kN):`ed:=(L4 λz=>by
 skip;apply `bl3;rw[hw] at e;cases e;rcases O with O|O
 ·done;exact h1 O
 ·done;exact h2 O)
def fk0(S:RS)(d:D)(h:`BN):0<`bcy:=`o rb0 h
def M50{S:RS}{b:LB}(G:`bM)(R:`gT){rest:`ag}(hw:`cd=`fR::`aA){c:Nat}(hc:`ok):Sp c b (`ba `vt (`gg (`Ez))):=by
 skip;let#[k,us,q,n,t,hu,h1,h2,_]:=R.hold G hw `u `u `x;have hd:=Gi.dig0 G hw `u `u;have hl:`BM:=`qO (`vJ (`ax3 G hw `u `u))
 have O:`blj:= `KF
 have e:=Rx0 hc `Z! `Z9 h2 hl O
 by_cases z:`vt
 ·done;rw[`eT] at e ⊢
  let#[M,ne]:=R.more G hw `du (`Ez);rw[P10 (by rw[R.sum,hd]) (`b9 R.am hd)] at M;exact#[_,e,`bma]
 ·done;rw[`cc] at e ⊢
  exact`WR
open T in
def Rel.root{S:RS}{b:LB}(R:`gT){w:`aw}{rest:`ag}(hw:`f6):`sV↔`oG:=by
 rw[`vI];apply `bmb
 ·rw[e1] at hw;cases hw
  rw[e2];exact#[`gK,`gK]
 ·refine#[`ax4,`iO]
  subst z;rw[hw] at o;let#[k,us,hu]:=o.top;rw[hu] at o;let#[q,n,h1,h2,h3,h4,#[t,h5],h6]:=o.hold `u `x;exact `J (P1 (`o h5 A7)) (cg0 q.1 n)
def Pv0{S:RS}{b:LB}(G:`bM)(R:`gT){w:`aw}{rest:`ag}(hw:`f6)(hv:`od)(hk:`eS)(hn:`Kh)(h60:`J0):
  ∃S1,`au0=`ax2/\Rel `Ep (`iw (g30 (inc `sW) kd n)):=by
 have M:Mid `FW (inc `sW):=by
  rcases hv with rfl|rfl
  ·skip;apply `bmb
   ·rw[e1] at hw
    cases hw;have hq:`f8=[]:=`N8 (`b9 R.ql e2);have eb:`F6=[]:=`bf8 e3 e2
    have ew:`au1=[]:=`abz _ e1
    have eu:(`o?).un=[]:=e3;done;rw[ap0 (b:=`mA) (by show `axb;rw[R.un,e3])];have hl:`ed:=`ax3 G e1 `u `u;refine#[?_,?_,by rw[eu];show `d3=_;rw[R.un,e3],?_,R.nm,rfl,rfl,`vJ,`iO,`t']
    ·show `jp=_;rw[eb,`vI,e2]
    ·show `gv=_;rw[eb,hq];rfl
    ·rw[eb,ew,eu];exact `_
    ·have:`nK:=z
     lia
   ·have h0:=(`ax5).mpr rfl
    rw[`vI] at h0;done;lia
  ·exact(R.more G hw `kk _).1
 refine#[_,?_,(M.add hk hn).next ?_]
 ·delta RS.part
  rw[`Q]
  ·rfl
  ·rintro (z|z)
   ·rw[ao0 kd] at z
    lia
   ·exact h60 z
 ·show 0<(`z `bf9)
  rw[`W];exact Nat.lt_add_left _ (H0 0)
def Z10{S:RS}(h:¬`Kh∨`F5):`au0=`e:=by
 delta RS.part;rw[`I];rcases h with h|h
 ·left
  rw[ao0 kd];lia
 ·exact `p h
def Nt0{S:RS}{b:LB}(G:`bM)(R:`gT){w:`aw}{rest:`ag}(hw:`f6)(hv:`od)(n:Nat):Ot (`X5 `aW) (`w `ZR `e `ZU):=by
 have hz:=`ax5;have hp:`aN4=`a1:=`vI;have h4:`aW%4=(`aM (n%4)):=rfl;apply `Z?
 delta RS.head
 by_cases c3:`lk
 ·refine .lt (`b9 h4 c3) ?_
  have k1:(`aW/4%4).toNat=`w!:=rfl;have k2:`aW/4/4=(`aM `C9):=rfl;have k3:n/16=`C9:=`E
  have e1:`bmc:=`E
  rw[k1,k2]
  by_cases ok:`ax6/\`J0
  ·let#[S1,e,r]:=Pv0 G R hw hv (kd:=`w!) (n:=`C9) (`bjK) ok.1 ok.2
   have ir:`m4 n:=#[c3,`o k3 ok.1];rw[e];refine `vK (z.2 ir) (.rf e1 (`vK (z.2.elim (λy=>y ir) λy=>ok.2 (hp.symm.trans y)) ?_));rw[`axp];exact .ok r
  ·have no:¬`ax6∨`F5:=by
    by_cases z:`ax6
    ·exact `p (L4 λy=>ok #[z,y])
    ·exact `h5
   rw[Z10 no]
   by_cases z:`ZR
   ·exact .rt z .no
   ·refine .rf z (.rf e1 (.rt #[c3,no.elim (λno=>`m λz=>no ?_) λno=>`p (hp.trans no)] .no))
    have:=z.2;apply `aT k3;exact `F
 ·have nr:¬`m4 n:=`bmd
  refine `rG (c3 `Q1) ?_;rw[hh]
  by_cases wr:`oG
  ·exact `KG (by rw[wr]) #[hz.mpr wr,nr]
  ·have wv:`ge:=`bgj wr
   refine `rG (wr `H1) (`vK (wr (hz.mp z.1)) ?_);have go:∀d,`bmc->Ot (`c `yb) (`ZU):=λd h=>by
    let#[M,ne]:=R.more G hw (`p wv) d;refine .rf h (.rf (`bmd) ?_);rw[`axq];exact .ok (`bma)
   rw[hp] at go
   by_cases c1:n%4=1
   ·exact .lt (`b9 h4 c1) `ax7
   ·refine `rG (c1 `Q1) ?_
    by_cases c2:`Es/\n/4<`a1
    ·exact .lt #[`b9 h4 c2.1,Int.ofNat_lt.mpr c2.2] `ax7
    ·refine `rG (c2 #[X2 z.1,Int.ofNat_lt.mp z.2]) ?_
     by_cases c0:n=0
     ·exact .lt (`ae c0) `ax7
     ·refine `rG (c0 `Q1) (.rt ?_ .no)
      rw[hp]
      by_cases y:`Es
      ·exact `p #[y,A70 λz=>c2 #[y,z]]
      ·exact `m #[`E,Nat.pos_of_ne_zero c0]
open T in
def step_digit{S:RS}{b:LB}(G:`bM)(R:`gT){w:`aw}{rest:`ag}(hw:`f6)(hv:`od){c:Nat}(hc:`ok):Sp c b (S.digit c):=by
 obtain⟨m,hm⟩:∃m:Nat,`mz=`jE:=#[S.digits.toNat,`d' G.dg];have U:`ed:=`ax3 G hw `qt `qt;have hl:`BM:=`qO (`vJ U)
 have O:`bld:= by rw[`abu,hw];apply `YH
 have hz:=`ax5;apply `Z?
 let#[b',e]:=J60 `Z! (m:=m) (by rw[R.sum,hm]) c;refine Ot.sp e ?_ (takes_digit hc (`ahA O) hl O);have en:`KH=`bkk:=`aPt
 have ea:`Et↔m=0:=by
  rw[R.am,hm,decide_eq_false_iff_not];lia
 show Ot (`w `y9 (`X5 (`KH)) (`A4 (`atT `KH (`KH)) (`yW `KH))) _;rw[en];delta dg;generalize hN:`y8=N;rw[hh]
 by_cases c1:`y9
 ·exact .lt c1 (`vK (`J z.1 (B5 c1)) (.rf (`awF (Nat.le_of_lt_succ c1)) (Nt0 G R hw hv N)))
 ·refine .lf c1 ?_
  by_cases c2:N=0
  ·exact `KG (`m (`ae c2)) #[`E,ea.mpr `n]
  ·refine `vK (`d' (ea.mp z.2)) (.rt (Nat.lt_of_not_le λz=>c1 (Nat.lt_succ_of_le z)) ?_)
   by_cases c3:`ge∨N<=2
   ·refine `rG (`cO (`bme) λz=>z (c3.elim (λy=>`m (by rw[y])) λy=>`bmf)) (`vK (c3.elim (λy=>by have:=hz.mp z.1;apply `aT y;cases `F) z.2) (.ok ?_))
    refine R.same (S1:=(`yW (N:Int))) `ax8 rfl rfl rfl rfl rfl rfl rfl rfl rfl rfl ?_ `vJ R.lf1;show `f=`X ((N:Int)≠0);exact(`zM F0 ((N:Int)≠0) `bme).symm
   ·have wr:`oG:=hv.resolve_right λy=>c3 (`m y)
    refine `KG (`p λz=>`cO (λy=>?_) λy=>c3 (`bmf)) #[hz.mpr wr,λy=>c3 (`p y)];rw[wr] at y;cases y
def Tp0{ns:`dD}{k:Nat}(hn:`ct<60):`axx=left ns (`EF) pre:=by
 delta lf left Uh0;rw[`ar hn,`bkB,`HU];refine `li ?_;have hl:`axt<=`ct:=A31 _ _;generalize `axt=N at hl
 match k with
 | 0=>exact K2
 | 1=>exact K2
 | k+2=>
  have e:lk (k+2)=1000:=rfl;have p:36 ^ 2<=36 ^ (k+2):=Nat.pow_le_pow_right `u `n;rw[e];refine#[`IM,`IM]<;>lia
def Jj0{S:RS}{b:LB}(G:`bM)(R:`gT){w:`aw}{rest:`ag}(hw:`f6)(hv:`oe)(x:`j):
  ∃k us q lp lp',`bl2/\`kx/\`abN=`c lp/\lp.names.length<=100/\`BN/\Op (`gg `ER).begun (`jL k lp') `a7 `aA
  /\(∀b1:LB,`bl1->nm b1 k lp (`Q2)=`A4 `bmg (db0 b1 k lp'))
  /\(∀y∈lp'.names,y∈lp.names∨y=`Q2)/\lp'.names.length<=100/\(`bmg->`Q2∈lp.names):=by
 skip;let#[k,us,q,n,t,hu,h1,h2,h3,h4,h5,#[t',pq],ne,o]:=R.hold G hw `qt `qt `ER;have hl:=`bmh q.2 `n;have U:=`bmh `bmi (by rw[`W];show _+1<=_;lia);have O:`e?=wS w:=`KF
 done;refine#[k,us,q,`EQ,tm0 q.1 n (`bmi),hu,h1,h2,`E,ne,o,?_];rcases hv with rfl|rfl
 ·let#[e1,e2]:=Gm0 h3 h4 `ER
  have en:`aJ9=`X (`bmj):=by
   rw[e2];exact Ky0 pq.names x
  refine#[`bmk,?_,`E,`iO]
  ·delta nm
   rw[`Q (by rw[hb,O];apply `KS),en]
   by_cases z:`bmj
   ·rw[`eT,`t7 (F0 z)]
   ·rw[`cc,`Q (λy=>z (E9 y.2)),e1]
    rfl
  ·rw[e1]
   intro y hy;rcases `d9 hy with hy|hy
   ·exact `m hy
   ·exact `p (`Gi hy)
  ·have z:=z.2
   rw[en] at z;exact E9 z
 ·have e1:=Eu0 h3 h4 `ER
  refine#[`bmk,?_,`E,λz=>by cases z.1]
  ·delta nm
   rw[`I (`b9 hb O),`Q (λz=>by cases z.1),e1]
  ·rw[e1]
   exact λy hy=>`m hy
def getD_in{ns:`dD}{k:Nat}(h:k<`ct):`aN2 k []∈ns:=by
 rw[`bz,`ik h];exact O0 h
def d30{S:RS}{b:LB}(G:`bM)(R:`gT){w:`aw}{rest:`ag}(hw:`f6)(hv:`oe)(h0:`ed){c:Nat}(hc:`ok):Sp c b (`aN5):=by
 skip;let#[k,us,q,lp,Z,hu,h1,h2,h3,ne,o,h4,h5,h6,_]:=Jj0 G R hw hv `aKH;have zs:`bml:=`aV
 have hd:=`bmm;have hl:`BM:=`qO (`vJ h0)
 have O:`e?=wS w:=`KF
 apply `Z?
 have nl:=`gG;let#[b',e]:=yi1 `Z! `Z9 h2 `n R.nm (`ahl) `n c;have n1:`Z0:= `_a
 have n2:`axQ:= `_a
 have n3:`blf:= `_a
 done;refine Ot.sp e (.by' K2 (λc0=>.by' K2 `bmn λc1=>?_) λc0=>?_) (Qu0 hc n1 hl n2 n3)
 ·show Ot (`A4 (`baC/\eqS `ahF `baD=`f) (`bmo)) _
  have eq:`agX=q:=by
   rw[hu,List.headD_cons,`bz,h1];rfl
  rw[eq,hh,h4 b rfl]
  by_cases c2:`jl/\eqS `ahF `xx=`f
  ·rw[`vB]
   exact .lt #[by rw[c2.1],c2.2] .no
  ·rw[`vC]
   refine `rG (c2 #[A4 z.1,z.2]) (.ok (Mid.next (`bmp R.nm `vJ (`J h0 (C8 z))) (fk0 _ _ ne)))
   ·rw[rb0];exact `vI
   ·rw[rb0]
    exact `bmq
   ·have:(`bmo).wait=`aA:=`Mr
    rw[`F];exact o
   ·show `Et
    rw[R.am,hd];rfl
   ·refine `bl4 `bmr
    rcases h5 y hy with hy|rfl
    ·exact`bms
    ·rw[R.nm]
     exact X1 (getD_in `n)
 ·by_cases c1:c/2=0∨c/2 > 8∨`Oi
  ·refine `KG (c1.elim `m λz=>`p (`cO `m λz=>`aCP)) ?_
   by_cases z:`Nx
   ·right
    delta lf;rw[`i'];rfl
   ·exact `h5
  ·have U:`Gf:=`E
   have el:lf `b' [] (c/2)=`bmt:=by rw[Tp0 U,`jn,`ft]
   rw[el]
   by_cases c2:`bmt=`l
   ·exact `KG (`l6 c2) (`p c2)
   ·have Y:`Nx:=`E
    have s0:`nH:=by
     apply `Zl
     ·exact z.2
     ·exact `J (h0▸z.1) `t4
    refine `rG (by rcases z with z|z|z|z;exact c1 `w3;exact c1 `Zc;exact c1 `bfM;exact c2 z) (`vK (`cO (λz=>z Y) c2) (.ok ?_));refine R.same (S1:=(`R0 (c/2))) `ax8 rfl rfl rfl rfl rfl rfl rfl rfl rfl R.sum R.am (λz=>`J z (C8 Y.1)) λz=>#[?_,?_,U]
    ·show `Gd=(`aM (c/2 - `o!))
     rw[s0];rfl
    ·show `acl=`Lw
     rw[s0]
def Uo0:∀l:`j,l.isPrefixOf l=`f:=by
 intro z;induction z with
 | nil=>exact rfl
 | cons a l ih=>show (a==a&&l.isPrefixOf l)=`f;rw[ih,`zE];rfl
def Ii0{ns:`dD}{w:`j}(h:lf ns w 0=`f):w∉ns:=(λhw=>by
 delta lf Uh0 at h;apply `rf;have h:=E9 h.2;have:w∈`aEw λn=>`X (`ow=`dA+0)&&w.isPrefixOf n:=k7.mpr #[hw,`b9 Uo0 `oa]
 have:=List.length_pos_of_mem `F;have e:lk 0=1:=rfl;lia)
def em0{S:RS}{b:LB}(G:`bM)(R:`gT){w:`aw}{rest:`ag}(hw:`f6)(hv:`oe)(h0:`nK){c:Nat}(hc:`ok):Sp c b (`GQ c):=by
 skip;let#[k,us,q,lp,U,hu,h1,h2,h3,ne,o,h4,h5,h6,h7]:=Jj0 G R hw hv `qu;have zs:`bml:=`aV
 have hd:=`bmm;have O:`e?=wS w:=`KF
 apply `Z?
 have nl:=`gG;have l8:=G.l8;let#[f1,f2,f3]:=R.lf1 h0;have hs:`YM:=by
  apply `Zl
  ·lia
  ·exact z.1
 obtain⟨j,hj⟩:∃j,`dF=`Ek+j:=#[`aJ4 - 1,`E];have hl:`LP:=`bmu
 let#[b',e]:=Gp0 `Z! `Z9 h2 `n R.nm (`ahl) `n `n f2 (k:=j) (`bmu) c;have el:lf `b' `qu j=`bmv:=by
  rw[Tp0 f3,`W,hj];rfl
 have n1:`Z0:= `_a
 done;refine Ot.sp e ?_ (takes_sign hc n1 hl);delta RS.letter sgn;rw[el];refine .by' K2 `bmn λc0=>.by' #[`ax4,`ax4] (`iO) λz=>.ok ?_
 ·have c1:j=0:=`E
  rw[h4 (told (c60 b `qu 0) `qu) rfl];have nw:¬(`jl/\eqS (K5 `qu) `xx=`f):=λz=>by
   have:=(`t' k lp h2).1 _ (h7 z);apply `aT R.nm;let#[n,hn,e]:=`eZ `F;have e:=W.gs0 e;rw[e] at hn;rw[c1] at el;refine Ii0 ?_ hn;rw[el];cases z:`bmv with
   | true=>rfl
   | false=>exact `J `Ed c0
  rw[`Q nw];refine .ok (Mid.next (`bmp ?_ `gK (`J z (D9 0))) (fk0 S _ ne))
  ·exact R.parts.trans `bmw
  ·exact(`bmq).trans `bmw
  ·show Op (`gg (K5 `qu)).begun (`jL k U) `a7 `xt
   rw[hw];exact o
  ·show `r'++[`aF `qu]=(`b'++[`Lo]).map `aF
   rw[R.nm,`aQ];rfl
  ·show `Et
   rw[R.am,hd];rfl
  ·refine aj0 (ns:=`r') `t' (λx hx=>D5 _ hx) k `bmr
   rcases h5 y hy with hy|rfl
   ·exact D5 _ (`bms)
   ·exact `awe
 ·refine R.same (S1:=(`MI `Lo)) `ax8 rfl rfl rfl rfl rfl rfl rfl rfl rfl R.sum R.am (λz=>`J h0 (`awF (Y3 z))) λz=>#[?_,rfl,f3]
  show `cG=(`aM (`dF - (`z `Lo)));rw[`W,hj];congr 1;show j=`Ek+j - (`Ek);lia
def step{S:RS}{b:LB}(G:`bM)(R:`gT)(hf:`Zk){c:Nat}(hc:`ok):Sp c b (`bmx):=by
 delta RS.takes;cases hw:`cd with
 | nil=>exact#[b,Nj0 hc (`KF)]
 | cons w rest=>
  cases w with
  | root=>exact `bmy G R hw `du hc
  | value=>exact `bmy G R hw `kk hc
  | sign=>exact M50 G R hw hc
  | fin=>rw[hw] at hf;exact `av?
  | name=>
   apply `bmz
   by_cases z:`nK
   ·rw[`eT];exact em0 G R hw `du z hc
   ·rw[`cc];exact d30 G R hw `du `n hc
  | cls=>
   apply `bmz
   by_cases z:`nK
   ·rw[`eT];exact em0 G R hw `kk z hc
   ·rw[`cc];exact d30 G R hw `kk `n hc
omit Jk
namespace Jw
open DL W Bt
open Gw (Vk)
def Ln(s:Str):Prop:=`qp/\∀c∈`EJ,`y9
structure PoolL(n:Nat)(nm:`i):Prop where
 len:`as3=n
 names:∀s∈nm,Ln s
structure Gl(p:Pt)(m:Int):Prop where
 cnt:Bw.cnt p<=20
 few:`beN
 vk:∀v∈`Br,`X?
 nm:∀s∈p.all,Ln s
 tx:∀b∈Bw.tx p,`rB
def J00(N:Int)(n:Nat)(hn:n<=53):∃nm,u90 [`K7,`gl]=`c (`Qn)/\PoolL n nm:=by
 skip;apply `n?
 let#[δ',l1,w,s4,rfl,hw,hm]:=jm0 (f:=gN 4) (G:=NB1) (λi δ=>∃(w:`j) (s4:Sl),δ=(`ax9 `o7 s4)/\`dA=i/\∀x∈w,x∈`El) (uy0 0 8) 0
  (`ax9 (.sh (`ZY)) .un) (by
   rintro j d δ hj ⟨w,s4,rfl,hl,hx⟩;let#[O,rfl]:=S10 hj;have O:j<8:=O;obtain⟨q,hq⟩:∃q:Int,q=N/`ax'%36:=`Y;have jj:0<=`xd/\`xd<=49:=by
    have:j=0∨j=1∨j=2∨j=3∨j=4∨j=5∨j=6∨j=7:=`E
    rcases `F with rfl|rfl|rfl|rfl|rfl|rfl|rfl|rfl<;>decide
   refine#[_,(`ax9 (.sh (`bmA)) `px),rfl,?_,w++[cg q],_,rfl,`auh,λx U=>?_]
   ·refine `og `bmA ?_ rfl
    rw[n6 (x:=`wr) (y:=`e5 [cg q]) rfl (by
     rw[n6 (x:=`xb) (y:=`g q) rfl (by
      rw[n6 (x:=`g (N/`ax')) (y:=`Cj) (by
       rw[n6 (x:=`K7) (y:=`g `ax') rfl (by
        rw[`aq (`g (`xd)) `or (`o (`aq `e3 `e3 rfl) `aum)];rfl)]
       exact Gw.Mc0 _ _ `n) rfl]
      rw[hq];exact Gw.Jt0 _ _ `u)]
     exact `auo)]
    apply `Yd
   ·rcases `d9 U with q'|q'
    ·exact hx x q'
    ·rw[`gs q'];exact `aut) #[[],_,rfl,rfl,λx hx=>by cases hx]
 have hw:`dA=8:=hw;obtain⟨a,ha⟩:∃a:Nat,`ws=N/3%7:=#[(N/3%7).toNat,`E];let#[Y,m1,s7,s8,rfl]:=jm0 (f:=gN 7) (G:=NB2) (λi δ=>∃(s7 s8:Sl),δ=[`kJ,`bS,`LV,`o7,s4,`wJ,`hm (((`bJ i).map `ax!).map `r),s7,s8]) (`JR) 0
  `bmB (by
   rintro j d δ hj ⟨s7,s8,rfl⟩;let#[O,rfl]:=S10 hj;rw[`b?] at O;refine#[_,_,rfl,Ea0 N w hw a `n j `n ((`bJ (0+j)).map `ax!) `qY _ _ _,`px,.sh (`e5 (code N j)),?_];rw[`ft,`auS,`aQ,`aQ,`aQ];rfl) `ax0
 rw[oj0,`b?,`ft] at m1;done;refine#[`adG `ax!,v40 rfl (`og `xb rfl (`og `ZY rfl (m5 (q70 (items:=uy0 0 8) rfl l1) (`og `sd (`ae ha) (`oh `bmB (m5 (q70 (items:=`JR) `bmC m1) `R1)))))),?_,`bmD]
 ·simp
 ·let#[k,hk,rfl]:=`eZ hs
  let#[h1,h2]:=Gk0 N w hw a `n k;refine#[`bbt,`G_];have hc:c∈`tm:=hc;exact(`bmE `El) c (Ff0 N w hm a k c hc)
def ad0{np:Nat}{nm:`i}(hp:PoolL np nm)(i:Int)(h0:`jS)(h1:i<np):ixD (`Qn) `e!=`c (`r (`ax?))/\`ax?∈nm:=by
 have hl:=hp.len;have O:`ix<`as3:=`E
 refine`hL
 ·show atI (nm.map `cs) i=_
  rw[sx0 h0 `pT `x];simp[`bz,O]
 ·rw[show `ax?=nm[i.toNat] by simp[`bz,O]]
  exact O0 O
def Mx0{np:Nat}(hnp:`_b)(P:`aya)(z:Int)(st:Nat)(h1:1<=st)(h2:st<np)(m:Int)(vs:`k)(hl:`fe<=12)(hv:∀v∈vs,`X?):∃ps:`l?,`aS<=12/\(∀p∈ps,Ln p.1)/\`oJ=vs /\
  ∀(s0 s2 s6:Sl),oA `aM9 ns0 [s0,`e_,s2,`DB,`Nb,`Nc,s6]=`c (`Nd):=by
 have z1:`Lh:=`aV
 have Z:=P.len;obtain⟨ix,Y⟩:∃ix:Nat->Nat,ix=λ(j:Nat)=>(`bmF).toNat:=`Y
 have U:∀j,`bmG=`bmF:=λj=>by
  rw[Y];have:=E2 `ahG `bmH;show (`aM (_:Int).toNat)=_;lia
 have O:∀j,ix j<np:=λj=>by
  have:=`KI `ahG np;have:=U j;lia
 refine#[`bmI,by simp;exact hl,`lD,?_,λs0 s2 s6=>?_]
 ·let#[j,hj,rfl]:=`eZ hp
  exact P.names _ (`bmJ).2
 ·rw[`f4]
  refine i6 `a? λi h1 h2=>?_
  have hi:i<`fe:=`RQ
  simp[`bz,hi]
 ·rw[N6 (ds:=[`ru `bmI pr]) (`bk (pc0 (items:=pi0 vs) (by
   show `zo (`c [`gy vs]) Um0=_;rfl) (by delta pi0;rw[`T,`JU];lia) (by
   rw[ll0 (`V1 (`H [`h?,v]) (pr (`O8 (ix `py) "",v))) (λd hd=>by
    delta pi0 at hd;let#[j,hj,rfl]:=`ky;have hj:=`avp;refine`I0 [`px,.sh (`Q3),`e_,`Nb,`Nc] ?_;refine rj0 (`bk (d:=`r (`aJ!)) ?_ (`rA `Q3 rfl)) `ayb;rw[n6 (x:=`w8) (y:=`g `bmG) rfl (by
     rw[U];refine v70 (i:=`aDl) (j:=`po) ?_ ?_ `n
     ·rw[`fS (`g (`aE0)) (`g (`aE1)) (`o (`aq `e3 `abC rfl) `aum)]
      rfl
     ·apply `ayc
      rw[`T,Z])]
    exact(`bmJ).1)]
   delta pi0;rw[`f4,`f4];refine D0 `c (W1 `Aj);show pr (`O8 (ix (`cG).toNat) "",`Q3)=_;rw[`b?];rfl)) rfl)]
  rfl
def Gc0(k:Int)(h0:0<=k)(hk:k<900000)(cs:`aB)(hc:`vh)(sm:`B)(m:Int)(hm:1<=m)(np:Nat)(hnp:`_b)(pool:`i)(P:`aya):`bmK:=by
 skip;have z1:`Lh:=`aV
 have Z:=P.len;let#[z,hz,hn]:=`aIP `n;let#[n,c3,b3]:=Hw0 z sm;have fin:∀(q:Pt) (k':Int),k<=k'->`aJ?->Gl q m->(∀p:`d,∃δ',tg0 `bmL=`c (.rt q.d δ')/\δ'[0]?=`c `bbL)->`bmK:=λq k' a1 a2 a3 a4=>#[q,k',a1,a2,a3,U6 rfl a4]
 have head:∀(p:`d) (G:GSB) (r:`hz),G `ayd=r->(u9 `as'
 (u9 `a?r
 (u9 (Z3 (ifD `XO
 (u6 `XP
 t8)
 t8)) G))) `bmL=r:=λp G r h=>by
  apply `bL (`ni `r9 .un) (`ba') ?_;apply `bL (`ni `r9 `Qv) `ag9 ?_;exact m9 (b3 p _ _ _ _) h
 have c4:∀(s0 s2 s3 s4 s5 s6:Sl) (j:Int),ob `aI_ [s0,`e_,s2,s3,s4,s5,s6]=`ak (z%4=j):=λ_ _ _ _ _ _ j=>`jU
 by_cases q0:z%4=0
 ·let#[l,hl,c1,hw]:=Hg0 `cX `n `n cs hc sm m `kQ `aye `n
  done;refine fin (.text (`r8)) (k+1+1) `n `n #[by show `bao<=20;rw[vb0];lia,`b7,`aug,`bmM,λb hb=>by
   apply `bmN;have hc:c∈l:=hc;have:=(`bmE Bt.signs) c (c1 c hc);lia] λp=>#[(`ni (`a6 (`r5 (k+1+1))) `bS),head p _ _ `b!,rfl]
  rw[`dp c4 `aue];refine b8 (M8 (G50 (d:=`pk) rfl rfl (xy0 (p:=p) (b:=`r4) (ds:=[`ll `aye]) rfl (`bk (by
   show `eg (`ad0)=_;rw[`cP ((`aM `aye)=`ad0)]) rfl) hw)))
 let#[vs,b1,hv,a9]:=Sl0 cs hc sm m hm `kQ (`JR) `cX `n (`_c);have rl:(`z `JR)=n:=`_c
 rw[rl] at b1 a9;have O:`bbb `_d (u9 (ifB `acf Ga `q) (u9 `a?s G) `ayd):=λp Ga G r h=>by
  apply `bL `ayd (`ae (`kw c4 `auf)) ?_;exact `Bg (Ga0 (p:=p) rfl `bmC (`ci rl) a9 3)
 by_cases q1:z%4=1
 ·done;refine fin (`JI) `Np `n `n #[`d7 (`fe<=20),`d7 (`fe<=12),hv,`bmM,λb hb=>by cases hb] (`ayf `_d `b!)
  rw[`dp c4 (`ar q1)];exact `d0
 obtain⟨st,b2⟩:∃st:Nat,`acq=1+`ayg:=#[(1+`ayg).toNat,`d' `bmO];have a5:1<=st/\st<np:=by
  have a1:=`bmO;have a2:=`KI (`Ox) `Oy;lia
 let#[ps,pk,pin,c0,c2]:=Mx0 hnp P z st a5.1 a5.2 m vs `n hv;have U:∀(p:`d) (Ga G:GSB) (r:`hz),G `_e=r->(u9 (ifB `as? Ga `q)
 (u9 `a?t
 (u9 `a?u
 (u9 `a?v G)))) `_d=r:=λp Ga G r h=>by
  apply `bL `_d (`rr c4 q1) ?_;refine `bmP .un `w8 `ex;refine `bmP `Nc `abC ?_
  ·rw[n6 (x:=`eV) (y:=`g (`ayg)) rfl (v70 (i:=`Ox) (j:=`Oy) rfl (by
    rw[n6 (x:=`ayh) (y:=`eV) (by
     apply `ayc;rw[`T,Z]) rfl]
    rfl) `n),b2]
   rfl
  ·exact `Bg (yn0 (c2 _ _ _))
 have a7:∀v∈`oJ,`X?:=λv h=>hv v (c0▸h)
 have Y:(`z `oJ)<=12:=`o `T pk
 have a6:∀s∈`w',Ln s:=λs h=>by
  let#[p,hp,rfl]:=`eZ h;exact pin p hp
 by_cases q2:z%4=2
 ·done;refine fin (`A3) `Np `n `n (`bmQ (λs hs=>a6 s (by simpa [Pt.all,Pt.cls,Pt.pnames] using hs))) (`ayf `_e (U p _ _ _ `b!))
  rw[`dp c4 (`ar q2)];exact `vT (rj0 `FZ `ayb)
 ·have i0:=E2 (`NI) `bmH
  have i1:=`KI (`NI) `po;let#[e1,e2]:=ad0 P (`aiW) i0 i1;done;refine fin (.rcd `bmR ps) `Np `n `n (`bmQ `bmD) (`ayf `_e (U p _ _ _ (`n! `_e (`rr c4 q2) (`JQ))))
  ·rcases `d9 hs with q|q
   ·exact a6 s q
   ·rw[`Jo];exact P.names _ e2
  ·refine rj0 (`bk rfl (`bk (d:=`r `bmR) ?_ `mL)) `bdQ
   rw[n6 (x:=`w8) (y:=`g (`aiW)) rfl (v70 (i:=`NI) (j:=`po) rfl (by
    apply `ayc;rw[`T,Z]) `n)]
   exact e1
def Us0(cs:`aB)(hc:`vh)(sm:`B)(m:Int)(hm:1<=m)(np:Nat)(hnp:`_b)(pool:`i)(P:`aya):∀(items:`k) (k:Int),0<=k->k+14*`c?<900000 ->
  ∃(ps:`c6) (k':Int),`aS=`c?/\(∀p∈ps,Gl p m)/\`acC `atc=`c (`Ka,`FR):=by
 intro z;induction z with
 | nil=>intro k _ _;exact#[[],k,rfl,`aug,rfl]
 | cons d ds iq=>
  intro k h0 hk
  skip;simp only[`an] at hk;let#[p,k1,a1,a2,hp,e]:=Gc0 k h0 `n cs hc sm m hm np hnp `kQ P;let#[ps,k2,hl,O,ih]:=iq k1 `n `n;done;refine#[p::ps,k2,`auh,`uR,?_]
  ·apply `HP
   ·exact hp
   ·exact O x hx
  ·have c:zt0 1 v6 wy0 `ajm=`c (p.d,[`cJ,.ow `bmS]):=`bbd
   delta tb0;apply `bbe;show `bbf `atc `bmS p.d;rw[ih];rfl
def Bp0(ns:`aB)(hl:`ct<=1000)(s:Nat)(hs:s<=1000):∃ps:`c6,1<=`aS/\`avO/\(∀p∈ps,Gl p `bmT)/\u60 `ayi=`so `Ka:=by
 skip;have z1:`wp 5000:=`aV
 obtain⟨f,hf⟩:∃z,yz0 `ayi=`X9:=Gw.Sw0 ns `ad6 `n;obtain⟨cs,a1⟩:∃cs,cs=`bmU++[f]:=`Y;have cne:`vh:=`pD a1
 obtain⟨sm,a3⟩:∃sm:`B,sm=`X (f/8%8=3):=`Y;obtain⟨np,a5,a2⟩:∃np:Nat,(`_b)/\∀δ:Ds,`bmV->o2 `a?z `a?A ixD δ=`c (`ayh):=by
  have ix:∀δ:Ds,`bmV->o2 `aLX `gh f9 δ=`lV (f/5%2):=fun δ h=>v70 (i:=f/5) (j:=2) (`ae (n6 h rfl)) rfl `u
  have:f/5%2=0∨f/5%2=1:=`E
  rcases `F with q|q
  ·exact#[13,`ml,`bmW `ez]
  ·exact#[53,`rT,`bmW `eV]
 let#[pool,O,P]:=J00 (f/11%(`ayj)) np `n;obtain⟨m,Z,a6⟩:∃m:Nat,`jE=(`bmX)/\1<=m/\m<=60:=#[(`bmX).toNat,`bmY,`bmY];let#[ps,k',Y,a4,U]:=Us0 cs cne sm `jE `n np a5 `kQ P (`bmZ) 0 `n (`_c);have rl:(`z `bmZ)=m:=`_c
 rw[rl] at Y;done;refine#[ps,`E,`E,λp hp=>`o Y (a4 p hp),`BI];refine `vo `KJ (yn0 (d:=`g f) (`o (`bw `ayi) hf));refine `cB (`Q4 `bm_) ?_
 ·have e1:o2 `aM! `aM? Z7 `KJ=`c (`mQ):=by
   rw[n6 (x:=`ru `bmU `g) (y:=`s [`g f]) (by
    rw[mm0 (d:=`mR) (l:=`bm0) (h:=`e) rfl rfl rfl];show `YP (cutD `Q' (`bm0) `e);rw[Nk0,`_f]) rfl]
   simp only[Z7];rw[`I (by rw[`T,`jX];apply `sE;lia),a1,`aQ];rfl
  have e2:o2 `aM' `cZ eqD `KJ=`c (`vg):=`ae a3
  have e3:b50 `a?x `KJ=`c `bm_:=by
   delta b50;rw[show qq0 `qG `ce `aLW `KJ=`c [(`my,`ez),(`aLb,`mQ),(`aKB,`vg)] from by
    delta qq0;rw[e1,e2];rfl]
   kernel_rfl
  delta sy0;rw[e3];rfl
 refine `vo (`Q4 (bk4 cs sm (1+f%8))) `ex;refine `cB `bm1 ?_
 ·cases sm with
  | true=>
   rw[Z,`a_,`JS];kernel_rfl
  | false=>
   rw[Z,`d6,`aat];rfl
 refine `cB (`Q4 (bk 0 cs sm `jE `kQ)) `ic
 ·refine vi0 (d:=`w8) (δ1:=`bm1) (K8 ?_) `ex
  rw[N6 (ds:=[`g (f/11%(`ayj)),`ayh]) (`lz (v70 (i:=f/11) (j:=`ayj) rfl `ex `u) (a2 _ rfl))];exact O
 ·exact H40 (Fa0 (d:=`s (`Ka)) (comp_own (k:=0) rfl (ml0 (`rA `LE `ex) `n `n) (`ci rl) U) rfl)
omit Jw
namespace Jk
open DL W Rk Rm StrLaws
open Bw (bs hi sg its two kn cnt tx)
open Km (hb nB nT nW pk lkd ix It Wb)
def Lo(d:D):Prop:=∀s,d=`gf->∀c∈`EJ,`y9
def Byl(l:`aB):Prop:=∀b∈l,`rB
def Byl.app{l m:`aB}(h:Byl l)(k:Byl m):Byl (l++m):=(λb hb=>(`aaR).elim (h b) (k b))
def yd1(n:Nat):Byl (hi n):=by
 induction n using Nat.strongRecOn with
 | ind n ih=>
  by_cases z:n=0
  ·subst z
   rw[Bw.Kx0];apply `ayk
  ·rw[Bw.Dq0 n z]
   refine(ih _ `n).app `eB
   rw[`Ww];lia
def e40(n:Nat):Byl (bs n):=((yd1 _).app λb hb=>by
 rw[`Ww];lia)
def zk1{s:Str}(h:∀c∈`EJ,`y9):Byl (sg s):=(λb hb=>by
 apply `bmN;have:=h c hc;lia)
def yj1{ps:`c6}(ht:∀p∈ps,`bm2){B:`j}{T:`i}{d:D}(hd:`tn)(lo:Lo d):Byl (`x2):=by
 skip;apply `avW
 ·done;show Byl (`Y_)
  split
  ·exact e40 _
  ·exact`bm3 (zk1 (lo s rfl))
 ·done;exact e40 0
 ·done;exact e40 _
 ·done;show Byl (`oo ((`Ne)∈B) (`beY `Ne) (`avR `_g `_g `_g))
  rw[`b?];split
  ·exact e40 _
  ·exact`bm3 (ht _ (Km.fi0 hj).2)
def Jc0{ps:`c6}(hw:`vs)(ht:∀p∈ps,`bm2)(hi:∀p∈ps,∀d∈`no,Lo d):∀(f:Nat) (B:`j) (T:`i) (W:`k),(∀d∈W,`ayl)->Byl (`av2):=by
 intro z;induction z with
 | zero=>intro _ _ _ _;apply `ayk
 | succ f ih=>
  intro B
  intro T
  intro z3;cases z3 with
  | nil=>intro _;apply `ayk
  | cons d W=>
   intro hW
   let#[hd,lo]:=hW d A7;have O:∀d∈W,`ayl:=`Nl hW
   show Byl (`bfg);refine(yj1 ht hd lo).app (ih _ _ _ ?_);skip;apply `avW
   ·done;exact O
   ·done;exact O
   ·done;exact O
   ·done;show ∀d∈(`w ((`Ne)∈B) W (its `_g++W)),`ayl
    rw[`b?];let#[_,w2]:=Km.fi0 hj;split
    ·exact O
    ·intro x hx
     rcases `apb with z|z
     ·exact#[hw.its w2 x z,hi _ w2 x z]
     ·exact O x z
def Ao0{l:`aB}(h:Byl l):zs (`bm4)=l/\∀b∈`bm4,`gi:=by
 refine#[?_,`eB]
 ·delta zs
  rw[`f4]
  conv=>rhs;rw[← List.map_id l]
  refine W1 `eB
  have:=h b hb;show (`aM b.toNat)=b;lia
 ·let#[x,hx,rfl]:=`eZ hb
  have:=h x hx;lia
def Di0{p:Pt}{m:Int}(g:Jw.Gl p m):∀d∈`no,Lo d:=by
 have hv:∀v∈`Br,Lo v:=λv h s e=>by
  have ok:=(g.vk v h).ok;rw[e] at ok;cases ok
 have hn:∀s∈p.all,Lo `o':=λs h t e=>by
  cases e;exact(g.nm s h).2
 have tw:∀qs:`l?,(∀q∈qs,q.1∈p.all/\q.2∈`Br)->∀d∈qs.flatMap two,Lo d:=λqs h d hd=>by
  let#[q,hq,hm]:=`avK;delta two at hm;apply `avL
  ·exact hn _ (h q hq).1
  ·rw[`gs hm]
   exact hv _ (h q hq).2
 cases p with
 | text w=>exact λd hd=>nomatch hd
 | row vs=>exact hv
 | table qs=>exact tw qs `bm5
 | rcd c qs=>
  intro d hd;apply `vr
  ·exact hn c (`awe)
  ·exact tw qs (`bm5) d hd
def G30{ps:`c6}(h1:1<=`aS)(h60:`avO)(h:∀p∈ps,Jw.Gl p `bmT):`KK (`Kd `g3/\mx0 [`o1]=`c (`pa)):=by
 have W:`vs:=#[#[h1,h60],λp hp=>#[(`t!).cnt,λv hv=>(`bm6).1,λs hs=>((`t!).nm s hs).1,(`t!).few],λp hp v hv=>(`bm6).2];let#[p1,p2]:=Km.H20 W;have by':Byl (Km.pak ps 0):=Jc0 W (λp hp=>(`t!).tx) (λp hp=>Di0 (`t!)) 100000 [] [] `av3 λd hd=>by
  rw[`Y?];exact#[`l6 #[0,rfl,h1],λs e=>(by cases e)]
 let#[e1,e2]:=Ao0 by'
 exact#[_,e2,`o `T p2,`o e1 p1]
open Bt (U6 m9 b8 U9 xb0 yi0 M8 K8 Y0)
open Qk (jh0 c00 jv0 n60 p30 ae0 f60 l30 GB1 Xu0 U30 pe0 Ln0 Vd0)
def la0:`k:=`blb
def Byt(d:D):Prop:=∃b:Nat,`gi/\d=`mo
def Aa0{d:D}(h:d∈la0):`bm7:=by
 delta la0 at h;apply `axO;rcases h with rfl|rfl|rfl|rfl|rfl|rfl<;>kernel_rfl
def Hl0{p:`d}{S:RS}{s1:Sl}{d:D}{l:`k}(hd:`bm7)(hc:`Kl)(s2:Sl):
  `F8 (d::l) `DS=`bm8:=by
 have e:`bm9=`c `y':=rfl;have t:orT `awl `Zo `y'=`c (`f,`y'):=by
  delta orT DL.liftT yo0;rw[show ob `ajq `y'=`bu from Y0 (`o (`bw [d]) hd)];rfl
 have g:GB1 `y'=`bm8:=by
  refine `Zp;delta kd0;rw[t,`h];show ug0 _ ow0 _=_;exact `bgX
 show `rs `bm9=_;rw[e,`h,g]
def JB:GS:=u6 (Za0 `biS
 (u6 `awW
 t8)
 t8)
 t8
abbrev no(n:Nat):D:=`H [`Gp,`gl]
def U40{b b2:LB}{d r:D}{s2:Sl}(h:`KD=`c (r,`kR)):zt0 1 `j! xj0 [s0,`Q5,s2,`cJ]=`c (r,[s0,.ow (`kR),s2,`cJ]):=by
 delta zt0;show (`c [d]).bind (λds=>(xj0 `ia ds).map λr=>(r.1,[s0,.ow r.2,s2,`cJ]))=_;rw[`h,h];rfl
def Jn0{b b2:LB}{d:D}(h:`KD=`c (`mq,`kR)):`bm'=`c (.rt (no j)):=by
 refine `B2;delta Za0 v90 xm0;rw[U40 h];show u6 `awW t8 `aym=_;exact `pw (rj0 (ds:=[`Gp,`e3]) rfl `AG)
def zn1{b b2:LB}{d:D}(h:`KD=`Bi `kR):`bm'=`af `aym:=by
 refine `cB `aym rfl;delta Za0 v90 xm0;rw[U40 h];rfl
def So0{d x:D}{δ:Ds}(h1:`anT)(h2:G δ1=`bm!):`bde=`bm!:=by
 apply `au?
 rw[h1];simp only[`h,h2]
def en:Nat->`auU
 | _,[]=>[]
 | j,d::l=>`H [`e3,d]::`ayn
theorem Jh0:∀(l:`k) (j:Nat),en j l=(`bJ `bT).map λ(k:Nat)=>`H [`dg (j+k),`ayo]
 | [],_=>rfl
 | d::l,j=>by
  show `j4 [`e3,d]::`ayn=_;rw[Jh0 l `pW,`an,`apK,`av,`f4];refine D0 _ (`apY);show `j4 [`dg (j+1+k),`ayo]=`H [`dg (j+`cX),`ayo];rw[`bm?]
def It0(l:`k):pi0 l=en 0 l:=by
 rw[Jh0];delta pi0;refine `apY
 rw[`ft]
structure Bo(S:RS)(b:LB)(j:Nat)(l:`k)(E:RS)(b':LB)(t:`B)(k:Nat):Prop where
 gi:Gi E
 ct:`MO=`k2+k
 rd:∀(p:`d) (s1 s2:Sl),∃s2',`F8 l `DS=`ayp (.ok (.nx `bna)) (.ex `e9 `Q9 `bna)
 lw:∀(s0 s2 s3:Sl),∃s2' s3',u50 (gm0 2 3) JB (en j l) `bnb=`ayp (.nx [s0,`bnc,s2',s3']) (.rt (no (j+k)))
 all:`Oz->Rel E b'/\k=`bT
def both:∀(l:`k) {S:RS} {b:LB} (j:Nat),`bM->`gT->`Zk->(∀d∈l,`_h)->`Mt (`k2+`bT)->∃E b' t k,`bnd:=by
 intro z;induction z with
 | nil=>intro S b j G r hf hb hc;exact#[S,b,`f,0,G,rfl,λp s1 s2=>`bc8,λs0 s2 s3=>#[s2,s3,rfl],λ_=>#[r,rfl]]
 | cons d l ih=>
  intro S b j G r hf hb hc
  rw[`an] at hc;rcases hb d A7 with⟨c,hc0,rfl⟩|hod
  ·skip;have hbi:`bla/\`hY<=255:=`E
   have tk:=takes_all G hf c;have st:=step G r hf hc0;cases e:`bmx with
   | none=>
    rw[e] at tk st;have tk:`bne=`jW:=tk;let#[b2,st]:=st;done;exact`bnf (U30 hbi tk `n s2) st
   | some S1=>
    rw[e] at tk st;obtain⟨t1,G1,k1⟩:`bne=`aJy/\Gi S1/\`ahm=`k2:=tk;let#[b2,st,R2]:=st;have N:=G1.next;have wl:=G1.wl;have kc:(`wO).count=`k2+1:=`rC (`ahm+1=_) k1
    let#[E,b',t,k,h1,h2,h3,h4,h5]:=ih `pW N.1 R2 N.2 (`Nl hb) (`ci kc);done;refine#[E,b',t,k+1,h1,`fB h2 kc,λp s1 s2=>?_,λs0 s2 s3=>?_,λz=>#[(h5 z).1,`ae (h5 z).2]]
    ·let#[O,q]:=h3 p s1 (`fx)
     refine#[O,?_];rw[Xu0 hbi t1 `n wl.2.1 s2];exact q
    ·let#[O,U,q]:=h4 s0 (`px) (`fx)
     refine#[O,U,?_];show u50 (gm0 2 3) JB (`H [`e3,`wz]::`ayn) _=_;rw[ju0 (δ1:=[s0,`Q5,`px,`fx]) rfl (zn1 st),q,`bm?]
  ·exact`bnf (Hl0 (Aa0 hod) `n s2) (Pe0 hod)
open DL W Rk Rm
def Uk0(c:Int)(y:Int):∃x:Nat,x<=255/\uq0 [`ov,`g y]=`axC:=by
 skip;obtain⟨es,O⟩:∃es:`aB,es=[y+1,128,129,0,2,3,7,255,y - 1,y+4,y+128,97,32,127]:=`Y;have hl:`ip=14:=`auV
 have e1:O6 `cr `bia [`gd,.sh `y!,.un]=`af `bng:=`auV
 by_cases h:`Gv
 ·obtain⟨j,hj⟩:∃j:Nat,`cG=c/2%14:=#[(c/2%14).toNat,`E]
  have U:j<14:=`E
  obtain⟨z,hz⟩:∃z,es[j]?=`c z:=#[_,C4 `n];done;refine`bnh z `ic;rw[wl0 (by
   refine `ayq;show `bni;rw[`i!])]
  apply `vj;rw[n6 (x:=`g8) (y:=`abg) (by
   rw[n6 (x:=`aKb) (y:=`g (c/2%14)) rfl rfl,← hj];show atI (es.map `bU) `cG=_;rw[`avy,`b?,`bz,`dl,hz];rfl) rfl]
  show `eg (z%256)=_;congr 2;lia
 ·done;refine`bnh (c/2) (`cB `bng `LB)
  ·rw[yu0 (by
    refine `ayq;show `bni;rw[`iT])]
   rfl
  ·show `eg (c/2%256)=_
   congr 2;lia
def Ig0(m:`j)(n:Nat):(zs m).take n=zs (m.take n):=by delta zs;rw[`ayr]
def Hj0(m:`j)(n:Nat):(zs m).drop n=`bnj:=by delta zs;rw[`_f]
def qb0(m:`j):(`z (zs m))=`g3:=(`T _)
def Es0(m:`j)(n:Nat):(`yo).take n=`yn (m.take n):=`xN `ayr Ig0
def Nd0(m:`j)(n:Nat):(`yo).drop n=(`bnj).map `bU:=`xN `_f Hj0
def tkN(a b n:Nat)(h:a<=b):min a n+(n - b)<=n:=by
 rcases `amB n b with q|q
 ·rw[Nat.sub_eq_zero_of_le q];exact `aDL
 ·exact B7 (Nat.add_le_add_right (B7 (`a4P _ _) h) _) (Nat.le_of_eq (Nat.add_sub_cancel' q))
def aq0(m:`j)(a b x:Nat)(h:a<=b):(`z (`_i++`to b))<=`ol/\`bnk+[x].length<=`ol/\(`z `_i)+`bnl<=`ol:=by
 apply `aKk;have q:=`bnm;have r:min a `g3+1+(`g3 - b)<=`ol:=`o Nat.add_right_comm (`bnn q)
 exact#[r,`bnn `amF,r]
def De0(m:`j)(a b:Nat)(h:a<=b):(`z (`xq++`to b))<=`ol/\`bnk+`bnl<=`ol:=by
 simp only[`W,`fN,`jX];have q:=`bnm;exact#[`ays q,`ays q]
def Sb0(m:`j)(hb:∀b∈m,`gi)(hl:`g3<=12000000)(c:Int)(h0:0<=c):∃m':`j,(∀b∈m',`gi)/\m'.length<=`ol/\`bno:=by
 skip;have zz:`Bt:=`aV
 obtain⟨n,hn⟩:∃n:Nat,n=`ol:=`Y;obtain⟨a,ha⟩:∃a:Nat,`ws=c/8%`aW:=#[(c/8%`aW).toNat,`d' (E2 (c/8) (`cP (`aW≠0)))];have a7:a<n:=`d' (`KI (c/8) n)
 have a3:`bnp=`g `ayt:=by rw[`T,qb0]
 obtain⟨y,hy⟩:∃y:Int,(`aKd)[a]?=`gZ:=#[_,C4 (by rw[`W,qb0];simp;lia)];let#[x,hx,ex]:=Uk0 (c/8/`aW) y;obtain⟨L,hL⟩:∃L:D,L=`pa:=`Y;have a1:∀s2 s3 s4:Sl,o2 `tx `bF Z7 `bnq=`YL:=λs2 s3 s4=>by
  rw[`Bp `ayt (`rC (`c `bnp=_) a3)];show `eg (`ayt+1)=_;congr 2;lia
 have e8:∀s2 s3 s4:Sl,o2 `V `mN c7 `bnq=`lV (c/8):=λ_ _ _=>rfl
 have a4:o2 `aNw `aE ixD `bnr=`c `y!:=by
  rw[n6 (x:=`s (`bns `g)) (y:=`sd) (by
   rw[n6 (x:=`pa) (y:=`s (([0]:`aB).map `g)) rfl rfl];rw[`ayu (by rw[`T,qb0];simp;lia),← `aQ]) rfl]
  show atI (`bns `bU) `ws=_;rw[sx0 `n (by rw[`T,`W,qb0];simp;lia) `x,`b?,`bz,`dl,hy];rfl
 obtain⟨kk,a5⟩:∃kk:Int,kk=c%8:=`Y;have st:∀{G:GS} {r:`B6},G `bnt=r->u6 `bib (u6 `bic (u6 (O6 `iQ `FO) G)) `bnu=r:=λ{G r} hG=>by
  refine `vo `bnr (yn0 (d:=`sd) (by rw[`bnv,Gw.Jt0 _ _ `n,ha]));refine m5 (δ':=[`Gh,`gd,`wJ,.sh (`x7),.un]) (yn0 (d:=`x7) (by
   rw[N6 (ds:=[`g (c/8/`aW),`g y]) (`lz (`o `bnv (Gw.Mc0 _ _ `Zj)) a4)];exact ex)) ?_
  refine `og `abO (`ae a5) hG
 obtain⟨δ,hδ⟩:∃δ:Ds,δ=`bnt:=`Y;have g0:gv 0 δ=`c (`pa):=`A5
 have g2:`ahH=`c (`sd):=`A5
 have a6:o2 `aE `bF Z7 δ=`c (`dg (a+1)):=`A5
 have gx:zm0 `j! δ=`KL [x]:=`A5
 have tk:wz0 `am wt0 `RB δ=`KL (`xq):=by rw[Ta.Jp0 g0 g2,Es0]
 have d0:wz0 `am `RB wt0 δ=`KL (`to a):=by rw[Ta.ar0 g0 g2,Nd0]
 have d1:wz0 `am `aMc wt0 δ=`KL (`ayv):=by rw[Ta.ar0 g0 a6,Nd0]
 have Y:∀{g h:GE} {p q:`j},`au=`qo (zs p)->h δ=`qo (zs q)->`aui+q.length<=14000000->o2 g h Z7 δ=`KL (p++q):=λ{g h p q} h1 h2 h3=>by
  rw[`at3,`ayu (`bnw),← `aQ,W20]
 have hm:`ol<=14000000:=`_j hl;have byt:∀p:`j,(∀b∈p,b∈m∨b=x)->∀b∈p,`gi:=λp h b U=>by
  rcases h b U with z|z
  ·exact hb b z
  ·lia
 have O:∀(v:Int) (f:`bx) (t:`B),f `Q6 (`g v)=`awq->ob (`gD `e4 v f) δ=`c t:=λv f t h=>by
  refine `ayq;rw[`aq `abO (`g v) (`A5)];exact h
 have a2:ltD `Q6 (`oz)=`i0 (kk<4):=rfl;have Z:∀v:Int,eqD `Q6 (`g v)=`i0 (kk=v):=λv=>rfl
 have fin:∀{m':`j},kf0 `bnu=`c (.rt `aKc)->`bno:=λ{m'} h=>xo0 rfl h
 have sub:∀{p:`j} (n:Nat),(∀b∈p.take n,b∈p)/\∀b∈p.drop n,b∈p:=λ{p} n=>#[λb h=>f8 h,λb h=>P1 h]
 by_cases h4:kk<4
 ·done;refine#[`_i++`ayv,`ayw,?_,`KM]
  ·apply `ayx
   ·apply `ayy
    ·exact `ayz
    ·exact `bnx
   ·exact `bny
  ·exact(`ayA).1
  ·rw[← hδ]
   refine `B2;rw[wl0 (O 4 ltD `f (by rw[a2,`ar h4]))];exact `pw (`bnz `ayA d1 `ayA)
 ·have f4:∀Ga:GS,ifD `bid Ga t8 δ=`tJ:=λGa=>`ae (yu0 (O 4 ltD `l (`GG a2 h4)))
  have fe:∀(v:Int) (Ga:GS),kk≠v->ifD (ob (`gD `e4 v eqD)) Ga t8 δ=`tJ:=λv Ga h=>`ae (yu0 (O v eqD `l (by rw[Z,`iT])))
  by_cases h5:kk=4
  ·done;refine#[`_i++`to a,`ayw,?_,`KM]
   ·apply `ayx
    ·apply `ayy
     ·exact `ayz
     ·exact `bnx
    ·exact `m ((sub a).2 b z)
   ·exact(`ayB).1
   ·rw[← hδ]
    refine m5 `aED `ic;rw[wl0 (`ayC 4 h5)];exact `pw (`bnz `ayB d0 `ayB)
  ·by_cases h6:kk=5
   ·done;refine#[`xq++`ayv,`ayw,?_,`KM]
    ·apply `ayx
     ·exact `ayz
     ·exact `bny
    ·exact(`bnA).1
    ·rw[← hδ]
     refine `ayD `ic;rw[wl0 (`ayC 5 h6)];exact `pw (Y tk d1 (B7 (`bnA).2 hm))
   ·by_cases h7:kk=6
    ·done;refine#[`xq,byt _ λb U=>`m (`aEC b U),`ays (List.length_take_le' a m),`KM]
     ·rw[← hδ]
      refine `ayD (m5 `bnB `ic);rw[wl0 (`ayC 6 h7)];exact O9 (xa0 tk)
    ·done;refine#[m,hb,E5 _,`KM]
     rw[← hδ];refine `ayD (m5 `bnB (m5 (fe 6 _ h7) `LB));rw[`mc [`pa] g0];rfl
def Sf0{S E:RS}{b b':LB}{k:Nat}{t:`B}(h:`bnd):s40 `bo `pG=`c (`w `Oz (.ok `x `DU) (.ex `e9 `Q9 `DU)):=by
 have sh:∀(p:`d) (O:Sl) (r:RX),`bnC=`bK->(nv0 (Wv0 (dp0 `V) `cr GB1)) `Q7=(match `bK with|`kv=>`bnD|`i7=>`i7|_=>`e):=λp O r e=>by
  delta nv0 Wv0;show (match (`bnC) with|`kv=>`bnD|`i7=>`i7|_=>`e)=_;rw[e]
 cases t with
 | true=>
  refine `bnE
  let#[O,e]:=`bnF;refine `p #[rfl,`ayE,?_,rfl];show qs0 `Q7=_;exact jh0 (δ':=`ayE) (sh p O _ e) rfl
 | false=>
  refine `bnE
  let#[O,e]:=`bnF;refine`q5 `ayE;show qs0 `Q7=_;exact jv0 (sh p O _ e)
def O30(S:RS)(hw:`Yh)(hl:`Yi)(h:∀q∈`cI,`t5):`bnG=`c (.ok `bnH `bo):=by
 refine e50 rfl λp=>`m `bnI
 show pu0 `ee=_;refine jh0 (δ':=`ee) ?_ (c00 ?_)
 ·have t:`bnJ=`c (`l,`ee):=by
   apply `Bf;rw[`YF,hw];rfl
  delta nv0 kd0;rw[t];rfl
 ·delta Ql0
  rw[show K6 `bh' `ee=`c (.rt `bnH `ee) from M8 (Rk.fw0 S hl h p)];rfl
def Gf0(S:RS)(hw:`vm)(hc:`Kl):`bnG=`QL `bo:=by
 refine e50 rfl λp=>`bnI
 show pu0 `ee=_;refine jv0 ?_;have t:`bnJ=`c (`f,`ee):=by
  apply `Bf;rw[`YF,`aR hw];rfl
 delta nv0 kd0;rw[t,`h,`a_];delta ug0;rw[l30 p S [] hc]
def Ra0(n:Int):so0 `e9 (`sI)=`c (`H [`Gp,`ev]):=(Fu0 `ex)
def tld:D:=`H [`aNW,`ez]
def Zb0{G:GZ}{r:`WE}(h:G `bnK=r):ug0 `bh! G `ayF=r:=by
 refine n60 (f60 ?_) h;delta ea0;rw[Fg0];rfl
def aa0{r:RX}{d:DX}(e:mg0 `ayF=`bK)(h:(match `bK with|`AK=>`bnL|`aq_=>`IX|_=>`e)=`aX):`ahI=`aX:=by
 show (`n7 `bnM (match mg0 `ayF with|`AK=>`bnL|`aq_=>`IX|_=>`e))=_;rw[`I (show`bnM from rfl),e];exact h
def Af0{E:RS}{b':LB}{k:Nat}(h:`ad1 `l):`bnN:=by
 refine `ayG `bnO (`Zp);delta eb0;rw[`bnP];rfl
def Wh0{E:RS}{b':LB}{k:Nat}(h:`ayH){G:GZ}{r:`WE}(hG:G `ahJ=r):ug0 `bh? G `bnK=r:=by
 refine n60 (δ':=`ahJ) ?_ hG;delta eb0;rw[`bnP];rfl
def N50{E:RS}{b':LB}{k:Nat}(h:`ayH)(hw:`adT≠[])(hc:`Mt `MO):`bnN:=by
 refine `ayG `bnO (Wh0 h (`Zp));delta Wa0;rw[`M9 pe0 (Gf0 E hw hc)];rfl
def Ds0{E:RS}{b':LB}{k:Nat}(h:`ayH)(hw:`awg)(hl:`bgp<=60)(hq:∀q∈`awh,`t5):`ahI=`kH `bnQ:=by
 refine `ayG (.ok (.rt `bnQ)) (Wh0 h (ae0 ?_));delta Wa0;rw[`M9 pe0 (O30 E hw hl hq)];rfl
def Ne0{x:D}(h:us0 [x]=`c (`aKf)):sr0 [x]=`c (no n):=by
 refine `BI;show `bnR;refine `oh `ayI (`cB `bnS (`cB `bnS (`pw (Ra0 n))))
 ·delta U50 ug0 gt0
  apply `bnT;rfl
 ·apply `ya
  rfl
def Cq0{x d:D}(h:us0 [x]=`a6O):sr0 [x]=`c tld:=by
 refine `BI;show `bnR;refine `oh `ayI (`cB `ayI `ic)
 ·delta U50 ug0 gt0
  apply `bnT;rfl
 ·rw[`JO]
  apply `J2
def Eh0(l:`k):`biR `bnU=`af `ayJ:=by
 apply `dq (((`awY:`eI).Nodup/\(`awY:`eI).length<=15)/\nrQ [`J4,`e,`e,`c `aA',`J4,`j2,`J4,`c (`v9)]=`f) `aaT `ayJ;rw[`I `bj1]
def Ur0{b:LB}{s2 s3:Sl}:ob `biT `bnb=`bk?:=(Y0 (by
 rw[`aq `Ko `aa8 rfl];rfl))
def jdg{E:RS}{b':LB}{t:`B}{k:Nat}(h:`ad1 t):rl0 `pG=`ayp (`w `ayK tld (no `bT)) (no k):=by
 refine `BI;show m10 `bnU=_;refine m5 (Eh0 l) ?_;have hi:jp0 `jq `ayJ=`c (en 0 l):=by
  show `c (pi0 l)=_;rw[It0]
 let#[s2,s3,e]:=h.lw (`k7) .un .un;cases t with
 | false=>
  rw[`lN] at e ⊢;rw[`ft] at e;exact O9 `bnV
 | true=>
  rw[`a_] at e ⊢;refine m5 `bnV ?_
  by_cases w:`ayK
  ·rw[`I w]
   refine `B2;rw[`ma Ur0 (`ar w)];apply `J2
  ·rw[`Q w]
   refine `vn [`k7,`bnc,s2,s3] (`ae (`mb Ur0 (`aR w)));exact rj0 (ds:=[`Gp,`ll `bT]) (`lz rfl (`ae (`bw `pG))) `AG
def same(l:`k)(hb:∀d∈l,`_h)(hc:`bT<=90000000):∃r,(r=tld∨∃n,r=no n)/\sr0 `pG=`bK/\rl0 `pG=`bK:=by
 skip;let#[E,b',t,k,B]:=both l (S:=`k5) (b:=b0) 0 Kb0 No0 `u hb (`d7 (0+`bT<=_));have ct:`MO=k:=by rw[B.ct];show 0+k=k;lia
 have J:=jdg B;cases t with
 | false=>
  have u:=Af0 B;rw[ct] at u;done;exact`bnW
 | true=>
  let#[r,hk]:=B.all rfl;rw[`a_] at J
  by_cases hw:`awg
  ·have we:`ayK:= `b9 r.want hw
   rw[`I we] at J;done;exact#[_,`ml,Cq0 (Ds0 B hw B.gi.few λq hq=>by
    let#[k,hk]:=B00.mp hq;exact Vd0 ((B.gi.end' hw).2 k q hk)),J]
  ·have we:b'.want ≠`fG:= by
    rw[r.want];cases h:`adT with
    | nil=>exact `J h hw
    | cons w ws=>exact(show ∀w,wS w ≠`fG from λw=>by cases w<;>decide +kernel) w
   rw[`Q we] at J;have u:=N50 B hw `n;rw[ct,hk] at u;done;exact`bnW
open Bt (Y0)
abbrev BL(m:`j):D:=`pa
def My0:`dR
 | `g8=>`X (`bnX)
 | _=>`l
def zw1:`cD->`B
 | `c (`v7)=>`bnY
 | _=>`l
def Tz0:∀{l:`k},`aKg=`f->`KK (l=`aA0):=by
 intro z;induction z with
 | nil=>intro _;exact#[[],`bnZ,rfl]
 | cons d l ih=>
  intro h
  rw[`lU,`b5] at h;let#[m,h1,h2]:=ih h.2;cases d with
  | int z=>
   have hz:`bnX:=E9 h.1;refine#[z.toNat::m,`eB,?_]
   ·rcases `awt with rfl|hb
    ·omega
    ·exact h1 b hb
   ·rw[h2]
    show _=`bU `bn_::`yo;rw[show `bn_=z by omega]
  | _=>exact `J h.1 C0
def Cc0{o:`cD}(h:zw1 o=`f):`KK (`bn0/\o=`ayL):=by
 cases o with
 | none=>exact `bn1
 | some d=>
  cases d with
  | lst l=>
   have h:(`bnY)=`f:=h;apply `rf;let#[m,h1,rfl]:=Tz0 h.1;refine#[m,h1,?_,rfl];have:=E9 h.2;rw[`T,qb0] at this;exact `F
  | _=>exact `bn1
def zg1(k:Nat)(h:k=3∨k=5):`KK (`bn0/\sk0 [`hb]=`ayL):=by
 refine Cc0 ?_;rcases h with rfl|rfl<;>kernel_rfl
def b60{m n:`j}(h:`g3+`ow<=100000):mw0 `ad2 (BL n)=`bn2/\Z7 `ad2 (BL n)=`bn2:=by
 have zz:`Bt:=`aV
 have e:`bn3=`yn (m++n):=`xN `aQ W20
 have l:`bn4:=`bnw
 refine`hL
 ·apply `dq `bn4 `gy (`bn3)
  rw[`I l,e]
 ·rw[`ayu l,e]
def Ez0(n:Nat):(`jT n [`bU 23])=`yn (`ayM):=by
 induction n with
 | zero=>rfl
 | succ n ih=>
  rw[`fk,`hK,ih];rfl
def Gl0(c:Int)(h0:0<=c)(t:`j)(ht:∀b∈t,`gi)(tl:`bn5):`KK (`g3<=1000/\na0 [`ov,BL t]=`ayL):=by
 have O:ob `aBV `rH=`ak (c%3=0):=`jU
 by_cases q:c%3=0
 ·obtain⟨n,hn⟩:∃n:Nat,`aW=50+c/3%11:=#[(50+c/3%11).toNat,`E]
  have U:n<=60:=`E
  refine#[`ayM++t,`eB,`fB `W `kh,`Bl]
  ·rcases `aaR with hb|hb
   ·rw[(`xp hb).2];decide
   ·exact ht b hb
  ·show `nF `rH
   rw[`bn6];apply `YU;rw[`aq (BL (`ayM)) (BL t) ?_]
   ·exact(b60 (`ci `kh)).1
   ·rw[`fS (`s [`g 23]) `gl (`ae hn)]
    delta mulL;simp only[];rw[`I #[`bO,`E,`E,by rw[`b?];show 1*n<=_;lia],`b?,Ez0]
 ·skip;obtain⟨k,hk,ek⟩:∃k:Nat,(k=3∨k=5)/\o2 `bij `bik ixD `rH=`axE:=by
   have z:c%3=1∨c%3=2:=`E
   have e:o2 `EA `bF w50 `rH=`lV (c%3 - 1):=rfl;apply `IU
   ·exact#[3,`ml,`ayN `bn7 0]
   ·exact#[5,`rT,`ayN `bn7 1]
  let#[m1,b1,l1,e1]:=zg1 k hk;obtain⟨m2,b2,l2,e2⟩:∃m2:`j,(∀b∈m2,`gi)/\m2.length<=2/\o2 `bil (`Jz `cZ) ixD `rH=`c (BL m2):=by
   have z:c/3%3=0∨c/3%3=1∨c/3%3=2:=`E
   have e:o2 `Mm `cZ f9 `rH=`lV (c/3%3):=rfl;rcases z with z|z|z
   ·exact`ayO `aEE 0
   ·exact`ayO [] 1
   ·exact`ayO [39] 2
  done;refine#[`ayP++m2++t,`eB,`ayQ,v40 rfl (`cB `rH `oi)]
  ·simp only[`axF,`apd] at hb
   rcases hb with ((hb|hb)|hb)|hb
   ·lia
   ·exact b1 b hb
   ·exact b2 b hb
   ·exact ht b hb
  ·show `nF `rH
   rw[`bn8];rfl
  ·rw[`aq (BL (`ayP++m2)) (BL t) ?_]
   ·exact(b60 (`ayQ)).1
   ·rw[n6 (x:=BL (`ayP)) (y:=BL m2) ?_ e2]
    ·exact(b60 (`ayQ)).2
    ·rw[`fS (BL [103]) (BL m1) (`o (`mc [`hb] ek) e1)]
     exact(b60 (`apJ `e8)).2
def TLB:GS:=u6 `biY t8
def P40{a c:Sl}(l:`aB):∀(t:`j) (s3:Sl),`bn9->`ahK+`bT<=100->∃(t':`j) (s3':Sl),(∀b∈t',`gi)/\t'.length<=100/\u50 `eL TLB `ber (`Ev `wa s3)=`af (`Ev (.ow (BL t')) s3'):=by
 induction l with
 | nil=>exact λt s3 hb hl=>#[t,s3,hb,by rw[`jn] at hl;lia,rfl]
 | cons z l ih=>
  intro t s3 hb hl;skip;rw[`an] at hl;have zz:`Bt:=`aV
  let#[x,hx,ex]:=Uk0 (z/5) (z/3%256);let#[t',s3',h1,h2,h3]:=ih `ahL (`e_) (λb O=>by
   rcases `d9 O with O|O
   ·exact hb b O
   ·rw[`gs O];exact hx) (`F_)
  done;refine#[t',s3',h1,h2,?_];rw[`av,ju0 (δ1:=`ayR) (δ2:=`bn') rfl ?_,h3];refine `cB `bn' rfl;have e:oA `aNX uq0 `ayR=`axC:=by
   rw[`bw [`g (z/5),`g (z/3%256)]];exact ex
  delta T8 sg0;rw[`a0 (owL 2 `ayR=`c (`aKj `g)),`h,e,`h,`I (`fB `T qb0)];show `Y! (`Ev (`hm (`bn!)) `e_)=_;rw[show `bn!=`yn `ahL by rw[W20,`aQ];rfl]
def Vy0:∀{l:`k},(∀d∈l,`Aw)->`mH l n=`f:=by
 intro z;induction z with
 | nil=>intro _;exact rfl
 | cons d l ih=>
  intro h
  show (`g? d n&&`mH l n)=`f;rw[h d A7,`Ke];rfl
def ee{x:D}(h:`Vv):m00 x x=`iL:=by
 apply `dq (`Vv/\`Vv) `ds (deq x x);rw[`I #[h,h],jw0 x 50 h]
def eqi(x y:Int):m00 `x1 `y!=`c `aS8:=by
 apply `dq (`IL `x1/\`IL `y!) `ds (`bn?);rw[`I #[`boa,`boa]];have:`bn?=(x==y):=`a2B
 rw[`F];congr 2
def Gq0{d:D}(h:`_h):`g? d 49=`f:=by
 rcases h with⟨b,_,rfl⟩|h
 ·simp[`g?]
 ·delta la0 at h
  apply `axO;rcases h with rfl|rfl|rfl|rfl|rfl|rfl<;>simp[`g?,`mH]
def Bw0{m:`j}(h:∀b∈m,`gi):∀d∈`yo,`Nf:=(λd hd=>by
 let#[z,hz,rfl]:=`ky;delta zs at hz;let#[b,hb,rfl]:=`eZ hz;exact#[b,h b hb,rfl])
def dg0{ns:`aB}(k:Int)(hk:0<=k)(gm:GE)(M:Int)(hM:0<M)(hg:∀δ,gm δ=`c (`g M)):∃c:Int,0<=c/\∀(δ:Ds) (g:GE),gv 0 δ=`c (`mR)->`au=`c (`mF)->o2 (oA (z7 `am `F0) Bt.yz0) gm f9 δ=`ag_:=by
 let#[z,hz]:=Gw.Sw0 ns k hk;have hz:Bt.yz0 `at9=`X9:=hz;refine#[z%M,`bbc,fun δ g h1 h2=>?_];exact `aaM (`o (N6 (ds:=`at9) `bkP) hz) (hg δ) `n
def Wn0{a:D}{c:Int}{t:`j}{s3:Sl}{ys:`k}(hyl:`bob)(hyb:∀d∈ys,`Nf):∃(xs:`k) (s5:Sl),`ax<=`d5+1/\(∀d∈xs,`_h)/\ifD `bi1
   (u6 `bi2
   (u6 `bi3 t8)) t8
   `ayS=`af [`v?,`gd,`wa,s3,`ayT,s5,.un]:=by
 have a1:`Bt:=`aV
 have O:ob `aMl `ayS=`ak (c/2%5=1):=Y0 (by
  rw[`Bp (c/2%5) rfl];exact eqi _ _)
 by_cases q:c/2%5=1
 ·skip;obtain⟨k,ek⟩:∃k:Nat,`cv=`boc:=#[(`boc).toNat,`d' (E2 `_k (`cP ((`Gj+1)≠0)))]
  have hk:k<=`d5:=`d' (`KI `_k (`Gj+1))
  obtain⟨j,ej⟩:∃j:Nat,`cG=c/7%6:=#[(c/7%6).toNat,`E];have hj:j<la0.length:=`d7 (j<6)
  obtain⟨o,ho,eo⟩:∃o:D,o∈la0/\la0[j]?=`aG:=#[_,O0 hj,C4 hj];done;refine#[`ayU,`kU,`bod,`Bs,?_]
  ·rcases `d9 hd with z|z
   ·apply `ayy
    ·exact `m (hyb d (f8 z))
    ·rw[`Jp];exact `p ho
   ·exact `m (hyb d (P1 z))
  ·rw[`bn6]
   have U:oA `xc ys0 `ayS=`c (`g `Gj):=by
    rw[`bw [`wj]];rfl
   refine m5 (δ':=`boe) `ZJ (m5 (δ':=(`Ew (`s (`ayU)) `kU)) `ZJ rfl)
   ·rw[ek]
    exact `aaM (i:=c/10) (j:=`Gj+1) (`ae (`A9 `ov 10)) (`ae (n6 U rfl)) `n
   ·have Z:o2 `aNZ `aN_ ixD `boe=`aG:=by
     refine lu0 (xs:=la0) (i:=j) ?_ ?_ eo
     ·kernel_rfl
     ·rw[ej]
      exact `zp (c/7) 6 (`ae (`A9 `ov 7))
    have Y:`aKl+1<=`R:=`aIT
    rw[n6 (x:=`s (`OB)) (y:=`s (ys.drop k)) (by
     rw[n6 (x:=`s (ys.take k)) (y:=`s [o]) (Ta.Jp0 rfl rfl) (Cn0 (`bk Z rfl) (`d7 (1<=`R)))];apply `dq `bof `gy (`OB);rw[`zM `I `bof Y]) (Ta.ar0 rfl rfl)]
    apply `dq ((`z `OB)+(`z (ys.drop k))<=`R) `gy (`ayU);rw[`I (`bod)]
 ·exact#[ys,.un,`E,λd hd=>`m (hyb d hd),`ae `bn8]
def Kh0(ns:`aB)(hl:`ct<=63):`bog:=by
 skip;have d1:`Bt:=`aV
 let#[ps,h1,a9,a4,O]:=Jw.Bp0 ns (B7 hl `u) 3 `u;have O:Bt.u60 [`mR,`or]=`c (`o1):=O;let#[mp,bp,lp,ep]:=G30 h1 a9 a4;let#[c,hc,ec]:=dg0 (ns:=ns) 0 `u `biW (`at!+39) `u `aKn;let#[c1,c8,a7]:=`boh 1;let#[c2,c3,a5]:=`boh 2;obtain⟨a,ea⟩:∃a:D,a=`mR:=`Y;done;refine `BI;show Rh0 [`Mv,.un,.un,.un,.un,.un,.un]=_;rw[← ea];refine `vo (`ahM .un .un) (yn0 (ec _ _ `boi rfl));refine `oh `boj ?_;skip;obtain⟨t,s3,bt,lt,et⟩:∃(t:`j) (s3:Sl),`bn9/\`bn5/\sh0 `biX `eL TLB `boj=`af (`ahM `wa s3):=by
  skip;obtain⟨i,j,Y⟩:∃i j:Nat,`bok=((`abP).drop i).take j:=`ax0;rw[← `_f,← `ayr] at Y;have d2:(`z `ayV)<=63:=`fB `fN `jX
  let#[t,s3,h1,h2,h3]:=P40 (a:=`v?) (c:=`gd) (`ayV) [] .un `bnZ (`ci `jn);done;refine#[t,s3,h1,h2,q70 (items:=(`ayV).map `g) ?_ h3];rw[ea];show `c (`bok)=_;rw[Y]
 done;refine m5 et ?_;let#[m0,c4,l0,e0]:=Gl0 `_k (Int.ediv_nonneg hc `u) t bt lt;refine m5 (δ':=`ayW) (yn0 (Tw0 (by
  rw[`bw [`g `_k,BL t]];exact e0) (Km.bq0 _))) ?_
 skip;obtain⟨m1,b1,l1,e1⟩:∃m1:`j,(∀b∈m1,`gi)/\`Kd m1.length/\ifD `biZ (u6 (`bi_ Bt.u60) t8) t8 `ayW=`af (`Ex m1):=by
  have a1:ob `aMj `ayW=`bkN:=Y0 (by
   rw[`aq (`g (c%2)) `ez rfl];exact eqi _ _)
  by_cases q:`Gv
  ·refine#[mp,bp,lp,?_]
   rw[`ma a1 (`ar q)];refine m5 (δ':=(`Ex mp)) `ZJ rfl;rw[`mc [`o1] (`d? (`bw [a,`or]) ea O)];exact ep
  ·exact#[m0,c4,B7 l0 `u,`ae (`mb a1 (`aR q))]
 done;refine m5 e1 ?_;let#[m2,b2,l2,e2]:=Sb0 m1 b1 (B7 l1 `u) c1 c8;refine m5 (δ':=(`Ex m2)) (yn0 (by
  rw[`bol [BL m1,`g c1] a7];exact e2)) ?_
 let#[m3,b3,l3,e3]:=Sb0 m2 b2 (B7 l2 (`_j l1)) c2 c3;refine m5 (δ':=(`Ex m3)) (yn0 (by
  rw[`bol [BL m2,`g c2] a5];exact e3)) ?_
 obtain⟨ys,U⟩:∃ys,ys=`bom:=`Y;have a2:`bob:=by
  rw[U,`T,qb0];exact B7 l3 (`_j (B7 l2 (g9 l1)))
 have a6:∀d∈ys,`Nf:=`o U (Bw0 b3)
 show u6 _ _ (`Ew (`s (`bom)) .un)=_;rw[← U];let#[xs,s5,c0,Z,a3]:=Wn0 (a:=a) (c:=c) (t:=t) (s3:=s3) a2 a6;refine m5 a3 ?_;refine `vo [`v?,`gd,`wa,s3,`ayT,s5,`ayT] (yn0 (`ae `ayX));let#[r,hr,ra,rj]:=same xs Z (B7 c0 (`_j a2));have lr:`g? r 50=`f:=by
  rcases hr with rfl|⟨n,rfl⟩
  ·simp[tld,`g?,`mH]
  ·simp[`g?,`mH]
 have lx:`IL `kV:=by
  have:`mH xs 49=`f:=Vy0 λd hd=>Gq0 (Z d hd)
  delta lean;exact `F
 refine `pw (Z30 (x:=`f) (y:=`f) ?_ ?_)
 ·rw[n6 (x:=r) (y:=r) (`o `ayX ra) (`o `ayX rj)]
  exact ee lr
 ·rw[`aq `d2 `d2 rfl]
  exact ee lx
open L2 DL Rk
open Bt (vg0 yz0 tu0 u90 sd0 wh0 t80 vz0 tn0 wr0 se0 up0 tg0 wy0 rd0 u60)
def top(i:Nat):`aO:=PySem.Challenge.pw_graphpack_k29_first_byte_that_fits_no_pa.main.body.getD i `ayY
def b_ValueError:`eu `CR=`c `GW:=`bc
def b_any:`eu "any"=`c `bhZ:=`bc
def b_bool:`eu `An=`c (`bj `An):=`bc
def b_int:`eu `lp=`c `aTj:=`bc
def b_list:`a3z:=`bc
def b_min:`eu "min"=`c `aTh:=`bc
def b_ord:`eu "ord"=`c `aTl:=`bc
def b_str:`eu `kl=`c (`bj `kl):=`bc
def b_tuple:`a'1:=`bc
def b_zip:`eu `ps=`c `IR:=`bc
structure Txt(mg:`a2):Prop where
 b_ValueError:mg `CR=`e
 b_any:mg "any"=`e
 b_bool:mg `An=`e
 b_enumerate:mg `qe=`e
 b_int:mg `lp=`e
 b_isinstance:mg `wV=`e
 b_len:mg `xL=`e
 b_list:mg `g0=`e
 b_min:mg "min"=`e
 b_ord:mg "ord"=`e
 b_range:mg `ye=`e
 b_reversed:mg `s4=`e
 b_str:mg `kl=`e
 b_tuple:mg `eX=`e
 b_zip:mg `ps=`e
 c_BASE:`BO "BASE" `g 128
 c_MOST_NAMES:∃t,mg `bon=`boo
 c_MOST_NAME_SIGNS:`BO `bop `g 8
 c_MOST_PARTS:∃t,mg `boq=`boo
 c_MOST_VALUES:`BO `bor `g 12
 c_MOST_WORD_SIGNS:`BO `bos `g 20
 c_NAME_SIGNS:`BO `bot `r `EE
 c_WORD_SIGNS:`BO `bou `r `FY
def meth(i k:Nat):`aO:=match top i with
 | `bov=>body.getD k `ayY
 | s=>s
def ini(i:Nat):`aO:=match top i with
 | `bov=>body.getD 0 `ayY
 | s=>s
def V80:`ao `hy `hy (o5 `_l):=(`bow)
def Yz0:`ao `hy `hy (o5 `_m):=(`bow)
def fsc{P:`i}(a:`aUr)(b:`aUs)(c:`aUt)(d:`aUu)(e:`S!/\(∀x∈P,`akH)/\∀y∈`TR,`aUv):`ao N P sc:=(#[a,b,c,e.1,d,e.2.1,e.2.2])
def cok(a:`aW0)(b:`any=n+`yF)(c:(∀y∈`ht,`aW1)/\(∀y∈`ht,`aW2)/\(∀y∈`ht,`aW3)/\N'.Nodup/\∀k∈`aW4,`aW5):`u4:=(#[a,c.1,c.2.1,c.2.2.1,c.2.2.2.1,b,c.2.2.2.2])
section
variable{P:`aj}{w:`M}
def k60:`ao tl0 `hB (o5 `ayZ):=(`ah)
def b80(F:`ab `Ra `Ra `ayZ)(T:`ad)  : `kt 1 `hB xt0:=(
 `ay_ ti0 k60 (`aD k60))
def Zs0:`ao n80 `hB (o5 `ay0):=(`ah)
def Nc0(F:`ab `_n `_n `ay0)(T:`ad)  : `c5 1 `hB rz0:=(
 `gU on0 Zs0 (`aD Zs0))
def ex0:`ao b20 `hB (o5 `ay1):=(`ah)
def Te0(F:`ab `_o `_o `ay1)(T:`ad)  : `c5 1 `hB mj0:=(
 `gU bs0 ex0 (`aD ex0))
def d40:`ao c90 `rp (o5 `ay2):=(`ah)
def Ti0(F:`ab `_p `_p `ay2)(T:`ad)  : `c5 1 `rp qf0:=(
 `gU ba0 d40 (`aD d40))
def Xb0:`_q vv0 `_r:=(`ah)
def Yu0(F:`ab `_s `_s `_r)(T:`ad)  : `kt 1 `d8 q10:=(
 okN (k:=0) (G:=gq0) F Xb0 (λcdv A outer s H E hr=>(Z5 (zl0 (`xr (zp0 `box (M9 `box)))
   (Z5 (T4 (J4 j5))
   X7)
   X7)
   (Z5 (T4 (W30 (sc:=o5 `_r) (N:=vv0) (N':=[`adC]) (n:=1) (caps:=[]) `mj `u (J2 (M4 `fC `ay3)) (`vL [`adC]) `KN (`gt `Q!)))
   X7))) `x9)
def bf0:`ao Yd0 `rp (o5 `ay4):=(`ah)
def Q10(F:`ab `_t `_t `ay4)(T:`ad)(C_is_whole:`fT `_p `rp qf0):`c5 2 `rp uf0:=(
 `_u Yj0 bf0 (`aD bf0))
def b30:`ao Zh0 `ahT (o5 `ay5):=(`ah)
def Q30(F:`ab `Rs `Rs `ay5)(T:`ad)  : `c5 1 `ahT q40:=(
 `gU Zj0 b30 (`aD b30))
def f70:`ao eq0 `XW (o5 `ay6):=(`ah)
def Ud0(F:`ab `_v `_v `ay6)(T:`ad)  : `c5 1 `XW ro0:=(
 `gU d70 f70 (`aD f70))
def k00:`ao kw0 `XY (o5 `ay7):=(`ah)
def bc0(F:`ab `_w `_w `ay7)(T:`ad)  : `c5 1 `XY qd0:=(
 `gU kn0 k00 (`aD k00))
def gj0:`ao eu0 `Rr (o5 `ay8):=(`ah)
def V30(F:`ab `Rq `Rq `ay8)(T:`ad)(C_made_pairs:`fT `_x `X1 qa0):`c5 2 `Rr vf0:=(
 `_u ey0 gj0 (`aD gj0))
def ii0:`ao he0 `X1 (o5 `ay9):=(`ah)
def Yx0(F:`ab `_x `_x `ay9)(T:`ad)  : `c5 1 `X1 qa0:=(
 `gU fh0 ii0 (`aD ii0))
def me0:`ao g00 `ahU (o5 `_y):=(`ah)
def Q50(F:`ab `Rt `Rt `_y)(T:`ad)  : `c5 1 `ahU s90:=(
 okD (k:=0) (G:=Zv0) F me0 (λcdv A outer s H E hr=>(Z5 (T9 j6 (u0 3 me0.nd))
   (Z5 (j8 A1 rfl (Z9 `zA (o9 (zs0 `eq (M5 `ii `om)) j5)) (u0 4 me0.nd)
   (Z5 (T9 (N7 `Gm (`R6 (`aN7))) (u0 3 me0.nd))
   X7))
   (Z5 (J0 (t6 Y5 Z0 (`R6 (fn0 (sc:=o5 `_y) (N:=g00) (N':=`boy) (n:=1) (caps:=`A1) `mj `u (S9 `fC) (`vL `boy) (`gt (`boz `eq (S5 (K10 PySem.F.slot_str_startswith PySem.F.type_str_startswith P60 Pd0 Qr0 `fC `om)))) `boA)) `Gm))
   X7)))) `rK)
def Sm0:`ao cw0 [`nj] (o5 `ay'):=(`ah)
def Fq0(F:`ab `_z `_z `ay')(T:`ad)(C_held_items:`Gk `_A `d8 vx0)(C_is_new:`boB)(C_item_bytes:FnN P w K mg `aP `_B 3 `ay! t00):`ec 4 [`nj] (spN K mx0):=(
 okN (k:=3) (G:=ce0) F Sm0 (`aD Sm0) `x9)
def Y10:`ao ol0 `lB (o5 `ay?):=(`ah)
def O00(F:`ab `Q? `Q? `ay?)(T:`ad)  : `c5 1 `lB uo0:=(
 `gU jr0 Y10 (`aD Y10))
def io0:`ao pz0 `ay! (o5 `aza):=(`ah)
def Yw0(F:`ab `_B `_B `aza)(T:`ad)(C_is_new:`boB)(C_known_head:`Rp `_C `lB t40)(C_name_bytes:`azb `_D `JF sn0)(C_number_bytes:`boC)(C_part_number:`fT `_E `d8 ue0)(C_text_bytes:`azb `_F `d8 uz0):`kt 3 `ay! t00:=(
 okN (k:=2) (G:=pn0) F io0 (`aD io0) `x9)
def im0:`ao pv0 `JF (o5 `azc):=(`ah)
def Xg0(F:`ab `_D `_D `azc)(T:`ad)(C_number_bytes:`boC)(C_sign_bytes:`boD):`kt 2 `JF sn0:=(
 `azd o60 im0 (`aD im0))
def Ys0:`ao tp0 `y? (o5 `_G):=(`ah)
def Xh0(F:`ab `Rb `Rb `_G)(T:`ad)  : `kt 1 `y? ww0:=(
 okN (k:=0) (G:=sm0) F Ys0 (λcdv A outer s H E hr=>(Z5 (T4 (W30 (sc:=o5 `_G) (N:=tp0) (N':=[`qj]) (n:=1) (caps:=[]) `mj `u (J1 `fC) (`vL [`qj]) `KN (`gt (`aN6 `aKo))))
   X7)) `x9)
def j60:`_q s60 `aze:=(`ah)
def bx0(F:`ab `_E `_E `aze)(T:`ad)(K_KINDS:`azf):`c5 1 `d8 ue0:=(
 `gU s70 j60 (`aD j60))
def ir0:`_q sv0 `azg:=(`ah)
def Yv0(F:`ab `_F `_F `azg)(T:`ad)(C_sign_bytes:`boD):`kt 2 `d8 uz0:=(
 `azd sp0 ir0 (`aD ir0))
def iq0:`ao o70 `lB (o5 `azh):=(`ah)
def X10(F:`ab `_C `_C `azh)(T:`ad)(C_folded:`fT `_n `hB rz0):`c5 2 `lB t40:=(
 `_u pq0 iq0 (`aD iq0))
def iw0:`_q sw0 `azi:=(`ah)
def X70(F:`ab `_A `_A `azi)(T:`ad)  : `kt 1 `d8 vx0:=(
 `ay_ r00 iw0 (`aD iw0))
def ev0:`ao bh0 `Rn (o5 `azj):=(`ah)
def Td0(F:`ab `Rm `Rm `azj)(T:`ad)(M_Reader:`boE P)(C_Reader_give:`boF P)(C_Reader_web:`boG P):`u7 8 `Rn (spX K us0):=(
 okX (k:=7) (G:=mg0) F ev0 (`aD ev0))
def lr0:`ao sl0 `zb (o5 `azk):=(`ah)
def cn0(F:`ab `Re `Re `azk)(T:`ad)  : `c5 1 `zb yz0:=(
 `gU vg0 lr0 (`aD lr0))
def ho0:`ao ke0 `mV (o5 `azl):=(`ah)
def W00(F:`ab `OF `OF `azl)(T:`ad)  : `rI `mV wh0:=(
 `BP sd0 ho0 (`aD ho0))
def ij0:`ao lc0 `azm (o5 `azn):=(`ah)
def X90(F:`ab `_H `_H `azn)(T:`ad)  : `kt 1 `azm u90:=(
 `ay_ tu0 ij0 (`aD ij0))
def j00:`ao m30 `JB (o5 `azo):=(`ah)
def Z80(F:`ab `_I `_I `azo)(T:`ad)  : `c5 1 `JB vz0:=(
 `gU t80 j00 (`aD j00))
def iy0:`ao py0 `mV (o5 `azp):=(`ah)
def Xc0(F:`ab `_J `_J `azp)(T:`ad)(C__law_next:`azq)(C__law_number:`fT `_I `JB vz0):`vM `mV wr0:=(
 `_K tn0 iy0 (`aD iy0))
def li0:`ao n90 `azr (o5 `_L):=(`ah)
def Uq0(F:`ab `_M `_M `_L)(T:`ad)(C__law_next:`azq):`vM `azr up0:=(
 okB (k:=1) (G:=se0) F li0 (λcdv A outer s H E hr=>(m7 (`BQ b7 2 li0.nd)
   (m7 (T7 (X8 `boH (zq0 (u0 3 li0.nd))))
   (m7 (W8 (X3 (J6 b7 (o9 (fn0 (sc:=o5 `_L) (N:=n90) (N':=`boI) (n:=1) (caps:=[2,3]) `mj `u (Z9 `zA `BR) (`vL `boI) `KN (`gt (M4 `eq (R3 (T3 (U5 `mv (T3 `fC j6)) (N7 `fC `fC)) j6)))) j5))))
   Z6)))) `ha)
def t30:`ao sf0 `mV (`azs):=(`ah)
def Vb0(F:`ab `_N `_N `ad3)(T:`ad)(C__law_next:`azq)(C__law_value:`OE `_J 2 wr0)(C__law_word:`ahQ `_M `azr up0):`BS `mV wy0:=(
 okB (k:=2) (G:=tg0) F t30 (λcdv A outer s H E hr=>(m7 (T7 (X8 `boH (zq0 (u0 1 `za))))
   (m7 (T7 (T9 `Gl `boJ))
   (m7 (T7 (zl0 (N5 (S5 (T6 0 `d4 b7)))
   (Z5 (T9 (M4 (zj0 (o9 `Gl (o9 `Gl `boK))) `Gl) `boJ)
   X7)
   X7))
   (m7 (zf0 `azt
   (m7 (W8 (Bm0 b7 (`ui 0 C__law_word (pab 0 `boK))))
   Z6)
   Z6)
   (m7 (T7 (Ms0 0 0 3 rfl `za (sc:=`azs) (N:=sf0) (N':=`ajx) (n:=1) (caps:=[0]) `mj `u (Z9 `zA `om) `boL (`gt (`ui 1 C__law_value `boM))))
   (m7 (zf0 `azt
   (m7 (`azu (`ajz `aiY) j5)
   Z6)
   Z6)
   (m7 (`BQ (T6 0 `d4 b7) 4 `za)
   (m7 (`BQ (T3 j6 (R3 `aa9 (zs0 `boN j6))) 5 `za)
   (m7 (`BQ (`ajz (o9 (fn0 (sc:=`azs) (N:=sf0) (N':=`boO) (n:=2) (caps:=[1,4,5]) `mj `u (R6 `aN9 `aiY) (`gt (R8 0 1 (`aaE `boO) `u)) `KN (`gt (zh0 (o9 (M4 `Gm (R3 (T3 `ah! (N7 `fC `aiX)) `boP)) `BR)))) j5)) 6 `za)
   (m7 (zf0 `azt
   (m7 (`azu (n8 6) j5)
   Z6)
   Z6)
   (m7 (`azu (M4 `aiX (R3 `aa9 `boN)) (o9 (n8 6) j5))
   Z6)))))))))))) `ha)
def kg0:`ao mh0 `azv (o5 `_O):=(`ah)
def Ta0(F:`ab `_P `_P `_O)(T:`ad)(C__law_cell_at:`boQ)(C__law_names:`Gk `_H `azm u90)(C__law_part:`OE `_N 3 wy0):`c5 4 `azv u60:=(
 okD (k:=3) (G:=rd0) F kg0 (λcdv A outer s H E hr=>(Z5 (T9 (yk0 C__law_cell_at hr `u (o9 `fC `BR)) (u0 2 kg0.nd))
   (Z5 (J3 3 (Pg0 (dd0 b7 j6 (dd0 b7 (T3 (W2 `fC (S8 (T3 `eq j6)) S7) (zj0 `om)) (dd0 b7 (t6 Z8 d8 `azw j6) Fh0)))) kg0.nd)
   (Z5 (X8 (X3 (T3 j6 (R3 `mv j6))) `azx)
   (Z5 (zl0 (S5 (T6 3 `d4 b7))
   (Z5 (X8 (X3 (T3 j6 `azw)) `azx)
   X7)
   X7)
   (Z5 (X8 (X3 (y00 C__law_names hr `u (o9 (R3 `ah! (T3 (y20 j6 j6) j6)) (o9 (M4 (zj0 `boR) `azw) j5)))) `azx)
   (Z5 (Kn0 (Pc0 j7 zo0 `DC `DD (Im0 3 0 rfl (sc:=o5 `_O) (N:=mh0) (N':=`ajx) (n:=1) (caps:=[3]) `mj `u (Z9 `zA (o9 (T6 3 `d4 b7) j5)) `boL (`gt (`ui 1 C__law_part `boM)))))
   X7))))))) `rK)
def hh0:`ao ep0 `ahO (o5 `azy):=(`ah)
def U00(F:`ab `Rf `Rf `azy)(T:`ad)  : `c5 1 `ahO uq0:=(
 `gU ez0 hh0 (`aD hh0))
def g20:`ao eo0 `azz (o5 `azA):=(`ah)
def Uu0(F:`ab `_Q `_Q `azA)(T:`ad)(C__law_byte:`boS):`c5 2 `azz rp0:=(
 `_u kf0 g20 (`aD g20))
def ng0:`ao m70 [`x'] (o5 `azB):=(`ah)
def gw0(F:`ab `_R `_R `azB)(T:`ad)  : `ec 1 [`x'] (spD K sk0):=(
 `gU m90 ng0 (`aD ng0))
def g80:`ao d60 `Zx (o5 `azC):=(`ah)
def Xx0(F:`ab `_S `_S `azC)(T:`ad)(C__law_names_told:`fT `_R [`x'] sk0):`kt 2 `Zx na0:=(
 `azd et0 g80 (`aD g80))
def lw0:`ao kx0 [`lm] (o5 `azD):=(`ah)
def bt0(F:`ab `Rg `Rg `azD)(T:`ad)  : `ec 1 [`lm] (spD K xz0):=(
 `gU ox0 lw0 (`aD lw0))
def ik0:`ao gz0 `mV (o5 `azE):=(`ah)
def Xe0(F:`ab `OH `OH `azE)(T:`ad)  : `rI `mV wi0:=(
 okB (k:=0) (G:=q80) F ik0 (λcdv A outer s H E hr=>(m7 (`azF b7)
   (m7 (Ok0 100000 A1 (W4 `d4 `s_)
   (Th0 0 1 ik0.nd (yq0 `s_ `ay3) (kz0 (gt:=λdp=>`awH) (mr0 0 1 (`_T `boT `t?))
   (ve0 `_U
   (ve0 W10
   ub0))
   ub0) (kz0 (gt:=λdp=>`awI) (mr0 0 1 (z8 Y5 Z0 `t? `t?))
   (ve0 `_U
   (ve0 (kz0 (gt:=λdp=>`awJ) (mr0 0 1 `boT)
   (ve0 `_U
   ub0)
   ub0)
   (ve0 (kz0 (gt:=λdp=>`awK) (mr0 0 1 (`xr (O7 (z8 Y6 Z1 `t? j6) (W7 (z8 Z8 d8 (`R6 `t?) `t?)))))
   (ve0 `_U
   ub0)
   ub0)
   (ve0 W10
   ub0))))
   ub0)
   (m7 (T7 (R4 `s_))
   Z6)))
   Z6))) `ha)
def oa0:`ao nr0 `azG (o5 `azH):=(`ah)
def iz0(F:`ab `_V `_V `azH)(T:`ad)(C__law_after:`azI)(C__law_is_root:`boU):`vM `azG u00:=(
 `_K u30 oa0 (`aD oa0))
def nw0:`_W mt0 `_X:=(`ah)
def X40(F:`ab `_Y `_Y `_X)(T:`ad)(C__law_is_root:`boU)(C__law_value_taken:`ahQ `_V `azG u00):`BS `sZ su0:=(
 okB (k:=2) (G:=t20) F nw0 (λcdv A outer s H E hr=>(m7 (`BQ (T3 (N7 `_Z j6) `aK5) 2 nw0.nd)
   (m7 (zf0 (`_T (z8 Z8 d8 `eq j6) `_Z)
   (m7 `vN
   Z6)
   Z6)
   (m7 (`BQ (t6 Z8 d8 `_Z j6) 3 nw0.nd)
   (m7 (zf0 (z8 Y6 Z1 `eq j6)
   (m7 (zf0 (`_T `boV (m8 (P80 rfl) Cr0 T.b_any b_any (o9 (fn0 (sc:=o5 `_X) (N:=mt0) (N':=`boW) (n:=1) (caps:=[2]) `mj `u (Z9 `zA `aiZ) (`vL `boW) `KN (`gt (yk0 `boX hr `u (o9 (T3 (N7 j6 `eq) `fC) j5)))) j5)))
   (m7 `vN
   Z6)
   Z6)
   (m7 (`azF `mv)
   (m7 `boY
   (m7 `vN
   Z6))))
   Z6)
   (m7 (zf0 (`_T `boV (yk0 `boX hr `u `om))
   (m7 `vN
   Z6)
   Z6)
   (m7 (`azF j6)
   (m7 `boY
   (m7 (W8 (`ui 0 C__law_value_taken (pab 0 `om)))
   Z6))))))))) `ha)
def ih0:`ao gh0 `ahR (o5 `azJ):=(`ah)
def Xd0(F:`ab `Ri `Ri `azJ)(T:`ad)(C__law_after:`azI):`vM `ahR vd0:=(
 okB (k:=1) (G:=q50) F ih0 (λcdv A outer s H E hr=>(T10 0 2 ih0.nd (yq0 `s_ `ay3) (kz0 (gt:=λdp=>`awP) (L70 (z8 Z8 d8 `_Z b7))
   (ve0 (lh0 `d4 y40 Tv0 b7)
   ub0)
   (ve0 (kz0 (gt:=λdp=>`awQ) (mr0 0 2 (z8 o7 `ajB `eq (R0 `d4 `mv b7)))
   (ve0 (G10 `aaF)
   ub0)
   (ve0 (Lj0 (Hq0 `d4 Tv0 b7) `eq)
   ub0))
   ub0))
   (m7 (T7 (X6 (`ui 0 C__law_after `aMn)))
   (m7 `vN
   Z6)))) `ha)
def m60:`ao qt0 `ahP (o5 `__):=(`ah)
def eh0(F:`ab `Rh `Rh `__)(T:`ad)  : `rI `ahP xr0:=(
 okB (k:=0) (G:=qy0) F m60 (λcdv A outer s H E hr=>(m7 (T7 (Pn0 0 3 m60.nd (sc:=o5 `__) (N:=qt0) (N':=`boZ) (n:=1) (caps:=`A1) `mj `u `s_ (`vL `boZ) (`gt (`boz (T3 (M5 `ii `BR) `mv) (z8 Z8 d8 (W2 `fC S7 (S8 (M5 `ii `BR))) `eq))) `boA))
   (m7 (W8 (X3 (zw0 (t6 Y5 Z0 (M6 `ii `s_) j6) (y30 (t6 Y5 Z0 `boP (M4 (zj0 (o9 j6 `boR)) (m8 (Pa0 rfl) Co0 T.b_min b_min (o9 `mv `aiZ))))))))
   Z6))) `ha)
def oe0:`_W nk0 `azK:=(`ah)
def h00(F:`ab `_0 `_0 `azK)(T:`ad)(C__law_left_free:`bo_)(C__law_named:`bo0):`BS `sZ u10:=(
 `_1 va0 oe0 (`aD oe0))
def fb0:`_W d00 `azL:=(`ah)
def Ve0(F:`ab `_2 `_2 `azL)(T:`ad)(C__law_left_free:`bo_)(C__law_named:`bo0):`BS `sZ rn0:=(
 `_1 rq0 fb0 (`aD fb0))
def ig0:`_W f00 `azM:=(`ah)
def X00(F:`ab `_3 `_3 `azM)(T:`ad)(C__law_after:`azI)(C__law_digit:`_4 `_Y 3 su0)(C__law_name_number:`_4 `_0 3 u10)(C__law_sign:`_4 `_2 3 rn0):`ec 4 `sZ (spB K 0 xj0):=(
 `azN ux0 ig0 (`aD ig0))
def jd0:`ao ix0 `BT (o5 `azO):=(`ah)
def Z20(F:`ab `_5 `_5 `azO)(T:`ad)(C__law_takes:`_4 `_3 4 xj0):`c5 5 `BT rl0:=(
 okD (k:=4) (G:=m10) F jd0 (`aD jd0) `rK)
def lp0:`ao ja0 `Rl (o5 `azP):=(`ah)
def ca0(F:`ab `Rk `Rk `azP)(T:`ad)(XT:`bo1)(AT:∀c∈`bo2,`ard):`ec 1 `Rl (spE K so0):=(
 okE (k:=0) (G:=kk0) F lp0 (`aD lp0) (λc n d h=>Ep0 h))
def iu0:`ao gg0 `BT (o5 `azQ):=(`ah)
def Xa0(F:`ab `_6 `_6 `azQ)(T:`ad)(XT:`bo1)(C__law_refusal:`bo3 P)(X_unpacked:`bo4 P):`c5 9 `BT sr0:=(
 okD (k:=8) (G:=o10) F iu0 (`aD iu0) `rK)
def Ou0:`ao I50 [`oY] (o5 `zc):=(`ah)
def Dc0(F:`ab `qw `qw `zc)(T:`ad)(C__law_asked:FnD P w K mg `aP `_6 9 `BT sr0)(C__law_bent:`Rp `_Q `azz rp0)(C__law_byte:`boS)(C__law_cell_at:`boQ)(C__law_judged:FnD P w K mg `aP `_5 5 `BT rl0)(C__law_made:`azb `_S `Zx na0)(C__law_web:FnD P w K mg `aP `_P 4 `azv u60)(C_pack:FnN P w K mg `aP `_z 4 [`nj] mx0):`ec 10 [`oY] `bo5:=(
 okD (k:=9) (G:=Rh0) F Ou0 (`aD Ou0) `rK)
def nu0:`KO m80 `azR:=(`ah)
def f30(F:`ab `eG `bo6 `azR)(T:`ad)(CN_Reader:`fu):`rI `ey uc0:=(
 `BP ma0 nu0 (`aD nu0))
def j90:`ao is0 `Rc (o5 `azS):=(`ah)
def Z70(F:`ab `ahN `bo7 `azS)(T:`ad)(CN_Reader:`fu)(C_Reader_end_parts:`Mw `azT `ey uw0)(C_Reader_takes:`KP `azU 6 yj0)(C_is_byte:`Rp `_t `rp uf0)(I_NoPack:`bo8):`u7 7 `Rc (a90 K 0 s40):=(
 Ac0 (k:=6) (G:=qs0) F j90 `u (λcdv A outer s H E hr=>(jz0 (Sy0 (Hk0 PassesOwn.leaving rfl (S9 `eq) (u0 2 j90.nd)
   (X4 (St0 (PWX.pt (zy0 (zz0 (N5 (S5 (yk0 C_is_byte hr `u `om)))) (K9 (K4 (K1 (S6 0 C_Reader_takes hr `u `om))))))
   (X4 `bo9
   U7)
   U7)
   (X4 (zr0 (Ll0 0 j6 `wm))
   (X4 (zr0 (X6 (W0 0 C_Reader_end_parts hr `u)))
   U7)))))
   Yb0)))
def lx0:`KO j50 `azV:=(`ah)
def cy0(F:`ab `ahS `bo' `azV)(T:`ad)(CN_Reader:`fu):`rI `ey wp0:=(
 `BP ov0 lx0 (`aD lx0))
def X80:`KO l50 `_7:=(`ah)
def X60(F:`ab `nj `bo! `_7)(T:`ad)(CN_Reader:`fu)(C_Reader_whole:`bo?)(C_made_part:`bpa)(I_NoPack:`bo8):`u7 3 `ey (a90 K 0 sq0):=(
 Ac0 (k:=2) (G:=pu0) F X80 `u (λcdv A outer s H E hr=>(jz0 (Sy0 (St0 (K4 (K1 (W0 0 C_Reader_whole hr `u)))
   (X4 `bo9
   U7)
   U7))
   (jz0 (Cv0 (W8 (Kc0 0 `DC `DD (sc:=o5 `_7) (N:=l50) (N':=`d8) (n:=1) (caps:=[]) `mj `u `qH (`vL `d8) (`gt (yk0 C_made_part hr `u (o9 `Q! (o9 `Q! j5)))))))
   Yb0))))
def lq0:`KQ j20 `azW:=(`ah)
def b00(F:`ab `azU `bpb `azW)(T:`ad)(CN_Reader:`fu)(C_Reader_takes_digit:`KP `azX 4 wj0)(C_Reader_takes_letter:`KP `azY 2 we0)(C_Reader_takes_name_number:`KP `azZ 5 xk0)(C_Reader_takes_sign:`KP `az_ 2 vt0)(C_Reader_whole:`bo?):`az0 6 yj0:=(
 okB (k:=5) (G:=th0) F lq0 (`aD lq0) `ha)
def p00:`KQ ps0 `az1:=(`ah)
def kp0(F:`ab `azX `bpc `az1)(T:`ad)(CN_Reader:`fu)(C_Reader_goes_on:`Mw `az2 `XV un0)(C_Reader_takes_head:FnT P w K mg `aP `bd `az3 3 `az4 d9 wm0):`az0 4 wj0:=(
 `azN ua0 p00 (`aD p00))
def m50:`ao l70 `XV (o5 `az5):=(`ah)
def ej0(F:`ab `az2 `bpd `az5)(T:`ad)(CN_Reader:`fu):`rI `XV un0:=(
 `BP qw0 m50 (`aD m50))
def po0:`ao oc0 `az4 (o5 `az6):=(`ah)
def jq0(F:`ab `az3 `bpe `az6)(T:`ad)(CN_Reader:`fu)(K_KINDS:`azf)(C_Reader_hold:`KR)(C_Reader_takes_part:FnT P w K mg `aP `bd `az7 2 `az8 d9 v00)(C_unfolded:`fT `_o `hB mj0):`BS `az4 wm0:=(
 `_1 ul0 po0 (`aD po0))
def o40:`ao o90 `az8 (o5 `az9):=(`ah)
def ji0(F:`ab `az7 `bpf `az9)(T:`ad)(CN_Reader:`fu)(C_Reader_hold:`KR)(C_most_held:`fT `_v `XW ro0)(C_wanted_items:`fT `_w `XY qd0):`vM `az8 v00:=(
 okB (k:=1) (G:=tv0) F o40 (λcdv A outer s H E hr=>(m7 (zf0 (`xr (zp0 (z8 Y6 Z1 `mv (yk0 C_most_held hr `u `BR)) (M9 (z8 Z8 d8 (M6 `ii `qH) (v8 T.c_MOST_PARTS)))))
   (m7 `vN
   Z6)
   Z6)
   (m7 (T7 (X6 (S6 0 C_Reader_hold hr `u (o9 (zh0 (o9 b7 (o9 (M6 `ii `qH) j5))) j5))))
   (Vl0 0 3 `u (Rj0 0 3 o40.nd `eq) (c80 0 3 `qH) (c80 0 3 `qH)
   (m7 (T7 (X6 (J5 `qH b7)))
   (m7 (T7 (X6 (Hd0 `qH (PDF.pd (R5 `Sx `aN8 (yk0 C_wanted_items hr `u (o9 `eq `om)))))))
   (m7 `vN
   Z6))))))) `ha)
def ku0:`ao il0 `Mx (o5 `az'):=(`ah)
def aw0(F:`ab `abv `bpg `az')(T:`ad)(CN_Reader:`fu):`rI `Mx xl0:=(
 `BP m20 ku0 (`aD ku0))
def od0:`KO ni0 `az!:=(`ah)
def h70(F:`ab `azT `bph `az!)(T:`ad)(CN_Reader:`fu):`rI `ey uw0:=(
 `BP q00 od0 (`aD od0))
def o30:`KQ og0 `az?:=(`ah)
def if0(F:`ab `az_ `bpi `az?)(T:`ad)(C_Reader_hold:`KR)(C_sign_of:`bpj):`vM `C1 vt0:=(
 `_K s00 o30 (`aD o30))
def ra0:`KQ rm0 `aAa:=(`ah)
def nl0(F:`ab `azZ `bpk `aAa)(T:`ad)(CN_Reader:`fu)(C_Reader_takes_known_name:FnT P w K mg `aP `bd `aAb 4 `aAc d9 xp0)(C_is_left:`bpl):`az0 5 xk0:=(
 okB (k:=4) (G:=wx0) F ra0 (`aD ra0) `ha)
def ri0:`ao rt0 `aAc (o5 `aAd):=(`ah)
def m40(F:`ab `aAb `bpm `aAd)(T:`ad)(CN_Reader:`fu)(C_Reader_hold:`KR)(C_Reader_names_here:FnT P w K mg `aP `bd `aAe 3 `ey d9 vu0):`ec 4 `aAc (spB K 0 xp0):=(
 `azN v30 ri0 (`aD ri0))
def pt0:`KO ob0 `aAf:=(`ah)
def i10(F:`ab `aAe `bpn `aAf)(T:`ad)(CN_Reader:`fu)(C_made_part:`bpa)(C_pair_names:`Gk `_s `d8 q10):`BS `ey vu0:=(
 `_1 tx0 pt0 (`aD pt0))
def qj0:`KQ p70 `aAg:=(`ah)
def kj0(F:`ab `azY `bpo `aAg)(T:`ad)(CN_Reader:`fu)(C_Reader_hold:`KR)(C_is_left:`bpl)(C_sign_of:`bpj):`vM `C1 we0:=(
 `_K v60 qj0 (`aD qj0))
omit z
theorem us1:∀{us:`bn},`tC=1->∃a,us=[a]
 | [a],_=>#[a,rfl]
def us2{us:`bn}(h:`tC=2):∃a b,us=[a,b]:=by
 cases us with
 | nil=>cases h
 | cons a t=>let#[b,rfl]:=us1 `aAh;exact#[a,b,rfl]
def us3{us:`bn}(h:`tC=3):∃a b c,us=[a,b,c]:=by
 cases us with
 | nil=>cases h
 | cons a t=>let#[b,c,rfl]:=us2 `aAh;exact#[a,b,c,rfl]
def us4{us:`bn}(h:`tC=4):∃a b c d,us=[a,b,c,d]:=by
 cases us with
 | nil=>cases h
 | cons a t=>let#[b,c,d,rfl]:=us3 `aAh;exact#[a,b,c,d,rfl]
def Hm(K:`y)(c:`d)(x q:Str)(st:`aO):Prop:=∃f fd,`aEN/\`bpp/\`Hw/\`zW
def Hd(K:`y)(x:Str)(st:`aO):Prop:=∃f fd,`ad4/\`bpq
def y51{st:`aO}{f:`d}{kV:`A}(a:`bpq)(l:`HC `Ey)(c:`xJ K cdv x=`f)(k:`zW):`aAi:=(#[f,_,f80 l c k,a])
section
variable(P9:`aj)(w9:`M)(b9:`D){h:`D}{st:`aO}{m:`O}(X9:`go)(G9:`zD)(h9:`aAi)
include X9 G9 h9
def cD1(o:`aAj)(hl:`_8)(b:`aAk):`aAl:=by
 apply `on;apply `aAm
def cD2(o:`aAj)(hl:`_9)(b:`aAn):`aAl:=by
 apply `on;apply `aAo
def cD3(o:`aAj)(hl:`aS=3)(b:`bpr):`aAl:=by
 apply `on;exact`bps
def cN1(o:`aAp)(hl:`_8)(b:`aAk):`aAq:=by
 apply `on;apply `aAm
def cN2(o:`aAp)(hl:`_9)(b:`aAn):`aAq:=by
 apply `on;apply `aAo
def cN4(o:`aAp)(hl:`aS=4)(b:∀(kV doc pm:`A) (an:`bp) (cdv ct u v w y:`A),`tq `Ey #[[u,v,w,y],[]]=`bW (`sy [u,v,w,y])):`aAq:=by
 apply `on;exact#[f,fd,o F9,`aDm,`aDn,`O9 (by let#[u,v,w,y,rfl]:=us4 `O';exact b _ _ _ _ _ _ _ _ _ _)]
omit z
section
variable(P9:`aj)(w9:`M)(b9:`D){h:`D}{st:`aO}{m:`aJ}(X9:`go)(G9:`zD)(h9:`aAi)
include X9 G9 h9
def cB1(o:`aAr)(hl:`_8)(b:`aAk):`aAs:=by
 apply `on;apply `aAm
def cB2(o:`aAr)(hl:`_9)(b:`aAn):`aAs:=by
 apply `on;apply `aAo
def cB3(o:`aAr)(hl:`aS=3)(b:`bpr):`aAs:=by
 apply `on;exact`bps
omit z
section
variable(P9:`aj)(w9:`M)(b9:`D){st:`aO}{m:`aJ}{q:Str}{C:`d}{Fl:`i}(aT:`iv)(bT:Uc0 K C Fl=`f)(h9:Hm K C x q st)
include aT bT h9
def cT1(o:`aAt)(hl:`_8)(b:`aEJ `_')(hm:`aAu):`aAv:=by
 apply `aAw;exact`aAx `aK6
def cT2(o:`aAt)(hl:`_9)(b:`aEL `_')(hm:`aAu):`aAv:=by
 apply `aAw;exact`aAx `aK7
def cT3(o:`aAt)(hl:`aS=3)(b:`aKq `_')(hm:`aAu):`aAv:=by
 apply `aAw;exact`aAx `aKr
omit z
def zx1{c:`d}{q:Str}{st:`aO}{f:`d}{kV:`A}(a:`bpp)(l:`HC `_')(d:`xJ K cdv q=`f)(k:`zW)(i:`Hw):Hm K c x q st:=(#[f,_,f80 l d k,a,i,k])
def all_mk{l:`anv}{w:`M}{h:`D}(X:`go)(G:`zD)(hfa:mg `qw=`NX)
  {f46:`d}
  {od46 an46:`bp} {sl46:`j?} {oc46 kV46 dc46 pm46 cd46 ct46:`A}
  {t_BASE t_MOST_NAMES t_MOST_NAME_SIGNS t_MOST_PARTS t_MOST_VALUES t_MOST_WORD_SIGNS t_NAME_SIGNS t_WORD_SIGNS:Tok}
  {cT_Reader:`d} (aT_Reader:`hS `bd (`U `dr)) (bT_Reader:Uc0 K `dr d9=`f)
  (h0:Hd K `Ra `ayZ)
  (h1:Hd K `_n `ay0)
  (h2:Hd K `_o `ay1)
  (h3:Hd K `_p `ay2)
  (h4:Hd K `_s `_r)
  (h5:Hd K `_t `ay4)
  (h6:Hd K `Rs `ay5)
  (h7:Hd K `_v `ay6)
  (h8:Hd K `_w `ay7)
  (h9:Hd K `Rq `ay8)
  (h10:Hd K `_x `ay9)
  (h11:Hd K `Rt `_y)
  (h12:Hd K `_z `ay')
  (h13:Hd K `Q? `ay?)
  (h14:Hd K `_B `aza)
  (h15:Hd K `_D `azc)
  (h16:Hd K `Rb `_G)
  (h17:Hd K `_E `aze)
  (h18:Hd K `_F `azg)
  (h19:Hd K `_C `azh)
  (h20:Hd K `_A `azi)
  (h21:Hd K `Rm `azj)
  (h22:Hd K `Re `azk)
  (h23:Hd K `OF `azl)
  (h24:Hd K `_H `azn)
  (h25:Hd K `_I `azo)
  (h26:Hd K `_J `azp)
  (h27:Hd K `_M `_L)
  (h28:Hd K `_N `ad3)
  (h29:Hd K `_P `_O)
  (h30:Hd K `Rf `azy)
  (h31:Hd K `_Q `azA)
  (h32:Hd K `_R `azB)
  (h33:Hd K `_S `azC)
  (h34:Hd K `Rg `azD)
  (h35:Hd K `OH `azE)
  (h36:Hd K `_V `azH)
  (h37:Hd K `_Y `_X)
  (h38:Hd K `Ri `azJ)
  (h39:Hd K `Rh `__)
  (h40:Hd K `_0 `azK)
  (h41:Hd K `_2 `azL)
  (h42:Hd K `_3 `azM)
  (h43:Hd K `_5 `azO)
  (h44:Hd K `Rk `azP)
  (h45:Hd K `_6 `azQ)
  (a46:`hS `qw `bpt) (l46:`hs f46=`c #[oc46,od46,`wX (`bpu),sl46]) (c46:`xJ K cd46 `qw=`f) (k46:`CF `bpt)
  (h47:Hm K `dr `eG `bo6 `azR)
  (h48:Hm K `dr `ahN `bo7 `azS)
  (h49:Hm K `dr `ahS `bo' `azV)
  (h50:Hm K `dr `nj `bo! `_7)
  (h51:Hm K `dr `azU `bpb `azW)
  (h52:Hm K `dr `azX `bpc `az1)
  (h53:Hm K `dr `az2 `bpd `az5)
  (h54:Hm K `dr `az3 `bpe `az6)
  (h55:Hm K `dr `az7 `bpf `az9)
  (h56:Hm K `dr `abv `bpg `az')
  (h57:Hm K `dr `azT `bph `az!)
  (h58:Hm K `dr `az_ `bpi `az?)
  (h59:Hm K `dr `azZ `bpk `aAa)
  (h60:Hm K `dr `aAb `bpm `aAd)
  (h61:Hm K `dr `aAe `bpn `aAf)
  (h62:Hm K `dr `azY `bpo `aAg)
  (z_ValueError:`f7 `CR)
  (z_any:`f7 "any")
  (z_bool:`f7 `An)
  (z_enumerate:`f7 `qe)
  (z_int:`f7 `lp)
  (z_isinstance:`f7 `wV)
  (z_len:`f7 `xL)
  (z_list:`f7 `g0)
  (z_min:`f7 "min")
  (z_ord:`f7 "ord")
  (z_range:`f7 `ye)
  (z_reversed:`f7 `s4)
  (z_str:`f7 `kl)
  (z_tuple:`f7 `eX)
  (z_zip:`f7 `ps)
  (y_BASE:`hS "BASE" (`g 128 t_BASE))
  (y_MOST_NAMES:`hS `bon (`g 60 t_MOST_NAMES))
  (y_MOST_NAME_SIGNS:`hS `bop (`g 8 t_MOST_NAME_SIGNS))
  (y_MOST_PARTS:`hS `boq (`g 60 t_MOST_PARTS))
  (y_MOST_VALUES:`hS `bor (`g 12 t_MOST_VALUES))
  (y_MOST_WORD_SIGNS:`hS `bos (`g 20 t_MOST_WORD_SIGNS))
  (y_NAME_SIGNS:`hS `bot (`r `EE t_NAME_SIGNS))
  (y_WORD_SIGNS:`hS `bou (`r `FY t_WORD_SIGNS))
  {cI_NoWay fI_NoWay:`d} {odI_NoWay anI_NoWay:`bp} {slI_NoWay:`j?} {ocI_NoWay kVI_NoWay dcI_NoWay pmI_NoWay cdI_NoWay ctI_NoWay:`A}
  (aI_NoWay:`hS `wU (`U cI_NoWay)) (bI_NoWay:`pX K (`U cI_NoWay) `eG=`c (`c `bpv))
  (lI_NoWay:`hs `ahW=`c #[ocI_NoWay,odI_NoWay,`wX (`DH `eG `bpw (wv0 `_l) (xu0 `_l) (o5 `_l) `aY kVI_NoWay dcI_NoWay pmI_NoWay anI_NoWay cdI_NoWay ctI_NoWay),slI_NoWay]) (gI_NoWay:`xJ K cdI_NoWay `bpw=`f) (kI_NoWay:`CF `bpv) (iI_NoWay:`agq K `Rj `wU `ahW=`f)
  {cI_NoPack fI_NoPack:`d} {odI_NoPack anI_NoPack:`bp} {slI_NoPack:`j?} {ocI_NoPack kVI_NoPack dcI_NoPack pmI_NoPack cdI_NoPack ctI_NoPack:`A}
  (aI_NoPack:`hS `e9 (`U cI_NoPack)) (bI_NoPack:`pX K (`U cI_NoPack) `eG=`c (`c `bpx))
  (lI_NoPack:`hs `ahX=`c #[ocI_NoPack,odI_NoPack,`wX (`DH `eG `bpy (wv0 `_m) (xu0 `_m) (o5 `_m) `aY kVI_NoPack dcI_NoPack pmI_NoPack anI_NoPack `bpz ctI_NoPack),slI_NoPack]) (gI_NoPack:`xJ K `bpz `bpy=`f) (kI_NoPack:`CF `bpx) (iI_NoPack:`agq K `Rj `e9 `ahX=`f)
  {kA_KINDS:`d} {kn_KINDS:Nat} {ks_KINDS:`j?} {kt_KINDS_0 kt_KINDS_1 kt_KINDS_2 kt_KINDS_3:Tok}
  (kN_KINDS:`hS "KINDS" (`U kA_KINDS)) (kL_KINDS:`hs kA_KINDS=`c #[`mX,`e,`jy ⟨`r `Lk kt_KINDS_0,`r `LW kt_KINDS_1,`r `LI kt_KINDS_2,`r `Cw kt_KINDS_3⟩ kn_KINDS,ks_KINDS])
  (xt:XC.Ki0 K `Rj `Cd `aKp=`f)
  : ∃fd:`fK,(∀(s:`v) (v:`A),`NZ s fd #[[v],[]] [(`oY,v)])/\∀base:`D,`akE->`PB->`kA `hU w K mg `aP CX0 10 fa fd [`oY] `bo5:=by
 skip;have e:=hfa.symm.trans (C7 X G a46);cases e;have T:`ad:=#[D7 X G z_ValueError,D7 X G z_any,D7 X G z_bool,D7 X G z_enumerate,D7 X G z_int,D7 X G z_isinstance,D7 X G z_len,D7 X G z_list,D7 X G z_min,D7 X G z_ord,D7 X G z_range,D7 X G z_reversed,D7 X G z_str,D7 X G z_tuple,D7 X G z_zip,(`rJ y_BASE),(`rJ y_MOST_NAMES),(`rJ y_MOST_NAME_SIGNS),(`rJ y_MOST_PARTS),(`rJ y_MOST_VALUES),(`rJ y_MOST_WORD_SIGNS),(`rJ y_NAME_SIGNS),(`rJ y_WORD_SIGNS)];have l8:`azf:=#[_,_,_,_,C7 X G kN_KINDS,kL_KINDS,rfl,rfl,rfl,(`DE (4<=`R)),`ai `Y (`ai `Y (`ai `Y (`ai `Y (`_))))];let#[rr,XT]:=XC.tab_of X G xt;let#[p8,r5,p1,q4]:=h21;let#[q9,r6,o1,q3]:=h44;have q8:=f80 (x:= `qw) (st:=`zc) l46 c46 k46;let#[q5,s4,p3,r0,p9,r7]:=h47;let#[r1,r4,p4,q7,q6,q0]:=h48;let#[r3,s3,p6,q1,q2,r2]:=h50;have O:`fu:=Gs0 `v0 `aap;done;refine#[`bpu,λs v=>.of_eq rfl,λbase _ _=>?_];have k0:=f80 (x:= `eG) (st:=ini 16) lI_NoWay gI_NoWay kI_NoWay;have p7:`Ro `hU `wU rr:=Vh0 XT `u iI_NoWay k0 V80 (k0.binds (ps:=`hy) `aAy) `bpA
 have e7:=f80 (x:= `eG) (st:=ini 17) lI_NoPack gI_NoPack kI_NoPack;have g7:`Ro `hU `e9 rr:=Vh0 XT `u iI_NoPack e7 Yz0 (e7.binds (ps:=`hy) `aAy) `bpA
 have AT:∀c∈`bo2,`ard:= λc hc=>by
  apply `aqt;rcases hc with rfl|rfl
  ·exact at_of XT `u iI_NoPack
  ·exact at_of XT `u iI_NoWay
 have a7:=`_! h0 b80;have n4:=`vO h1 Nc0;have m3:=`vO h2 Te0;have m2:=`vO h3 Ti0;have f5:=`_! h4 Yu0;have e6:=`BU h6 Q30;have l3:=`vO h7 Ud0;have e4:=`BU h8 bc0;have f3:=`vO h10 Yx0;have e8:=`bN cD3 h11 (Q50 F T);have f7:=`BU h13 O00;have d1:=`_! h16 Xh0;have e9:=`bN cD1 h17 (bx0 F T l8);have f4:=`_! h20 X70;have a6:=`BU h22 cn0;have a3:=`bN cB1 h23 (W00 F T);have g4:=`bN cN2 h24 (X90 F T);have f0:=`BU h25 Z80;have d3:=`BU h30 U00;have d2:=`vO h32 gw0;have a5:=`vO h34 bt0;have a1:=`bN cB1 h35 (Xe0 F T);have a2:=`bN cB3 h39 (eh0 F T);have e3:`bo3 `hU:=#[q9,_,ca0 o1 T XT AT,C7 X G q3,o1.kp,o1.binds (ps:=`Rl) `_?];have n0:`boE `hU:=#[#[`dr,q5,_,f30 p3 T O,`v0,#[(`aaa).2.2.1,r0,p9,(`aaa).2.2.2],p3.binds (ps:=`ey) `_?,C7 X G `v0]];have a4:=`hT cT1 h49 (cy0 F T O);have e1:=`hT cT2 h53 (ej0 F T O);have U:=`hT cT2 h56 (aw0 F T O);have c8:=`hT cT1 h57 (h70 F T O);have m6:=`bN cD1 h5 (Q10 F T m2);have e0:=`bN cD2 h9 (V30 F T f3);have j2:=`bN cN2 h15 (Xg0 F T a7 d1);have g3:=`bN cN1 h18 (Yv0 F T d1);have g6:=`bN cD2 h19 (X10 F T n4);have g5:=`bN cB1 h26 (Xc0 F T a3 f0);have k9:=`bN cB2 h27 (Uq0 F T a3);have k4:=`bN cD2 h31 (Uu0 F T d3);have l5:=`bN cN2 h33 (Xx0 F T d2);have c2:=`bN cB2 h36 (iz0 F T a1 a5);have c4:=`bN cB2 h38 (Xd0 F T a1);have b3:=`hT cT3 h55 (ji0 F T O U l3 e4);have b2:=`hT cT2 h58 (if0 F T U e6);have a9:=`hT cT2 h62 (kj0 F T O U e8 e6);have f6:=`bN cN4 h14 (Yw0 F T f7 g6 j2 a7 e9 g3);have l0:=`bN cB1 h28 (Vb0 F T a3 g5 k9);have i0:=`bN cB2 h37 (X40 F T a5 c2);have c3:=`bN cB2 h40 (h00 F T a2 c4);have k5:=`bN cB2 h41 (Ve0 F T a2 c4);have i9:`boG `hU:=#[#[`dr,r3,_,X60 p6 T O a4 e0 g7,`v0,(`aaa).1,#[q1,q2,r2],p6.binds (ps:=`ey) `_?,`aV]];have c0:=`hT cT2 h54 (jq0 F T O l8 U b3 m3);have c1:=`hT cT1 h61 (i10 F T O e0 f5);have n7:=`bN cN1 h12 (Fq0 F T f4 f7 f6);have m1:=`bN cD2 h29 (Ta0 F T a6 g4 l0);have j1:=`bN cB2 h42 (X00 F T a1 i0 c3 k5);have b1:=`hT cT2 h52 (kp0 F T O e1 c0);have Z:=`hT cT2 h60 (m40 F T O U c1);have f1:=`bN cD1 h43 (Z20 F T j1);have Y:=`hT cT2 h59 (nl0 F T O Z e8);have e5:=`hT cT2 h51 (b00 F T O b1 a9 Y b2 a4);have f2:`boF `hU:=#[#[`dr,r1,_,Z70 p4 T O c8 e5 m6 g7,`v0,(`aaa).1,#[q7,q6,q0],p4.binds (ps:=`Rc) `aAy,`aV]];have m0:`bo4 `hU:=#[#[p8,_,Td0 p1 T n0 f2 i9,C7 X G q4,p1.kp,p1.binds (ps:=`Rn) `_?]];have k3:=`bN cD1 h45 (Xa0 F T XT e3 m0);exact Dc0 q8 T k3 k4 d3 a6 f1 l5 m1 n7
def Wy0:∀ns:`aB,Rps K H B `Q' `D_:=by
 intro z;induction z with
 | nil=>rw[`pR,`pR,O8]
 | cons n ns ih=>apply `Jt;exact`gM `LT ih
def Pl0{ns:`aB}(hK:`arh)(hS:`ans)(hm:`bog):spD K e70 `eb H `afq `wZ:=by
 refine#[`B3,[`mR],`h2,`a9X,?_,hm,λv H' _ r=>`aDR];rw[W5];refine`H9 _ ?_;rw[w60];exact#[a,`aBy,rfl,script_at hK hS,Wy0 ns]
omit Jk
open PySem.W PyProof.Rows
end
set_option maxRecDepth 100000 in
theorem PySem.Challenge.cw_graphpack_k29_first_byte_that_fits_no_pa_holds : PySem.Challenge.rw_graphpack_k29_first_byte_that_fits_no_pa.Holds := by
 w_on;o_law;k_head;(case hw=>w_witness2)
 k_fill
 refine DL.Lt0 (l:=PySem.Challenge.rw_graphpack_k29_first_byte_that_fits_no_pa) (n:=63) (k:=10) (x := "_law_script") (CX:=L2.CX0) (sp:=λK=>DL.spD K Jk.e70) rfl (by decide) rfl ⟨rfl,by decide,by decide⟩ (λw h Y=>W.kIn_of Y) ?F ?S ?C
 case F =>
  intro w mg fa h KX G hmg;apply Jk.all_mk KX G hmg
  any_goals first|exact Jk.y51 (by k_is) (by k_is) (by k_is) (by k_is)|exact Jk.zx1 (by k_is) (by k_is) (by k_is) (by k_is) (by k_is)|k_is
  all_goals kernel_rfl
 case S=>exact λw H a ns hl hS=>Jk.Pl0 (by kernel_rfl) hS (Jk.Kh0 ns hl)
 case C=>exact λ_ _ _ _ z=>z
#print axioms PySem.Challenge.cw_graphpack_k29_first_byte_that_fits_no_pa_holds
