import PyProof.Rows.All
import Wide.All
import OpenK.AllK
import Wide.FinOn
import Lean
import PyProof.EqAt
import PyProof.EqKinds
import PyProof.TupleCall
import PyProof.NeKinds
import PyProof.Rows.SetFrom
import KE.KRevIter
import PyProof.ZipIter
import PyProof.TupleOfGen
import PyProof.Rows.ZipGen
import PyProof.EnumMake
import PyProof.EnumFor
import PyProof.ListRange
import PyProof.LayNew
import KE.KDictOf
import KE.KIntText
import KE.IntTextLaws
import PyProof.StrCalls2
import PyProof.Rows.StrNews2
import PyProof.StrLawsTight
import PyProof.ExcArgsOwn
import PyProof.ExcAttrAll.ValueError
import PyProof.IsInstanceT
import PyProof.RulesAs
import PyProof.Rows.Tup
import OpenK.KOwn
import PyProof.ExcInit
import OpenK.KCls
import OpenK.KMake
import PyProof.InstStoreFacts
import PyProof.FactsAll.object
import PyProof.IsiStr
import KE.KIsAll
import PyProof.ListMulRight
import PyProof.AttrMissHeap
import PyProof.RaisesMany
import PyProof.RulesTry
import PyProof.NsDelKeeps
import PyProof.Rows.FStr
import OpenK.KWalk
import PyProof.AutoListH
import PyProof.CallFns
import PyProof.Rows.SortStr
import KE.KDictSum
import PyProof.Draws
import PyProof.Rows.CallKwBuiltin
import PyProof.SumWalkG
import KE.KDictLaws
import PyProof.DictTruth
import PyProof.Rows.SortShellK
import PyProof.Rows.SortWalk
import KE.KDictList
import PyProof.SliceList
import PySem.Challenge.RW_graphpack_k33_parts_open
set_option maxHeartbeats 0
set_option compiler.extract_closed false
theorem cQ{P:Prop}(h:∀G:Prop,(P->G)->G):P:=h P id
theorem Ao0(h:True:=by rfl):True:=h
def Aa:=Ao0._auto_1
theorem Ao1(h:True:=by decide):True:=h
def Ab:=Ao1._auto_1
theorem Ao2(h:True:=by intro _;rfl):True:=h
def Ac:=Ao2._auto_1
theorem Ao3(h:True:=by first|exact .inl rfl|exact .inr rfl|assumption):True:=h
def Ad:=Ao3._auto_1
theorem Ao4(h:True:=by first|exact Or.inl rfl|exact Or.inr (Or.inl rfl)|exact Or.inr (Or.inr rfl)):True:=h
def Ae:=Ao4._auto_1
theorem Ao5(h:True:=by first|exact Or.inl rfl|exact Or.inr rfl):True:=h
def Af:=Ao5._auto_1
theorem Ao6(h:True:=by exact λ_ _=>rfl):True:=h
def Ag:=Ao6._auto_1
theorem Ao7(h:True:=by first|exact oi0 _|with_unfolding_all rfl):True:=h
def Ah:=Ao7._auto_1
theorem Ao8(h:True:=by first|rfl|(subst_vars;rfl)):True:=h
def Ai:=Ao8._auto_1
theorem Ao9(h:True:=by first|exact nobehind _ (by decide) (by decide)|rfl):True:=h
def Aj:=Ao9._auto_1
theorem Ao10(h:True:=by with_unfolding_all rfl):True:=h
def Ak:=Ao10._auto_1
theorem Ao11(h:True:=by first|rfl|with_unfolding_all rfl):True:=h
def Al:=Ao11._auto_1
theorem Ao12(h:True:=by exact λz=>nomatch z):True:=h
def Am:=Ao12._auto_1
theorem Ao13(h:True:=by intros;with_unfolding_all rfl):True:=h
def An:=Ao13._auto_1
set_option bootstrap.genMatcherCode false
set_option genSizeOf false
set_option compiler.postponeCompile true
set_option compiler.extract_closed false
set_option linter.all false
set_option tactic.hygienic false
set_option linter.all false
open Lean in
def xi(s:List Char):Nat:=match s.map λc=>"abcdefghijklmnopqrstuvwxyzABCDEFGHIJKLMNOPQRSTUVWXYZ_0123456789'!?".toList.idxOf c with
|[a]=>a
|[a,b]=>53+a*66+b
|[a,b,c]=>3551+(a*66+b)*66+c
|_=>0
open Lean in
def xr:Nat→Syntax→Syntax
|0,s=>s
|n+1,s=>if s.getKind==``Lean.Parser.Term.anonymousCtor then .node .none ``Lean.Parser.Tactic.rcasesPat.tuple (List.toArray [mkAtom "⟨",mkNullNode (s[1].getArgs.map λx=>if x.isAtom then x else .node .none ``Lean.Parser.Tactic.rcasesPatLo (List.toArray [.node .none ``Lean.Parser.Tactic.rcasesPatMed (List.toArray [mkNullNode (List.toArray [xr n x])]),mkNullNode])),mkAtom "⟩"]) else
 if s.getKind==``Lean.Parser.Term.hole then .node .none ``Lean.Parser.Tactic.rcasesPat.ignore (List.toArray [mkAtom "_"]) else .node .none ``Lean.Parser.Tactic.rcasesPat.one (List.toArray [s])
open Lean in
def xp(t:Array Syntax)(o:Syntax):Nat→Syntax→Syntax
|0,s=>s
|n+1,s=>s.rewriteBottomUp λs=>match s with
 |.node _ k a=>if k==``Lean.Parser.Command.open&&s[1][0][0].getId==`T then o else if k==``Lean.Parser.Tactic.skip then (xp t o n (t.getD 0 s))[1][1][0][0][0] else if k==``Lean.Parser.Tactic.done then (xp t o n (t.getD 1 s))[1][1][0][0][0] else
  if k==``Lean.Parser.Tactic.apply&&s[1].getKind==``Lean.Parser.Term.paren&&s[1][1].getKind==``Lean.Parser.Term.byTactic then s[1][1][1][0][0][0] else if k==``Lean.Parser.Term.quotedName then xp t o n (t.getD (xi s[0][0].getAtomVal.toList.tail) s) else
  if k==`«term#[_,]» then .node .none ``Lean.Parser.Term.anonymousCtor (a.setIfInBounds 0 (mkAtom "⟨")|>.setIfInBounds 2 (mkAtom "⟩")) else
  if k==``Lean.Parser.Term.anonymousCtor then .node .none `«term#[_,]» (a.setIfInBounds 0 (mkAtom "#[")|>.setIfInBounds 2 (mkAtom "]")) else
  if k==``Lean.Parser.Tactic.tacticLet__ then let p:=s[2][0];if p[0].getKind==``Lean.Parser.Term.anonymousCtor then .node .none ``Lean.Parser.Tactic.obtain (List.toArray [mkAtom "obtain",mkNullNode (List.toArray [.node .none ``Lean.Parser.Tactic.rcasesPatMed (List.toArray [mkNullNode (List.toArray [xr 99 p[0]])])]),mkNullNode,mkNullNode (List.toArray [mkAtom ":=",mkNullNode (List.toArray [p[4]])])]) else .node .none k a else
  if k==``Lean.Parser.Command.declaration then let d:=s[1];.node .none k (if d.getKind==``Lean.Parser.Command.definition then if d[3][1].getKind==``Lean.Parser.Term.byTactic then a.setIfInBounds 1 (.node .none ``Lean.Parser.Command.theorem (List.toArray [mkAtom "theorem",d[1],.node .none ``Lean.Parser.Command.declSig (List.toArray [d[2][0],d[2][1][0]]),d[3]])) else a.modify 0 λm=>m.setArg 4 (mkNullNode (List.toArray [.node .none ``Lean.Parser.Command.noncomputable (List.toArray [mkAtom "noncomputable"])])) else a) else .node .none k a
 |.atom _ v=>.atom .none v
 |.ident _ r v p=>.ident .none r v p
 |s=>s
def xw(s:List Char):Nat:=s.foldl (λn c=>n*66+"abcdefghijklmnopqrstuvwxyzABCDEFGHIJKLMNOPQRSTUVWXYZ_0123456789'!?".toList.idxOf c) 0
open Lean in
local macro_rules
|`(command|mutual $cs* end)=>do
 let l:=(cs.getD 0 default).raw[1]
 if l[1][0].getId != `T then Lean.Macro.throwUnsupported
 let t:=l[3][1][1].getSepArgs
 let o←`(command|set_option tactic.hygienic true)
 let z:=((cs.getD 1 default).raw[1][3][1].isStrLit?.getD "").toList
 let e←(List.range (z.length/11)).mapM λi=>`(command|noncomputable def $(mkIdent (.str `PySem.W.Fast s!"tw{xw ((z.drop (11*i)).take 11)}")):ident:=0)
 return mkNullNode (((cs.drop 2).map λc=>let c:=xp t o.raw 99 c.raw
  if c.getKind==``Lean.Parser.Command.universe then .node .none ``Lean.Parser.Command.end (List.toArray [mkAtom "end",if c[1][0].getId==`zz then mkNullNode else mkNullNode (List.toArray [c[1][0],mkNullNode])]) else c)++(e.map (·.raw)).toArray)
mutual
def T:=[(by refine cQ λGQ kQ=>?_),(by refine kQ ?_),some,true,none,.int,Addr,`af Str,`af Nat,(`H),pins,`af D,base,Option.bind_some,.lst,.inl,.inr,false,(`an),.str,wpAny,autoParam,.tup,.non,Shared,decide,X.env,W.Frag,.ref,nilB,this,Inv X `k σ H s,"Reader",by lia,absurd,Value,List.length_map,.nil,Expr,`af V,List.length_append,`af Int,`l->`du,if_pos,sizeLine,FnOk,(by rw[e2] at e1),B₀,Heap,World,s.heap.objs.size,List.length_cons,List.map_cons,Bool,(gv 1),#[_,rfl],H₀,cons_of,List,(gv 0),`af `J,.cons,l.prog,FnScope,D->`l->`aoE,Txt mg,by decide,fsc rfl rfl rfl rfl `gJ,if_neg,(`xe `a? X.w),(gv 2),D.int,0,`c o,pool,Program,g δ,d::ds,(z8 1),ps.length,(`a6),(`xe `kM w),(gc (`c_)),strOf,`J->`eU,xs.length,(z8 0),`af (`aky),.none,s.heap,X.xe,`af `g,`af α,D.bl,Option,by decide +kernel,l.length,B.length,D->Ds->`aP Ds,(`cN::δ),List.append_assoc,`xb `J,(gc `HJ),S.un.length,`v (`ak6) Ab,(by let#[B,b1,b2,env]:=en.ex),.Call,List.replicate,as.zip sos,`cG H H',List.map_append,D->`x',by simp,`c d,(gN 0),(z8 2),[`ed],`af `bM,X.prog,`f i,Rps K H B ds xs,List.append_nil,decide_eq_true,Env K H B σ δ,mainGlobals,eval,rest,(`jl),δ.set,(ha B δ),`aP Int,A5.mp,`af `M,Ds->`du,.sh `H',Stmt,`c u,items,its.toArray,s.toks,`c `r,List.range,Paired,0,Bool.and_eq_true,`R rfl,(by intro pins s σ H Q I h),(by intros;rfl),.type,Vals,`t _,(R S),(by rw[e3] at e1),`af (`zC),Str->`mg,.bl _,(gN 2),Want,List.getElem?_map,List.getD_eq_getElem?_getD,ds.length,W.nsIn,A.in1,.sh `ud,List.map_map,`o _,(·.1),False,`t x,List.size_toArray,caps,items.length,S.un,S.names,`af Pt,pure,decide_eq_false,.seq,`c v,I.hok,(j:Int),D.tup,.sh `jI,.fin,(by rw[e1,e2] at h),PD X a ga,[`ed, `p2],X.mg,K.lookup,`C a,r.length,vs.length,cpos,`w ds,.dct,Rp K H B d v,δ[i]?,(by let#[t,rfl]:=rx),`f _,.func,(by rw[e2,`n] at e1),(λb ds r b' h=>Q7 h),.Name,W.keepIn,(n:Int),B7 _,ga δ,`o ds,`t s,(ix L),Scope,(by let#[t',rfl]:=ry),PD X e g,ObjOk,W.findIn,outer,scope,Same,gA δ,(`Tj),`cY K `ad `V H σ δ,Around,dpN i δ,by kernel_rfl,.ow `aqY,
String,(T5 I q `aB),`R h,(`ax).bind,(by refine Z6 ?_),.builtin,C0.mp,`o xs,W.fnOf,r.mono,EnvS,(gv 3),`f 1,PD X b gb,[`zv],Nat->Nat,RunsA,RelV,`bD `d4,H b=`e,starEach,`c `e,W.codeIn,(`F5 H),flat,(gc (`tp)),nm.length,setN,(z8 3),`bE xs us,x=`ce,D->`aa,`ap e,List.zip_cons_cons,`dB=`tT,(λds d h=>J5 h),`c x,SubO,`aP V,s.heap.get?,0,.bl b,.Attribute,(`fL),List.length_singleton,.bl `d,`aP D,`c (.nx δ'),gx δ,A4.mp,if_false,(z7 `ar v5),(m5 0),S.wait,S.begun.length,held,Int.toNat_natCast,(`hD),Nat.zero_add,cT_Reader,`ap h,_::_,(`cL).bind,aT_Reader,A9.mp,W.isFn,gb δ,H p=`e,X.calm=`d,(k:Int),List.length_take,pre.length,(z7 `ab v5),w.length,.sh `qj,(`cx),T.b_len,Gr H H' B B',(by simp only[`n] at h),`R e,(Z1 (Z5 zl0)),(`C `dH),"tuple","list",X.base,`c c,(`ce),I.kIn,compareOp,(i+1),gt δ,(`a2),(λz=>nomatch z),`af O4,List.mem_singleton.mp,"self",.value,(z9 `az u5),meth,`af `bq,`v (∀x,foldedSetIterable `jm `A x=`b3 x) Ac,`v (`Sj=`o1::`r') Aa,`v (`pq) Aa,`ec z,Wb ps,ClsN K `G p6,(`Ez),`c y,A8 e,name,s₁,.sh d,l.map,q.to,`c r,(`pa),(gv 4),"_law_book",(gc (`pW)),Nat×`l,.sh (`H?),S.begun,Runs,s∈`av,Q.length,(z9 `a9 u5),us.length,False.elim,X.N.Nodup,List.reverse_cons,CoeFun,(by simp only[`n] at e1),`v (`TC=`o1::`hd) Aa,(by unfold lean at le),Option.map,[`cN],Wf ps `av,(`Yj).1,`y->Prop,`w xs,I.len,(·.2),ns.length,value,apos,ys.length,i.toNat,call,(`ak5),(`amv),`c `d,`c k,`t c,NodeOk,`p z,lean,(`anJ),flats,`f `b8,(gN 3),B9.mpr,`bd h,its p,kn p,(N:Int),qs.map,(n+1),[`ez],(W6 (Z9 0) `j!),`aP `g,`b4 h,HOk P w H h,`v (`ak8) Ab,`c4 y u,2 ^ 62,(by intro pins s σ H x y v u Q I rx ry h),`v (`amj) Aa,hbase,hline,RpW K H B ns a as sos,(hb B δ),hidx,Ok S,C4 _ rfl,.own,bootBuiltins,X.env.locals,`c4 v u,.bool,(`ba),I.tok _,`f j,(`sf),attributeBase,(k+1),`C p,qual,CallR,items.size,[`ce],en.same,`fQ s1,(X6 hp),closed,at'.sl,(by unfold closed),`f z,`f 0,(gN 4),D.str,S.length,D.lst,`b4 `j,j∈B,(lkv π),j<`aA,(`hG::r),(z8 4),`af Env,PE X e te,List.replicate_succ,List.lookup_cons,Ds->`sA,
(by let#[v,e,r]:=h),`v (`Th) Ae,`v (`k5) Aa,`R `j,inst S,(by rw[`qt];rfl),`bD `d3,(`mk),h.objs.size,I.loc,backTo,body,I.list,s1.heap.objs.size,`c4 x u,Room,(`EU),scope.names,if_true,ks.length,RpNs,`gt K H B as ds xs,as.length,es.length,Option.map_some,(`pL),`af (Key×V),(`VY),(`cM),(0:Int),.sh (`iz),Option.bind,.sh (`hv),`dx hd,made,`f `sm,(`aQ),[`zw],(by exact cok rfl rfl `gJ),`af (`EB),λb hb=>?_,CmpOp,by simp at h,A.handled=`e,`v ((`Sk).any `bV=`r) Aa,V->`mw,Ds->`FO,by rw[m9],h.nd,(by rw[e4] at e1),Nat.sub_self,(V6 (Y4 `HZ)),`af Key,.ins,h'.get?,H' b,k _ _ `gg e,`EK=`au,swapsWith,`b3 `r,assign,"zip",s.heap.push,List.getElem?_append_left,its.toArray.size,0<=i,codeAny,e.all,λa z=>?_,List.getElem?_eq_getElem,`c7 [] `A,keys,EnvV.mk',`t a,k.toNat,opened,CloseOk,w90 `cl,ns[k]?,vs.map,(gc (`HK)),someO,(gv 5),`t `zq,`t `tu,"web","length",S.wait.length,`f `nl,s.cps.toList,(`ay),`b0=k::u,((128+r%128:Nat):Int),T.length,(`am!),`I_ j `I0,B++[j],List.cons_append,List.nil_append,lh p T P Q,(M6 hr),FuncData,`aG<=`S,I.free,`I (show `xC from hs) B5,hfew,`ap hb,`ax=`a7,PID X tg `jm gi,∀cl s H ex,PGD `pc tg idx f,`v (`dQ) Aa,k::ks,`c `y',(by have J:=`Hl),(by exact `bi8),Pk ps B T ds B' T' b,λ_ _ _ _ _ _ us hl=>by let#[_,_,rfl]:=us2 hl;rfl,.ret,`kN a,`c `rY,.frz,X.fs,X.stack,Hp->Prop,pos.line,I.tuple,.Subscript,`bg o `A,.Assign,`oJ=`au,`C `Y,j.toNat,(`sg),A1 ?_,`f `ct,cLine,(`FR),Gr.less,0,`c a,env.same,en.b0,Pd.app,get_set,(by rw[U5]),s1.free,0,(`h'),(`cH).bind,`t c',`jF `eX,0,`ap `s,(unG U7 `aD),"begun",(j6 0 `G `tz `dA),pairsOf,`f k,`o (`mA `f),`ls d,List.length_reverse,`f b,[`cN,`dW,.un],(c:Int),List.length_drop,ps.flatMap two,.sh `dX,λ_=>rfl,`b!::ws,Decidable,b_tuple,T.b_tuple,True,`af (Str×V),I.bare,(ha `k s σ H _ I h),(by intro pins s σ H D I h),(he `k s σ H _ I h),(I.ok.hd hc),"int",args,0<=k,"str",hplain,`R hb,`v (X.fn y=`d∨`RU y=`ml) Ad,Ds->`x9,signs,RpO K H B d a,RpN K H B as d v,h.len,∀a,`mI->B a,∀a,B a->`mI∨`ad a=`e,
(by intro H B x y dx dy d Q hb rx ry h k),(by let#[v,rfl,r1]:=yf0 r),`v ((`Go).any `bV=`r) Aa,`any+1<`ic,ZipApart z TI TO i1 i2 l1 l2,(by let#[xs,rfl,rx]:=zq0 f4),(by rw[e3,`n] at e1),List.all_eq_true,Res.nx,(λds d h=>vq0 h),kvs.length,`c `r0,.free,`RN x=`d6,D.nx,St->`h3,{ s with heap:=h' },A2 _,iter,binaryOp,start,HT.sIx,A.units,v=`ce,yq0 ds,`RO=`yk,items.drop,(upd H a o),e.bad,`ih s1,`o es,Obj.mapSeq,(`amW),`y4 b,PSsB,J.w.openOk,go δ,ps.map,`jF `bV,vals,(`fW),`t `zo,(o2 `ag `aX ixD),(gc (`VI)),(j6 0 `G `ty `dA),"names",.sh (`tE),.sh `zQ,(`ae rfl rfl),S.names.length,w=`ee,.sign,.sh `lv,`Wj=`sX,(r:Int),s∈T,pd `ua,lkd j,(`jZ),List.length_range,Vb v,p.vals,Sl.sh,`bw `aA,(lkv `cy),.sh w,.sh (`gI),P.length,[`HS, `iv],(z8 5),CN_Reader,a==b,`ai r t,`af (`gZ×V),α->β->Prop,λp hp=>?_,I.un,`p q,Ends,PE X a ta,(by intro X hP hw hK hc i pins s σ H E I hf st hg),(by subst hP hw hK),`c4 x v,kindOf,List.any_cons,List.flatten_cons,names,λx hx=>?_,D->D,`cj ks ds,`v (`ane) Af,`v ((`gj `ch (`hd)).any `bV=`r) Aa,`c! d=`d,`ap `aB,`aP ResB,bm.1,nrf d=`d,`sk `bi,`af (`i),[`p4,`b'],(by have z:`zO:=`an),R9 `gB,(`aqD),List.flatMap_cons,B.Nodup,(by rcases `W? with z|z),w≠`b!,Th S,I.nms,(`XR),prog,h.get?,KV kvs vs,I.cell,hs.2,List.getElem?_set_ne,(`cr x pos),(g i j),`g_ C dx fs,True.intro,#[rfl,rfl],(m:Int),(`xL),`c `jg,f2 b hb,[`amJ],`af β,.deep,RpL K H B d a,`c b,Gl X x,`mG s2,(`ana),List.map_nil,`xm=sc,zh0 kvs k,`af (V×V),(`yA hb),Value.type,rv.same,(by rw[`O,`ds]),.Tuple,hq.to,as++[L],(`lf),`S8=`d6,`Ta=`td,(`y3),`t `tq,(oA `dz V1),(gv 6),(gc (`lk)),(gc `x),"digits",.rcd,b.length,S.hold,S.ends,`f n,(`IB),(`aoG),[`cx],(`hC),(by simp only[`dE]),by rw[`Z];lia,hb ps B T `j_,.sh (`AC),u.length,(yg0 `dY `fk),`bE xs its,(D0 _),(by by_cases hb:b=a),I.ok.kind,A3 e,Inv X `k σ H' s',(`bX),(`xs a [op] [b] pos),(by let#[t,rfl]:=r),λ_ _ _=>`bW,(`R8),List.lookup,I.laid,x::xs,List.getElem?_replicate,pl.isList,List.all_cons,`cH=`pk,as.Nodup,RpG K H B d a,(`gj `ch (`TC)).all `Gp&&`Gq,`Gu κ,
`af κ,p::ps,`hj H a sub,(`fT H a sub),(by rw[e1,`n] at h),(`jE).bind,tr d=`d,.row vs,`tA ps,S.wait.tail,(`zL),`bd `j,List.getElem?_modify,`dB≠[],`aq4<=`aY,`t0<=100,`af (`JI),(z40 T.c_BASE),λ_ _ _ _ _ _ us hl=>by let#[_,rfl]:=us1 hl;rfl,`aP `J,Sum.inl,Value.ref,`c (`fA a),`p rfl,`c .local,I.freeC,`cc x,(`cV),assignEach,(`h7),"enumerate",`c (`kU),.function,getItem,s.TypeIs,`N->`E_,`t z,xs=[`fL],`C l,ns.map,(`x6 elt `amz `cF pos),G1 δ,NB (H a),e.own,t σ H Q,s1.trans,r1.length,`V a,PSsD,λz=>?_,`cX g,leans,putK,b≠a,`e' d n=`d,r2.length,"reversed",pos2,(`k6),`t b,`t y,E5.mpr,at'.same,wt0 d,Pd.get',List.length_nil,δ.length,s.heap.update,p::ls,"_law_script","_law_k",`t "","_law_cell","_law_at",(gc (`f 8)),(z7 `cZ v5),"_law_value_here",(V7 v5),"spelled",(j6 0 `G `jN `dA),"sign",.name,`o (cs.map `f),.sh `Ia,.sh (`tF),.ow `ex,(np:Int),`aqT `Iq,`t (`qf kd),[`iC],(b:Int),(X5 nm),(r/128),j∉B,(Bw.small `j),(`Ae),hb ps B T d,.sh `nq,kn `ly,It `aA d,W.wb.its,Bw.web (Km.laid ps L),K22.sub_len,(ob `as2),(`Ad),(`ul),D.non,S1.wait,`c (`dt),(d9 `aH v6),"_law_number_here",(V0 `az v6),(z8 6),"_law_web_here",vj0.nd,(wh0 `fk fun δ d h=>u00 h),"law",`q x,I.os,.Constant,`mn=`e,`v (`akV) Ab,SqT K H a xs,`ap B5,(by let#[f0,f1,f2,f3,f4,f5]:=hf it `aB),(by intro pins s σ H xs us Q I r h),`R hj,`ap hj,A0 ?_,`ap q,(vs++dvs),`xb (`mg),slice,`f a,(`FG),CompOk sc `cF X.N N' n `bZ,(j+1),(by let#[xs,e,r]:=h),Pd.set,PDA X `gp gA,`ap z,List.drop_length,∀cl s H ex,PD `pc elt ge,`cj _ _,.fn _ _,(by rw[X4] at r1),CompOk sc `cF N N' n `bZ,PX X e gx,`v (X.N[j]?=`ep) Aa,(by let#[_,_,z,_]:=h'),0,(`te `ad `V δ),T6.mpr,si0 ns d,n::ns,(ob `zt),(Q9 `m!),["thing"],`H1 w,(`aqB),(vm0 S kd),kd<4,c∈Q0,(`IL),Gw.po0 _ _ `s,`t7<=20,(by rcases `bm hd with rfl|hd),hw.it _ w2,x<`aA,(∀j∈B,`f4),PsOk.len,Inv `av B T S,W.wb,PWD.pt,(o7 W3 Z7 `nE o8),(N8 `dY `eH),(z9 `dc u5),(o7 W3 Z7 `atA v6),`aP `M,RelO,`kN b,`c `r1,X.ex,X.s₀.heap.objs.size,I.pin,{ s with heap:=h',toks:=t' },(`eq),Q v H',holding,.BoolOp,
Inv X `k σ' H' s',(`C it),SqL K H a xs,`Rz=`dk,hf b hb,B3 _ e,s'.heap,.BinOp,{ s with toks:=`xz },(`r,`RZ),ps.zip,ht.typeIs,sliceBounds,its.length,(eqU x),`q rfl,vs.toArray,(`xe P w),.call,(t8 st),(A6 _ hx),`o [],(`C D),(Y5 X `cF cl N' s H ex),`af (Str×`J),z.symm,DL.Ds,`c [],`c (`SY),δ[j]?,`c δ',`c ds,B' a,`bx F l m,`o fs,`bQ K `bf c=`amR,`c `d7,X.N[i]?=`dk,`F9 s2,`R hl,λv σ H Q=>∃B d δ,tDG X.K idx f B d δ v σ H Q,en.fr,d=`x,`c (.rf d),(frz δ),g `px,owL i δ,kv.1,(`anq),z.elim,Pd.imp,rv.length,`f `dR,List.mem_cons,zt0 ks q,List.length_zip,Rps.snoc,A3 h,`C z,J.extBut,`yU `mi,{ s with heap:=h',toks:=tk },(by rw[`bY];lia),(z10 N j p b ds),T6.mp,Pd.len,[dp],`c i,gP δ,`f 4,`t `zp,(zy0 `zs `ag),(o2 `ag `aD ixD),(gc (`pX)),(plN (J0 0 `jM `iu)),(j6 0 `G `iv `dA),"byte",bk `fK cs sm m `av,.ow (v7 p (`p3)),(Z4 ?_),.sh `yY,(s:Int),(p:Int),code N k,isName,[.un,.un],(0,[]),λw=>`fZ (Z2 w),(`dC:Int),S.begun.map,Sl.ow `aqY,`c (r,R S'),kindS,`Wq kd n,(by rw[`bjm]),link,(`iC),[`cN,`dW,`tX],.ow (v7 p (R S')),(`aqA),`f `t1,.sh (`qn),λq=>`aqw,2 ^ 2600,s.length,`qr<=20,Y0 `gB,L.length,`t5 S nm,Km.O2,.val,.new,`ec hd,I.th,hb ps B T `dX,`fh `eX,deq x y,(`p6),nd ne,(uj0 6 7),(`lB).length,(G5 u5),T.b_list,O9.nd,bindArgs,[`ez, `nI, `m4, `m7],Result->`eU,`ai _ t,`aP HO,`C c,`af (`akJ),`c _,Unit->`eU,`v (`RV∨`ak3) Ad,(`R3 (`c e) pos),`p e,Cls K C,`R q,List.length_replicate,#[_,ho,rfl],V->`bl->`bl->`E_,`af (Str×`g),(`cu),`b_<=`S,∀a,`pl->B a,.fn ks ds,r.live,(`ym),∀cl s H ex,PFD `pc ifs gt,(by let#[x,r,rfl,h1,h2]:=h),(by intro H B xs ds d Q hb r h k),(hr.mono hk),`v (`k9) Aa,`v (X.N=N) Aa,(hN▸ok),`R hf,(by rw[`bz] at h),λj=>`anO,D->`Q,updateSeq,`yT<=`S,`af (`Uq),(by rw[e3,`n] at h),(by rw[e2,`n] at h),`y4 c,vx0 eb,(ha.go B δ),AtN K H B σ δ i a ns as sos,at'.dp,at'.bad,PN X i o go,(by let#[B,c1,c2,env,rv]:=`Hg),(gc (`m5)),(tupI `apO),(V6 (Y4 (gc (`dt)))),0,`zF k `VV,.bl sm,cs≠[],p.all,List.length_modify,(by have z:(2000:Nat)<=`S:=`an),[`cN,`eC,`z8],n<`qq,`aS<=60,
List.count_cons,T.Nodup,(λcl s H ex=>wp0),(o7 W3 Z7 `aH o8),(t90 `hH (Z9 0) o8),"_law_part_ends",(`eg 28 5),(`Ex),Sum.inr,`mi a,by simpa using h1,.fields,`je<=`S,(a==`EE)=`r,(J4 P w),o.data,H p.1,"range",(`eV),K.In,`fB x,.cell,(`b6),`c p.2,b≠`fC,`g1=`e,`xj=`au,by simpa using hb,λ_ _ _ q=>q,σ.length,Heap.SameBut,`c7 es `A,("__debug__" : Str),`gl hq,λb o e=>`oY,(hi - lo).toNat,((0:Nat):Int),.bl k,x.length,`C C,`Y+1,first,I.hok.fresh,scope.names.lookup,List.getElem?_append_right,`C b,(i:Int),(1:Int),typeLookup,s3.heap.objs.size,r.get,"len",[`mx],`Sy<=`S,(`xT),s₁.heap,(`amo),caps.length,σ[j]?,(`c `FM),`aP (`l),(`et),(`ci),(`d!).bind,f d δ,gi δ,`t #[⟨c⟩],¬B a,`gs=`aG,h.elim,.dK `yc,(`S7 s),(a:Int),λv2 H2 s2 r2=>?_,¬B b,(`Gb),Sl.un,`c (.rt d),(`Gj),p1.isList,.ow d,cutD,DGet,`c q,[e,f],`c (`sU),trivial,A3 h1,`yD hi,k _ H `c' `yn,n.toNat,(G0 _ _ (B8 hb)).trans,Bool.false_xor,IsPair,xs.size,Bool.false_eq_true,Value.none,(`bD `g7),h1.objs.size,(H 0 `s),forIn,gk δ,`y4 a,`c so,h.go,hb.go,`q z,(`hi H `d?),`aoM f1 f2,D4.mpr,at'.w.hd,(n+k),(`C S),(z7 `ag v5),(gv 7),`f 2,"at",(gN 1),(z7 `ey v5),(gN 5),"record",(gc (`jJ)),(ob `pY),"name","waiting","unended",.table,.sh (`iy),(by simp only[`Z,`m_]),Z6 rfl,`t O3,`f `sM,nmF N w a k,`t (`aE (`p9)),`t `zG,List.length,`o (`aqx `t),.sh (`zU),S.spelled,`aqS `Iq,`aE n,`t (`aE `tM),`aqW `qa,(`Wi),C6.mpr,w::ws,.sh (`nj),wd w,rr0 S kd n,.sh (`lu),.root,w=`nc,S.count,n.length,(L:Int),left,(`IG),S.spelled.length,named,fold z,cnt p,[p.d],(U0 rfl),A4.mpr,(kt T),pd `t!,(kb B),ix B j,Bw.web ps,(`uc),W.length,(`W7),Km.pak ps 0,hw.its,X5 `hw,S1.ends,Whl q,hk T P Q,`Jr `fZ,nd nb,(HB f),(`XN),(`Xi).length,(z9 `aH u5),T.b_isinstance,[`VJ],(V0 `aH v6),(λb ds q h=>su0 `s h),zi0.nd,[`m3, `m4],(z9 v6 u5),K8.nd,"_law_size","whole","hold",[`ed, `HV],C_Reader_hold,[`ez, `nI, `m', `m7],(by rw[`a0!,`a0?]),(by repeat (any_goals (first|assumption|wp_step))),`af (κ×`J),`af (`g×`dl),X.outer,s.gens,`bE vs us,(∀b∈fp,`r4),`J->`Sb,PE X b tb,
Bool.eq_iff_iff,.NotIn,OpR X (`d9 op) r,`rZ `aK,Sem `aa,NoAttr K C f,λ_=>`e,(by obtain rfl:u=`rP:=rx),PA X es t,`T `a? X.w X.K `cc `d5 CX k f fd ps sp,Binds X.K fd ps ds,`bE dvs ds,qq0 CX X E,PA X `gp t,xs=[],`c j,i<`aG,(`h6 a b pos),(by rw[`bY,← hl]),.bl a,(`o7),n<=`S,(by intro pins s σ H x vs v us Q I rx rv h),λx hx=>h x `o?,(by rcases `x4 with rfl|hx),λ_ _ h'=>h'.elim,(`cv).bind,(`ax).map,`c `x!,`bP<=`S,`c `FP,(`sF).bind,Ds->`aP (`bl),sd0 ds,`af `dl,h.at',(by let#[d,en,h,k]:=h),(by refine`a4E),PDA X es gA,PDF X e g,(λcl s H ex pins s' σ H v u Q I r #[B,d,δ,h]=>hg cl s _ ex B d δ `k s' σ H v u Q I r h),`v (X.N[i]?=`ep) Aa,"bool","isinstance",(by let#[a,ys,rfl,q,rr]:=r1),PDA X [e] gA,`bP=n,o.isSome,KT H kvs xs,.dK [],(by rw[e2,e3] at e1),λq hq=>?_,(by unfold lean at ld),(by unfold lean at l),zr0 0 n,Builtin.List.listSameRef,(by simp only at h),`GY l1 xs,`GY l2 ys,st.hTI,`gv=`yT,a::as,(`Ux),`e? ds=`d,(`tb).bind,(A3 q),(ha.go `ad `V δ),`Hh=n,env.mutB,(by let#[c1,c2]:=J.w.back),(`za).bind,(`mY).bind,en.setN,(by unfold ug0 at h),`SP=`pU,(`ir),(by exact`a'?),`af (`du),RQ K H B q vs ls,[`m', `VC],(zj0 1 `m!),(n90 1),[`ed, `lp],decide_eq_true_eq,V9 rfl `p5,(by refine `aqA),`zS hj,`dB=[],k<`dC,(wk0 S),g `aU,(by unfold j4 yu0),`hu<100000,(by rw[`bjl]),(by apply `qh;rfl),[`cN,s1,`dW],[`cN,`gF,.un],[`cN,`gF,`z'],sub_len',[`cN,`dW,`qo],R8 rfl `IK,[`cN,`gF,`WU],(1000000:Nat)<=`S,λd hd=>?_,Pn.put,Bw.ek0,if `jX then T else `Aj,nB B d,`Wc=0,{ S with digits:=`asb,count:=c },α->α,(by let#[B',T',b,h]:=ih B T hm hn hB J),Km.so0,I.tnd,I.tin,b1.length,wr++`iJ,(`Xx),(`nw),[`ez, `asU],(hi `nz).length,(by let#[v,hv,rfl]:=`XW),T.b_range,(vr0 0 `hH o8),(z8 7),[`nI],"_law_value_ends",(B4 (`an:1<=1) hkk),"give","open_parts",(`eg 28 0),(`eg 28 1),"end_parts","takes",(`eg 28 2),(`eg 28 3),(`eg 28 6),"takes_digit","takes_letter","takes_name_number","takes_sign",(`eg 28 7),"goes_on","takes_head",(`eg 28 8),(`eg 28 9),"takes_part",(`eg 28 10),(`eg 28 11),(`eg 28 12),(`eg 28 13),
(`eg 28 14),"takes_known_name",(`eg 28 15),"names_here",(`eg 28 16),(`eg 28 17),Array,`W->Prop,"function",model,L2.SubO,o.cls,xs.map,F a b,`g0 b,λz=>z,sc.names.lookup,X.env.scope,λ_ _ q=>q,(`EN i `r1),AllBare,behindInMarks,`xq op b=`r,.Compare,.bl `r,ok.kind,`b3 `e,(b,o),again,V->`E_,`bu+1,(`Rx),2 ^ 64,`r=`d,"__init__",`g8 `Sg,v=`x,(`C x),A.deeper,`Fd `fM `cF `Y f cd,(`a0 `Fa `gp [] pos),(`bD T),`C t,IsPart,IsTup,(`ia),Str.ofString,B3 _ q,`jp `aG 0 lo,atI xs i,`o ys,h'.objs.size,.dK kvs,`c n,(`C fa),(`Fv),V.int,callerA,(`mA `xZ),Value.bool,(`amo).In,(W4 st),`bm hx,NameKind.cell,.ListComp,T.obj,(`amC).names.lookup x,`aP Res,D->`du,(`xt),t=`d,H a=`au,ks.zip,(`S1),SqL' K H B a xs,Rp K H B d x,(by unfold Rp at h ⊢),`p ks,(`yg),List.zip,sos.length,`c (`pp),Pd.get,∀a,B a->`mD,(`F6),Loc `xm x,w.oth,en.grow,B b/\¬`V b,`ju `d',G `Gh,V.str,([]:`amk).length,(if ([]:`amk).isEmpty then 0 else 1),Binds K fd ps [],zt0 ks k,q::qs,Gr.own,`ik h1,`ik h2,env.at,b≠p,`bg `e! `A,en.mut,(by unfold lean at h),p.isList,M.length,(`c5),`xb GenState,Builtin.List.listExtendWith,(`pr),(`yF),(by rw[`pI,← hl,`T?]),M.extBut,pyNext,ys.size,min `s7 `yS,as.map,(wz0 H l),(`yU `Fb),`GR s3,(`fa),(`mx),`e0<=`S,#[t,rfl],List.range',Gr.but,λ_=>`bW,sub.lookup,other,`c so.ho,us.drop,`w (`bX::ns),en.mutB,(`jy),λv1 H1 s1 r1=>?_,(`pR rx),gv δ,`C L,at'.w.len,(`HA s3),(`ao9),`EC<1000,nm++[f],(`TV),subscripted,.Dict,(gc (`HL)),(gv 8),(o2 `ab `eA j9),(o2 `ab `eA m8),"text","row","table",putAt,isTup,(o2 `jK `tv eqD),(z7 `pZ v5),"part","number",(z7 `aX v5),"kind","0123456789abcdefghijklmnopqrstuvwxyz"," 0123456789abcdefghijklmnopqrstuvwxyz","count",Str×D,`jF pr,`aE l,S.begun.modify,(`zE),(`fH),(a++b),(`dp),Y0 (by rfl),Z3 ?_,parts,`b8*`b8,(1000:Nat)<=`S,names.map,(`pF),[`eC,s1,`jO,`ne,s4,`nf,`V5,`jP,`V6],B9.mp,bk k' cs sm m `av,`o vs,vs.getD j `x,.sh (`tK),.sh (`f `p7),.sh (`f f),`t (Z2 w),nodes,(`jR:Int),`aqU `Wh,(`It),(`Ir),ok.un,(`zZ),`o (`aqU `aqV),`ls (`Ws),.sh (`Ix),`t_+1,.sh (`ID),`t (`WH),
.sh (`z!),`ix xs,`eu `II,W2 S k,n/128,`w `arx,.sh (`IU c ps).d,(kt T).length,.sh `x,(`f x),T++[s],W.reverse,its `ly,p.vals.map,`I_ k `I0,List.length_tail,`jR<=100,λd m=>hd d (A6 _ m),B'.length,(`Jj),(`Xj),pre++d::`bh,`Xk `f3,(by simpa using `E),`qi `aS,hdl ps j,i+(h+t),p.vals.length,`t q.1,`o `JA,(`Xz),[`uc],(`asO f),λk=>(`Xa).d,done.length,E2.mp,(P++`un),`f `W2,`Jt n,.ow (hk T (`un) (`qF)),(zf0 v6),(z9 o8 u5),(z9 `f6 u5),"_law_next",(Z8 `nG v6),(top 56),(`cW x x (V8 st) `x3 `o! `aJ kV doc pm an cdv ct),`af (`oH),`mg->`eU,(`akB),`ai r ih,xs.drop,H b=`br,by rw[`akQ];exact q,b∉ex,L8.mp,base.Ns `bf mg,X.base.get? b=`au,`RO=`oK,`Y<=a,frs `h2,b∉ch,(by have e:b=it:=`r6),Model,`aa->`h3,spliced,PT X a tA,(`oS .And (`R0) pos),(`oS .And `ak! pos),(`oS .Or (`R0) pos),(`oS .Or `ak! pos),(`R1 .Not a pos),(ho `k s σ H _ I h),PassesOwn `aq X.A `A `aL,λh' eb=>#[rfl,`EX (t':=`bu) (λb o hb e=>eb b o hb e) f0 f1 f3 f4 f5],(by intro pins s σ H R I h),[`gm],(by exact `a1U),(hi `k s σ H _ I h),V->`xy,x=`ba,Operator,(`jn .Add),"min","ord",`c dx,`R hk,Cls X.K C,Inv X `k σ H s',`go k A,(`o2 us),`go k X.A,r.append,bindL,bindC,N.length,(by try with_reducible refine C9 ?_),y=`sl,x=`fL,(by let#[its,r,pl,hz]:=`r?),(by have J:=`a3W),(by simp only[`bY]<;>lia),H l=`Fo,(by let#[u,rfl,ru]:=rv.one),IntsAre vs ns,`eY<=n,nc0 `sv H,`jq+1<`ic,x.cps.size,`ap hc,s2.heap.objs.size,by subst M;rfl,`w _,G2 δ',`c (.ct δ'),`c (.bk δ'),gt δ',[`cw],by simpa using hj,∀o,`ya->H' a=`au,`q ks,v=`ba,(by let#[x,r,e,h1,h2]:=h),#[x,rfl,h1],h.all,h.ins,(RpL.toO rfl h),`F_=`ig,`F2 hl,∀v H',`a3->`Te->`oQ,f ds=`a7,(o2 ga gb f),Op2 X.K r f,`v (`xr) Ah,PTD X a gt,(by unfold oA at h),PD X `xJ `F!,PGD X tg idx f,L2.PI.imp,(by exact`a5u),hf ds d h,y::ys,by assumption,λ_ _ _ _=>`F6,`z ([e].length+`yv+`yw<30),`go m X.A,(`dw).bind,(`dw).map,`l->`aa,(Y3 ..),(by by_cases e:p.1=k),qk0 e,H b=`c (`w (k.map kV)),H a=`SC,`je<`S,(nt0 ry),`af (TE×TE),v::vs,`cl=`anC,(by by_cases z:b=a),(by rw[`kR n2] at h4),
(by rw[`GN] at h3),EnvV K `ad `V H σ δ d v,#[q1,q2],q1.to,(by by_cases e:k=q),IsZ `aK z TI TO a f,`EO=`c oa,`mv `gy `g7,st.h1,st.h2,lo<=z/\lo<=TO/\lo<=i1/\lo<=i2,Around.under_plainId,`gv=(xs.zip ys).length,(by rcases z with z|z),`c (`k2 sub),(by unfold L2.opened),(by unfold L2.closed),j<=`bP,List.getElem?_cons_succ,`sk `j,`f p,(`hk).bind,`pS `y?,(by rw[e6,`n] at e1),(W9 `UV),(λ_ _ _ z=>nomatch z),ClsN X.K c F,`v (f∈F) Ab,(by let#[q1,q2]:=hc.ok C hC),`o `Hs,`e? es=`d,J.w.backS,env.bad,`ec q,env.free,`Vc ns ps,PTX X a gt,sh0 ds,List.filterMap_cons_some,[`m6, "_law_small"],(ob `HQ),[`tx, `HT],`lq c ps,c∈`H2,[`p4,`tB,`H4],.ow (v7 p `gA),[s0,`tB,`H4],R9 (by rfl),[`V_,.sh `x!],zr0 0 `ct,[`sQ],`ap `j,(by rw[o4 h rfl];rfl),[`gD,`zX,`zY,.un],`o (`tN),List.map_singleton,(.ow (v7 p (N0 b u))::δ),(by rcases k4 hk with rfl|rfl|rfl|rfl),[`cN,`tU,`bp,.un],Z4 (T9 rfl),w=`tY∨`jS,`tZ∨w=.cls,0<=b/\`Iy,(by refine `bjY),S1.wait.count `b!<=`Iz,`eE S l us S',[`gF,s1,`WB],`Gu α,List.drop_left,{ S with spelled:=w,names:=`WO },((n%128:Nat):Int),2 ^ m,z.natAbs<`WY,(by injection e with e),`w [_,`fH],(x:Int),(kb B).length,if `jX then bs `arL else bs `IZ++sg s,4*`t6+1,(by by_cases h:`f2),nW ps B W d,(by rwa [d6] at this),(`hD).length,k<`aA,RunsA.one,(by rw[J]),by rcases hv with rfl|rfl<;>decide,{ S2 with count:=c },`hu<90000,ws.count `b!,`aY+1,rest.length,(`asf),(`jZ::ds),lkd i,(by rcases `dM hy with z|z),(`Xg).2,(by injection h with h1 h2),w.cps.toList.length,Km.g70,(`Xo).begun.length,Pe ps B T ds B' T' b i nb ne,le_app,qs.flatMap two,(by intro S k u ws p pre I hn hB hL hu hk hp h0 he hw),ix L j,(by exact `blU),Q++[`x],(oy0 rfl),(`L _ _ _),by rw[`bc],(i30 rfl),(o7 W3 Z7 (Z8 `aH v6) v6),q30.nd,PDF.pd,(z8 8),"_law_value",[`ez, `JX],"_law_word","_law_part",z70.nd,"_law_name_size",[`ed, "some"],[`ed, `zw],FnT P w K mg `m `G `uC 1 `uD p6 X7,[`ed, `zy, `VP],[`ed, `atG],`bD `xd,#[hh,gg,dd,tt,oo],`C f,Value.str,κ×V,fs.length,fs.lookup,sysModules,`hZ=`au,SubOk,H b=`mj,k b u q,"__name__",
`dn b,X.pn++`k,I.base.free,σ.set,`dn a,λb o e n hb hx=>?_,I.ok.above,isTrue,its.size,its.toList,e::es,setItem,p10 X `k H b,I.turned,`h5 hq,`R! `bi,Hp->VK->Prop,(i+j),`f `E0,(x=y),`z `E2,r x y H Q,[x,y],`c (`c `eo),(k,x)::r,(k,v),∃t,u=`Ry i t,(`RZ),I1.laid,sp vs H Q E,(`cr x p),V.ref,(us++ds),envOfC,(`jo N vs),(`cT id),(ha pos `k s σ H _ I h),sIx `fO 0 lo,(`C sl),Builtin.Tuple.tupleExact,mk0 xs lo hi,(`Sn),(xs++ys),xs[j]?,`c `mo,`c `RB,H l=`e,`w ys,(`Fr),(`xV),a::b::r,`fE `d,`c `xX,s₁.heap.get?,BindsTo,`c (`h0 o `mo),`sj y,env.cells.lookup,cl.lookup,(n,k),`akX x,ForInStep.yield,λ_ _=>`bW,target,`N->`h3,{ cls:=`c5,data:=`b5 ([]:`ah).toArray },X.env.scope.kind,X.env.kindOf x,(`amJ),`b3 `d,`aP `aa,(`cw),Ga δ,zb0 n `bZ δ,ge δ',`c `bs,SqT' K H B a xs,`cj `yh ds,r.same,`c `fI,`yi ns xs,λ_ _ z=>z,l[i]?,(SlR K H B),`c (`Tc),List.getElem?_set_self,List.getElem?_eq_none,(by simpa using hl),Same.refl,by rw[j7],(`amX),(`amY),r1.same,k H' s,(oA gA f),λi H2 g2 hi=>?_,rs.length,`F5 _,by rw[`Ga];exact hi,if `yr then `e else H1 b,en.same.nf,s1.nf,(T4 n `bZ gi f gt ge),(S8 N ds),isL d=`r,`S_ `yu,u=`rP,`cr Tn p2,Env X.K H B σ δ,rr.length,`gj pos (`hd),(λx=>!x.1),(`alQ `ch `alR).all (λx=>x.1.isSome),λv H1 s1 r1=>?_,λvs H2 s2 r2=>?_,y90 d,DecidableEq,fc0 i δ,[a,b],gl δ,gh δ,`pA=k,List.find?_cons,valueAt,kvs.map,atKey,ks.map kV,(`fG),(by rw[e];exact `kV),"dict",dd.typeIs,λb z=>?_,#[a,rfl,hb,r],Pd.impI,(`sl),`kR n1,λa z=>z.1,Rp X.K H B d x,SeqAt.EqAt,(`k6).trans,(`C I),.done,`g3->`r5,List.not_mem_nil,or_false,(`TW s1),s.heap.IsList,c≠z,xs[k1]?,·.push,hG.above,(`pN).toArray,as[j]?,Prod.fst,H a=`e,(t,HO.tup `yW)::J7 as `aoo,PySem.Str,(`TU hp),ys[m]?=`ep,m<`e0,"index",(`S7 s2),(`cr x p0),y90 dk,L2.closed,OpenOk,I.closed c,us.take,ev.ex,`bP+1,`cr y px,sos.set k so',xq0 ks ds q,`mX s1,"append",env.atN,s90 nk,J.w.hd,q2 f hf,nm.map,(`Hr `t),"pop",i≠j,`cL=`c ns,(`U8),ns++[`pa],(`gf),`hi H1 `d?,s2.trans,`yb `Vg,(`jG),keys.length,(`hi H3 `d?),(`jz (λ_=>(⟨⟩:`aW))),
(L,`Vn (`apc))::J7 as' `aoo,l.filterMap,δ.map flS,(`fX),`f 3,`f 36,(gc (`f 10)),(gc (`Vu)),(o2 `ab `m8 m8),(gN 6),(o2 `jK `p_ eqD),(gc (`hr)),"value","told",[`zo, `zp, `zq, `tu],"item",(gc (`t `HS)),(gc (`hq)),(J9 0 `p1),(gc `x!),(plN `aqp),(`f 255),.text,nameS.cps.toList,`c `fF,.sh (`nd),cs.length,a.length,(gc `zH),λc=>[c],(z/(`b8+1)+`zN),(`ib),w.take,`f N,(`aqL),(by apply `tC;lia),.sh (`f (z/4%4)),z/4%5,(st:Int),`V!+`b8*`Ie,pool.getD,(k+1+n),.ow (v7 p (bk `Ih cs sm m `av)),`nh - 1,.sh (`V'),`w (`zD),(`ae rfl `jQ),(by show 2<=`S;lia),z/300,(`jF Pt.d),(W2 S),`z_ S,`f `Wd,`f (-1),`eD++[(kd,[])],await,(`z7),`f (N/4),b<=255,S1.un.length,(next S1),`o `Wz,(`eu `arf),`t (`aE [b]),`ls (X5 [b]),`VX n,`tM++[b],(`c 2),λc=>X5 [c],codes,(U0 ?_),U0 (K1 ?_),Held q,`ls `nm,[`ib],(100000:Nat)<=`S,[`fW],(`qr:Int),4*`t7+`ff,Pt.table,Pt.rcd,(`iG).length,.sh (`IT ps).d,`fZ c,ix T s,(2*`qr+1),ps.getD,(.row []),`z (`jX),(`q s),(`t?),.sh `I3,(`jY),.sh `I5,[`Ae,`jY],`ec hb,rel π p,`jF λp=>(p.1,lkv π p.2),L.map,(`w `arH),(l++[d]),ok.few,count_tail,q.2.length,λ(k:Nat)=>`dR,`fZ s,(n+f),(`qw J).2,(n2+f),`I_ 0 `I0,(`Xh),[lkd 0],(`ff),(`t7),`Wq `Jm `Jn,pw `aA,List.drop_drop,T.map,t.cps.toList,l.drop,(W.ok p hp),W.wb.it p hp,hdl ps 0,`e' x 50=`d/\`e' y 50=`d,`fZ q.1,`fh `bV,(nd L),tgs `asL,tgs ds,`o (`fh λq=>`AB),(X8 ?_),`c `dX,(F:Int),(Q3 g),`aP Str×D,(.sh (`f (`AH:Int))),(.sh (`XJ)),(i+`lr),(`XO:Int),`w (`atb),i+(hd+0),Nat.add_assoc,nb.length,((n+c:Nat):Int),(`aR:Int),"is_new","number_bytes","sign_bytes",(oc0 v6 v6),"_law_size_here","_law_step","_law_cell_at",(V0 `a9 v6),"_law_values",[`VD],hr.units,R5.nd,"made_part",[`zy, "held"],"sign_of","is_left",C1 X9 G9 a9,F9.kp,F9.binds,(h.trans hl),(`bJ)->`xc,`X->`xc,y.cls=`Ex,(`xe P W),(`t x t),`b4 e,by simp at e,`xg=`gf,o.dict=`e,`rR vs,entryOfKey,∃o,`EF,∀b xs,`RH->`akO,∀b u,`RG,`c ob,Un.kept,b∉`h1,I.ok.bs b o e,s.heap.FunFrames,List.filterMap_cons,A6 _ hb,(`mm x c e),λx c e=>?_,(M b o e hx),(`EM b o e n hx),
(by let#[o',e1]:=`ak0 b o e hx),I.step,s.drawn,λb u e=>?_,∀b u,`ak2,I.base,N.Nodup,Q () s',(`cU hi).1,Q vs H',λ_ _ x=>x,`fE b,x=.bl c,c=`d,(by intro wh pins s σ H Q I h),`cd a=`au,Array.length_toList,(by intro pins s σ H vs us Q I r h),I.kept,`R_ pos,`oR `ald (`EV ov iv v),release `ald [],`h9->`r5,It->`h3,rawInt,λb hb=>(`oX).1,`R9 (t':=`R') `sa,#[_,`fz,rfl,rfl],`v (`c7 [a] `A=[`alm]) Aa,r xs H Q,Int->Int->V,(tOp r ta tb),0<j/\`alq,(by rcases q with q|q),`ap hk,(by exact`a2E),H a=`ms,`cs K `eo=`d,`ED m=`e,I.write,H1 a=`ms,PE X o ta,A.depth,A.under (`cT `alO #[`sf::us,kw]),#[us,[]],`R_ apos.atName,`oR [ov] (`Sl ov m pl),sc.names,Str->`aP `alV,((p,w)::`So),by simpa using h2,`g9 `alY,`cd f,ws.toArray,ws.length,if v<0 then (v+`ct).toNat else min v.toNat n,((`al0:Nat):Int),s.heap.IsSliceOf sl vl vu `aJ,`xM vl lo,`xM vu hi,eq_of_beq,Subscript_,(by intro pins s σ H x v vl vu lo hi sl Q I rx hs pl pu h),by rw[J];exact hw,(`Sv),r1.append r2,`aP Nat,SqL K H p xs,(by let#[its,r,pl,hz]:=`EY),#[_,e],(by exact `a3J),xs.all uh0=`d,(by rcases hq with hq|hq),(λw hw=>v80 rx fx r fs w `ama),#[`bK,H,I,rfl,?_],(by rw[`a3O,`a3P]),(by let#[u,rfl,rx]:=`Sd),xs.reverse,Builtin.List.listTooLong,x=`mz,l.most=`xW,(λv _=>v=`dt),`x1 `d,h.Ns `bf mg,`cW x `fM (V8 st) `x3 `o! `aJ kV doc pm an cdv ct,`ak N ps `o!,`cG H1 H2,{ s with heap:=h',toks:=`xz },v=`bX,`q h,by rw[← hs3],U.extBut,#[?_,?_],(`dO).bind,`c `sC,(`bj i `sB),`aP Sl,(`ay).length,v9 G1 G2 δ,`sF=`FT,xs.getD,g _ _ n h,by apply `yf;exact h,(by let#[a,xs,e,q,r]:=h),by unfold Rp;rfl,by conv=>lhs;unfold Rp,(`FV),(by let#[y,t,rfl,h1,h2]:=h),(by cases d<;>try exact `sJ),`FW s,by apply `S';exact h,`e8 K H B as n so,`gv=`yj,(RpG.toO rfl h),h.same,`F3 `F4,(by exact `a4B),∀σ H Q,t' σ H Q->`mF,k _ H `c' `F8,`v (od0 b) Ag,FnR X.K r f,Rps K H B ds vs,`cG `ad H,(by exact `a4V),PTD X c gt,(.If c as bs pos),(by exact`a4W),(by let#[x,t,rfl,r1,r2]:=r),(by rw[`a5k]),`hc hlt,fun σ H Q=>∃B δ,tDT X.K B δ gt σ H Q,
fun σ H Q=>∃B δ,tD X.K B δ ge σ H Q,(λcl s H ex pins s' σ H Q I #[B,δ,h]=>he cl s _ ex B δ `k s' σ H Q I h),λK d=>by cases d<;>kernel_rfl,(by cases `a5U),(`o (xs++zs)),p2.isList,λ_ _ _ _=>`amX,k _ H `c' ?_,PD X o g,(ho B δ),(by refine`a5_),(`Gt).bind,th0 ds,wy0 xs ys,List.nodup_append,(kvs.any `TG),(`k'),Rd H a `SD,(by cases `a56),(l6 hu),(lc0 `b7 eb),(`TL).isSome_eq,h _ `GF,PE X o td,(by let#[b,e,M,r]:=h),(by rcases `yB with⟨rfl,_,_⟩|⟨_,h⟩),#[_,hi],#[_,h],(by rcases z with z|rfl),(by rcases `yB with⟨rfl,_,_⟩|⟨n1,h1⟩),(by rcases `yC with⟨rfl,_,_⟩|⟨n2,h2⟩),`I rfl n3,#[v,e,`cX (`ie `GO)],(by exact`a6O),(by let#[B',c1,c2,J]:=en.frz),`ap hf,[`anJ],`z (([e]:`bn).length+`yv+`yw<30),(`jx).mut,"extend",(by let#[B,b1,b2,env,rv]:=en.ex),`mM ds n=`d,(by let#[a',ys,z,q',r']:=h'),Rps X.K H B ds xs,Bool.true_xor,(he B δ),dxs.length,Int.zero_add,(z7 g v5),(`bD `T4),(λfin s'=>match fin with|`GT f=>R (.ok f) s'|.again c'=>c'.quiet=`d/\`g? `aC A c' R s'),(λe s'=>R (.error e) s'),(hT 0 _ st),`c `T6,(λ_=>⟨⟩),by simp[hh],(`ES:Int) - 1,Heap.size_push,(by let#[x,r',rfl,h1,h2]:=r),(by let#[p,xs,rfl,_,hp,hl,rr]:=r2),(by rw[`a7G]),zt0 pr.1 q,`c! e=`d,(by refine`a7T),(by cases e<;>simp[`c!] at he<;>simp only[U5,Y7,j7,Y8] at ru<;>subst ru<;>rfl),`s6 `aK TI `Uc `Ud,`an4 i1 l1 k1,`an4 i2 l2 k2,(∀c o,`GZ->`an7),A0 (`Uh),`u `aC A (`yR `gy) Q E s,ZLow z TI TO i1 i2 l1 l2 S,st.hl1,st.hl2,(`aob),∃f0,IsZip `aK z TI TO f0,(`jz (`G0 `s9)),(`jz `Uo),hl p hp,by simp[J7] at h,t∉as,H t=`e,(`Uw).symm,(by split at h<;>try cases h),(by unfold tree at h),λv H3 s3 r3=>?_,(`yX),`Sz - 1,(by let#[u,q,r]:=h),y'::ys,(by intro ys xs h r),`hc hj,of_decide_eq_true,But p H H',"setdefault",(by cases o<;>exact λz=>nomatch z),(`tc).isSome=`d,`y5 b _ q `ea `ea,c.root,`UJ=`aoF,(λa=>if a=p then `e else H a),ev.same,rv.mono,λd=>d,`v (Vis `xm y) Ae,`v (`aoI) Ab,`v ((y==`ak7)=`r) Ab,(by rw[eb,`n] at e1),(h `k s σ H _ I q),by unfold RpN at h;unfold Rp;exact h,
by unfold Rp at h;unfold RpN;exact h,k<`yj,b∉as,PN X i e g,(by refine`a9X),(by rw[e5,`n] at e1),(by let#[a,as,sos,at']:=`Hn e5),#[d,a,ns,as,sos,env,e2,at',`y!],(by let#[c,so,rfl,f1,f2,f4]:=`UW r1 e6 hnode),ug0 fs ds f,`aoP::_,(by let#[a,as,sos,at']:=`Hn e3),(λ_ _ _ _=>rfl),(by exact`a'd),decide_eq_true_iff,`go n X.A,`c `ex,k=`gv,`g9 hk',zp0 hb,(by by_cases hb:b∈`lf),(by rcases `dM hb with q|q),(`o (es++`pT)),(by rw[e1,`n] at e),`o rs,c9 (A3 ec),∀cl s H ex,PX `pc elt gx,`af (D×D),(by rw[hq,`bA] at e1),(by rw[hq,`it] at e1),Op2 X.K rr f,c.other,(`ao'),O b hb,`S_ `xZ,List.filterMap_cons_none,zn0 its l u c,`e::q,λc hc=>?_,(V2 `aX),(o2 `ag `hn j9),(ob (o2 `Vs `aX eqD)),(xw0 (ob `apz)),(d8 `bL (o2 `apD `apE ixD)),"_law_some",(Q9 (oA `zu wm0)),(j4 (wu0 1 (oA `dz wm0))),(ob (o2 `ar `aX gtD)),(j4 (yt0 1 (o2 `jL (o2 `ar `jL m8) m7))),(d8 `bL (o2 `ar `jL j9)),[`zy],[`zy, `VP],["held"],(R6 `aqt),(oA (z7 `jK `zu) K5),`H1 _,O3.cps.toList.getD,`dw=`c (d,δ'),(`H5:Int),u70 _ _ `j,`c `jI,10 ^ 60,Vk v m,Z4 (T9 `gB),`bd h1,(by exact `aqD),`aE sep,[`p6,`V2,`b'],`p' s=`d,`dV=8,Gw.if0,t7 ?_ rfl,(by rw[cl];lia),z/52%3,`c (r,δ'),np=13∨np=53,(Z0 rfl),by rw[tv0];lia,[`Ii,`b',`bp,`tL,.un,.un,.un],[`Ii,`b',`bp,`tL,`zW,`Ik,.sh (`Il)],(`aqF),Nat.min_eq_left,`f `qb,`f `z0,`dC<=60,List.dropLast_concat,`w [`nj,T8 (`dC+5)],`aY<=1000,[.sh (`hr),`bp],(pi0 p S _),[`aq?,`eC,`z8],[`cN,`tX],`Wu+b%128,DL.liftT,`f (`Wu+b),(by exact `arb),[`cN,`dW,`Ww],yb0 `iD=_,`f_=0,{ S with count:=`z9 },`Wx=`c (`dt,R S1),S1.wait.length<100000,J2 `bL SB `IC δ',`bm hm,Nat.pow_succ,b∈Q0,[.sh (`hr),.sh (`o `hx)],(by exact `bj?),((r/128:Nat):Int),(by have z:`IP:=`an),`qr<=`S,.sh p.d,.sh (Pt.row vs).d,`aA<=20,(`ir).length,ix l a,(`arI),k∈ks,ix ks k,by injection e,(`I_ `h! `I0),(`p `b8),kb_mem B j,`b4 `hB,`hA<=100000,[`iH,`I4],pb0 _ `np,(by show `bkA),[`bS,`ns,`I6,`I4,.un],i3.mpr,(`ar!),(`I9),hq.vals,((N%128:Nat):Int),Bw.fold z,(by have:=`bk4),(by let#[l,hl,hm]:=o3.mp z),(by rw[`bk6] at hm),g80 _ `j,(`Xc),
`ash k f,S1.begun,(by simp only[`_,`aV,`hE,`hF]),`pv∨`asi,(`Al),(∀d∈ds,`nu),`ar6<=m,hw.len,h d A7,`ff≠0,(by show `blz),I.held,`Jd<30,(E7 I.wc),(`asx).begun,`aS+1,(by rcases `dM hq with z|z),(by let#[c,_,rfl]:=`gG),∃M,L=B'++M,`dT<25,q10 `Ju,(by rw[he,`O,`Z] at this),by show (`Xk _).length<30;rw[`K];lia,W.wb.len,qs.length,`AA<=20,ou0 xs,(by injection this with this),(by have h:`bl1:=h),K22.sy0,ns5 ps B W `qE s4,K22.ux0,`JC++W,.sh (`asP),wv0 0 `dA `XE,(Y4 `cZ),4*(`j8 - 1 - m)+2,`j8=`aS,Pe.split,(s8 p T P `up w `eG i pd kd .un .un),(i+hd),st9 a b c T nb ne q S n s7 s8,n<`aR,`f `JS,T.b_reversed,"folded","unfolded","is_whole",(top 19),"pair_names",(M4 `qI),"is_byte","most_held","wanted_items","made_pairs",(d9 `az v6),(top 27),"pack","held_items","item_bytes","known_head","name_bytes","part_number","text_bytes",C_number_bytes,(top 34),(z9 `nE u5),"_law_names","_law_number",(top 45),(top 47),"_law_web",(top 48),(top 49),"_law_numbered",(il0 `J2),"_law_led","_law_drawn",PWX.pt,"__class__",`f i t,Value.int,xs[i]?,`b5 `bt n,{ cls:=`c5,data:=`RA },fs.map `bV,h.Ns1 dx mA,∀f,`oI (`ED f) (mA f),b=a∨`EH,`oJ=`br->`xj=`br,H b=`h_,`h0 ob u,`c (`h0 o u),.tbl ps,`c (`RK),`xl x=`jf,X.env.cells.lookup,σ[i]?,`kP x c e,I.base.keep,I.base.slot,`oN p hp,(`a1c),X.env.scope.names.lookup,X.fn x=`d,I.base.tups,I.base.frzs,`af L2.V,`bg e `A,standAt,b::`bh,.UnaryOp,`ES<=`S,.Return,`aG<=i,h.IsListIter,(`a1Q),Inv X `k σ H `jk,by simp;lia,I1.kept,s1.toks,I1.hok.fresh,{ cls:=`bD `rX,data:=`rR ⟨`f lo t,`f hi u,`f 1 v⟩ },`bg a `A,`J->Sem `J,`f (if k then 1 else 0),vals1 r,mA `er,W.plainGet,W.emptyDict,`akC C `Y,ys0 f v fs,`c7 `gp `A,`gj pos (`r'),getMethod,(`a2N),`si `bi,P.zip vs,D4.mp nd,sIx `fO `fO hi,`Sq - `Fh,(`al5==0&&`sn==1&&(`Sr)==`fO)=`d,(`a3p),`jp `aG `aG hi,λb ob q=>`xQ,-`ct<=i,operate,z.length,2 ^ 63,eqV y x,`f `Sy,`c `Ft,(`amh),xs.dropLast,{ cls:=`c5,data:=`b5 `o8 },d.name,`xp s'.gens,#[[u],[]],#[`fP,[]],by rw[q];simp,Params,l.row.toRowW,H b=`au,N'[n+k]?,`bZ[k]?,
(`sy).join,NameKind.free,k==`SR,`c `su,s2.toks,spos.line,Sum Int Str,`af DL.D,.nx δ,za0 f gt ge `id `bs,ys.map,`c (.nx δ2),`yb xs,`sI/\`bb,Rp K H' B' d v,Rps.mono,q.mono g,`S4 g r,Gr.same,as[k]?,`S8=`ig,(by unfold RpN at h ⊢),Rp.mono,`mA `t,sos[k]?,RpD K H B ns a,.ow ds,`c `sB,Rp K H' B d v,(`a4C),(`a4D),Vis `xm x,(`fR).same s2,h B δ,`ji σ H,#[_,en,e1,k],`yq s',#[`F?,λi H2 x H3 g2 y hi=>?_,`F?],(q.mono g2).to,(hi B δ),(b1 a z),by rw[U b n];exact h,`b_ - `d',it.yld,it.stop,(gN i),`anj/\`Gi,L2.start,λ_ z=>`e9,(g' i j),k _ H `c' `F7,L2.atI,`c7 [e] `A,`c! x=`d,`aG+`e0<=`S,(`als)∨(`alt),λkv=>`z (`Gz),`mN kvs k v,`a50 e,λz=>e (h1.trans z),kj0 `b7 e,rel.val k,gg0 `b7 e,e.at hi,Pd.setR,(`c `dr),λj k a ds es h1 h2 h3 h4=>?_,en.same.trans,λj ds a h1 h2=>?_,∃(i:Nat) (d:D),`anG,Gr.fresh,xs++[v],rx.same,`cr y p3,`e' e m=`d,`c4 y w,deq d e,A.in1.units,`w `anS,λp=>`T1,Txt.startswith,"list_reverseiterator","__length_hint__",{ cls:=`c5,data:=`b5 ⟨⟩ },`a0 (`cr `mR p2) [e] [] `mS,zh0 `yc q,xt0 ks q,DGet.k,(`a7H),Nat.min_self,s1 _ _ hx,(`a7N),(`C i1),(`C i2),c≠i1,c≠i2,List.forIn_cons,A0 (C9 ?_),D.l2i1,`Rz=`e,acc.toList=`pN,ZSt `aK z TI TO i1 i2 l1 l2 S xs ys 0,`g8 `FJ,Bool.or_false,(·.pop),E1 _ 1,`g×HO,wz0 H l b,(A8 q),by rw[J c `aoj];exact q,`a0 (`cr x2 p2) `gp [] `mS,J7 as ps,A3 `E,by show 2<=`S;decide,(`aop),`c `Fs,`cU hj,eqU `yZ (`t y tk),2 ^ 20,H p=`SC,`EO=`au,q.symm.trans,(A3 z).symm,f b ds,`c (r,b'),δ'[j]?,mkB n N j G b ds,.ow (v7 p b),`cj ks vs,But a H H',`hj H' a sub,(`a9S),v70 ds,(`amU).imp,(`a9V),ns.set,J.w.node,(`a90),J.w.nodeK,`p (`aoN),`p #[rfl,xs,`UX],(`a98),(`a99),`c (`y8,mk),.List [] lp,T8 `eY,PartAt,(`a'p),`c! dk=`d,[v1,`zb],SubO.lst,sos++[`U7 []],`tj #[n5,P3],at'.w.own,by rw[zv0],`U' b q,at'.w.all,`a1 `m0 .un,partsOf,(.ow b'),(`a'3),(`a'_),(`ao5),th0 `HC,r.1=`d,(`a'!),#[q,en,e2,λH' J=>?_],(`a!f),(ns++[`jy]),HO.lst,(`a!k),ev.s.grow,(`a!A),(gN 8),(`a!6),(`a!S),`f 60,(`bam),"many",(`baQ),(`ba7),(`bbf),(`a?H),(`baq),"_law_order",
"_law_part_here",(`bcq),(`bcx),(`bcO),"pair",`f 128,"signs",(`beG),(`a6S),"root",(`bgg),(`bf?),"size",(`bgI),(`bgP),(`bg9),(`bg7),(`bhw),λp=>(p.1,p.2++[d]),[`nc,`ee],pre.isPrefixOf,bk k cs sm m `av,(`jG).zip,.sh (`f c),[`et,.ow `gA],(`bw n).map,.sh (`t S),(`biA),cg ((N+`dR)%36),.ow (`o (`zP `t)),.sh (`tH),(S5 1 v5 f),y00 `a8 `V7 1 `p! `bs `gA,nm.getD,`f `Ie,z/1000,z/4%21,`Io%`nh,gv 2 δ,S.digits,(`f_:Int),`t (`tO),`f `Wc,(`hu:Int),λn=>`fZ (`tO),put S k d,`eD[k]?,`qc `aq0,Gw.qe0,Want.fin,f `bG ds,q90 `G p6 `bG=`d,`o (`aqW `aqX),wanted,(wd ws).reverse,`qi `dC,`bjt+3,`Wc*128,Bt.u70 _ _ `s,.sh `z5,V5 `bG `nk,Z2 `ee,(`eu `f),`t (`aE [c]),.sh (`WA),.sh (`f `iE),`f `kX,`f ((36 ^ m:Nat):Int),.sh (`WD),`zP `aqV,`aE pre,L - `dT,words A k,names.filter,T0.mpr,o0.mpr,{ S with spelled:=`IG },`b1++[w],`o `dD,.sh (`WP),[`arr,`o q.2],`w `WR,T8 (k+5),.sh `nm,`o (M5 q),(bs n).length,.ow (`o (o.map `f)),2 ^ 2500,ps.take,`VZ vs,(`rO s:O4),(`bkr),(`aS:Int),.sh `Ai,bs (4*(4*cnt `ly+`nt)+3),tx `ly,.ow `I3,nT T `dX,(o++`ar0),if `f2 then B else `hD,by show `hA<=_;lia,(e▸ha),`dM hx,rel `cy (`An),ok.held,sp++[b],λs m=>h3 s (A6 _ m),(ds++W),n1+n2+1,`qw hj,its `As,hb ps [] [] (lkd 0),100000 - n,pre.map,`fZ p.1,Km.s60,`Jd<=30,xv0 S0 `aS `Js (`iJ),`Wm::ws,`bm hy,us1++us2,D'.inv,S2.ends,(`blI),(λj v h=>by cases h),(`qc `gH),`t _ _,nd `Ak,`o (`Xy),`o (nd (`JB)),.sh (`JD),(`Jz).zip,L.take,(`bmC),(`bnd),h.gd p hp,`z (1<kd),b2.length,lkv `cy v,(i1+`XI),(`e,v),λa=>lkv `cy a.2,Q++[`nB],cnt pt,(kn pt:Int),((i+hd:Nat):Int),P++[`as `XQ],.sh (`AK),.sh pd,`f `XP,(`boA),`dx ha,ne.length,`eu `as,`boZ c,n'=`aR,.sh (`f `ats),(`atq:Int),(`boV),(`bnp),[`gD,`bS,`jU,`atu,.un,.un,.un,.un,.un],(by rw[`bmu]),(zu0 v6),"beginning",b_list,"_law_many","_law_signs",(top 46),[`m4, `ez],"_law_pool",(top 51),(`bpx),(`bpC),t8 `AS,(`bp1),(`bp2),[`p2, `VJ],[`jN, `ht, `X7],J6 `atH,isSubtype_type,`cT "object.__class__",(by let#[hh,gg,dd,tt,oo]:=s),(by have z1:`akz `eo `xd := #[_,e,c]),(`mh a:Key),(`rO a:Key),
(by injection e with e1 _),Paired.length,`ai r _,by simp at e;subst e;exact`akA,#[u,`rQ,h2],#[_,`fz,rfl,_,rfl,rfl],H dx=`mj,`EC<=1000,`rS/\`rT/\∃vs,`kO/\`akH `rU a vs,o.ExactDict,`rV=.dict es ep,(`akK),h1.get?,`cC P w H h a o,∀a b,`akN,`c (`RI),`gh<=a,(x b u e).stay,Mut (H x),e=x∨H e=`c (`fA x),∃u,`g0 e=`br,`c (`fA y),by subst z;rw[r] at mu;exact mu,`c (`akR),∀b o u,H b=`RJ->`g1=`RJ,k b ob q,λb u q _ _ _=>`EI,λb u q _ _ _=>#[u.slots,`EI],λb u q _=>#[u,`EI],(upd H x o),`rZ `m,builtinsNs,`akW∨`RM,X.env.globals,X.s₀.heap.get? b=`au,`af (`dm),`akZ/\`r3/\`ak_,HOk `a? X.w H' h',(`a1g),(by let#[sl,e1]:=`RR b o e n hb hx),(by let#[e,n,ne,nf,d]:=`RS),Inv X `k σ H `oO,k b o (λz=>hc (by simp[z])) e,λ_ _ e=>e,σ'.length=`r8,(`kQ b (B0 (B6 `oP `EQ))).trans,`kR (B8 hj),I.ok.has,(`kQ b (B0 (B6 `oP (I.ok.cab x c U hc)))).trans,V->`h3,(`a1o),PT X e t,#[v,H,I,r,h],wpAny_Name,(by intro pins s σ H Q I hw),(`a1r),`v (∀whole,`ak'=(do let v ← whole;`R_ e.pos;`oR [v] (truthy v))) Ac,(`a1s),(`a1w),(by let#[c,rfl,q1]:=q1),r.inj r',(by let#[σ',H',I,q]:=h),(by exact`a1y),V->V->V->Hp->(`h3)->Prop,`mp es `A,(B0 `oP),PE X o to,(`a1B),`v (`ale [tg] e `h4 `A=`g5) Aa,`v (`alf [tg] e `A=`xv) Aa,`v ((`mp [tg] `A).map `eX=[`g6 tg `A]) Aa,(`a1D),p10 X `k H' b,Nat->`xc,tn i `aK,J.go i H,(`a1G),Inv X `k σ H' s2,J.yld i H x H',J.stop i H,`f (lo+i),(by let#[o,e,c,d]:=st),(by exact`a1O),(by let#[xs,x,hq,hx]:=hg),(by let#[u,hu,ru]:=rv.get hx),(`a1P),(by let#[o,e,c,d]:=id J),(`g8 `R?).objs.size,by simpa using q,PI X tg `jm wi,(`a1W),I7.unpinned,(f v u),Int->Int->Prop,(`a1Z),(`a1_),0<=j/\j<=1000000/\`alr<`xB,Qj0 x y=`d,λi j=>.bl (`z (i<j)),λi j=>`alw,λi j=>.bl (`z (j<i)),λi j=>`alx,`I rfl h,sizeLine_eq,(by let#[u,rfl,t,rfl]:=`Sd),ObjM `aK x dx C mA,W.hasDictIn K C=`d,getAttr,(by let#[od,J,hl]:=I.look),`dN K `eo=`d,`alG=`d,(by rw[`a2C]),`ED f=`b6,RelO.some_of,`bg e env,(`a2I),Around.under,Code.isFrame,H1 p=`e,(`a2M),∀vs H Q E,`E?->`cg=`aA,Env0 P w K mg `m A `cE s H,e.frames,
λr s' hq=>?_,`cs K `fI,`alU::us,vs[i]?=`b6,`sk `alY,`c9 K cdv `fM=`d,(`a21),`fN X `xK r,`r_=`c `xK,#[_,J,rfl],(z0 _ _),(`a27),`R hv,Builtin.Slice.slicePlaces,`R `s,{ s3 with heap:=s3.heap.push { cls:=`bD "slice",data:=`rR ⟨vl,vu,`aJ⟩ } },tail_any,q _ `Fl,IsTupN.new _ _,xs≠[],`w `Fm,`R h1,seqIndex_of,`ap h1,`ap h0,seqIndex_neg,IxR X r,SqT K H p xs,(by intro value slice pins s σ H x y v u Q I rx ry h hs),(by let#[t,rfl]:=ry),(by let#[j,h1,h2,h3,h4,h5]:=f90 he),A20.lookup,(`a3z),P7 `j,H p=`Fo,`o4 lo hi `e n,(if a then 1 else 0)==b,a==(if b then 1 else 0),uh0 x=`d,(`cT `sr),(by let#[its,r',pl,hz]:=`r?),(by let#[its,r',pl,hz]:=`EY),`g0 `Y,h'.push,typeOf `Ff=`b3 (`bD "method_descriptor"),MtR X id r,`v (`fJ o `er `A `mq=`h7) Aa,(`a34),(`EU).length,acc++its,(`a35),(by let#[z,its,n,r,hl,e]:=I.lstM hH),#[_,e,rfl],(`o `SE),OpenLaw,d.params.defaults=[],mg `SG=`Fw,s₁.heap.Ns,`go k `x_,∀(s:`y) (u:`J),`Fy s fd `SI [(x,u)],SqL K H a `x0,H b≠`e,W.OpenLaw,.FunctionDef,x.cps[i]?,`FC y=`d6,x.2=`jg->∃c,`FC x.1=`d6,`FD::r,λ(n,k)=>if `amy then (n,`x5) else `FD,if (`amx&&`FE==`jf)=`d then `x5 else k,Nat->`eU,`sy=`oK,newList [],h₁.get? b=`au,(x,`jg),(`k_).2.1,`p hb,as.2.2.2.1,`v (`g4 `mB `sz `SV `A=`FN) Aa,`c (`g6 `FM `A),`af (`SW),λ_=>`pg,J2 f G `bs δ,D->`sA,`l->`sA,`c (`f (i%j)),`c (`z (i=j)),sIx `aG 0 lo,`sE=`pj,by simp[hp],`mC=`dv,by unfold v9;rw[h],`ax=`e5,`ax=`bv,.dT `yc,`bb->Rps K H' B' ds xs,xs++[x],by simp[m9],by rw[m9] at h;subst h;simp[m9],s _ _ e,(by let#[xs,e,l,r]:=h),`cX (`ie l),RpNs.mono,by apply `S';exact `S! g h,so=`cV,`cX g `FZ,∀(k:Nat) C dx fs,`amT->k=0,(λ_ _ z=>nomatch z),(by exact`a4A),(by let#[x,ns,e,r]:=h),∀o xs,H a≠`Fz,(by rcases h with⟨d',q,r⟩|⟨ks,vs,q,ts,xs,q1,e,q2,r⟩|⟨x,ns,e,r⟩),m[i]?=`k4,l.set i a,`bx `F0 σ δ,SlR K H B o s,(upd H p o),Rp K H B dx x,(`Ti).bad,fun σ H Q h=>gk0 hf h,(by refine`a4K),k _ H' s (by rw[← h,Y7]),(by simp only[`n,`ps] at h),(by simp only[`n,`ap hl] at h),`p j5,(`fR).bad,fun σ H Q h=>a70 hf h,
(vs++[]),∀a,`mI->NB (`ad a),`ad p=`e,PSD X st G,λj hj=>?_,`v (`yo) Af,kl0 (i:=i) hN hi hx hf,`ih s',Gr H₁ H B B,(by refine`a4Y),(by let#[a,xs,rfl,q,rs]:=r),(by exact`a40),(by let#[e3,y]:=y),(by let#[x',e4,r']:=rs.get (i:=i) (d:=_) (C2 hi)),y xs `To,(by exact`a43),(by exact`a44),i<=`b_,(by exact `a5r),hS.trans,λi j a ds es h1 _ _ _=>(ul0 h1).elim,(`a5B),(by split at h<;>cases h),Fun K x `fM st fa fd,(by refine `a5K),(by let#[a,xs,rfl,hq,_]:=r),`c7 [`Gl] `A,J.toArray,eqS dx dy,#[rfl,?_],`TB xs i,SqL K H p ys,SqT K H p ys,`p `ev,`q `ev,`cc `sr=`e,`v (Gl X `sr) Aa,mg x=`Fw/\`cs K `xX=`d/\`yx,(by let#[fa,fd,F,hm,kp,hb]:=C),(`py).bind,(s70 s),(`pz).bind,U3 gt G n δ',`w `Gw,`mM xs n,`sV xs lo hi,{ s with toks:=`bu+knd.draws k },knd.keeps,λ_ _=>rfl,(by let#[y,hy,rfl]:=`dx hx),Bool.false_or,#[h1,h2],Option.isSome_map,Rd H a `Ft,upd H a (.dK (`TH)),(by rcases g with⟨kvs,k,e,ey,l⟩|⟨kvs,k,b,e,ey,eb,l⟩),(by let#[z,hd,vs,rel,dd]:=`TK),dd.mapOf,(by let#[z,hd,xs,rel,dd]:=`TM),`sW H a y o,∃q,`g0 a=`sX,`af (Key×`J),(by have hl:`anx<=`S:=by have:=sn0 kvs k v;lia),let #[q,_,_,hq,_]:=J;#[q,hq],PE X i ty,mx0 trs σ H Q,(`a59),λkv=>(kV `pA,kv.2),RpG.mono,(`a6f),`p `s_,(by exact `a6h),(by rcases `ik e2 with⟨rfl,e3,_⟩|⟨J,e3⟩),`jw b z,d7 `E,(by have g:`a6x:=`a6y),en.same.free hp,(by exact`a6K),(by exact `a6L),DL.fz d,`p `anH,(λo h=>h),(by cases d<;>simp[`c!] at h),by rw[`bY,`bY];lia,its.toArray.isEmpty,Bool.and_false,(by let#[a,J,hb,xs,hx,rx]:=`s1),`p #[rfl,xs,`p (`p hx)],rx.length,rz.length,`mp `anL `A,by unfold deq;simp,by unfold wy0;simp,List.all_map,`t z t,v1.length,v2.length,view I ld hx rx,view I le hy ry,by rw[in1_units];lia,(by have s1:`g'=`bP:=by rw[`bY,← `pE,`Gn]),(by have s2:`a7e:=`a7f),(`a7g),beq_eq_false_iff_ne.mpr,beq_self_eq_true,(by let#[a,xs,rfl,q1,r1]:=rx),l7.mp hn.symm,by rw[`mH,`mQ];exact hz,(`a7l),(`Ti).same s3,trees ds,tree d=`d,`R ht,∀i s,St i s->`mv `GS `T4,ItemsOf P acc' n,(by unfold Builtin.List.listExtendWith),
(by unfold Builtin.List.listLengthHint),λb o hb e=>`s4 e,its.reverse,(`a7y),(`g8 _).objs.size,`fB `d4=`anY,`cc `d4=`e,`v (Gl X `d4) Aa,λ_=>?_,(`S1).map `an1,`v (Z70 b) Ag,rq0 e3 r2,`T' hp,k v H2 `mT rv,DGet.t hp hb,`oR [v,ov] `E',pr.1.length,`bj i (.ow (`cj (`p (`an3)) `Ub)),ds.all `c!,(`pK).symm,IsZ h' z TI TO a `d,`s6 h' `Y x y,(`a75),(`a77),#[_,hz,rfl],`g0 S=`an',ZG xs ys S h' as,{ s with heap:=h,toks:=tk },O0 hlo.1 L.z,(C5 hj),S4 c5 _,`G1 a ha,(`a8o),(by let#[f0,hI]:=hI),"tuple.__new__",#[[`gf,`pL],[]],List.nodup_cons,(by rcases `bm h with rfl|h),J7 as (xs.zip ys),k b o hc e,(by let#[#[old,he],h1]:=st),(s1.mono g2).to,ys[j]?=`c z/\(∀m,m<j->ys[m]?≠`c z)/\Q `yY H,(by let#[p,ys,z,j,rfl,rfl,hq,hj,O,q]:=h),`o5=`e0,by rw[← `cf,`K],(`UA).1,(by have J:`G':=`a8_),(by refine`a81),(by have:`a83:=C2 `j),(by let#[c0,dd,dt,sl]:=o),(by let#[t,rfl]:=ru),(by let#[y,tk,e1,e2]:=at_ j `pP),(by let#[y,tk,e1,e2]:=at_ m hm),(by exact `a9b),`aox (`aoy),(by let#[y,rr,rfl,r3,r4]:=r2),(by let#[hj,h1,h2]:=Ag0.mp e4),(by exact `a9k),List.range'_succ,`k'=`e,(by rw[e2,e4,e3] at e1),ah0 K=`d,(by rcases (all _ (wi0 lc)).1 with z|z),H c=`mj,`Hc H a sub c,SubO.no_tup,(∃o,`UE),`akL/\`EG `a? X.w H `aK a p.1 p.2,(by let#[σ',H',I,sub,c,k]:=h),(by exact`a9w),(`a9z),`UH=`UI,G δ=`dv,∀p,EndB G `pQ j p r b',(by let#[B',c1,c2,J,rv]:=`Hg),c1 x `anH,`UK=`UI,`bg (`Hi) `A,(by let#[a,J,hB,ro]:=`s1),Env X.K H' B σ `aoJ,λv H'=>∃a sub,`UO/\Q v `UP,I'.closed,by unfold RpN at h;exact h,`UQ=`d,by unfold RpN;exact h,(by by_cases hm:b∈as),(`js).bind,λk=>`hl,(`cL).isSome=`d,(by let#[k',c,so,rfl,f1,f2,f3,f4]:=`aoO),`TW s2,PD X `eZ gv,`v (`g4 `eZ (`c (`aoQ)) `h4 `A=`g5) Aa,(`a95),(by rename_i c' fs ds rest),(by let#[so,U,nk]:=`mZ J.w.all (i:=0) rfl),`f (n1+n2),Ai0.mpr,λ_ z=>`pC,sos[0]?=`ms,`cX g l,PD X ke gk,[ke,`U1],(`aoZ `Hw),kk _ _ ?_,a3 b hb n,`U3 X.K `ad `V H σ δ i j dp,∀H',`U3 X.K `ad `V H' σ δ' i j dp->`ji σ H',u80 ns d,(by let#[a,as,sos,at']:=`Hn q2),#[d,a,ns,as,sos,env,q1,at',`y!],
λp H2 hp s2 ro=>?_,`mG c2,`x6 elt `ao4 `cF lpos,fun σ H Q=>∃B δ,tDT X.K B δ noT σ H Q,(`a'X),(`y2 hB s2),#[q,en,e2,λv H' ev=>?_],λd=>(d,r.2),by rw[`bc];rfl,List.any_eq_true,`hm `bV,by rw[`k8,m9];rfl,`c! da=`d,OpR X (`d9 op) rr,PX X b gx,`ap hfl,`R hfl,a4 b hb n,by rw[`a4];rfl,(`a!j),`a0 (`cr `g7 p2) `sY [] `mS,(`f y),sliceRange,`o4 lo hi st `aG,`HH `ape,`a7::q,ls.length,(by rcases `bm z with z|z),(`a!o),b∉`m2,(Y b hb),(`q q),λ_ _=>`e,`x6 elt `amz `cF lpos,(`a?d),"_law_j",(`bai),"abcdefghijklmnopqrstuvwxyz 0123456789",(`baY),(`bb4),(`bc?),(`bdb),[`zv, "items", `VH],mkN 1 w80 wb0,(`bdj),(`bdq),(`bdt),mkF 1 sa0 tx0,(`bdS),(`bdU),(`bdZ),[`zw, "out", "rest"],mkN 1 yd0 yc0,(`bd2),mkN 1 yl0 xz0,(`bex),mkF 1 yx0 yz0,(`bez),mkN 1 w70 w40,(`beC),(`bfe),(`bff),(`bfr),(`bfu),(`bfz),(`bfF),(`bfN),(`bfZ),(`bf0),(`bgn),(`bgJ),(`bhL),(`bhQ),(n6 lf0),(`se:Int),`z (`g!),Pt->`l,`lq _ ps,fv0 v=`d,PsOk ps,(by injection h with h),`af (`eB),(`a1 n `VW).flatten,(a,b)::`ix r,`c (.rt d δ'),ifB g Ga Gb δ,`q `tq,`q `apl,`q `apw,`c (`f c),k<1000000,(Z0 `gB),(`aqy+3*k*k),(`bh?),(`aqz),c∈cq0.cps.toList,λj=>`tD,(`e2 p),`bd q0,`b4 q0,(by refine `aqF),(λv hv=>by cases hv),by simp[hl],`V1 at',[`p4,`bp,`V2,`b'],`bw 13,(`p9).take (if 35<k then 2 else 1),`t (`aE [`V4]),e60 _ `j `j,Gw.gh0 _ _ `Ib,app _ _ ?_,ab0 _ `j `j,by split<;>lia,(`zN+3),λk=>`aqM,List.range_succ,(t:Int),`V9 `e1 "",PoolB np `av,((ix j:Nat):Int),(by let#[j,hj,rfl]:=`dx hp),k30 P (ix j) `j (by have:=J j;lia),by rw[e],(by show `bi_),[`p4,`b',`bp,.un,.un,.un,.un],(`V?).toNat,z/156%(`Ij),`f `nh,(`bi1),`aA<=60,pool.length,[`iz,`f `p7],10 ^ 30+57,`o (`ni),`c (T8 1),`c (T8 2),`f `Wg,(`tQ).length,`f `aqZ,`jR<=1000,(`Ir).set,`Wl _ _,(`Wk)[k]?=_,[`cN,`et],`c `z5,`tS ja0,{ wk0 S with un:=u },by rw[hw];simp,[`cN,`tU,s2,s3],by rw[J];rfl,(`tV).length,[`nj,`ib],[.sh (`hq),`bp],(`aq8).flatten.length,List.reverse_append,List.map_reverse,`hu<=10000,n<=`aq9,`dC≠60,`dB=`ee::ws,(by rw[`bjx]),(by rw[`bjS,hw]),`Wx=`qe,
(by rw[`arc,show (`HS : Str)=`Wy from rfl,sv0,sv0]),(by rcases hv with rfl|rfl<;>rfl),(mq0 p S _),trs q.2=`d,`v (`ard=`t_) Ai,`L _ _,`bd rfl,`bjZ a,[s0,s1,s2,.sh (`WE),`WF],.sh (`arh),`t1 - `arj,[.sh (`We),`qo,`z?],`z (`t0=L),w::`WK λn=>`z (`t0=`dV)&&`IF,`jR<60,(mt0 p S _),`f_<=8,`t2 `b1 `f_ `t3=`d,[.ow (v7 p (R `WN)),`gF,`z'],`o4 (`c 0) `e `IH n,`o4 (`c 1) `e `IH n,`IJ (`Ab),(kd,`dD),[.sh (`hq),`WQ],(by let#[q,_,rfl]:=`gG),`gH (2,`dD),`gH (3,`dD),[`cN,.un],.sh (`WS),vp0 `j `lw `x,`b1[`art]?=`c nm,`tZ->∃k u q,`hy/\`jV/\`IM/\X5 nm∉M5 q,((2*b:Nat):Int),o.length,D->Prop,`c (`z (z<0)),`f `IR,(`ae h rfl),(`fe).length,(`t7:Int),`dV<=20,(`arG).length,E2.mpr rfl,sub_len,(`bkq),idx_map,`h!∈B,(`hA:Int),[`bS,`Ah,`I6,`I4,.un],[`bS,`W3,`I6,`I4,.un],`c `arQ,c7 (ds:=`t8) rfl,.ow `I5,[a,b,c,`W6,e,`iH],(o++`nr),(`hD).Nodup,.ow `anI,`ar? `f3,nB B `j_,trs l=`d,#[c+1,?_],{ S1 with digits:=`jW },#[`z4,`Jb,`Xb,ok.wait,`asc],`Jc hf,uo0 th rfl,sp.length,{ `qv with count:=c },{ S with length:=`da },`a1 `aR `jT++ws,tz0 hn hj,(by rename_i B T j ds B1 B' T1 T' b1 b),λh hd=>`asj,(by have J:=`bld),(∀s∈T,`eF),by rw[`dG];rfl,(by let#[n,h1,h2]:=`asj),(by refine`ble),(by rw[`asl,`aV,← h2 f W]),(`blk),(by rw[`j0,`O,`ds] at this),(by let#[N,hN]:=h.pre),(by rcases hh with⟨a,b⟩|⟨a,b⟩),(`Jo).drop `dT,`I rfl ht,w.cps.toList.map,I.okS W,`aS::`b0,S0.un.length,(`Xo).begun,Opn.const,(`Az+m),(by rcases `Xq with z|hy),`t' #[q,hq,rfl],(`blK),(`blL),(`blN),(by rw[D'.bg,A.bg,w50]),(by let#[M,hM]:=hL),#[M,hM],S2.begun,B1.length,S2.begun.length,(by let#[q,hq,rfl]:=`gG),by simp[nob] at h1,(by rw[`blZ]),`IU c qs,sh0 `JA,`o (nd B),(by let#[n,h1,h2]:=ih hn hB `Aq),wv0 0 `dA (gc (`t `jN)),(`bmA),wv0 0 `dA `XF,(`bnk),(`XG).ok,[`q `jN,`q `iv,`q `asZ],[`bp,`jP],(n':Int),(by have hz:`bn5:=`an),(`bn6),(Z0 ?_),(by refine `bn9),by rw[`bc];exact h,`eG=`aS,(by exact λs z=>nomatch z),lkv π a.2,(`boi),(hit W),`AI ht,`f ((i+`lr:Nat):Int),(rel π pt).d,(`bou),`box+3,rel `cy pt,(λa ha=>nomatch ha),
(by let#[v,_,rfl]:=`XW),[.un,`bp],λy=>`z (y<=n),`JQ<=100,`XX<=100,(`bo_),st9 a b `lv T nb ne `iE S1 n' (`X0) (.sh (`f `X1)),600<`aR,(top 6),(top 7),(top 8),(top 18),(`bo3),(`bo4),(top 21),(top 22),(top 23),(top 24),(top 25),(top 26),(`bpc),(top 30),[`hs, `HV, `iv, `HT],(`bpe),(op0 1),(top 31),(top 32),(`bpg),(top 33),(top 35),ap0 K mg "KINDS" `HU,(top 36),(top 37),(`bpk),(top 38),(top 40),(top 41),(b7 `az v6),[`nF, `X9],(top 42),(top 43),(top 44),FnB P w K mg `m `AQ 1 `fj 0 S9,(`bpr),t8 `X!,[`m3, `apN],(Z8 `J_ v6),(`bpw),FnN P w K mg `m `J0 1 `J1 W8,C__law_values,(top 50),t8 `Yb,(o5 4 `uz),(`bpy),(top 52),(top 53),(top 54),(`bpz),C__law_size,(d9 `a9 v6),(`bpA),(top 55),(`bpB),(`bpD),FnT P w K mg `m `G `uB 1 `a' p6 U4,"Reader.__init__",(`bpV),(`bpY),"Reader.give","Reader.whole","Reader.open_parts","Reader.web","Reader.takes",(`bp3),"Reader.takes_digit","Reader.goes_on","Reader.takes_head",(`bp5),"Reader.takes_part","Reader.hold","Reader.end_parts","Reader.takes_sign","Reader.takes_name_number","Reader.takes_known_name","Reader.names_here","Reader.takes_letter",`bQ K `bf x=`E6,`T P9 w9 K mg b9 CX0 n f fd ps (spD K m),FnD P9 w9 K mg b9 x n ps m,`T P9 w9 K mg b9 CX0 n f fd ps (spN K m),FnN P9 w9 K mg b9 x n ps m,`g×Obj,(`Ey:`y).TypeIs,#[_,rfl,r],by simpa using e,W.instObj,(`akC C dx),`c `akD,PySem.Within,`akF mA (`RC),h.DictOf,`g×`J,`gZ×`akI,`a1b `rU,(p.1=a∨`rW=`mj),TabOk H h a (qOf ps),`xi->G a b,`g1=`h_,W.methodObj,d7 (U9 q hn),`h0 ob u',`xj=`c o',d7 (hm b _ q `xk),`a1e b,x ≠`EJ,`xl x=`ml,env.kindOf,∀x c,`jh->c≠b,(`a1f),(`akY)/\∀p∈`EL,p.1≠b,I.base.there,I.base.tbls,`EK=`br->`xj=`br,`RU x=`ml,λb o e hx=>?_,EP X `k σ Q,(x==`r!)=`r,("__classdict__" : Str),(x==`ak7)=`r,I.mod.glob.keeps I.bk,`ER e `A whole,(a::`R0),`rV=`b5 its n,Array.toList,I.unwish,Q σ' H',[v,ov,iv],swapsWithSole,swappedStores,letOwnedTupleGo,k it `aB o e,(sb.2 b hb).trans,I.list_inj,s.heap.IsTuple a `bt,I1.fpOk,(`r,`Sa),(`a1Y),Int->Int,`u `aq X.A (f `xA (`f j u)) Q E s,j<1073741824,
i.natAbs,-(`xB)<i/\i<`xB,-(`xB)<j/\j<`xB,`f (i/j),`f (i ^ `h!),.bl (`z (i<=j)),.bl (`z (j<=i)),[op,op'],`t (i++j),(`a2c),[`ba,`fH],W.lookIn `er od,`cD K `fI "__setattr__","object.__setattr__",`a2w K C,W.makesIn K C,(`xE).push (`Sh),ys0 f v r,∃t,u=`EA x t,Str.empty,`cD K `fI f,fp0 `b7 e,ys0 f y fs,"type.__call__",(`a2R),backToKw,(`a2U),callWith,(`a2V),`mi `h?,NameKind,cellsFrom,b∈([]:`aM),(`a2_),`c `Ff,hc `k s1 σ H1 vs us Q I1 r1 q1,sIx n 0 lo,sIx n n hi,(`sm+`kX*1).toNat,(items.toList.drop (`Fh)).take (`Sr),"__getitem__",((`Fh:Nat):Int),.Slice,(`a3r),(i+n).toNat,ixN `aG i,its'.toArray,(`a3E),(1:Int) > 0,(`a28),SqL X.K H p ys,SqT X.K H p ys,`f `e0,(`a3Q),Q `a3R H,∀l,`Fq->Q (`mz) (upd H l `Fs),.dT kvs,`b7 p _ hk,(apos.endLine==cpos.line)=`d,`af Keyword,`a1 k xs,`c `SF,(`a39),K w.params,(`a3'),`SN->`g1=`au,x.cps[i],`sj y.1=`ml,N'.length,caps.map,J8 n `bZ σ,Str×`alV,`SS&&env.scope.kind==`mt,(`a3?),[`a4e],s2.heap.push `FJ,(`k_).2.2.2.2.1,relabel `cF `A,`FK==`mt,`FL==`jf,PG `pc tg g,PF `pc ifs tt,PE `pc elt te,(`a4q),`cr y py,ob ga δ,(·.length),sep.length,Txt.join,Rd H a `mo,H a=`c (dOb ks xs)/\dLn ks=`aG/\`bb,`pm->`bx G l m,`c (`FX),(`a4x),`Ta=`ms,h.own b hb,`h0 ob `mo,z00 (i:=i) hN hv hd hcd,by rw[Y7],by rw[Y8],λv1 H1 s1 r1=>#[y,`fR,e2,`sN],by rw[Y7] at r;exact r,s.trans,(`a4F),(`mG `fS),by rw[`mH];exact hl,λvs H1 s1 r1=>?_,`cl=`F1,(`a4S),(`a4U),k _ H' s' `Tn,Hh b=H1 b,λi ds a h1 h2=>?_,by simpa using h,B a∨a=p,λa=>`am?,RpO K H' `k7 d p,B a∨a=L,(`a5z),Loc `xm y,(`a4t),`af PySem.Env,`go k (`xH (`Fd `fM `o! `Y fa cdv)),(n80 CX0 P w K mg `m N `fM `o! fa cdv A `cE s H E).nox,`yt=`pw,`yt=`sR,(pf0 h1).elim,λ_ z=>z,Txt.slice,`g'+J.toArray.size,(`a5Y),`bj i (`sU),(ds++es),ds.dropLast,`c (`f (i*j)),`GD xs k,`c `SD,rel.length,(`TH).length,X.A.units,(·.isSome),`c7 `sY `A,`gj `ch (`anA),`c (.ow d0),ro.plain,s _ _ h,`cl=`sZ,`anF/\`jt,#[z,q],(`a6R),`cr x px,`cr x p2,[`anK,`TX],ds.getD j `x,es.getD j `x,deq (`anM) (`anN),Rp X.K H B' e y,O.length,(`a7h),[p.1,p.2],
(ds.zip es).map,`J->Prop,s'.heap.get?,`c `a7w,`g8 `T6,`c `yK,(`r,`bg (`T7) `A),`gj `mS (`hd),(`a7B),λp=>if p.1=q then v else p.2,by apply `yP;exact hz,xt0 pr.1 q,s.heap.IsListIter,h'.IsListIter,`g0 c=`au,`Ue->`Uf->`dn c=`au->`an6,Builtin.SmallTypes.ownedTupleIsFree `gy,Builtin.SmallTypes.nextOf,`c `a8f,"list.extend.loop",hG.pairs,(`mi `gh),by apply `lc;lia,`la `g7,specialOf,(`xP `T5),List.Pairwise.nil,ys[j]?=`ep,h1.IsList,λo e=>hk _ o e,(`a8H),J b `aoj,by rw[`aok];exact q,(`a1d),(`r,`bg (`Uu) `A),(us.zip ws),`w `E5,{ cls:=`gf,data:=`b5 ⟨u,w⟩ },(`a7v),(`a8Z),its.toArray[m],#[_,h1,rfl],(`a89),#[`fa,H,`fG,`ac,q],ys.findIdx?,λy=>`z (y=z),(`aox `aoy).map λj=>`fa,λm hm he=>?_,(`y2 hb hh),SubO.ins,`aoC C dx fs,`aP (D×D),`c (.ow (v7 p b')),by rw[`K];lia,λH' B' b' r'=>r'.toL,(y==`r!)=`r,(`a9M),#[v,_,I'.opened o,r,k],`hc `j,J.w.opAt,`p (`ti),`UU r1 hn,`w [`iq,`pn,`cw],`dq `e! f pos',`aoM `Hp U,`p #[`xk,`aoN],(`a'k),s00 i `ex δ,(`a'n),`ji σ' H',H a=`a4y,at'.w.ins,(`lf).zip,(C8 _ z),(`a9_),λi j a ds es h1 _ _ _=>?_,(`a'R),λ_=>`FT,[`a'T],`hm `eX,keys.all `anz=`d,`he≠[],(`HB).map,sos++[`U7 xs],s00 i `y' δ,ys0 f v (nm.zip xs),(`a!h),[`a!i],h1.push `T6,as'.map `Fb,`TB ys i,(xs[·]?),(`a!l),`Sx [o,i] (`mu o i),λv H1 ev=>?_,λ_=>`c ps,(`a?v),(`a?F),"cells",`t `apl,(`a?K),(`a?M),(`a?O),(`a?Y),(`a?1),(`a?4),`f 48271,(`bag),(`bah),"small",`t `apw,(`bar),(`ban),(`bay),(`baB),(`baz),(`baK),(`baN),(`ba0),(`bbA),(`bbL),(V7 `dz),(`bbP),(`a?J),(`bbV),(`bb2),"_law_start",(`bb5),(`bb6),(`bb!),(`bb?),(`bcb),(`bcc),(`bcf),(`bcl),(`bbI),(`bcB),(`bdy),(`bdT),(`bd_),(vf0 `r),(`bd3),(`ben),(`ber),(fz0 `HU),(`beH),(`beJ),(`bfq),(`bfx),(`bfy),(`bfE),(`bfL),(`bfK),(`bfM),(`bfY),(`bf1),(`bf2),(`bf5),(`bga),(J9 0 `iw),(`bgu),(z7 `HW v5),`t `zz,(`bgV),(xj0 `ag `dz tt0),(`bgY),(`bg6),(`bg8),(`bg'),(`bg!),(z7 `H_ v5),(`bho),(`bhJ),(`bhN),(`bhT),`w [q.1,q.2],pool.map,c%2147483647,`mA `as,Z4 `bia,by rw[`zK];rfl,f (`UM) ds,Z3 `bij,(S6 ?_),Z3 `bil,parts.map,(`biv),(`biC),(`biF),`H! (k%7),
`t (`aE w),`aE (`tG),`Ig (ix j) "",k'<=k+14,Gd p m `av,S.begun.getD,`bw `dC,(`aqR).map,S.un.reverse.map,S.names.map,λn=>`We,S.wait.reverse.map,λw=>`zZ,(v7 p `bG),(`aY:Int),q.2++[d],λp=>`f0 p.2,(`o (`aq_)),(`bi'),`t (Z2 v),S.wait.count `b!,λ(p:`eB)=>`f0 p.2,`z (a=b),(`bjk),`a1 n [Want.name,`ee],(`bjn),(`bjo),`dC - 1 - (N/4).toNat,.ow `bi7,Q4 `bG `nk,Z3 `bjR,show (`VM : Str)=Z2 `tY from rfl,S1.count,.ow (v7 p (R S1)),λc=>`WA,[`gF,s1,s2],`o (`WG),((36 ^ (`WI):Nat):Int),(`dT:Int),s.cps.toList.length,F.length,m.length,`b1++[`tM],zn0 xs (`c 0) `e `IH,(`bj0),((1:Nat):Int),`t (`qf q.1),`z3[k+5]?,`jR - 1 - b,.ow `bkb,.sh (`f `jW),((`Ad:Nat):Int),[`lk,`fa],-2*z - 1,(`t6:Int),`f `arz,((sg s).map `f),`o `arB,((`IS:Nat):Int),`f `arD,`o ((tx p).map `f),`IX::`iG,[`lk,`gI],(`bm h).resolve_left λz=>e `pe,`hA - 1,2*`W1,(`arK),qc0 T s,(lp0 _ _).mpr,(`bkt),(`bky),(`z (`no)),(`IY:Int),(`ub:Int),`aS - 1,`bkD+2,(by rw[`bkF]),kf0 rfl B,(by rw[`bkI]),c7 (ds:=`I7) rfl,(`arU),bs `arZ,hb ps B T `nq,if `f2 then W else `Al++W,st ps `W8 B T W (`ns),o4 (x:=`uc) (y:=`fa) rfl rfl,st ps `W8 `dF T (`fe++W) (`ns),hw.it p hp,`aA - `aS,#[f - 1,`H],(J y hy),`ue+51*(`ar6)<=M,by show `ar9;lia,by rw[`O];lia,(`fe).map,(`iG).map,((N/128:Nat):Int),ok.names,L5.mp,S1.spelled,by rw[`aV];exact he,`ase++[b],l.modify,∃z:Int,d=`fW,ih h `Aq,λf W=>?_,show n+1+f=`Jg+1 by lia,λx hx=>hd x `o?,`jZ∈its (`An),λp=>`Xl,Want.value,J.length,(`ix (`Av)).map `bV,`asa `f3,(`ir).map,Km.q40 `f3 (e20 π),λs=>`hw,`b1++[`hw],`ls (`Ax),(λx hx=>nomatch hx),q50 hw `s,r.app r',.item a1 r.len (by rw[A.un] at g';exact g') bd,λp=>(p.1,p.2++[`Ax]),`zF k `asC,`b9 `WR,`I! λk=>`Xa,by simp[nob],(.bl (`E3)),`c (`aO (`qD)),ixD X `z2,.sh `bl2,(`hC).vals,.sh (`XA),(`bj3),(`qC).map,`o `AF,(`bmh),(`fh λq=>`Jy).zip,(`XD j).map,`asS `AG,"_law_name",`t `iv,(`bmO),(`bmP),(`bmV),"ended",(`bnj),(`bnt),(m5 3),(o2 `ag `ab leD),(`bnI),(`bnM),`um++`lx,(`j8:Int),`boh itm,(`as7),(`boj),(`bon),(`c q.1,q.2),Q++`boo,(`as?),ps0 π qs,`f `JM,
(`atb).length,W.wb.it pt U,(`boB),`fh λq=>(`as!:`JI),(`boM),#[q - 1,`H],by rw[h],λh=>`atj,λh=>by injection h,`c `JR,List.take_of_length_le,(by rw[`iF];lia),(`XZ).map,le ne n',le nb n',(`atr:Int),List.drop_eq_nil_of_le,.ow `X2,(c0:Int),(`bo2),(z9 o8 `AO),(`bpf),(Z8 `uu v6),(Z8 `az v6),"_law_count",[`m7, `atB],(`bpd),C_Reader_whole,fun δ d h=>pv0 h,"behind",bT_Reader,λ_ _ _ _ _ _ us hl=>by let#[_,_,_,_,rfl]:=us4 hl;rfl,"__getattribute__",(`hY `rN),codeAny_call_builtin,Fin->`eU,`t `Rw tk,hh.get? f=`ep,`c `rN,`J->`aa,Value.isInt,Value.isStrOf,`af L2.Key,`p #[i,t,rfl,e],P7 `a1a,(by rcases zc0 hb with⟨j,u,rfl,e⟩|⟨y,u,rfl,e⟩),(by rcases zc0 hv with⟨j,u,rfl,rfl⟩|⟨y,u,rfl,rfl⟩),(J4 `kM w).is,`xb UInt8,`af (`aP L2.V),`af (L2.Key×L2.V),∃t,u=Value.bytes b t,∃t,u=Value.float b t,`bE ys ws,(xs.take n),`c4 p.2 q.2,`af (`g×`xf),`b5 `bs n,cont.toList,`hZ=`akE,∃mA,`RD/\(`RE)/\`akG,p.1=q.1/\H q.2.1=`c (`w (p.1.map kV))/\`c4 p.2 q.2.2,(`xh `bV).Nodup/\ep=es.size,`akL/\`EG P w H h a p.1 p.2,(by let#[_,_,_,_,o,_,_,e,_]:=x),(show `akM from x),∀b u,(`RF)->`RG,∀b,`EH->`g1=`mj,k _ _ hb e,(by let#[z,y,vs,r,ob,es,ep,e,c]:=x),#[od,es,ep,k _ _ (`q d) e2,c],Paired.mapP,#[z.1,ht _ _ z.2.1,z.2.2],k a _ `gg e,`c (`akP `eo (`C y)),#[o,`g2],`cC P w H h a u,∀b u,b≠e->`RG,∃sl,`xj=`c { o with slots:=sl },∃o',`akS,∀b ps,H b=`RL->∃more,`g1=`c (.tbl (ps++more)),k b u (hb b n) q,by rw[`akT];exact q,`akU=`au,∀x:Str,`akV->mb x=`r_,Mod X.K `cc `d5,`RN y=`d6,X.H₀ b=`e,X.s₀.heap.FunFrames,s.heap.Ns `fC m,s.heap.IsCell c v,`dn p.1=`r2/\`rW=`e/\p.1≠`fC/\p.1∉`h1/\∀v,p.2.data≠`r0 v,`g3/\`c6,(I.ok.noex b o e),(by let#[_,o,ho,_]:=I.ok.funs.mem hb),(by let#[v,o,ho,hd]:=`RP),(by rcases I.ok.stk with e|⟨e,hf⟩),`c6->`r4,Inv X `k σ H' { s with heap:=h',gens:=g',drawn:=d',toks:=t' },λz=>(hch c z).2.2.1 x c e rfl,`ak1 b ps e,λi x v e1 e2 e3=>?_,λz=>(hch _ z).2.1 rfl,(by let#[m,#[o,es,ep,ho,r],_]:=id `gi),(λ_ z=>nomatch z),(by let#[o',O,M,J,r']:=hm),
#[_,O,M,hL,r'],(λ_ _ _ _ n=>n),(`a1i),(by let#[o,es,ep,ho,r]:=hm),(by refine`a1m),(`dM hp).elim,Inv X `k `xo H s',`u M A (storeName `A x u) Q E s,(by let#[m,hn,hl]:=id `gi),`r9 a `aK h',#[`EP,`EP,`EM,`ak4,`RW,`RX,`ak1],λj y v' e1 e2 e3=>?_,by simpa using `eW,(by let#[u',r',q]:=`a1n),#[u',r',?_],z.sameBut hs (cne y c e),hn.sameBut,s'.os=s.os,`RY->L2.Hp->L2.VK->Prop,`fD/\`oQ,`u `aq X.A (`bg `kS `A) Q E s,(`a1p),PE X `kS (tC v),(`bg b `A),PC X op a b t,`v (`xr) Aj,wpAny_Compare1,(`a1q),wpAny_isTrue_Compare1,L9 #[H1,I1,q],λc H1=>Q (!c) H1,isTrue_and,(`a1v),hb wh `k s1 σ H1 Q I1 q1,#[H1,I1,q1],tb σ H1 Q,(`oS op [a] pos),hb `k s1 σ H1 Q I1 q1,`ak?/\`R2/\`bE xs `ET,SqL X.K H a xs,h.ok `b7,`d8 a o hk,by simpa using hs,SqT X.K H a xs,(by have:its=J:=`a1x),(X.wish E).Ok,#[ok.mod,`xu,ok.glob,ok.blt,ok.above,ok.inj,ok.has,ok.cab,ok.hd,ok.frames,ok.stk,ok.exf,ok.bs,ok.bsz,ok.noex,ok.exfs,ok.funs,ok.frf],Inv (X.wish E) `k σ H s,SP X `k D f s',{ D with nx:=u D },#[σ,H,I,h],interactive,`ji σ H1,`v (`g4 e `e `h4 `A=`g5) Aa,St->Hp->(`jj)->Prop,t v σ H Q,(`a1A),(by intro pins s σ H v u Q I r h),wpAny_assign_Name,by simpa using rv,`oR [v] `mq,(`a1C),`cr x pos',Nat->`jj,{ D with nx:=N,ct:=N,bk:=`ji },PSs X `gk tb,(`a1E),(by let#[σ3,H3,I3,n3]:=q3),(by let#[m',hm,w3]:=hN σ3 H3 n3),#[m',hm,σ3,H3,I3,w3],Nat->`h3,λx c e z=>?_,λp hp z=>?_,(`a1F),∀v,`rV≠`r0 v,(∀b∈fp,`EW),Turn `a? X.w X.K tg J fp it tn,tn 0 s2.heap,(`a1H),`a1N n,wpAny_load,λi H=>∃xs x,`oV/\`oW,∀xs,`oV->`oW,λi H=>∃xs,`oV/\`R4,`R5 it a i,λi h h' st k=>st.at λo e=>`alh,(by let#[its,rv,p,hz]:=`r?),λh' J sb=>?_,(by have I1:`R7:=`a1R),λys hy=>by rw[`alj hy hq];exact hx,(by let#[its,rv,p,hz]:=`EY),(show `alk from p),I.tuple_inj,IsRangeIter,Data.fields,(`a1S),(`a1T),(by let#[a,e,#[xs,hq],q]:=q1),{ s with heap:=`g8 `R?,toks:=tk },((`sb:Nat):Int) - `sc,Gl X `rX,`cc `rX=`e,PA X [a] ta,(`a1V),by rw[e];rfl,tn i `oZ,I7.pin `xw `aln,(by let#[σ7,H7,I7,n7]:=q7),`xx I7 n7,Inv X `k σ H2 s2,OpR X (`jn op) r,
(`a12),Int->`alo,Q (`f `kT `bu) `o0->`alp,λi j=>`f `kT,#[`f `kT,H,`fG,`ac,q],(by let#[i,j,rfl,rfl,q]:=h),(`a13),λi j=>`E1,λi j=>`f (i - j),(`jn .Mult),λi j=>`f (i*j),λi j=>`alu,λ_ j=>0<j,λi j=>`f (i%j),λi j=>`alv,`f (g i),(`a18),(`a1'),(`a1!),OpR X (`d9 op') r',`v (lastMarks `aly [b,c]=`r) Ak,(`a1?),∃i j,x=`t i/\y=`t j/\i.length+j.length<=`S/\Q (`alz) H,`bE [x] us,∃u,us=[u]/\`gn,`bE `E5 us,(`a2g),(`a2n),(`a2v),∀name,`alC=`c (`Se),es.toList.any (·.refKey),`Sf K C `er=`d,`cD K `fI `er,W.handedIn,`J×`ah->`eU,`alD=`c (`c (`cT `alE)),`alF=`d,`eY<=`S,`cD K `fI `xD=`E6,{ s with heap:=`alH },(`Si).map `bV,by simp[ys0],(by let#[t,e]:=`a2F),(by let#[t,e]:=`a2G),`Sf K C `alK,`alL=`c8,NoAttr X.K C f,(by let#[mA,O,r,_,_,_]:=`alM),(`g_ C dx (`alN)),(`a2H),mj0 f y fs,`fA `h?,`g_ C `Y [],`fJ e f `A `E'=`RZ,PE X `eZ tv,`dq o f pos',.AugAssign,recursionLimit,by have:=r.dp;lia,by have:=r.un;lia,`go `fK A,Code.frames,#[[],H,I,`L,h],(`a2J),(by refine `a2L),`C `gm,`E! (t':=`R') (λb u e=>`oY) `bi ?_,CE `cE P w H s Q u s',(`a2O),(us++ds).length=`aA,wpAny_call,L1 `a2Q,W.callWith_K,I.ok.mod.kin,Meth X.K C m f,(`a2S),`alS pos f `sh (`gj pos (`Sj)) `alT,W.methodCall_KW,ik0 I1 ea c hm l ?_,Mk X.K C f,`go `fK X.A,upd (upd H dx (`fA x)) x `Sm,`Fb `h?,(`alU::`Fc),W.callWith_K0,sc.kind=`mt,sc.isCoroutine=`r,sc.isGenerator=`r,y.2≠`jg,(`a2W),λw hw=>h w (A6 _ hw),(by have:x≠n:=`a2X),P[i]?=`dk,λv hv=>(`Sp).1 (y0 hv).1,`xH (`xI),W.cellsFrom_some,`ak N ps `cF,(`xI).kindOf,`alW `h? `gq [],n80 CX P w K mg `m N `fM `cF f cd A `cE s H E,`I (show `alX from z) `aB,`q `kW,λb z=>`I z (J b),e0.hok.fresh,E6 `a2Z,(`a20),t { nx:=λ_ H'=>Q `x H',rt:=Q } `Fe H,λb o e=>(e0.bs b o e).1,`fN X `Ff r,`r_=`alZ,PE X `xJ (tCB r t),(by refine `a24),(`a26),(vs++ws).toArray,`bl->Nat,(`a29),Builtin.Slice.sliceAdjust lo hi 1 `ct,((`al1:Nat):Int),slicePart_none,λ(m:Nat)=>xs[`al2]?,λm=>xs[i+m]?,`xN `aK t `bs,`Fh=0/\`Sq=`fO,`b5 (`al3).toArray,`u `aC A (`mu `kY `Fi) Q E s,`mv `Fi "slice",
(by first|refine A0 `xO|try fail),A0 `a2',`xP `al4,(`a3c),(by show `a3h),A0 `a3j,A0 `a3k,(by show `a3n),A0 (m:=`Fj _) (N9 `St J),(`a3q),`bl->`h3,evalPart_none,r x lo hi H Q,`so `xK `al4=`b3 (`alZ),PO X lo tl,PO X hi th,(`a3s),wpAny_Slice,(`a3t),(`a3u),(`a3w),subscriptTail,`C `sp,(`xR=0/\`Su=`aG),`w (`Fk),(by let#[a,xs,rfl,hx,hw,q]:=h),(by let#[its,r,ht,hz]:=`h5 hx),(by have J:`g'=`aG:=`a3x),B4 (j00 xs lo hi) hz,(r.drop (`xR)).take (`Su - `xR),SqT K H b ys,(by let#[its,r1,p1,_]:=`h5 ha),r1.nil_iff.mp,by rw[`O];exact hz,if `g! then (if i<n then `c `e1 else `e) else if `Sw then `c `al8 else `e,(`al9).bind λj=>`Fn,r x xs H Q,`u `aq X.A (`e2 `Ff (v::us)) `e3 `aL s,`xS=`b6/\Q v H,atI z.cps.toList i,(by let#[p,xs,i,z,rfl,rfl,hq,he,q]:=h),(by let#[w,ew,J]:=`sq h2),(by have fin:EP X `k σ Q w s:=#[z,H,I,J,q]),(`a3y),(`g':Int),subscriptTail_builtinR,pl.isList.typeIs,λr s'=>r=w/\EP X `k σ Q r s',#[rfl,fin],-(`Sz:Int),(`a3B),`dn p=`Fp,{ cls:=`c5,data:=`b5 `al' n' },`bE ys its',(`a3F),(by intro pins s σ H o i v ov iv u Q I ro ri rv h),List.length_set,(`a3G),(by simp only[`o4,`jp,Option.getD_none,show `al? by decide,`gr]),`jp `o5 0 lo,`o (`Fk),ht.isList.typeIs,uh0 y=`d,xs.any λy=>`SA,(by let#[p,xs,rfl,hq,fx,fs,q]:=h),(`a3V),(by let#[p,ys,rfl,hq,q]:=h),#[`amd,H,`fG,#[`xz,by rw[`bY,J]],q],∃z,xs=`ss/\`st/\Q (`SB) H,∀l,`Fq->Q (`mz) (upd H l `su),`bE ys its,call_list_seq,(`a3Y),(`a32),`C `xU,ob.dict=`e,(by let#[_,_,_,_,o,_,_,e,ex,_]:=`ami),#[o,e,ex],(by refine`a33),#[o,e,ex.2.1],tyV K T x H1,Slot T `er id,(`gj `ch (`r')).any `bV,Calls.evalArgs_plain,Vals.append,(`aml).flatten,l.dropLast,(`Fu).length,(b::r).length,acc.toArray,(`a1 k its).flatten,`dn l=`Fp,(by unfold Builtin.List.listTooLong),"list.append",#[e,?_],Array.getElem?_toList,`af WData,pre_splitW hpre,(`d==`d),WShape.has,`Fx a=`amm,s₁.gens=⟨⟩,`g? `o9 `x_ (`o' `xX `SJ) `amn `es,hA b (`SK),λb o e=>?_,`I rfl z,`SL->`B,∀(w:`X) (h:`W),YP w h->`x2 h,SqL `sw H a `x0,W.WalkO q loose XP YP `SM d [] `amp,
Fun K x `fM st f fd,∀b o,`amq,`g1=`Fz->H b=`Fz,Option.none,"str_ascii_iterator","str_iterator",#[⟨`amr⟩],λh' J sb=>fin h' J sb,fp default,y.2≠`r0,y.2=.local->`ams,y.2=`jg->`xl y.1=`jf∨`xl y.1=`kZ,`amt=n+`sx,`SO=(`SP).bind (N[·]?)/\(`SO).all (λy=>`FA==`kZ)=`d,`amu λj=>`SQ,(`amv).length,`af (`amw),x.2=`jg->∃c,`FB x.1=`d6,acc.lookup y=`d6,(λ_ h=>nomatch h),λy d hy=>?_,λx hx hf=>?_,h2 x hx hf,closureFor,`amy=`d,by simpa using hx,(.ok .next),`b3 (`FF ok),`b3 (`FF r),(`a4c),Nat->Nat->`FI,W i m ys H2,(`a4d),J.yld i H2 x H3,Wk `e4 σ4,if b=`d then te σ4 H5 λy H6=>H6 D=`ST/\`e0<`S/\∃m',m'<m/\W `d' m' (ys++[y]) (upd H6 D (`o (ys++[y]))) else ∃m',m'<m/\W `d' m' ys H5,{ s2 with heap:=`amA },s3.heap.get? b=`au,(by let#[o,e,_]:=`a4f),(b4 b o e),Y5 X `cF cl N' s3 H3 fp,B0 (e7 b hb),λx c e=>`amB x c (hcl1 x c e),`x8=`a4k,(`k_).2.2.2.1,(by rcases `a4m with z|z),{ s3 with heap:=h₁,toks:=`SU+([]:`pd).length },`sk `aB,Nat.add_sub_cancel_left,(`a4n),old _ o ho,(by have e':`FC x=`d6:=`a4o),`I hp (by simp[Y5]),(E7 `pe),Ia.pin `xw `aln,∀cl s H ex,`amF,∀cl s H ex,`amG,∀cl s H ex,`amH,(by exact `a4r),(by exact `a4s),(by let#[it,fp,tn,J,H2,rfl,I2,T,Y,f2,q2]:=h2),as.2.2.2.2,λv H'=>`ji `xo H',λ_ s'=>SP X `k D .next s',`af (`aP DL.D),DL.D->`pf->`aP `pf,`pf->`FO,`pf->`aP DL.D,`pf->`aP (`SX),(`amK).bind,fun δ=>`ph,fun δ=>`sD λt=>if `x? then `FQ else Gb δ,(`sE).bind,J2 f G ds δ',λc=>`sG,`a1 n .un,`amu λj=>ke0 `pi,za0 f gt ge δ ds,(`SZ).map,`c (`alu),(eqS x y).map,sIx `aG `aG hi,`c (`f `aG),(`S_ `amL).sum+`e0*`amM<=16777216,(`a4u),`FS=`c (h d),za0 f gt ge δ `bs,List.filter_cons_of_neg,List.filter_cons_of_pos,List.filter_eq_self.mpr,sd0 `a4w,`sE=`c δ1,G δ1=`S0,ifD g Ga Gb δ,by unfold ifD;rw[h];rfl,T4 n `bZ gi f gt ge δ,o2 ga gb f δ,λz=>(by cases z),`sH/\`amO,g _ _ h.1 h.2,Gr H H' B B,fd.scope.names.lookup,TelO K H B p kvs,D->V->Prop,∃a xs,`jr/\`FU/\`bb,∃a xs,`jr/\`yd/\`bb,∃a xs,`jr/\`sH/\`amP,∃a xs,`jr/\FnAtH K H B a `yc/\`S2,`l->`N->Prop,
∃x r,xs=x::r/\`ye/\Rps K H B ds r,`ck->`S3,#[a,xs,e,`S5,`S6],(by let#[x,r,rfl,_,h2]:=h),by simpa using e1,Rps K H B es ys,Rps.append,List.take_succ_cons,(by exact .of e (λ_ _=>λz=>nomatch z) λ_=>λz=>nomatch z),(∃k a,`js=`e6/\`S9/\`jr)∨`js=`e/\∃a xs,`jr/\`FU/\`gu,∃x r,xs=x::r/\RpN K H B as d x/\`gt K H B as ds r,∀(k:Nat) a,`S9->as'[k]?=`ig,∀{l:`aN} {m:`k1},`amQ,∃xs,so=`sK/\`sI/\`gu,`w [`e7,`pn,`cw],∃C dx ns xs,so=`g_ C dx (`FY)/\fs=`S?/\`eY=`aG/\`po/\dx∉as/\`gu,as[0]?=`ig,∃x ns,es=`bX::ns/\`Tb,#[x,ns,e,`cX (λo z=>s _ _ z) `sL],RpL K H' B d a,XcR K H B c n a,g _ _ h1 h2,g _ _ q1 q2,B a/\`k3,(m.set i b),`c (.ow es),`cl=`Td,`yl `ha h,#[v,rfl,r],∀ob xs,o≠`amV,∀B δ,PE X e (tD X.K B δ g),∀B δ,PT X e `Tf,∀B δ,PW X e `Tf,∀B δ,PA X es (tDA X.K B δ g),Rp K H B dy y,λpins s σ H Q I z=>h `k s σ H Q I `Tg,(`amW).imp,`c (`t y t),#[_,en,e,λv H' s r=>#[t,`am_,`F']],#[b,en,e,λH' s=>?_],(by exact`a4I),PTD X e gt,#[c,r,?_],(by exact`a4N),(by refine`a4R),(gl0 `cI).imp,λv H' s r=>k v H' (`mG s) r,Binds X.K fd ps [],#[ds,en,e1,`am4],∀(i:Nat) (ds:D) (a:`g),`am5->`jt->`ad a=`e,∀σ H,`cJ->`Tk,∀H₀ B₀ δ,PS X st `am6,∀H₀ B₀ δ,PSs X st `am6,Wr idx σ σ' δ δ',∀B d δ,PG X tg (tDG X.K idx f B d δ),`kR (B8 `E),(by exact `a4T),#[_,en,e1,fun σ' H' en'=>#[r,en',e,k]],`cY K `ad `V H' σ' δ',`yp i hi,e.fr i ds a h1 h2,`mJ X as Ga,`mJ X bs Gb,#[t,env,e2,λH' s'=>?_],∀B δ,PI X tg e (tDI X.K B δ g),(by refine`a4Z),PDA X [a] gA,(by refine`a46),`mJ X `gk G,(by have a6:PG X tg (`pt):=λpins s σ H v u Q I r #[B,d,δ,h]=>hg B d δ `k s σ H v u Q I r h),tDS X.K `ad `V δ G D σ H,hb `ad `V δ `k s σ H D I h,(by refine `a49),(by obtain⟨Hh,O⟩:∃Hh:Hp,Hh=λb=>`Gd:=`ac),(by have U:∀b,`sO->`am9:=λb n=>by rw[O];exact `ap λz=>n z.1),(by have Z:`a5a:=`a5b),(by have a3:∀b,`V b->`am9:=λb n=>by rw[O];exact `ap λz=>z.2 n),`cG Hh H1,Z b z.1 z.2,(`Gd)=`au,(by have h0:=`a5c),(by rw[`a5e] at h0),`cG `ad Hh,s1 b o (`fQ b o h),
λb o xs h=>`Ge b o xs (`Gf b o xs (a2 b _ h)),`cY X.K Hh `V H1 σ δ,(by refine`a5g),`q (Z a z q),`pu i ds a h1 h2,(by let#[o,e3,a',e4,hB,_]:=`yl Y.all h1),Y.bad a `Tq,`cY X.K Hh `V H σ δi,#[_,rfl,`cu,δ,`jo,e1],(by rintro i m σi Hi ⟨rfl,b3,δi,M,ei⟩),(by have gr:Gr H1 Hi B B:=λb o n h=>#[n,M.same b o (`Tr)]),it.go i Hi gr hlt,`cY X.K Hh `V H' σ' δn,fun σ' H' #[δn,en',e']=>#[`Ts,`H,rfl,hlt,δn,en',e'],λx H' y=>?_,(by let#[sm,d,hd,rd]:=`Tt i Hi x H' gr y hlt),(by let#[B',c1,c2,env0]:=M.ex),Rp X.K H' B' d x,(by refine`a5i),n (b1 b q),env0.same sm,`ju i=d::`ys,(by refine`a5m),(by have a8:`a5n:=`a5o),(by refine`a5p),(by refine `a5t),k σi Hi (M.lower hS `ii),∀B δ,PF X ifs `Tf,`a1 n `sQ,∀(i:Nat) (ds:D),`cl≠`F1,(`a5v),∀p H',`dP->`a3->`anb->Q `dr H',∀B δ,PE X e (tDF X.K B δ g),(`a5y),λJ H1 s1 it=>λL hL=>?_,λa=>`anc,Gr H1 H2 B Bp,H2 L=`ST,Rps K H2 Bp pre ys,(λi ds z=>ul0 z),λx H3 y=>?_,Rp K H3 Bp dx x,λH5 s5=>?_,en4.same s5,H6 L=`ST,Gr H6 `and Bp Bp,([]:`l)=`bh,PDF X `mB `Gg,PD X `mB `Gg,PSD X `anf (d8 `Tv `Gg),∀(cdv:`J) (A:`cK) (outer:`ang) (s:`y) (H:Hp) (E:XK),`anh->`mJ `ani `x3 G,(`a5F),(by let#[B,ds,d,_,r,h,_]:=zQ),(by let#[B,ds,d,hb,r,h,q]:=zQ),(by refine`a5M),`cY K H B H (`Tx N vs) `Gh,(by refine`a5R),`ij (sr0 (N:=N) r) (mm0 _),`bE `sS us,by rw[`k8] at r;cases r;exact `L,(by intro pins s σ H x xs v us Q I rx rs h),λt' k=>#[`bF,H,I.tok k,#[t',rfl],q],(`a5S),#[o,h1,h2],`b7 a _ hq,(by exact `a5V),Int->Int->D,∀i j H B,Rp K H B `Tz `kT,(by cases dx<;>cases dy<;>simp only[ii] at h<;>try cases h),k _ H `c' (hg i j H B),SqL K H b zs,`aG+zs.length<=`S,(by let#[l,b,xs,zs,rfl,rfl,hH,hB,hz,q]:=h),(by let#[J,r2,p2,z2]:=`gl hB),(by let#[#[cls,dd,data,sl],ho,hc,n,hd]:=`sT),`ano<=`S,q _ I.fresh,`FW (X6 h),(by exact`a5X),(by let#[a,xs,rfl,q,r]:=rx),(by let#[v,hv,rv]:=X30 r h),`p #[a,xs,_,v,rfl,rfl,`ev,hv,k _ H `c' rv],∀B δ,PO X e (fun σ H Q=>∃o,`Gm/\`ax=`au/\∀H',`a3->Q o H'),by rw[j7] at r;exact r,k _ H `c' (by rw[j7,`Gn]),(`a5Z),
(by cases d<;>simp only[sd0] at h<;>try cases h),F.plainAttrs_str,#[rfl,_,`fR,e2,`Gs],FnD `a? X.w X.K `cc `d5 x k ps f,fun δ=>`py,`c (.ow `FP),`bj i (.ow (`o (ds++[d]))),`bj i (.ow (`o `anr)),ds.getLast?,`bj i (.ow (`o `ans)),`aP (`eb),(`yb ds).map,`eb×`l,(`Gv).bind,λk=>xq0 ks ds k,λk=>.bl (xor neg (`yy)),if `TD/\ys.all `c!=`d then `c (.bl (xor neg (ys.any λy=>eqF y x))) else `e,if isL d=`d then `e else `a7,mkF n N G ds=`a7,#[hl,?_],#[e,Bs0.mpr hn],mkN n N G ds=`a7,if `TE then `c (`o `Fm) else `e,if `TF then `ant else `e,(`Gx).bind,(`Gy).bind,HeapKind `kM w K,`af (K×`akI),knd.is `aK k a,At knd `aK d xs,∀h',At knd h' d (storedH xs k a v)->`r9 d `aK h'->Q () { s with heap:=h',toks:=`bu+knd.draws k },dictSet d `d7 v,Obj.isFreed_of_dict,Obj.data_mapDictKeys hd _,List.mem_singleton,Obj.data_mapDict hd _,"__setitem__",slot_dict_setitem,zh0 (p::r) k,by simp[zh0,`GA,e],Bool.true_or,`GB vs k,`GB (`yz) k,by simp[`GB,`GA,e'],vs.any `TG,(`a53),`ai ?_ ih,`R (`TI),`ap (`TJ),r.repl k ry,Paired.snoc,`c4 (kV k) u,(`anu).map `eX,`GD (`yz) k,by simp[`GD,`GA,e'],(`anu).isSome,(`w (`GE)),(`akK).is,H a=`anv,(`a54),h w' _ `GF J,(by let#[z,hd,vs,rel,dd]:=cz0 `b7 e),(by have hz:`cg<=`S:=`a57),λh' J hs=>h _ ?_,lu0 I `GG hs he (bl0 hl hd (rel.put k rv) J),A1 (A0 fin),`mv `d7 `GH,`sW H2 a y o,(`a58),{ cls:=`bD `GH,data:=.dict ⟨⟩ },`k!->`h3,`af (`J×`J),tj0 kvs more,tj0 [] kvs,J4 `a? X.w,(`anB).all `Gp&&`Gq,`z `a6b,`anB=[`o1,(`r,`bg f `A)],#[`GI,λb q=>?_,hd],(by let#[ob,_,_,h1,h2,_]:=dd),#[ob,h1,h2.2.1],#[x,ns,e,`cX s g],Env K `jv B σ `pB,(by let#[a',h1,hb,_]:=`TN),(by refine`a6d),`p #[v,e,`cX `k?],(by have h1:=`a6i),(by refine `a6l),(by rcases h with h|⟨d',rfl,rfl⟩),(by exact `a6o),∃d,`pi=`sZ,∃d,δ[k]?=`sZ,(by rcases `yC with⟨rfl,_,_⟩|⟨_,h⟩),(by exact `a6p),`pu i d0 a hi hs,(by refine`a6t),(by have:`mO:=λz=>by rw[z,h0] at h;cases h),(`fQ b u h),(by let#[a',e1,_,ro]:=`yD (i:=i) (by rw[`F2 J])),`I h (`anD ob xs),`pu j ds b h h2,`cY K `ad `V H' (`EN i `TP) `pB,
∀{j:Nat} {d':D} {b:`g},`pi=`c (.ow d')->`sy=`c (`c `GM)->`yE,(by let#[a,q1,q2,q3]:=e.at h1),(by exact `a6C),(by refine`a6E),(`a6F),(by exact`a6I),(by rcases `ik h3 with⟨_,e3,_⟩|⟨n3,_⟩),`I rfl (live h2 h4),(by rcases `ik h4 with⟨_,e4,_⟩|⟨n4,_⟩),`I rfl (live h1 h3),`I rfl n4,(by rcases `yC with⟨_,e3,_⟩|⟨n3,_⟩),(DL.frz δ),λa=>B a/\¬`TT,(fn0 (`s0)).elim,#[B',`hb,λa z=>b2 a (c1 a z),J],c2 a `Tq,(by exact `a6N),λb=>B b/\`mO,λb z=>z.1,(cw0 q).elim,#[r,en.frz,hq,k],(by let#[hp,g,d,tk,os]:=s),#[_,rfl,h],List.dropLast_eq_take,∀H₀ B₀ δ,PE X e (tX X.K `ad `V δ gx),∀H₀ B₀ d δ,PG X tg (tTG X.K `ad `V ft d δ),PTG X tg ft,(by exact `a6X),U3 gt G m δ'=`ew,(by exact `a6Z),(`mp [`TX] `A).map `eX,`kR (B8 h2),`kR (B8 h1),by apply `yH;unfold deq;exact l30 ds n h,min `bP `gw,`bP==`gw,List.range_succ_eq_map,(by let#[a,xs,rfl,q,r]:=h),Rps.inj I ld le r r',(by let#[o',e2,c2,_]:=`yI),`I z `s,`mM es m=`d,`mM ds m=`d,(by let#[a,xs,rfl,q,rr]:=h),`mP->`TY->`GP->`anP->`gn->`TZ->`GQ A s u w (`T_),us.toArray[j],ws.toArray[j],`jq+n<`ic,(by intro m d e x y u w A hu ld le hx hy rx ry),(by with_reducible exact A50 _ _),(by with_reducible exact A60 _ _ _),(by with_reducible exact A80 _ _ _),(by with_reducible exact i7 _ _),(by with_reducible exact i8 _ _),(by with_reducible exact A70 _ _ _),(by with_reducible exact i9 _ _),(by with_reducible exact j3 _ _),(by with_reducible exact A90 _ _ _),(by with_reducible exact `a60),(by with_reducible apply `a63),(by with_reducible apply `a66),(by with_reducible apply `a69),(by with_reducible exact t9 p' J),(by with_reducible apply `a6?),Rp.inj I ld le hx hy,na0 _ _ ld,(`a7c),SeqAt.RcAt.lists,C80 (A:=A) p p' `anR J,`T0+n'<`ic,(by have hit:=`a7k),`any+64<`ic,(by let#[B,B',dx,dy,hx,hy,lx,ly,q]:=h),Us0 I 50 50 dx dy x y v u X.A `j lx ly hx hy rx ry,(by let#[b,ys,rfl,q2,r2]:=ry),‹`l ›,(`a7q),(`a7r),PDO X lo gl,PDO X hi gh,(`a7s),(`a7t),(by let#[a,xs,rfl,q,r]:=r3),by rw[`cf,pu0,pu0];exact hw,(Xr0 r l u),#[_,rfl,`s2],
λl hl=>k _ _ (X6 hl) (ob0 hb hl rr),(`bw `s3).map,List.getElem?_range,(`k6).free,(`a7u),(by let#[q,xs,rfl,hq,rr]:=r1),λl hl=>k l _ (`im hl) (`mG (X6 hl)) #[_,j5,rr.mono (`TU hl)],FnN `a? X.w X.K `cc `d5 x k ps f,[`cw,`jy],(`anT `T2),ds.reverse,`yL->`yL->Prop,Nat->`anU,WalksS `kM w `bR I fp wr G n P St,`c { cls:=`c5,data:=`b5 ⟨⟩ c0 },Moved (C::wr) G s s',`anV C=`anW,`la `T4,Builtin.«list.__init__»,Builtin.List.listItems,Builtin.List.listUpdate,letGo old.toList.reverse,`yM `fI `GS `aJ,(by unfold Builtin.List.listItems),letGo (⟨⟩:`aW).toList.reverse,wpAny_letGo,{ s with heap:=`anX },(`a7x),#[_,gC,rfl],(`a7A),(by simp only[`pG,`GV,`GW] at hb),`cc `mR=`e,`v (Gl X `mR) Aa,`v (`c7 [`T7] `A=`anZ::`hd) Aa,`v ((`an_).any `bV=`r) Aa,(`a7C),M1 ?_ e1 h1,λv s2 hv=>X1 hv,(`a7E),λd' e'=>?_,(`T9).zip ys,by simp[h],(by let#[p,xs,rfl,_,hp,hl,rr]:=r1),(by let#[v,hv,rv]:=(wa0 rr).1 d h),(by cases y<;>simp only[vf0] at h<;>try cases h),(by simp only[`gx,`n,asB,`s5] at h),k H2 `mT,(by let#[b,rfl,hb]:=bw0 e3 `yN),`g6 `T! `A v,`oR [v] `yO,(by refine `a7K),(by let#[ys,hy,Y,O,U]:=fj0 (q:=q) (v:=v) hl),(by refine`a7M),nl0 (`lb s1) `GX,`pJ `GX (`lb s1),(`a7O),#[ys,j5,Y,rr.mono `k?],(by exact `a7R),(by let#[p,xs,e,q,rs]:=ry),loadIfAlive,`an5 i1 l1 (k1+1),`an5 i2 l2 (k2+1),`xU=`sg,(`a7V),(by show `a7X),(by refine `a7_),(by show `a71),(by refine `a74),A0 (W1 hTI rfl ?_),`u _ _ (`an8>>=_) _ _ _,(by simp only[List.forIn_toArray,`Ug,List.forIn_nil]),`u _ _ (`an9 `Uc>>=_) _ _ _,`u _ _ (`an9 `Ud>>=_) _ _ _,(`a7'),(`a8a),h₄.objs.size,λo e=>`oY,`G_=`e∨ys[k2]?=`e,"StopIteration",wpAny_nextOf_list_end,Q (`c `io) `jk,wpAny_attempt,F.entry_zip_next,(`a8c),Q `e `jk,ZG xs ys S h as,g.pairs j a hj,ZSt h z TI TO i1 i2 l1 l2 S xs ys i,hk _ _ (B0 L.z) hz,ZSt `aK z TI TO i1 i2 l1 l2 S xs ys i,(`a8e),(by rcases st.own with⟨rfl,hz,p,q,hp⟩|⟨a,f,oa,hz,ha,n1,n2,n3,n4⟩),λc o c1 _ c3 c4 e=>hk c o c1 c3 c4 e,`Uj∨ys[i]?=`e,`Uk->R (.ok (`hY res)) `pO,(`a8h),(`a8m),
(by intro i h tk c acc as hk hi a2 J hS M O hG),Nat.le_total,P5 F.entry_extend_loop ?_,(by show `a8n),λj a hj=>?_,`an? j a hj,(`G0 `aoa),acc.push `aoa,(as++[`gh]),∀S,S≠z->S≠i1->S≠i2->`Ul,ZLow z TI TO i1 i2 l1 l2 `Y,L00 xs ys lo s h' as,`Y<`xU,F.plain_list_iadd,{ s with heap:=`Um },(by have h2:`a8r:=`an),(by have h3:`a8u:=`an),(by simp only[h1,h2,h3,`Un,`s8,`dy]),wpAny_pyIter_zip,(by show `a8y),rule "list.extend.makes-room",Builtin.List.listTouch,A0 (P6 ?_),#[`aof,(λ_ ha=>nomatch ha),(λj a hj=>by simp at hj)],{ cls:=`gf,data:=`b5 `G2 },F.plain_tuple_new,(`a8D),Q `kY `pO,(`a8E),(by have a1:l1<`Y:=`a8F),(by have a2:l2<`Y:=`a8G),call_zip_2,`aoh l1 xs,hl1.at `aoi,`aoh l2 ys,hl2.at `aoi,∀k,k<5->`Y+k<`s!,zipApart_new,#[E1 _ 4,E1 _ 3,`jl,`Up],#[H 4 `s,H 2 `s,H 3 `s,H 0 `s,H 1 `s,D9 a1 `s?,D9 a2 `s?],#[_,hz],upd `yV p.1 p.2 b,λq hq=>h q (A6 _ hq),`Y<=p.1,p.2=`eV/\`cC `a? X.w H h' p.1 `rY,Inv X `k σ `yV `oO,∀b,b<`Y->`Ur=H b,D0 _ (B6 hb `E),λb u q n _=>by rw[J b `Us];exact n,λb xs q=>`aol,λb u xs q=>`aol,λb ps q=>#[⟨⟩,by rw[`aok,q];simp],(by rcases pk0 e with⟨p,hp,rfl,rfl⟩|e'),(by exact`a8K),iq0 X (`bD T1) (`bD T2) r,`cc x1=`e,`cc x2=`e,`fB x1=`c (`bD T1),`fB x2=`c (`bD T2),`v (x1 ≠`EJ) Ab,`v ((x1==`r!)=`r) Ab,`v (x2 ≠`EJ) Ab,`v ((x2==`r!)=`r) Ab,`v (`c7 [`Uu] `A=`aon::`hd) Aa,`v ((`gj `mS (`r')).any `bV=`r) Aa,(`a8L),(`Uv).map `G4,ps[j]?=`c p,vs=[`C q1,`C q2],SqL K H q1 xs,SqL K H q2 ys,(∀a∈as,`G5),(by let#[q1,q2,xs,ys,rfl,h1,h2,k]:=h),(by let#[us1,v1,p1,z1]:=`gl h1),(by let#[us2,v2,p2,z2]:=`gl h2),by rw[`pI,hl];lia,k t as M O (λz=>D0 _ (ha t z).2) (`si ht) λa h=>`si (ha a h).1,(by let#[j,#[x,y],e1,e2,e3]:=lk0 J),(by let#[u,w,f1,f2,f3]:=hp j p.1 e1),(by let#[u',g1,g2]:=v1.get hz.1),(by let#[w',g3,g4]:=v2.get hz.2),(by have:`a8M:=`a8N),(by have:`a8O:=`a8P),(ha p.1 (C5 e1)).1,`ai g2 (`ai g4 `L),#[_,f3,rfl,_,rfl,rfl],λp=>`b9 `anS,`c (`amV),(by let#[q1,us,rfl,s1,t1]:=r1),(`G6).map `G4,by rw[`_,pd0 hl],by rw[← J];exact P2 hp,
(by rw[qg0 λp hp z=>by rw[← z,fr p hp] at e;cases e]),λb ob xs e=>Yv0 (by intro _ _ z;cases z) e,p20 hN _ A7,p20 hN p (A6 _ hp),∀b o,b∉fp->`GU,(`a8Q),upd H `Y `Uy b=`e,{ s with heap:=`g8 `aoq,toks:=t' },(by simp only[`pG,`GV,`GW] at hc),(by let#[us,rv,p1,z1]:=`r?),(by simp only[`pG,`GV,`GW,not_or] at hc),wpAny_pyIter_enum,Gl X `mr,`cc `mr=`e,(`a8R),(`a8S),(by let#[x,t,rfl,r1,r]:=r),∀a,B a->`pl∨∀ys,H a≠`Uz,by rw[m9] at r ⊢;exact r,(`a8X),∃a,d=`hg,(`a8Y),r2.same s3,`aos=`r,(Q2 s x t),call_gives,#[u,q,`cX `G8],.of rfl no nt,x.cps.toList,#[tk,rfl],#[tk,`akB],"list.index",(by let#[o,n,h1,h2,h3]:=id pl),∀m (hm:m<`g'),∃y t,`G9/\`aot=`t y t,(by let#[t,e]:=`a80),(by obtain⟨rfl,rfl⟩:dd=`e/\dt=`RA:=h3),∀(y:Str) (tk:Tok),`UB=`d↔y=z,`a84↔_,(by have h5:`y_:=`a85),(`a86),F.entry_list_index,(`a88),SeqAt.list_indexAt,#[h1,λy hy=>v80 (x:=`mx) `y0 rfl r (ml0 ys) y `aov,`aow],λys=>`aoz,(by let#[x,r',rfl,r1,r2]:=r),`v (`fJ o `G! `A `mq=`h7) Aa,(`a9d),F.type_list_index,(by let#[p,xs,rfl,hq,rx]:=r1),(by refine`a9f),(by refine`a9h),(`a9l),`ta [lo:hi] b f,F.slot_tuple_index,ap0 X.K `cc x ys,`bg `Ha `A,(`a9m),`aG*`hh<=`UC,(`a9o),`a9p k,F.slot_int_rmul,Nat.mul_comm,∀b o,`yE->`amq,Env K H' B σ `pB,`p #[v,e,`cX `aoB],(`Hb).bind,k _ H2 `mT `F7,`a9q hl,(`a9u),∀b C dx fs,(b,`aoD)∈sub->`y4 dx=`e,∀C dx fs,p.2=`kU->p.1=a,SubO.no_own,SubO.no_frz,o.there (x b _ (J l)),`Hc H a sub b,`Hd H a sub,(`hi H sub),∀so:`dl,u≠`y6,(by have nl:∀so,`jB≠`td:=λso l=>n so (`UF (c.at' _ (wi0 l)))),nl so (z▸l),`I l (nl so),λso z=>so.no_tup xs `UG,λso z=>so.no_frz o u `UG,λso z=>so.no_tbl ps `UG,(`a9v),(`a9x),(`a9y),`jC X as Ga,`jC X bs Gb,`Hf j++`fL::`y7 j,(spB K j f),(ds.take j).map,(ds.drop j).map,by rw[`K,`dS];lia,`I h (J _ _),hf b ds r b' h,(λa=>B a/\a≠p),(`a9A),(by simpa only [z,`dy] using `E),λ_ z=>z.1,(by let#[a,h1,hB,rl]:=J.at e'),(by let#[rfl,M]:=la0.mp rl),∀x,B x->B' x,∃q:D×D,∀p,EndB G `pQ j p q.1 q.2,`c (`UL),`c (.ow (`UM)),(.ow (`y8)),
(by exact`a9C),`ip λds=>(f b.1 ds).map λr=>(r.1,`bj i (.ow (b.2 r.2))),(`a9D),(`jx).bad,h1.same s1,(by have O:`UN:=`a9K),(by exact `a9R),(`p (xt0 ks k)),`Hd H' a sub,λu s' #[v,H',I',r,a,sub,o,k]=>`aoK,[`t "@",`pF],RpN K H' B as d v,(`a2).lookup c=`td,(c==x)=`r,`mW λz=>h (`e9),λz=>h (`tg),List.getElem_zip,`hi H `d? b,`I z hb,by rw[`aoL,← e],(by let#[k,e1,e2]:=ge p hp),h.opAt e1 e2,(`a9T),∀C dx fs,so'=`kU->k=0,(`a9U),upd H a (`k2 `US),(`UT k n'),`cX (`yA hB),DL.setN i k n' δ,λq=>`Hk,(by rcases r with⟨k',c,e1,e2,e3⟩|⟨e1,_⟩),(λd h=>by unfold xq0 at h;cases h),(by let#[a,as,sos,at']:=en.atN e3),PN X i a ga,(by refine`a9W),(by let#[w,w1,w2]:=rx.atI h),k w H2 M w2,(by let#[k',c,so,rfl,f1,f2,f3,f4]:=`UU `yN hn),(by refine`a9Y),nrf dv=`d,(`o (es++[dv])),`mZ w.all hn,(`a9Z),`v (`fJ o `Hm `A `mq=`h7) Aa,(`a93),#[a,`a2,`jD,`UY,?_],#[a,`a2,c1,?_],M.w.openOk,M.w.opAt f1 f2,#[u,q,`mL],(`a94),`alS pos f `sh (`Go) `alT,`t n::fs,ug0 (`S?) ds f,(f==n)=`r,by rw[e1];rfl,(by refine `a'a),(by let#[C,O,nm,xs,rfl,rfl,hl,hC,Z,rx]:=`Ho),(by refine`a'b),(`yi nm ys),(`o es.dropLast),(by rcases hb with hb|⟨ob,hb⟩),by rw[w60 O];exact hb,(`a'f),(RpN X.K H1 B as),k _ _ q2.s,λr=>if `c! r=`d then `ew else `e,`o ls::ds,#[a,`a2,`jD,?_],(by exact`a'j),`T P w K mg `m CX0 k fa fd ps (spB K 0 f),FnT `a? X.w X.K `cc `d5 c m k ps F f,(`a'l),(`a'm),(`bj i .un),(by rcases `yB with⟨_,z,_⟩|⟨n1,h1⟩),`hk=`U0,`c7 [`U1] `A,(`a'A),(by have hH:`aoX:=at'.w.at'),upd H1 L `ex,`cG H2 H3,`c (`w `U6),(by have aL:a≠L:=`a'C),(`lf).length,by rw[`O,`O,`zc];rfl,(`lf).Nodup,(by refine`a'E),La (z▸hx),`lg[0]?=`ig,by rw[`g9 (`cU `tk).1];exact `tk,(`lh/\`li),(by rw[`a'H] at q2),(`cU q1).1,by simp only[`Z,`m_] at hl1;lia,(by exact `a'J),`aoY k C dx fs e,b3.w.opAt q1 q2,by rw[O];apply `fV;rw[`bA],`mO->Hc b=`mj,∀b,b∉`lf->Hc b=H3 b,w60 (λz=>hb `ao_),But a H Hc,#[[],rfl,`U!],(`a'L).1,(by refine `a'P),`aoY k C dx fs q2,(a,`aoD)∈`a2,C5 (i:=0) ?_,List.getElem?_zip_eq_some,
`bj i (.ow (mk (`w (`bX::(`Hx))))),#[x,_,rfl,_,_,hw],`kR (B8 c0),by rw[`zc];exact `pS `Va,`c7 `k0 `A,(`a'Q),rb0 i ga `U4 `aoV,rb0 i gb `U4 δ2,∀b xs,`sO->`RH->¬B' b/\`akO,#[?_,λa z=>`pC,`ao1],g2 `ao2,Env.blank (by rw[← env.len]),`hf (`yq sm) b1 b2 (`ih sm) ?_,xb0 hfl rx,(`a'S),`c (`o ps),T4 n `bZ (`ao3) f noT ge (`Vb),`fB `d3=`c `Hy,PN X i `jm go,(`a'V),(by have sq:`a'Y:=`aoS),(by refine`a'Z),(Itl X.K c),`p (`p o1),λl hl=>?_,H3 b=`h_,`fT H3 a `d? b=`h_,(by rcases `yB with⟨q1,_,_⟩|⟨_,z⟩),`I z (no _ _),`e4[n+k]?,a7 K H B a ro,But a H1 H2,d7 (U9 e hL),(`a'1),(`a'2),`yp _ c0,PX X `Ve `Vf,fun σ H R=>∃B δ,tDI X.K B δ gi σ H R,teX X.K gx,(`a'5),(`a'7),`v (`g4 `Ve `sz `SV `A=`FN) Aa,PSD X (`h8 `k0 `Ve spos) (i00 j `Vf),ev.same.trans,by show (2:Nat)<=_;decide,`mN acc p.1 p.2,(`pV).map,PPs X pos `he `jH trs,`pV=`c ps,PDP X pos `he `jH gP,(by let#[trs,h1,h2]:=hr.go δ),fun σ H Q=>∃B,tD X.K B δ gk σ H Q,(`a'9),`fQ `mT,`F9 `zd,(`pV).bind,(`Vh).bind,ks.Nodup/\`gs<=15,`v (`ao6) Aa,`v (`HD=vals.length) Aa,`v (`ao7) Am,`v (`HD<=15) Ab,(by let#[trs,h1,h2]:=`te δ),#[s' _ _ j5,`HB,?_,?_,?_],`gs=(`ao5).length,tj0 [] (`HB)=`HB,`ao8 `bV=ks,`hm (λv:V×V=>v.2),ev.s.lower hS `ii,(`a''),(`d!).map,fun δ=>`sD λr=>if `Vi then Ga r.2 else Gb r.2,PTX X c gt,(by refine `a!e),#[da,env,e2,λx H1 s1 r1=>#[q,`yq s1,e3,λy H2 ev=>?_]],`fT H a sub b,e.bs b o z,H dx≠`e,`hj `HE a `Vl,Hc=`a!g,`bj i (.ow (mk (`w (`bX::`Vm)))),ct0 f fs=`d/\`zf,`o (fs++[`t f]),`ao!=(`zg).zip `zh,`o (`Hr `t++[`t f]),by rw[`O,`O,hl];rfl,`w [`e7,`pa,`pa],`v (Gl X c) Aa,`v ((c==`r!)=`r) Ab,`v (`g4 `ao? `sz `SV `A=`g5) Aa,PSD X (`h8 `k0 `ao? spos) (gp0 j c f),λb=>B b∨b=x,Va0 K C F=`d,`yM `tm `gy `aJ,`m1 S `HF,{ s with heap:=`apb },(`apb).get?,`fB `g7=`c `s',`c7 [f] `A,(`HG).map `G4,eqU `jI (`f y tk),(`apd).map,List.filterMap_nil,`o `Vo,`v (∀o i,`zi `apf `r o i=`apg) An,(`a!m),{ s4 with heap:=s4.heap.push { cls:=`bD "slice",data:=`rR ⟨vl,vu,vc⟩ } },`C s4.heap.objs.size,ixN `gw z,nrf v=`d,
dsQ `dT q,(by rcases `bm hc with rfl|hc),(`a1 n `ex),(`a!n),(o60 e3 rk),(a8 b o z),(by cases h),(`a!v),#[q,en,e2,`aph],(by exact `a!x),(by refine`a!z),(`ih s2).bad,(`Vp `zd),`e? ps=`d,T4 n `bZ (`api) f gt ge (`HI),(`a!D),(`a!F),mkF 2 xy0 z30,"abcdefghijklmnopqrstuvwxyz0123456789",(`a!Q),(`a!X),(`a!5),(`a?a),(`a?o),(`a?E),"_law_signs_here","_law_base","_law_long","_law_names_here","_law_code",(ob `ab),(`a?G),(o2 `HM `HN m90),(`a?L),(`a?X),(`baf),[`ez, `m7, "_law_cells"],(`bak),[`ez, `m6],(`bas),gc (`f 37),(`baw),(`baP),(`baV),(`ba5),(`bbe),(`bbF),(`bbH),(z7 `lm v5),"_law_pairs",(`bbW),(`bbX),(`bb1),(`bb3),[`m3, `apN, "_law_first", `ez],(`bb9),(N6 (qz0 2) `fb),(`bca),(j4 (yt0 1 `cZ)),(`bci),(`bco),(`bcp),(`bcw),(`bcA),(`bcK),(`bcN),(`bcT),(`bc9),(j4 (yt0 2 `ey)),(`bdg),mkF 2 tw0 n00,(`bdv),(`bdG),(`bdL),mkF 2 tm0 uw0,(`bd4),(`beb),(`bem),mkN 2 t20 tl0,(`beF),(`beI),(`beM),(`beX),(`be3),[`hs, `HV, `iv, `HT, `zv],mkN 4 t80 uu0,(`be4),(`be5),(`be?),[`hs, "out", `iv, `HT, `ty, `HV],mkN 1 ix0 ii0,(`bf!),(`bgf),(o2 `aqg `aX gtD),(`bgh),(n6 `VO),(`bgk),(`bgp),(`bgr),(`bgz),(`bgA),(o2 `HY `HN eqD),(`bgF),(`bgG),(`bgH),(`bgM),(`bgU),ui0 (ob `aqk) (ob `aql),(`bgZ),(V2 `ar),(`bg5),(`bhj),(`bhm),(`bhn),(yu0 0 `na `H_),[`ed, `p2, `nb],(`ho `c?),(`ho `aD),(`bhv),(`bhz),(`bhC),(`bhH),(o2 `ar `m8 gtD),(`bhI),`t `zA,(n6 (d8 `bL `p0)),(`bhK),(`bhM),(`bhU),(`bhX),(`bh1),[`t p.1,p.2],`w [`jJ,`t w],isWord w=`d,`w [`lk,`ba],(`zE).length=`aR,by show l.toArray.size=_;simp,`bh2=l,by simp[`aE],#[`H,λc hc=>by simpa using h3 c hc],p++sep++p50 sep (q::r),`af Rm.Want,[`lk,`pF],(`ix p.2).map,(`ix (p.2.drop 1)).map,V20 `dB `b0,p7 G1 G2 δ,by unfold ifB;rw[h];rfl,W5 `fF `zH=`ant,`ax=`H3,`c (`nd),cs.map `as,∃z,0<=z/\S9 `gA []=`c (`fW,`p3),[.un,`tB,`H4],(λp δ hδ=>?_),(E3 _ `s),(E3 _ `j),P4 _ `j,`f (3*k*k),(o4 rfl rfl).trans,`pz=`c l,(by show `bh!),`aE a++`aE b=`aE `zI,`H6+`lr<=`S,(`bib),`ax=`c `zJ,by unfold ob;rw[h];rfl,(`bic),S5 i gA f δ,(`UH).map,(`aqC).map,marks (`lk) `tq,
ed0 k h0 hk cs hc sm m `av,Z0 `big,λp j=>`tD,(λi e=>by cases e),da0 rfl rfl e,(by rw[`bir,`n,c]),`aE (p50 sep `zM),`o (`aqG λp=>`fZ (`aE p)),p.length<=B,p50 [] (`eu `H8),S.cps.toList,by rw[hS];rfl,signs.getD,(by have a1:=`biu),(by have a2:=`biw),(`biy),`f (`zN),p=13∨p=53,`V3%`p8,`aqI - `V3,(`fc hd),(`fc h2),`I e3 z,cg `aqJ,`H! a++`p9,`aqK++`p9,names.length<=100,`c (`tI),Wh0 w _ `j `j `j,(by exact `biH),o2 `aD `apj m7 `zR,(by show `biN),(`tG).length,hm c (Aj0 q),js0 N k c q,C3 `tJ e,`t (`aE []),`t (`aE (w++[cg q])),[`eC,`bp,`jO,`ne,s4,`nf,`ng,.un,.un],(`biO),λs hs=>?_,(z/4%4).toNat,λp k cs m pool=>Z0 ?_,o2 `apD `apE ixD [s0,`b',`Ic,.un,.un,.un,.un]=`c (`f r),[`Id,`Id,z/4%13].map,.ow `biS,`V8=`c (vs,`zT),(`biT),PoolB np nm,`V9 i "",`V9 j "",(`If)%`nh,(`biU),(`bw `cg).map λj=>(`aqN,`zV),∃(p:Pt) (k':Int),k<=k'/\`aqO/\`aqP/\N5 `gA []=`c (p.d,`zT),(`bi0),(o2 `zn `H7 eqD),E3 (z/156) (show `Ij≠0 by lia),(`bi2),(`bi3),(`bi4),`bi5 `j,List.drop_of_length_le,Gd p (`aA:Int) `av,`w `Ip,ns.drop (s+1),`Wb=`c (`f f),`o [`f 13,`f 53],(`bi6),if sm=`d then 1+f/64%60 else 1+f%8,zr0 0 `kX,(bk3 cs sm),`c ((s+1:Nat):Int),List.map_drop,[`gD,`zX,`zY,.ow (bk4 cs sm `kX)],(`aqQ k `p?).1,`c (T8 3),`c (`Wf),`c (`Is),`c (`tP),(`z1).length,(`Wk).set k `aq1,show unG U7 `aD (`qd::δ)=`c `z2 from rfl,ot0 (es:=`ni) rfl,.ow (v7 p (R `tR)),(`bi9),`z4 k `aq2,(gc (`aq3)),`c (`z (w=v)),(by show `bjc),{ S with un:=u },`o (`ni).dropLast,[`bjd],(`bje),(by let#[c,b,u,nm,w,dg,l,sp]:=S),(by rw[hu,`bjf] at hc),`I rfl hv,`Wn=`qe,`bjh=_,`dC::`b0,(`Iu).getD,`z6::`Wp::((`qc `aq5)++[`pa]),List.map_congr_left,λb u δ=>by rw[J,hL];kernel_rfl,by rw[`K,`iB];lia,wd `bji,(`ct).toNat,`o (wd (`qg)),(`bjj),`c (`aq6),λa b=>`tD,[.sh (`pX),`bp],o4 (x:=`o (wd `VW)) (y:=`ib) rfl rfl,it0 `VW `aB `aB n hn,`f `aq9,(`Iv S [w]),(200000:Nat)<=`S,`o ((`tQ)++[`zZ]),(`Iv S ws),v70 `Wr=`d,`o ((`tQ)++`Wr),(`bjp),`bjq<=_,(`aq8).flatten,`c (`dt,R (`tW)),(by have J:n<=20:=`bjr),.ow `bjs,[.ow (v7 p (R `Iw)),`tU,`bp,.un],jc0 S (`Ws),
(`z7).wait.length,n60 kd n J,ifD _ _ _ [`tX]=_,R9 (by rw[c,`fd]),((`Wt:Nat):Int),`bju=_,`qi (`aq!),(by refine `bjC),orG ga gb δ,by unfold orG;rw[Z6 h];rfl,n*128<=323,(`bjD),`f (`Wu),(`bjG),`bjJ=_,`c (`r,`qk),(by show `bjN),`ara=`qe,R6 `aqt `iD,(by refine `bjV),.sh (`t (Z2 `jT)),(by rw[`bjX,sv0]),[.ow (v7 p (R `IA)),s1,`dW],[`are,s1,`dW],{ S1 with count:=`ard+1 },[`cN,s1,s2],#[s2,rfl],[`ql,`jU,J],[`cN,`jU,.un],`c `Wz,J2 `bL SB `IC `arg,SB [`WC,s1,`WB],[.ow (v7 p (R (`IE))),`gF,`z'],`f ((36 ^ (m+1):Nat):Int),`f `ari,(`WH).length,List.range_eq_range',b5 λj _=>?_,λd=>match d with|`cx=>`z (`ark=L)&&`VX `hw|_=>`r,(`t0:Int),(`tO).length,`zP `Wh,(`arl:Int),l.Nodup->(∀a∈l,a∈m)->`aR<=`arm,(`WJ).map (c::·),A.length ^ k,`WL (`WM ?_),[`qn,`z!],`c `H',((2*L+1:Nat):Int),R `bj_,{ S with names:=`arn },`o ((`z1)++[`tP]),`R #[rfl,`aoG],(ro0 p S _),(`t4:Int),(`aE `tM).length,R7 `bG [`hv],(`IG).length,[.ow (v7 p (R (`t5 S `t3))),`gF,`z'],{ S with spelled:=w },(`aro).zip `arp,(by let#[j,hj,rfl]:=`dx hi),(`bj2),held.length,∃c:Nat,d=X5 [c],`dD=`Ab,[.sh (`pX),`WQ],`c `arq,`jF `qp,(by show `bj7),(by rw[`bj8,hX]),(`bj'),(`bka),`ix (held.drop 1),Fits q.1 q.2,v70 q.2=`d,u80 `z3 (`Ac)=`c (`WS),`ars=`c (`o q.2),`Ac=`w [`arr,`WT],c7 (ds:=`WR) `Im,`c (`gI),`c (`dt,R (`IN)),[`aru,`gF,`WU],`c! `nm=`d,xg0 `r `nm (`WV),(M5 q).any λy=>eqF y `nm,if r=0 then [] else `hz::dgf f `nn,Nat.le_zero.mp h,`WW<=2601,O0 (Nat.div_le_self _ _) h,[a,`WX,`arv],V4 `IO=`c (`o ((bs n).map `f)),`f `arw,if z<0 then (`ary).toNat else (2*z).toNat,(2:Nat) ^ 2502,v90 `IQ=`c (`arA),((`t6:Nat):Int),(sg s).length=`qr,Q6 `lx=`c (`arC),`aR+e.length<=`S,j4 (wu0 i g) δ,(`bkc),(by show `bki),`f (`ff:Int),G6 `t8=`c (`arE),zd0 `t8=`c (`arF),`IV=2*`aA,(`WZ j).flatMap two,List.take_succ,[a,.ow (`o pre),s],List.take_length,K6 `t8=`c (`o (`fe)),[`IW,.un,.un],[`IW,`ng,.un],(`bkl),[`Af,.un,.un],d.1.length<=20/\Vb d.2,(`bkm),(by let#[p,hp,hm]:=d5.mp hd),(by have hp:=`bko),nd `zI=nd a++nd b,by unfold nd;rw[`a4],(`W_).map `eX=vs,
λ(k:Nat)=>(`mh `dR:O4),λs=>`W0,(`mh `b8:O4),List.mem_map,`c (.bl (`I1)),zt0 `t! `I2,`arN `arO,b00 `arP,`c (.bl `arQ),`f `arR,xq0 `t! (nd (`bw `Ag)) `I2,Za0 `arO,`f `arS,[`cx,`t?],((2*`qr+1:Nat):Int),c7 (ds:=`lx) rfl,Bw.Py0 _ _ `j,`f `sc,[`b',.sh X],`f ((`arU:Nat):Int),(`W2 - 1 - `arS),[`uc,d,`jY,`t?],(`nr).length,(`bkG),4*fold x+1,Bw.fold_lt,(`bkJ),(`bkK),if `f2 then `ar_ else `W4++`W5,(by generalize `hC=p at w1 w2 hq ⊢),(X8 (d:=p.d) ?_),(st ps o B T W s),`f (`Ag:Int),(`bkL),(16000000:Nat)<=`S,(`bkM),`Ak++[d],List.getLast?_concat,(by rcases hd with⟨x,rfl,hs⟩|rfl|⟨x,rfl,hx⟩|⟨j,rfl,hj⟩),(by refine `bkQ),(by refine `bkU),(by have e1:nB B `nq=`W9:=by unfold nB;apply `lz),(by have e2:`bkV:=`bkW),t7 (δ':=`ar2) ?_ rfl,c7 (ds:=`t8) (`ae (by rw[`ar3];exact w1) rfl),t7 (δ':=`ar4) ?_ rfl,∀s:Str,`qs->P `dX,(`bkX),λs h=>hn s (C8 _ h),(`ar5).vals,o++pk ps f B T W,(by obtain⟨g,rfl⟩:∃g,f=g+1:=`ar7),#[`H,B,T,s,?_],`aS<=`aA,λy hy=>`fc `ar8,#[`ar',`W',hn,J,O],λa ha b hb e=>by rw[`I8] at e;exact h `W!,(t7 q `t9),`jF λp=>(p.1,f p.2),(`I9).vals=`Am `f3,(`hm `f3).length,#[?_,rfl,rfl,?_,hv,?_],(`I').length=`aA,q40 `f3 (`iI) ps,(`I').map `bV,lkd (π j),0<`qu/\`qu<=60,(`An).vals,(by let#[k,hk,rfl]:=`dx hp),bu0 `cy (`An),(by let#[u,hu,rfl]:=`dx hv),(by rw[`bkZ]),pn0 `bk0,(by let#[c,b,u,nm,w',dg,l,sp]:=S),(tr a&&trs `Ja)=`d,#[`t_,?_],(`bk1),(`bk2),(`bk3),`f (up0 (`fg/4)),`fg/4<`qb,`qi (`dC - 1 - (`fg/4).toNat),(`qg).count `b!=0,List.count_eq_zero,by rw[hw];rfl,List.count_append,show `Ad=0 by lia,(by rw[vk0,`Ao];lia),S.names.Nodup,nm∉`b1,{ S with length:=`da,spelled:=sp,count:=c },(`bk7),(`bk8),(`bk9),(`bk'),(`blc),{ S1 with spelled:=`asg },`Jd+`aR<=900,`eu `Je,λa=>`a6,by rw[w1];rw[J] at hl;simp at hl ⊢;lia,{ xv0 S k (b::l) ws with count:=c },#[[],`a6],(`bm hj).resolve_left,λi hi=>?_,`Jf∈`Al->`eF,λh1 h2 h3=>ih h1 h2 `Xd,n+51*`aS<=`bP+51*`Ar,(nW ps B `Xe `j_),(hw.it _ `Jh).gp.len,show `Xf+f=(n1+`Ji)+1 by lia,(by exact `blg),(by have J:∀d∈ds,`nu:=`asm),
(by rcases hd d A7 with⟨s,rfl,_⟩|rfl|⟨z,rfl,_⟩|⟨j,rfl,hj⟩),(by let#[B',T',b,h]:=ih B `uf hm hn hB J),#[B',T',_,`t h],#[B',T',_,`qx `gg h],(by exact`blj),#[B',T',_,.old hj' h],Pk ps [0] [] `Jk L T b1,`ug=`Xi++b1,∀j,`asn->j∈L,(by have hB:∀j∈[0],`f4:=λj hj=>by rw[`ec hj];exact J.1),`uh (`qw J.1).2,h.nodup `aB,(by have hp:`bll:=`blm),(λj hj=>by cases hj),(`blu),`qu<=`aA,show n+`At=100000 by lia,`iG=`Au,#[by rw[a];rfl,b],`ix (`iG),(lkv π d),(`ff,`Av),∀s,v≠`cx,gs0 (a2 y hy) π,J.map `aso,`a1 `cg `asp,(by have hl:`blv:=`blw),`ee::pw `yJ,λz=>`I b (z q.1),`e? (`asr)=`d,`ui ∉`asr,(by refine`blA),(by rw[a,`O,ye0,hl,← `Jq,o70,fr0]),`I es (U d (hv d ?_) s),`w `blD,`w `blG,(by rw[← `asu,p40,`Xm,`bT,`bT,`bT]),w.cps.toList,by apply `Aw,`Jr `asv,l[k]?=`ig,λq=>`Xn,Aft S S1 k `dX,#[o30 hu _,rfl,rfl],{ S with names:=`asw },Inv `av B T S1,lkv `cy d,(A++N).modify k f,ka0 (w:=t) M,λk hk=>?_,uo0 `qA rfl q z,t.cps.toList.map,`blH=_,f80 _ _ _ _ O.symm,(`Xp).length,(`qB).length,`Ay+(`W5).length,i<=x/\x<=i+n,#[`asy,`asy,rfl],mp0 (ps:=ps) (T:=T) hj,Opn us i u nb ne,Opn vs (i+n) u nb ne,Opn (us++vs) i u nb ne,λp p1 p2=>?_,(∀v∈`qC,`j1),hn s (C8 _ (J qs hv hs)),(by rw[he];simp),#[N++M,by rw[hM,hN,`aV]],(by refine`blP),(by let#[w,wr,s1,s2,s3]:=stage p `Ju (`Jv) (`nv hp) h0 pre `j_ ds he),(by have U:`jS:=s2 λs e=>by cases e),(`asD).length,`eE `uj b1 us1 `Xt,(`asD)++(B1.drop `aS).map `Xu,(by refine`blQ),v20 ps `cy j,(∀q∈qs,`uk),jm0 xs h q hq,`w `Xw,λq=>`asE,(by let#[x,hx,rfl]:=`gG),gs0 (hI x hx) π,(ka0 (w:=w) ho).1,(by exact gen `ea λz=>nomatch z),(`Jw::nb1),(`blR),(`qw M.1).2,`Jw+(tx `As).length,{ S2 with un:=[],wait:=[] },`b9 ((`asF).map Pt.d),e40 xs ys h1 h2 h,by simp[wy0] at h,nob d=`d,#[`asG,by cases n<;>simp[`e']],pairs qs hv,`c `asH,(by show `blX),`c (.bl (!`E3)),`asJ=`c (`w (`fh pr)),(by refine `bl_),[`asK],(`bl5),`I! `Je,(`bl6),`e' `AD 50=`d,(Km.Z60 hq).2,(by refine `bl7),`b9 `arH,[`j3 `I?],(`bl8),`Xy++[`as `b8],(`bl'),`o (nd E),
(by exact `bl!),λf W s3 s4 hl=>?_,rw0 (by rw[Ws0,`bd `aB]) e,xn0 `AE=`c (`AC),(`bl?),.sh (`o (`Am f)),#[s6,?_],[a,b,c,d,.sh (Pt.text w).d,.sh `ex,s6],#[`XB,?_],(by refine `bme),`w `bmj,[`bmk],c7 (ds:=[`JD,`asP]) rfl,(by show `bmq),(`bmr),(by have:=`bmt),[`bS,`lC,`ng,.un,.un,.un,.un],.ow (`o (`asT)),`o (`Am `j5),(rel `cy p).d,`o (`I! `AG),(`bmx),(`bmy),(`bmz),(o2 `ar `aX ltD),(`bmG),(`bmU),(`bna),(`bnf),(`bni),(`bnn),(`bno),(`bnq),(`bns),(`bnC),(`bnH),(`bnL),(`bnP),(`bn2),(`fh _).length<=12,λs=>`p' s,(by let#[q,hq,rfl]:=`dx hs),PsOk.names,Pj0 hl.2 ((`XG).vk v hv),J p hp s hs,`o (`Jr `t),f d y=`ew,(hi (`Ad/128)).length,`c (`f (`WW:Int)),(`bn3),g `f5=`JF,`c! `dX=`d,lh p (`Aj) P Q,`db 0 1 (`o (`as5)) `f5,(P++[`iy]),`R #[rfl,`H],DL.ixN `eG `dR,`bn4=_,bs0 (s:=s) rfl,[`hG,`j6,`b',`j7,.sh (`f `JG)],[`hG,`j6,`b',`j7,.sh (`f (2*z))],mkB 4 P0 0 `JH `nA [w,lkd m,`gI],.sh (lkd m),(by show `bob),[w,`WD,`gI],(Q++`qF),(`bog),rf0 π `fi as,ixD pd `z2,full[j]?=`c (`c s,v),`w [`cx,x],Nms pd full,o4 (x:=pd) (y:=`It) rfl rfl,`F3 `j,VE ps `av L w m f,a.1.isSome=`XH,It `aA a.2/\Bw.Vb a.2,∀s,a.1=`c s->`eF,Pe ps B T `as8 B' T' b i nb ne,Nat.add_zero,b1++(b2++b3),v::`as7,(`bok),(by let#[rfl,rfl,rfl,rfl,rfl]:=Pe.str_inv h1),h1.pk.told,(nd l).length=`aR,by unfold nd;rw[`K],(`bol),HB f `as9,(`bom),J2 `qG `uo `as' δ',`hm λv=>(`XL:`JI),(`G3).map,`o (`yU `XM),s8 p T' `AJ `ata w `eG `JL pd kd u6 u7,lkv π q.2,`w (`hm `f3),`w `bor,`c (`atc),#[`JN,rfl,?_],`bot=_,xj0 `asW `asX jf0 δ,i+`qH+`lr,(`ate).vals v hv,pt.vals.map `j5,[`hG,`j6,`XS,`j7,`XT,.sh (`XU),.un,.un],(i+hd+`lD),o4 (x:=pd) (y:=`c_) rfl rfl,(by exact`boF),(`atg).map `XM,by rw[`bT];show (`fh _).map _=_;rw[`bT];rfl,(`boK),(by exact `boN),(by exact `boR),(`boU),`JP _ _ `XI,(by obtain⟨q,rfl⟩:∃k,q=k+1:=`ati),[`nw,`fX,`fX],`uq+`lr,`c (`r,δ'),[`nf,`bp],(by rw[ux0];lia),(by haveI:`boX:=`boY),Sm.int x 50,`tS #[`atl,`atk],`sV (`XY) (`c `ct) (`atm),n+c<=`aR,`atn `ato,min (n+c) `aR,[`o (`atp `f)],`aR<=16000000,`Iz+`atq=`atr,`nC=[]↔`X_,
`f `JR,le ne `aR=le nb `aR,`att `j,do0 r2 (λy=>by have:=C3 `tJ y;rw[`iF,`m_] at this;lia),kg0 [`iz]=`nD,[`iz,`c_],[`iz,`fX],z7 `X3 (z7 `aX `zx) `X4,(`bo0),[`gD,`bS,`jU,`AM,.sh (`f `atv),.un,.un,.un,.un],(`bo1),"MOST_NAMES","MOST_NAME_SIGNS","MOST_PARTS","MOST_VALUES","MOST_WORD_SIGNS","NAME_SIGNS","WORD_SIGNS",(`bo6),(`bo9),(`bo'),C_made_pairs,(`bo!),(`bpb),[`tx, `ht, `X7],FnD P w K mg `m `JT 1 `j9 z60,(d9 `j' v6),FnN P w K mg `m `JU 1 `gK V4,FnN P w K mg `m `JV 1 `ut Q6,(`bpj),C_sign_bytes,(`bpn),(b7 `JW v6),(o5 3 `qK),(o5 8 `qK),(`bpo),(Y6 (O8 `atz v6)),[`m4, `X', `m6],(o5 2 `uw),(z9 `AR u5),(`bpv),(pab 1 u5),[`m4, `m', `m6, `Ya, `JY],T.b_enumerate,(z9 `nH u5),FnD P w K mg `m `JZ 1 `ux S7,C__law_cell_at,(Z8 `a9 v6),(z9 v6 `uy),[`asU, `m'],(z9 `j' u5),FnD P w K mg `m `uA 1 [`nF] z80,(T3 v6 `a9),C__law_part_ends,(o7 W3 Z7 `j' v6),C__law_name_size,(Z5 `dc),(spD K kg0),(`bpE),(o5 4 `nJ),(o5 6 `nJ),(`bpS),FnD P w K mg `m `J4 2 `J5 K5,(`bp0),C_made_part,(o7 W3 Z7 `a9 v6),(`bp4),(O8 `lE v6),(`bp6),(`bp7),FnD P w K mg `m `J6 1 `Yh vh0,(`bp?),FnD P w K mg `m `J7 1 `Yi xh0,(z9 `nK u5),Fun K x x st f fd,∀(kV doc pm:`J) (an:`fl) (cdv ct u:`J),`qL `AT `SI=`b3 (`o2 [u]),#[f,fd,o,`J8,`J9,`J' λ_ _ _ _ _ _ us h=>by let#[u,rfl]:=us1 `J!;exact b _ _ _ _ _ _ _],∀(kV doc pm:`J) (an:`fl) (cdv ct u v:`J),`qL `AT #[[u,v],[]]=`b3 (`o2 [u,v]),#[f,fd,o,`J8,`J9,`J' λ_ _ _ _ _ _ us h=>by let#[u,v,rfl]:=us2 `J!;exact b _ _ _ _ _ _ _ _],(`C f37),`cW `nL `nL (V8 `AS) (W4 `AS) (`Ye) `aJ kV37 dc37 pm37 an37 cd37 ct37,p1.binds (ps:=`uF) `atI,p3.binds (ps:=`qM) `atI,typeLookup_type,builtinLookup_eq_fast,(λq=>nomatch q),tupleKind,λ_ q=>q,λc v _ q=>k c v q,(nc0 h H).get?,b∈`oL∨`oM<=b,`RQ b o e n hb hx,#[⟨⟩,by rw[e];simp],λb ps e=>`a1h,λc v hc q=>k c v ?_ q,(`b7 b u e).stay,(`a1j),`a1k `a1l `RT (`xn) `r7,hl j y v' e1 e2 e3,TP X `k σ Q,by rw[I.ok.glob];exact `ak9,h `k s σ H Q I hw,h `k s σ H _ I hw,`oS .And [a] pos,ha `k s σ H Q I h,(`a1t),thn `a1u λc s1 e=>?_,`oS .Or [a] pos,
by simpa using C3 `ala d1,#[σ',H',`alb,q],∃σ' H',`oT/\`alc,λ_ s'=>`a1z,`h6 o i pos,hi `k s1 σ H1 _ I1 q1,`h8 [tg] e pos,.While c `gk [] pos,by rw[z];exact hb,`alg tg `oU u,PIE X `k σ tg R,"dict_itemiterator","dict_reverseitemiterator","odict_iterator","itertools.zip_longest","itertools.pairwise",[`mr, `g7, `a1I, `a1J, `a1K, `a1L, `a1M].contains,#[o,e,λv z=>by rw[d] at z;cases z],by simpa using hu,λb o hb e=>`ali e,`EX (t':=`bu) `R6 f0 f1 f3 f4 f5,∃xs,SqL K H1 a xs,hl `k s σ H _ I h,`all `bi (`EZ),`a0 (`cr `rX p) [a] [] pos,.For tg `jm `gk [] pos,(D3 _ (rz0 hb e)),D3 _ `a1X,hb `k s1 σ H1 _ I1 q1,`o_ a op b pos,ho `k s2 σ H2 x y v u Q I2 rx ry q,λv u s2 x y H2 I2 rx ry q=>`a10,P30 ha hb I h `a11,intBits_le_64 h1 h2,.bl (`z (x=`x)),(`a14),Q `a15 H,y=`x/\`a16,λx y H Q=>`a17,`E4∨r' x y H Q,λx y H Q=>`a19,ho `k s2 σ H2 x y v u _ I2 r1 r2 q2,`xs a `aly [b,c] pos,if j<i then j else i,(`a2a),`f `a2b,Q `alA H,xs=`alB/\`a2d,∃i j,`a2e,λxs H Q=>`a2f,xs=[`ba]/\Q `fF H,∃i,`a2h,xs=[`sd]/\Q (`Sc) H,(`a2i),∃k,`a2j,`a2k∨`a2l,λxs H Q=>`a2m,(x.cps.getD 0 0:Nat),`f `a2o,(`a2p),Q `a2q H,`se=1/\`a2r,xs=[`bX]/\`a2s,∃x,`a2t,λxs H Q=>`a2u,W.plainOver,(k,x)::`alI,if k=f then `E8::r else `a2x,ys0 f v (`E7),(`a2y),`a2z=`a2A,show `a2B from rfl,show `bW from r,(`a2D).elim,(show `E9 from r),(show `alJ from r),if g=f then `br else mA g,`dq e f pos,h pos `k s σ H _ I hq,by rw[← `cf];exact z,#[`a2K,?_],.List es pos,`g_ C dx [],λv H2=>`xF/\Q `xG H2,eh0 I hg hm ?_ hdb,(`a2P),`dq o m `e_,`a0 `alP `gp [] pos,keywordEach,`a2T [] `A,`alQ pos `alR,∀v,(x,v)∉binds,by rintro rfl;exact h v A7,x.above y c (E8 h),(`a2Y),by simpa using hi,`cW `er `fM params `gk `cF dV kV doc pm an cdv ct,n80 CX P w K mg `m N `fM `cF f cdv A `cE s H E,tf0 I hg hm hv ?_ hn hdb,(`a22),L1 `a23,λus s1 #[vs,H1,I1,r1,q1]=>`al_,thn `Fg `a25,by simpa using hv,by simpa using hw,if v<0 then max (v+`ct) 0 else min v `ct,(A00 `o3 `s ?_),args_tuple_getitem,`a2! _ _,entry_tuple_getitem,(`a2?),
L6 Q1 `o3 `a3a ?_ `a3b,Builtin.Tuple.tupleItemsOf,`a3d `kY,`a3e>>=_,(`a3f),`u _ _ `a3g _ _ s,tupleItemsOf_ ht ?_,(`a3i),(qv0 hs pl pu ?_),if `Ss then _ else _,(`a3l),`u _ _ `a3m _ _ s,#[_,rfl,A1 h],A1 `a3o,A1 `St,`al6 lo hi `e p2,`h6 e `al7 pos,hl `k s1 σ H1 _ I1 q1,hu `k s2 σ H2 _ I2 q2,Heap.IsSliceOf.new,`a3v ..,by rw[`bY];exact r.length.symm,by rw[hj];simpa using ew,by rw[`bY]<;>lia,·.setIfInBounds,`a3A j u,xs.set j v,(`a3C),`o `a3D,upd H p `al!,by rw[hk];exact#[_,I',q],show `xC from fx,(`a3H),`I `a3I B5,its.toArray.any,`a3K `o6,its.any `o6,`a3L=`a3M,show `a3N by simp,o80 r fs,`amb∨`amc,(`amd),`ame/\`amf,`my/\`a3S,∃p ys,`a3T,λxs H Q=>`a3U,r'.length,fin its r' hz h' c' kp e,λh' c' kp e=>`a3X,(`amb/\`amg)∨(`amc/\Q `dr H),(`a3Z),`my/\`a3_,∃p ys,`a30,λxs H Q=>`a31,#[#[o,e,ex.1],λa e2=>?_],`dq o `er `e_,λ_ _ q=>`xQ,s'.os=s₁.os/\`SH,OldK `sv `oZ/\`a36,r=.ok (`hY `xY)/\`a37,λr s'=>`a38,λf vs=>PySem.call f vs,`akX n==`jf,`amx&&`a3!,#[`FH,`jm,ifs,0],[`a4a],`x6 elt `a4b `cF pos,J.stop i H2/\Q `pb H2,#[tg,`jm,ifs,0],`x7 _ _ st2 b hb,(`SS&&`amD&&`amE),`a4g=`d,if `a4h then `x5 else k,λk=>`a4i,(`sj x).map `a4j,(I3.stkSub b hf),`bm `a4l,by rw[hsc];exact z,by subst M;exact e,`RU x.1=_,by show `a4p;rw[hsc];exact z,`p `amI,`q `amI,`h8 `k0 `mB spos,`t (`amN sep ys),`eu λa=>`t (h a),(`a4v),`k2 `d?,`c `amS,show `bW from h,(`a4z).elim,`mE j k a ds es h1 h2 h3 h4,tDT X.K B δ g,q σ H Q z,#[x,en,e1,`amZ],`am0 s',k J `am1,λJ s'=>`a4G,#[t,`fQ s,h,`a4H],λv H' s r=>?_,#[x,en,e,`a4J],k v J `am1,λv J s'=>`a4L,#[d,`fQ s,h,`a4M],λp hp=>k _ _ `am2 ?_,#[`am3,`a4O],λvs H1 s1 r1=>`a4P,#[ds,en,e1,`a4Q],tDS X.K `ad `V δ G,fa0 `k s σ H D I (k σ H en),h1 `ad `V δ,zo0 `am7 ra0 `k s σ H D I `Tl,#[r,`Tm,e1,k],λv H' s' r=>?_,#[_,en,e2,`a4X],#[a,rfl,#[xs,`ev],`am8],by simp[`E],#[xs,xs[i],`To,`a4_],r'.mono gB,λB' gB _=>`a41,#[`Gb,_,C2 hi,`a42],#[xs,`To,`Gc],λvs H' s' r=>?_,#[_,en,e2,`a45],λJ H1 s1 it=>?_,#[`bs,env,e2,`a47],Ti0 hp hc `Tp a6 a7 hs `k s σ H D I `a48,
¬`V b->Hh b=`e,B b->`a4',by rw[O];exact `R #[n,n'],∀b,`a4!,λb n n'=>`a4?,`Ge b o xs (`Gf b o xs h),(b2 b z.1).resolve_left,`a5d z.2,#[B,b1,`hb,Y],#[a2,`a5f,`am',`hb],sm b o (M.same b o h'),#[`mK,`a5h],List.drop_eq_getElem_cons,`a5j hlt,fun σ' w en'=>?_,#[B',d,δi,δ2,a5,a4,e3,`a5l],`cY X.K Hh `V H' σ' δ2,M.wr c1 c2 `sP w en',#[Hh,`V,δ2,rb,a8,e4,?_],#[δn,en',ei],fun σ' H' en'=>`a5q,#[`Tu _ Hi gr `bi,?_],`p `a5s,#[v,e,`mL],by simpa using z,tDG K idx f B d δ v σ H Q,∃B d δ,`a5w,λv σ H Q=>`a5x,upd H6 L (`o (ys++[v])),ht cl s _ ex B δ `k s' σ H Q I h,λcl s H ex pins s' σ H Q I #[B,δ,h]=>`a5A,`pv/\∃δ,`yt=`ph,(`a5C),`a5D∨`Tw,`ank∨`a5E,λvs H Q E zQ=>?_,λcdv A outer s H vs Q E hr zQ=>?_,(`a5G),(`a5H),F.ok S `a5I `a5J,`gk cdv A `cE s H E hr H B `Gh,#[_,`a5L,?_],λi j a J es h1 _ _ _=>`anl,#[?_,hb,`a5N],#[B,`anm,`Ty,`a5O],λi J a h1 _=>`anl,#[`F5 H,`a5P,`a5Q,hb],`t (`ann z lo hi),show `Gk from ru,(`a5T),K0 W.kitx_dict `d8 #[o,h1,h2.1] e `ea fin,by rw[h2];exact `TA,#[h1,`a5W],`cr `sr p,`a0 `anp [e] [] pos,#[_,en,e1,`Gr],h1.symm.trans,if `Gz then (`pA,y) else kv,λkv=>`a51,`GC `a52,by rw[l];exact `TL,show u=`mi b from ry,(`a55),by rw[← `anw];exact z,ho `k s1 σ H1 _ I1 q1,`mN kvs p.1 p.2,(`sY:`bn).length,`a5'+`yv,`a5!+`yw,`a5?<30,(`a6a),λj k b ds es h1 h2 h3 h4=>?_,#[?_,`GJ,`a6c],s=`sU/\o'=`pp,∃d,`a6e,#[d,rfl,e],`q `a6g,`TO (i:=i) (b:=Sl.ow d) (`p `GK) hs h0,λj o' s e1 e2 h=>?_,(`a6j),`GL `a6k h1,`mE i j a d0 d' hi e3 hs e1,(`a6m),`I `a6n J,`mE j k b d1 d2 q1 q2 h3 h4,#[λb u h=>?_,λb ob xs h=>?_],#[B,b1,b2,env],λj ds b h1 h2=>?_,#[`a6q,`a6r,`a6s,`ii],`pC n (U9 h hp),λz=>`a6u,#[`a6v,`anE],Gr H H' B `k7,λb u n h=>`a6w,by rw[z];exact hp,(`a6z),`jw _ q2 `a6A,λz=>`a6B,#[`ana,λa z=>`p `Tq,`hb,?_,`hb,`TQ],#[`TR s,`a6D,`TS,`ii],`pD (λo sl h=>?_) `ha,(λo h=>`anE),`cX `a6G g,#[b,e,`p M,`a6H],(`jw a z).same,`a6J s,`pu j ds a h1 h2,(`pu i d a q1 q2),`I `a6M (`ii a z),#[B,`anm,`Ty,e],`p [],(`a6P),`cj `a6Q [],gc `anI,`yG s1 b1 b2 hi J M,(`a6T),
`hf `a6U b1 b2 M `il,(`a6V),k _ _ `a6W,#[δn,en',e2],fun σ' H' en'=>`a6Y,SeqAt.EqAt.none_list,`a6_ p' J,SeqAt.EqAt.bool_list,`a61 _ p' J,(by exact `a62),SeqAt.EqAt.int_list,`a64 _ _ p' J,(by exact `a65),SeqAt.EqAt.str_list,`a67 _ _ p' J,(by exact `a68),SeqAt.EqAt.bool_tuple,`a6' _ p' J,(by exact `a6!),ih m' d e x y u w `bR a1 h1 h2 h3 h4 h5 h6,λd e x y u w h1 h2 h3 h4 h5 h6=>`a7a,ni0 Z Y rr M rv O `a7b,U.toArray.size,`a7d=`gw,by rw[`bY,← `anQ,`yJ],by rw[s1,s2,hl],by rw[s1,s2];simpa using hl,Tc0 I n' m' d e x y u w `bR Y h1 h2 h3 h4 h5 h6,λd e x y u w h1 h2 h3 h4 h5 h6=>`a7i,ni0 (A:=`bR) Z a1 rr M rv O `a7j,`o_ a .Add b pos,gw0.or (X80.or Zh0),(`a7m),iv0.or `a7n,(`a7o),Th0.or `a7p,`o_ a .Mult b pos,by first|exact e2|rfl,by first|exact e3|rfl,`a0 `Fa [e] [] pos,.bl (`T3 a b),{ cls:=`c5,dict:=`e,data:=`b5 acc' c',slots:=⟨⟩ },code_list_new _ `kW,∀b o,`GU,`u `aC A (`e2 `yK [v]) Q E s1,λv s1=>`a7z,`cr `d4 p,`a0 `an0 [`T7] [] pos,(`T8).isSome=`pH,`sI->`a7D,(wa0 rr).2,`a7F hl,`h6 `e! e pos,λiv H1 s1 r1=>?_,#[_,J,_,env,e3,`a7I],b60 `jA `cI (set_dict hu) ha `k s σ H v u Q I r `a7J,DPut.k (`Ua) (`an2),#[a,_,rfl,`a7L,?_],xu0 pr.1 pr.2 q d,.dK ((`an3).zip ys),en.s.mut s1 b1 b2 hi J M,(`a7P),k _ _ `a7Q,λe u he ru=>?_,#[rfl,`a7S],Builtin.«zip.__next__»,`a7U #[[`pL],[]],(field `gy 2>>=_),`u _ _ `a7W _ _ _,E9 hz rfl (x:=`fE `r) rfl ?_,(`a7Y),A0 `a7Z,(field `gy 3>>=_),`u _ _ `a70 _ _ _,E9 hz rfl (x:=`C TI) rfl ?_,(`a72),A0 `a73,h1.extBut `pM D.i1z,hl1.extBut,`a76 `pM D.l1z,h2.extBut `pM D.i2z,(`a78).extBut,`a79 `yQ D.i12.symm,hl2.extBut `pM D.l2z,(`a7!).extBut,`a7? `yQ `Ui,F.args_zip_next_1,`a8b _,`GZ->c≠TO->`an7,∀c o,`a8d,{ cls:=`c5,dict:=`e,data:=`b5 acc c,slots:=⟨⟩ },#[[`C S,`pL,res],[]],`cT `an! `a8g,`Uf->`kN c=`au->`an6,`Ue->`a8i,c≠TO->`a8j,`GZ->`a8k,∀c o,`a8l,`u _ `bR (`yR `gy>>=_) _ _ _,∀b o,b<lo->`GU,`aoc==`la `d4,(`a8p),`a8q=`r,`aoc==`la `d3,(`a8s),`a8t=`r,`aod (`mi z) `aoe,`a8v>>=_,(`a8w),`u _ `bR `a8x _ _ _,`aog/\`s6 h' a x y,`Fn=`dk/\`a8z,
∃x y,`a8A,`G3=`ig->`a8B,∀(j:Nat) (a:`g),`a8C,`e2 `s' [`C l1,`C l2],by let#[_,e,_]:=hl1;exact `eq,by let#[_,e,_]:=hl2;exact `eq,I.hok.lt q,(`b7 b u e').stay,λc ob u' q=>`Ut,`a8I `aom (λc q=>`Ut) (λc xs q=>`Ut) `a8J,`a0 (`cr x1 p) [`Uu] [] pos,us1.toArray[j]?=`c u',by simpa using g1,us2.toArray[j]?=`c w',by simpa using g3,upd H `Y `Uy,`ld elts x1 tpos,`a0 (`cr `mr p) [a] [] pos,Q `aor H,xs=[`mU]/\`a8T,x=`hg/\`a8U,∃a b:`G7,`a8V,λx xs H Q=>`a8W,oj0 ga gb gc f f',n==1||`se==0,by rw[`bY] at hm;lia,mv0 r m ys[m] (C2 J),#[ys[m],t,C2 J,?_],`c its[m],its[m]?=`a82,(eqV (`mV) `yZ)=`d,by rw[`K] at hz;exact hz,show `mv `dr `d4 from `aou,F.args_list_index_2,`a87 _ _,by simpa using hy,(M y tk).mp,`a8' hb,`a8!▸e1,(`a8?),`I `a9a (O m U),(`dq o `G! `e_),`a0 `a9c [e] [] `ch,`p #[rfl,_,`le],#[`a9e,_,`fR,e2,`Gs],(hq.mono `G?).to,#[p,ys,z,j,rfl,rfl,`a9g,?_,`aoA,k _ _ `mT `yn],E4 (A3 he),(`a9i),h2 m hm `a9j,`y1 lo (hi - lo),kc0 (v:=`fL) hg hm rfl hd,(`a1 `hh xs).flatten,`o `a9n,Builtin.List.listFitsIndex,(wa0 (q:=q) rx).2,`UD/\Q (`f `je) H,`my/\`a9r,∃(p:`g) (kvs:`gz),`a9s,λxs H Q=>`a9t,Ends.closing a D,#[σ',_,`He,k],tDB X.K `ad `V δ G,h1.go `ad `V δ,`tf `ad `V δ,by simp only[z,`dy];exact e,λK H B a r=>#[r,`aoH],#[_,rfl,`a9B],vs.take j++`ce::vs.drop j,hh b o n (s1 b o e),hh.nf b o xs n e,(`a9F),`Gf b o xs `a9G,λb o n e=>`a9E,λb o xs n e=>`a9H,#[`a9I,`a9J],(.ow (bm.2 q.2)),`bj i `a9L,`y9 b1 b2 hi J O M,(`a9N),`hf `a9O b1 b2 M rv,(`a9P),kk v H' `a9Q,`fT H' a sub,λb hb=>`UR id `eX,upd `th c so'.ho,as.zip (`Hj),#[dx,ad,ns,as,sos,en,e1,at',`amZ],#[ad,`a2,`jD,?_],#[dx,ad,ns,as,sos,en,e1,at',`y!],upd (`hi H' `d?) c so'.ho,`dq o `Hm `e_,ho.go B δ,jz0 (h1.go B δ),(`a91),N7 `a92 y20 hs,`a0 `alP [] [] pos,`h8 [`aoQ] `eZ pos,z00 (i:=i) hN hvis hd hcd,(`a96),W9 `a97,hv.go B δ,bt0 `UZ `U_ hs,(`a9'),#[a,dv,env,e2,`y!],q00 `a9! `k s σ H De I `a9?,#[`ce,`fU,a,`a2,`jD,a,C,O,_,rfl,`aoR,q1,`Hq,?_,?_],kk _ _ z2.s,#[Y,z1,`a'c],(`dq o `Ht `e_),`a0 `a'e [] [] `ch,ty0 (vz0 hfl.1) rx,
(`a'g),xb0 hfl.1 `a'h,#[c,xs,rfl,`aoS,`a'i],`dq (`Hi) m `e_,`a0 `aoT `gp [] pos,`a0 `aoT [] [] pos,(`aoU).set j .un,[dk,`U2],`w `a'o,`U3 X.K `ad `V H' σ' `aoV i j `U4,`a'q->`aoW,∀σ' H',`a'r,`Hu/\`a's,`Hv/\`a't,`U5/\`a'u,`cY X.K `ad `V H σ δ,`tb=`c dk/\`a'v,`a'w/\`a'x,∃H₀ B₀ δ dk ns,`a'y,λD σ H=>`a'z,La (z▸at'.w.in0),λz=>`a'B,λx hx y hy z=>?_,#[at'.w.nd,`U9,`a'D],by rw[← `zc];exact hk',(`a'F),`g9 `a'G,#[rfl,(A3 q1).symm,(A3 q2).symm],`q `a'I,(`U?).resolve_left,`a'K n,r.ext gr λC dx fs e=>?_,λk n so q1 q2 r=>`a'M,(`a'N),`GL `a'O `Va,`a0 `ao0 `k0 [] `ch,(`Vb).set j (.sh d'),by rw[z];exact J.w.in0,#[tg,`jm,[],0],(W9 (hi.go B δ)),fq0 `a'U,wp0 B δ `k s' σ H Q I h,λcl s H ex pins s' σ H Q I #[B,δ,h]=>`a'W,SqL' X.K (`Hz) `lj c xs,#[a,`a2,`jD,c,rfl,#[xs,sq.to],?_],v10 n `bZ i `tl gi f gx,by rw[d7 Y];exact e,λo e=>`a'0,(`FR).set `tl `Vd,`x6 elt `ao4 `cF pos,hi B δ `k s σ H R I h,λpins s σ H R I #[B,δ,h]=>`a'4,he cl s _ ex `ad `V δ `k s' σ H Q I h,λcl s H ex pins s' σ H Q I #[`ad,`V,δ,h]=>`a'6,hk B δ `k s σ H Q I h,λpins s σ H Q I #[B,h]=>`a'8,tTX X.K `ad `V δ gt,`tf `ad `V q.2,#[r,J,e1,k],hc.go `ad `V δ,ha.go `ad `V q.2,(`a!a),(`a!b),b30 `a!c `a!d `Vj `k s σ H D I `Vk,`aoZ `ze,`fT `HE a `Vl,`a0 (`cr c p) [] [] pos,`aoC C dx [],[x].zip `apa,zn0 xs l u c,`al6 lo hi st p2,`h6 e `apf pos,`zj `he `jH dpos,(`m2).zip sos,Rp X.K H' B y v->`oQ,`a3->`a!p,Env X.K H B σ q.2,∀v H',`a!q,`a!r/\`a!s,∃B,`a!t,λpins s σ H Q I (h:`a!u)=>?_,#[y,env,e3,kk],`tf B q.2 `k s σ H Q I `a!w,λu H2 s2 ru=>?_,#[B,env,`a!y],oA `tn V1,o2 `ab `Vq ltD,(`a!B),ob `a!C,(o2 `ag `ab ixD),V2 `a!E,o2 (o2 `ey `ey W5) `hn m7,(`a!G),o2 `ag `a!H j9,(`a!I),o2 `a!J `zk m8,(`a!K),o2 `ar `a!L ixD,(`a!M),o2 `cZ `a!N m7,(`a!O),d8 `fb `a!P,(`f 7),gc `a!R,o2 (o2 `ag `to m7) `zk m8,(`a!T),o2 `ar `a!U ixD,(`a!V),d8 `Vr `a!W,o2 (o2 `ag `zk j9) (o2 `to `zk j9) m7,(`a!Y),o2 `a!Z `zk m8,(`a!_),o2 `ar `a!0 ixD,(`a!1),o2 `zl `a!2 m7,(`a!3),d8 `Vr `a!4,o2 `ag `hn m8,
we0 `cZ xx0 (`ho `hp),(`a!7),o2 `a!8 `zl m7,(`a!9),yt0 6 `a!',(`a!!),j4 `a!?,o2 `Vs `aD eqD,(`a?b),ob `a?c,o2 `to `Vt m8,(`a?e),`ho `a?f,(`a?g),we0 `cZ xx0 `a?h,(`a?i),o2 `a?j `zl m7,(`a?k),yt0 6 `a?l,(`a?m),j4 `a?n,gc (`f 35),(`a?p),o2 `to `a?q gtD,(`a?r),z7 `a?s v5,(`a?t),oA `a?u intOfD,o2 `aD `apj m7,(`a?w),`ho `a?x,(`a?y),we0 `zl xx0 `a?z,(`a?A),yt0 6 `a?B,(`a?C),j4 `a?D,gc (`f 12),o2 `HM `apk m90,o2 `ab `aD m7,(`apm),gc `a?I,o2 `ab `ll ltD,ob `apn,gc (`f 64),o2 `HM `apo m90,gc (`f 57),(`a?N),o2 `a?P `app m7,(o2 `ar `ab ixD),(`a?Q),o2 `a?R `a?S m8,(`a?T),Y4 `a?U,(`a?V),V6 `a?W,o2 `ab `ll m8,o2 `ar `apq ixD,`f 2147483647,(`a?_),gc `a?0,(`a?Z),o2 `a?2 `apr m8,o2 `hn `ab W5,o2 `aps `ab W5,(`a?3),(`a?5),o2 `a?6 `a?7 m7,(`a?8),o2 `a?9 `Vt m7,(`a?'),o2 `a?! (gc (`apt)) W5,(`a??),o2 `baa `apr m8,(`bab),Y4 `bac,(`bad),V6 `bae,S5 0 v5 S9,N6 `apu `tr,n6 `apv,(o2 `HO `aX eqD),ob `baj,(`apx),gc `bal,dgO 0 `Vv,`t `Vw,(`bao),gc `bap,o2 `ag `aD m7,o2 `ar `apy j9,(o2 `zm `eA m8),d8 `bL `bat,(`bau),n6 `bav,(`f 5),gc `bax,o2 `zm `apA m8,(`f 13),gc `baA,o2 `zm `apB m8,(`baC),z7 `baD v5,(`baE),z7 `apC `baF,(`baG),z7 `apC `baH,(`baI),V7 `baJ,o2 `ab (gc (`f 52)) j9,(`baL),o2 `baM `hn m8,(o2 `zn `aX eqD),ob `baO,S5 1 v5 Q8,v10 1 [0] 0 1 (ue0 `dz) `a8 `Vx,(`baR),i00 3 `baS,(`baT),n6 `baU,o2 `zn `aD eqD,(`baW),ob `baX,`t "pool",(`baZ),gc `ba_,dgO 0 `apF,(`ba1),d8 `fY `ba2,(`ba3),n6 `ba4,o2 `ab (gc (`f 156)) j9,oA `ts V1,o2 `Vy `aD K7,(`ba6),(`ba8),o2 `ba9 `ba' m8,(`ba!),o2 `aD `ba? m7,(`bba),d8 `tt `bbb,(`bbc),n6 `bbd,uj0 0 1,(`f 1000),gc `bbg,(`bbh),o2 `ar `bbi j9,o2 `ag `ey W5,(`bbj),(`bbk),o2 `bbl `bbm m7,(`bbn),(oA `m9 V1),o2 `bbo `bbp m8,(`bbq),o2 `cZ `bbr ixD,(`bbs),z7 `bbt `dU,(`bbu),zw0 `bbv,(`bbw),T4 2 [1,4,5] (ov0 `m9) `Vz noT `bbx,(`bby),z7 `bbz v5,oA `apG xk0,(`bbB),d8 `HP `bbC,(`bbD),n6 `bbE,(o2 `zn `c? eqD),ob `bbG,z7 `ag `dU,`ho `VA,(`bbJ),we0 `ag `bbK xx0,o2 `apH `apI m7,o2 `ar `m8 j9,(`bbN),o2 `bbO `m8 m8,o2 `apJ `hn eqD,(`bbQ),uf0 `Vv `bbR Wd0,(`bbM),(`bbS),
uf0 `apK `bbT `bbU,uf0 `ln `aX `apL,`zr 3 `VB,z7 (gc (`f 53)) v5,(`bbY),z7 `apB `bbZ,(`bb_),V7 `bb0,o2 `ar `apA j9,o2 `apM `c? m8,S5 1 v5 N5,o2 `ag `iu ixD,o2 `ar `m! uy0,ob `apP,(`bb7),ff0 `bb8,(xg0 `d),o2 `cZ `ab `bb',ob `apQ,ff0 `apR,o2 `ag `cZ ixD,z7 `apS v5,oA `apT W8,(`bcd),re0 `bce,T4 1 [] `apU `a8 `tw `pZ,(`bcg),d8 `fY `bch,oA `ts s20,(`bcj),o2 `ar `bck rc0,zj0 2 `apV,(`bcm),P20 2 `bcn,d8 `fY `apS,oA `ts W8,oA `apW t60,(re0 `VE),(`bcr),T4 1 [1] `bcs `a8 noT `bct,(`bcu),d8 `tt `bcv,o2 `ey `aX ixD,o2 `VF `p_ eqD,(`bcy),ob `bcz,z7 `hp v5,oA `apX xk0,(`bcC),z7 `bcD v5,(`bcE),z7 `p_ `bcF,(`bcG),zw0 `bcH,(`bcI),d8 `fY `bcJ,o2 `VF `tv neD,(`bcL),ob `bcM,o2 `ey `iu ixD,tupI `VG,(`bcP),T4 1 [] `bcQ `a8 noT `jK,(`bcR),d8 `HP `bcS,we0 `ey xx0 (`ho `iu),z7 `lm `apX,(`bcV),oA `bcW cp0,(`bcX),z7 `bcY v5,(`bcZ),oA `bc_ xk0,(`bc0),z7 `bc1 v5,(`bc2),zw0 `bc3,(`bcU),(`bc4),o2 `bc5 `bc6 m7,(`bc7),d8 `fY `bc8,o2 `jK `HR eqD,(`bc'),ob `bc!,(yt0 1 `pZ),j4 `bda,o2 `pZ `ab (vf0 `d),(`bdc),pr0 `pY `bdd,(`bde),V2 `bdf,o2 `ag `aX ltD,(`bdh),ob `bdi,unG U7 `c?,(`bdk),o2 `bdl `ag W5,(`bdm),o2 `bdn `aD K7,(`bdo),V2 `bdp,o2 `c? `ag W5,(`bdr),V2 `bds,(o2 `ag `lo mh0),ob `bdu,oA `dU xr0,(`bdw),o2 `bdx `aD K7,(o2 `ab `pZ p80),o2 `apY `bdz K7,(`bdA),o2 `eA `bdB W5,(`bdC),o2 `bdD `c? m7,(`bdE),V2 `bdF,o2 `eA (oA `tn v90) W5,(`bdH),o2 `bdI `aD m7,(`bdJ),V2 `bdK,o2 `ag `jL m8,(`bdM),z7 `bdN v5,(`bdO),V7 `bdP,(`bdQ),zj0 1 `bdR,o2 `ag `jL j9,d8 `bL `apZ,oA `dU s20,(`bdV),ei0 `bdW,(`bdX),Q9 `bdY,oA `tn nf0,T4 1 [] (jb0 `ag) `a8 noT `ap_,(`bd0),Q9 `bd1,o2 `ag `ab `ap0,ob `ap1,(o2 `ab `ag p80),o2 `apY `bd5 K7,(`bd6),o2 `c? `bd7 W5,(`bd8),z7 `bd9 v5,(`bd'),oA `bd! V4,(`bd?),Q9 `bea,o2 `c? `Vq W5,(`bec),o2 `bed `aD m7,(`bee),z7 `bef v5,(`beg),oA `beh V4,(`bei),o2 `bej (oA `tn Q6) rc0,(`bek),Q9 `bel,z7 `apO v5,oA `ap2 V1,(`beo),o2 `eA `bep W5,z7 `jK v5,oA `ap3 `ap4,(`beq),(`bes),o2 `bet `beu m7,(`bev),V2 `bew,(oA `zu Q6),Q9 `bey,zy0 isStr `ab,(`beA),ob `beB,oA (z7 `ab `m9) w00,(`beD),Q9 `beE,z7 `ab `dz,
oA `VK z60,ob `ap5,o2 `ab `aD ixD,o2 `ag `ap6 ixD,(`beK),d8 `fY `beL,o2 `eA (oA `ts G6) W5,(`beN),o2 `beO `hn m7,(`beP),z7 `beQ v5,(`beR),oA `beS V4,(`beT),o2 `beU (oA `ts zd0) rc0,(`beV),Q9 `beW,oA `VK zk0,(`beY),z7 `beZ v5,(`be_),oA `be0 V4,(`be1),Q9 `be2,zj0 2 `VL,zj0 3 `VL,zw0 (z7 `ln `zx),(`be6),z7 `be7 v5,(`be8),V7 `be9,(`be'),zj0 4 `be!,ur0 `Vy,(`bfa),o2 `bfb `aX gtD,(`bfc),ob `bfd,N6 (qz0 4) `tt,z7 `ar `m9,(`bfg),z7 `hp `bfh,(`bfi),z7 `ag `bfj,(`bfk),oA `bfl ze0,(`bfm),ma0 `bfn,(`bfo),wu0 1 `bfp,j4 `ap7,zy0 isStr `hp,(`bfs),ob `bft,oA `m9 xr0,(`bfv),ur0 `bfw,jx0 3 `hp `ap8,j4 `ap9,z7 `hp `dz,(`bfA),oA `bfB z60,(`bfC),m80 `bfD,ob `ap',oA `dz xr0,(`bfG),ur0 `bfH,(`bfI),Y4 `bfJ,o2 `hp `aD ixD,`zr 2 `ap!,N6 `ap? `aqa,o2 `ag `ap! ixD,(`bfO),z7 `bfP v5,(`bfQ),oA `bfR K6,(`bfS),z7 `bfT v5,(`bfU),oA `bfV s20,(`bfW),wu0 4 `bfX,j4 `aqb,(`t `VM),gc `bf_,J9 0 `jM,o2 `aqc `aX gtD,ob `aqd,(`t "end"),gc `bf4,o2 `p0 `aqe eqD,(`bf6),ob `bf7,(`bf3),(`bf8),ui0 `bf9 `bf',popS 0 `jM,gc (`f 20),o2 `eA `aqf W5,(`bgb),o2 `eA `bgc W5,(`bgd),o2 `bge `hn m7,J0 0 `iw `iu,J0 0 `VN `aD,u30 0 `G `lp `aX,(`bgi),n6 `bgj,o2 `ag `tv eqD,(`bgl),ob `bgm,(o2 `ag `p_ eqD),ob `bgo,(o2 `ag `HX eqD),ob `bgq,`t `tx,(`bgs),gc `bgt,z7 `aqh `aqi,(`bgv),V7 `bgw,(`bgx),o2 `bgy `ab mulL,o2 `ar (oA `dU u90) gtD,z7 `ln (z7 `HY v5),(`bgB),zw0 `bgC,(`bgD),z7 `bgE v5,o2 (o2 `ag `c? m8) `aD eqD,j6 0 `G `lp `dA,o2 `ar `aX eqD,ob `VQ,W7 0 `G p6 `dz z50,(`bgK),R6 `bgL,gc (`aqj),(`bgN),z7 `bgO v5,oA `VR V1,(`bgQ),o2 `cZ `bgR W5,(`bgS),d8 `fb `bgT,o2 `Vq `ab eqD,oA `dz nf0,(`bgW),o2 `bgX `ag eqD,ob `aqm,z7 `ab `VR,(`bg_),oA `bg0 vh0,(`bg1),d8 `bL `bg2,(`bg3),n6 `bg4,o2 `ar `lo mh0,ob `aqn,j6 0 `G `ht `dA,plN `aqo,j6 0 `G `m? `dA,o2 `H_ `ar m7,z7 `aqq v5,(`bg?),z7 `VS `bha,(`bhb),fnN 0 `na `bhc xh0,(`bhd),ob `bhe,(`bhf),xw0 `bhg,(`bhh),wg0 `VT `bhi,u30 0 `G `m? `aqq,(`bhk),n6 `bhl,o2 (oA `aqr V1) `VS eqD,o2 `ab `aX ixD,z7 `ap6 v5,(`bhp),z7 `aqs `bhq,(`bhr),oA `bhs K5,(`bht),z7 `bhu v5,J9 0 `na,o2 `p0 `aqh eqD,(`bhx),
ob `bhy,W7 0 `G p6 v5 M9,(`bhA),ta0 `ar `bhB (xg0 `r),W7 0 `G p6 `dz X7,(`bhD),j4 `bhE,(`bhF),n6 `bhG,o2 `VU `HN eqD,W7 0 `G p6 v5 U4,o2 `VS `aX gtD,oA `tn u10,oj0 `aX `ag (gc `H0) leD leD,oA `dz vn0,ob `aqu,(`bhO),xw0 `bhP,W7 0 `G p6 `dz V5,(`bhR),R6 `bhS,ut0 `aqv,bx0 0 `G `zB `aD,(`bhV),n6 `bhW,W7 0 `G p6 v5 J3,(`bhY),j4 `bhZ,(`bh_),n6 `bh0,(`zE).cps.toList,(`aqz).length,(`bh3:Nat),(`bh4:Int),k<`bh5,(`bh6),`z `bh7,(`bh8),`c `bh9,`bh'=_,by rw[`K];exact h,(T9 ?_),by rw[`O];apply `tC;lia,o2 `Vs `H7 eqD,z90 (p:=p) (b:=`VY) rfl rfl hn,(`bid),u50 `bie rfl,(`bif),(S6 rfl),V3 `bih,(`bii),V3 `aqE,(`bik),([`sQ,`sQ]:Ds).set,`bim 1 (.ow `gA),(`bin),gN 0 d `bio,`bip=`c `V0,show `biq from rfl,show (37:Int)≠0 by decide,(`bis),E3 `H9 `bit,show `gC<37 by decide,P4 `H9 `aqH,by let#[c,_,rfl]:=`dx hq;exact `jl,λq hq=>`bix,`sm*`p7,a+`biz,((i+d:Nat):Int)*`p7,a+`biB,N/36+`dR/36,(`biD),`biE%36,(by rw[`dS];lia),Gw.gh0 _ _ `biG,`z ((35:Int)<`dR),(`biI),`aO `biJ,(`biK),`c `biL,`biM=_,o10 `jQ `j `j,bk k cs `r m `av,(`biP),v7 p `biQ,(`biR),.ow (v7 p (`zT)),show `nh≠0 by lia,(`aqx `fZ).length,(`biV:Int),`as `biW,(`biX),`c `biY,`biZ=_,z10 xo0 0 p `gA [],xl0 `Im `In,`Ig (`Wa).toNat "",by show 3<=`S;lia,bk k1 cs sm m `av,Nat.min_eq_right,by rw[ix δ h,q],(v7 p (R (`iA))),`tS `j,by rw[c0,hu];rfl,by rw[hu];exact A7,(`z (Z2 w=Z2 v)),`aO `bi!,(`bi?),`c `bja,`bjb=_,.ow (v7 p (R `lt)),Nat.not_lt_zero _,List.count_cons_self,if `Wo then _ else `e,(`bjg),(`a1 n w).flatten,o2 `ag (gc (`mU)) eqD,by rw[c];rfl,R9 `aq7,Y0 `aq7,if kd=0 then 20 else 12,vm0 `Iw kd,`Iv `aq' [`b!],(`a1 n _).length,by split at h1<;>lia,(v7 p (R (`tW))),4*(4*n+kd),yr0 [`cN,`eC,.un],by rw[cm,`f1],(`bjv),M3 `bjw,v7 p (R (`ls `x)),(`bjy),.ow `bjz,[`bjA,`eC,`z8],o6 (δ':=`bjB) ?_ rfl,l90 p S _ w ws hw,o4 (x:=`Wf) (y:=`VI) (d00 p S _) rfl,(by rw[`bjE]),by apply `bjF;exact `Wv,`aO (`z (b<128)),(`bjH),`c `bjI,if `xC then _ else ut0 _ _,(`bjK),`gE `bjL _,`bjM=_,y70 `jQ h,(`bjO),V3 `bjP,(`bjQ),y70 (ds:=[]) rfl (nd0 S),
#[[`ql,`dW,`Ww],?_,rfl],λp=>`bjT,W0 rfl `bjU,(`nb : Str)=Z2 `jT,show `bjW from rfl,V9 rfl `qm,b.isPrefixOf,{ S with length:=L },zn0 xs (`c 1) `e `IH,((`Aa).map `qp),`w `bj1,by rw[`Z] at hl;lia,o2 `ag `iu ixD [.sh X],(`bj4),`gE `bj5 _,`bj6=_,o4 (x:=X) (y:=`It) rfl rfl,match d with|`w [a,_]=>a|_=>`x,λd=>`bj9,(K1 rfl),U0 `bj!,S8 K4 [`gH (1,`dD)],(v7 p (R (`IN))),∃s:Str,d=`cx/\`qs,((`zD).length:Nat),(`bkd:Int),`as `bke,(`bkf),`c `bkg,`bkh=_,t50 (items:=`zD) rfl e,(`bkj),t7 `bkk `t9,`t' #[d,hd,rfl],λs hs=>h3 s (C8 _ hs),Xl0 h2 `bkn,(`bw `gs),nd `bkp,`arJ - `IY,(`arM).mpr,`bks h,(`arM).mp,`bku z,(`bkv),h `bkw,λz=>`bkx,`c (`as _),`bkz=_,`arT - `ub,(`bkB),4*`bkC,[`x,`jY],c7 (ds:=`bkE) rfl,by apply `arV;exact `arW,[`f x,`jY],c7 (ds:=`bkH) rfl,by apply `arX;exact `arW,by rw[`arY];exact Z50 B j,st ps o B T (d::W) s,st ps o B T W `sB,o++hb ps B T `x,(`bkN),st ps `bkO B T W (`Ah),t7 (δ':=`bkP) ?_ rfl,o++hb ps B T `Ai,(`bkR),st ps `bkS B T W (`W3),t7 (δ':=`bkT) ?_ rfl,nW ps B W `nq=`ar1,by unfold nW;apply `lz,`t' #[p,hp,rfl],lkv `cy `I?=lkd (ix L i),show `bkY from so0 _ _,hc k hk i (Uv0 hu),(`bk_),by rcases hg with z|z;exact `e9;right;lia,by rw[J];exact hc,by rw[J];exact th,(`asd z).2,`asd hl,(`bk5).2,by rw[J];show `Ap;lia,by rw[J];exact hln,by rw[J];exact h8,by rw[J];exact M,by rw[J];show 0<`da;lia,#[`bk!,ht],`p `bk?,(`bla),sf0 S1 _ w ws w1 hv _ _ `blb,mw0 (hd _ A7),#[n+1,`lA,`ask],#[B,T,[],`L B T],λB T _ _ _ _=>`blf,(`q #[z,rfl]),`qx `blh h,#[B',T',_,`bli],tz0 hn hj',Pk ps [] [] `Jl L T (`Xi++(b1++[])),`qy `aB h (`L L T),`q #[0,rfl,J.1],(`bln),`q `blo,(`blp),`q `blq,(by exact `blr),by rw[`qz];apply `bls,λd hd=>`blt,`aA=`asq+(`yJ+1),by rw[e,`O,`Z],(`Jp).drop,`blx `dT,`bly=_,#[`ee,pw `yJ,?_,`iI,λs es=>?_],(`ix (`ass)).map,`blB `qp,(`blC),(`VZ (`ast `f3)).map,`blE pr,(`blF),S0.begun.modify `aS _,v20 ps `cy,A.un.trans,`blJ hu,by rw[A.bg,i60 hk,`a4];rfl,(by rw[A.wt,hw,`O,`ds,pl0 s1]),by apply `blM;rfl,by rw[`asz];exact `asA,#[S',`Xr,`blO,`asB,`Xs,D'.un,D'.wt,?_],
#[S1,[],`L _,`Xv,I1,u1,w1,?_],(`ug).length::ne1,by simp[deq],(`blS),`I h `blT,if `Jx then `asI else `e,(`blV),`blW=_,#[hx.ln,hy.ln],`R `blY,xa0 (items:=`fh pr) ?_ `lw ?_,(`qC).length,`bl0<=20,(`IT qs).d,K1 (hc _ qs rfl h),(`bl3),U0 `bl4,ns5 ps B W d3 s4,xa0 (items:=`j2) ?_ `j ?_,ns5 ps B (j::W) s3 s4,ns5 ps `dF (`JB++W) `qE (`asM),t7 (δ':=`bl9) ?_ rfl,h2 f W s3 s4 `asN,ns5 ps L [] s3 s4,eq0 _ _ qs 4 rfl rfl h,(`bma),X8 (d:=`JD) `bmb,(`bmc),t7 `bmd (t7 `JE rfl),`XC `AF,(`bmf).map,`bmg pr,`w `asQ,[`bmi],`o `asQ,(`asR `AF).map `T2,(`bml),`f0 `bmm,(`bmn),`c `bmo,`bmp=_,by show 1<=`S;lia,λy hy=>`fc (hL y hy),`nx hn (m:=`j4) `bms,c7 (ds:=`AE) rfl,o2 `ag (gc (`f 127)) gtD,(`bmv),ob `bmw,d8 `a8 `apZ,d8 `tr `VA,o2 `ar `aD ixD,(`asV),gc `bmB,(o2 `ab `ar ixD),d8 `fY `bmD,(`bmE),n6 `bmF,(z7 `HR v5),z7 `HX `bmH,(`bmI),z7 `p_ `bmJ,(`bmK),z7 `tv `bmL,(`bmM),V7 `bmN,z7 `VF v5,xj0 `asW `asX jf0,(`bmQ),d8 `tt `bmR,(`bmS),n6 `bmT,z7 `VG v5,oA `asY V1,(`bmW),o2 `eA `bmX W5,(`bmY),o2 `bmZ `hp m7,(`bm_),o2 `eA `bm0 W5,(`bm1),o2 `bm2 `hn m7,(`bm3),z7 `bm4 v5,(`bm5),oA `bm6 z80,(`bm7),o2 `cZ `bm8 m7,(`bm9),d8 `fb `bm',(`bm!),n6 `bm?,`t `asZ,(`bnb),gc `bnc,(o2 `ey `aD ixD),z7 `bne v5,z7 `VE v5,(`bng),ov0 `bnh,o2 `hp `aD gtD,ob `as_,o2 `VG `lm ixD,(`bnl),o2 `bnm `aX ixD,z7 `ab (z7 `to `m9),oA `dU yo0,o2 `ll (gc (`f 600)) gtD,(o2 `lm `ll ltD),ob `bnr,o2 `lm `ey m7,`ho `as0,(`bnu),we0 `ar (`ho `lm) `bnv,(`bnw),z7 `bnx v5,(`bny),W7 5 `G p6 `bnz zs0,(`bnA),j4 `bnB,z7 `as0 (z7 `ll v5),(`bnD),oA `bnE Wc0,(`bnF),d8 `HP `bnG,wv0 3 `as1 `XE,sj0 3 `as3 1 [6] `a8 `ny `ag,(`bnJ),d8 (gN 7) `bnK,wv0 3 `as1 `XF,sj0 3 `as4 1 [6] `a8 `ny `ag,(`bnN),d8 `Vr `bnO,W7 5 `G p6 v5 K3,(`bnQ),rg0 `bnR (o2 `to `zl K7) uy0,(`bnS),R6 `bnT,W7 5 `G p6 v5 U4,(`bnV),(o2 `lm `ll l80),rg0 `bnW `bnX uy0,(`bnY),R6 `bnZ,(`bnU),(`bn_),orT `bn0 `bn1,(`um).any λy=>eqF y `dX,inN 0 `ab nG (`hG::[`iH]),(100:Nat)<=`S,An0 `s `s,sized hN ?_,(`bn7),plus (a:=i) rfl `bn8,(`z (`kX<`as6)),`aO `bn',(`bn!),`c `bn?,`boa=_,S5 0 (z7 nmG v5) O7,
(`boc),ta0 `cZ `bod m7,(`boe),N6 `bof `fb,as.flatMap,s8 p T P Q w k i pd kd s6 s7,s8 p T P Q w k i pd kd `JJ `JK,by rw[gt1,← c4];rfl,by rw[`O,a7];lia,s8 p T2 (P++nd J) (Q++nd O) w k `XK pd kd `JJ `JK,rf0 `cy (`AH+1) as,nd (`JL::ne),(`XC (`asO `f3)).map,`bop pr,(`boq),(`as (`atd:Int)),`c `bos,`fh λq=>`as!,4*`XO+kn pt,(`bov),4*`bow,Y0 rfl,(`boy),Z0 `boz,o6 `XV t1,o6 `XV `atf,(`boC),Y _ _ `boD,#[δ',`boE,t2],by rw[O,gb0];rfl,(`boG),dk0 pd `cy qs `boH,(`boI),`p `boJ,#[v,hv,rfl],`t' `boL,hI v.2 `ath,C8 _ `ath,by unfold Pt.all Pt.pnames;exact `boO,(`boP),W.nm _ U v.1 `boQ,hb ps `dF T (`e7),(`boS).length,`JO+`boT,hk [] [] [],decidable_of_iff,`iK (`as x=`as y),`boW `E2 #[`atk,`atl],(`AL).take,st9 a b `lv T nb ne `iE S n s7 s8,by apply `X5;exact a7,.Pass #[0,0,0,0],d9 `aH `AN,lz0 `atw,λcl s H ex=>`nE,T.c_MOST_WORD_SIGNS,z40 `bo5,lw0 (ud0 `AO) `az,(`bo7),Y6 `bo8,lw0 (ud0 `atx) `az,Xq0 `aH `X6 v60 `X6,fo0 T.c_NAME_SIGNS,(`bo?),z9 `bpa u5,N8 `dY `ur,λcl s H ex=>`aH,N8 `dY `AP,tg0 sx0 `iL `us `iM `aH,z9 `az `eH,v40 pa0 ls0 `dY P1 `ef,(`bph),O8 `bpi v6,z20 `aty,bk0 `qJ `X8 `nE,(`bpl),M4 `bpm,O8 (T3 v6 `JW) v6,C__law_next,(pab 0 u5),yh0 0 `bpp `uv hr `s `bpq,(`X?:`h).Nodup,(`aQ:`bps),o5 0 `bpt,λcl s H ex=>`bpu,lx0 3 `hH o8,d9 `f6 v6,d9 `f6 `AN,o7 i70 ki0 `a9 sp0,λ_ _ _ _=>`cu,z9 `Yc u5,o5 3 `J3,sw0 `Yd,M7 C__law_drawn hr `s `ef,t90 `hH (Z9 3) o8,(`atC:`h).Nodup,(`aQ:`bpG),o5 0 `bpH,λcl s H ex=>`bpI,o7 ia0 li0 `aH `az,(`bpK),lv0 `bpL,(`bpM),λcl s H ex=>`bpN,(`bpF),(`bpJ),(`bpO),Zz0 `dY (sc:=`Ye) (N:=b50) (N':=`atC) (n:=1) (caps:=[6]) `gL `s `bpP `bpQ `bpR `atD,n70 0 v6 `j!,(`bpT),j8 `bpU,p60 0 `qI `j!,(`bpW),j8 `bpX,vl0 0 `atE hr `s,(`bpZ),k70 `bp_,ru0 `fk `AN,wh0 `Yf `atF,o7 W3 Z7 `a9 o8,j8 (s80 0 `a9 `j!),o7 W3 Z7 `Yg o8,o7 t00 vg0 `lE v6,j8 (s80 0 v6 `j!),O5 0 `uE hr `s `eH,(`bp8),Y9 `bp9,(`bp'),j8 `bp!]
def Z:="jti38FfHW3cjppKp'irB!KlO0ItJxkwUdfCFOwWLCuMjdB2UUt6Wb3zcxJ9uB5rcOOdJ05WCMLx3Aet0vx?rf0t2d7LhsyuOJoNkhfM?I'ZEf!kVkjhNGFjfvjHOdni6rHakjWhiusJ3zs1h!IpSGT_LHralT?OvvIa_Bf4bf_UO?j4dapWZ9d0y7lKhfrm27FviHakcVW?IksLdMlj5AZqb7kxKj!Ncm4Eg'OQkC4d1kRoAmmfayAVL9zYbhkJMLFvKq?62lxnKVARfhEXgg4jmsLnSbElOAe!1UL44ib5AS59uYejAiBW4CWlcejhcslx5oZ_yqLiuSvI3Is_vOk56L6_F_SIPg?B?ivOyCuDeMnwZmVOAnzd?iNlaDWZPAbZjg9wcAYeAk1bXL024fVVf?tK0jSHB2QbO4D8wA'0yLiQwX_b3mVlXly?IT'4ApPehiCpWVyr5j9dW0QyAkg5e9ixVzxPdt!26lXEjwhkyJdHakbqEAyleH6e4eeqtK4ux3aisMVQDLmWUdLpNjrTL3vRjWqAA9HXLuHk!Vl_ixMLDTjV'8swiv8jpffJZoRJckb1lX?TpLIkJQAiD887RTNvBBj7cSty'LB!Vi6!r't1bnV7cLtvVDFciIpf6PnPF0nXF6ka2BQM8nsnEfSAxmeoblvJlKJwG7uE76!iolJ0qAA49yg'!LRjS6oEAgQ2mkocsCnHkUwF0Nxrdb!azRd3YlsAmTfExxPQOUK5WhCygjQCmb_kcAtWxjGlWIWhXXYRoYYW1qdQLIJ9v0tSmdnYOgs!WQ1Ifi093mCZ12xi7wL3nQrzLDdekpk6w2diXcsL8yWc7Yf6eFbdiGEPd7Zid?jjegkyYviEXRP7Tv6JPjdSb9taI'p6jcJ5st?QJI?i3HLFHQnoW!hfkU_ke9OcsbyRJrBkBLMGbH!?A4Kfy9higeUiuWAvVZfXvDtQRT7KQa7O6NbvgdSka4EE?UXNd'1ib7YOrylvBPg25R7XLz?7cjap_yqG2jLSaR1XYA9KUrhiRLRgHkQFRsiFHa1?NC1jafSVVEzW0qKNb1pYa8NW6JUdAWFuZUuNaSlSdRTvXIi'Ijf7Q0w234CgcJA9KT4?zomcIEXZ?hC2i3lvYB4ckudhghRqGuhqdyXBgeks'DV37q?eUnnniv2Mv6bt1QgVFWCkqfv7Cct1GQaak_X6wbOXcQ3cVoIHW0DMOVeAzNUBmThhOdbtSAzBE!cuar'yHmrnSzwlwVH_1JaNv1fTatwerwPGRbFlS?hIoqLzfTmkqQqqImNd?lEYRY3NvrjXtnvuAB!EblnUAg8hegB6c'oYpOm9TRbb6gcj!6d!gidn!wtdbCU5kf1Dt3eQaEdacMuA1XLumNocYorPFuP0l9kboYDKoH0KrhfCWHo6BXBlbkc54w5tz!0fuL?dIH9qCZaaQNm8T?r6wanaiR!7WVN1b8SlGq'S6vSgz0I'qCghoIlAbte3?eSIzfnQD_pcbH8_erBdlYVO8SJi68kEbODeu6iYTEWZ1hd!si9MUG?Y7x0nlWutGd05SAHlUgKlIen!Q'jocPykjr!m4jx'aziXlR!zeDrCpMaApXvggvSnf8o8TYkOtmJUmWUKOa7YGp5d38iuhwbUHP_5Im?f7oK4YcblMjkafFnrCV_Vgg7FhpUy6UZPgqwohbshttWhF5eYyeq_?fePplqt'J9vvkKh3oybBajUlwAhrafSA4xcA'a5YhC5'viw0nwYVq0w8ffKEJdwO?4RdKOb6fzXrTNkH3oRsVzsyDkLWoRzq2CjXiPXHC8lT9Epjwp'mz6X4ZAhwjW4CeSCqvkG7o3B1Tox!em16YPDZOLYfxijGBJGMCAezvzZ?OcuSfjJ?qDv9TRN?lipP0GEZACuf4Pd4LvXx62kieccxNL20!f8RbIa!MiYIh0rza0dEid9fAkWgw1onuPiO17yez01ypiAPDj5HwbIcdf1seLBMYrXdc!Xpps!OGHlQ?S0U!6ffBdabekJKGfVGeDZwS8a0R0DfbZjv9GwmT5cBHdAIANLrMc1y1'KJC'?UbjIk6EwQaJIeLvQGvw1EQWlFnVRIEeNiKkjCChjvLw?WfyjKuETl57ffzrLWI66Oj?ctHBtLPoOE6aEOIf9PnU9se4CdtZ0l7BEf65O2a9jXgybXnfdDttbeBiDp_MCGTXzigK83B80pHb1g5NCzUjA_ori1ep2svvR1LdJ1UrPDtonUf3gPEKULrlRb2Waeyb3SRzaeVRWDd1sBcdO4s37DGJH0f5FwK6CIFUkaCiD69XkEAibkFqCgQWI0IdUoxngiqeXMhx1zoLDy9QWfPgMCr0?fw_e___mZILhfkkKSUVBOUtZ_aaIh0b!iTwykfOqb1iI?_aesDt4S5hF_pfwLkD1ByUpYeBfzH0OLmwoawdDms!fIEjd8ZJ?8a2HzgiWO68z1ghz'ibLlvrvVw5laF7rtkXMjaAbV0dP07HRxljVMMPVcqcszlKmhbTlguLRkfJSa!g'PSukpdK?W8?R!FbMXkLpf4UyhiaHqLE'Fd_FiRIYMeC2ldJdii'D7itZe'lra?mh5L7iZfxdO5DhkB_XiluZ?zXM9andOO4u9SJcodcwBP9T0Qu60eNBkhFQHUrdaDx2'PTINoLbkhWW!NnetvguwlZuxtH!YkrrmxVHt6TEeMKRlv3XzcDlvScK_o'I38jz5mxHhA0HPhw?fAZGLPutePIWbD'NXHobL8GDmHU'Lmibg4igVQrQhgOJvDbDdrCAiIemqIaPp9XiHA4FHY5M6DdU'8XsQQ6CNj2vDEtFN_Lfi6BF4CxgoDlj?0bfhozoCyeb?qoqwZkCwdxinROiegefiWiZ9I9ATyYiOid?RExkamahCMQjhzzaCh6gx9BMZ4'bg3BYg7bPO8xcBHKC18YwQbid?P4Z237ZbchhU_9aelogbvZbPo?6wBvaFgOhmNFhWleqlwbfJ0o!lbY_PzcqS2Izd4hV?8lIateg5ylK1RN'Zbef8HJRO!CgKjeqwq0IXQ3GlurYy_AO76eitVygGZM8GVdWIVxFUF7t2aKlHFJpdO?Aea5lMZ59OI'gJKLdFhDor8eXZdFzKsYApfF_9U3!14!qd5!uQJb1q0OfAV3SsH0j'!aN2B9Ai!z30aExqCBY_8RkdAcIVERbk8h"
def k4{k:Nat}(h:k<4):k=0∨k=1∨k=2∨k=3:=`H
noncomputable section
open PySem
def A0:=@PySem.wpAny_bind
def A1:=@PySem.wpAny_pure
def A2:=@Nat.le_refl
def A3:=@Option.some.inj
def A4:=@List.mem_map
def A5:=@List.mem_cons
def A6:=@List.mem_cons_of_mem
def A7:=@List.mem_cons_self
def A8:=@PySem.Heap.lt_size
def A9:=@List.mem_append
def B0:=@Nat.ne_of_lt
def B3:=@PySem.Heap.get?_push_of_some
def B4:=@Nat.le_trans
def B5:=@Bool.false_ne_true
def B6:=@Nat.lt_of_lt_of_le
def B7:=@Nat.zero_le
def B8:=@Ne.symm
def B9:=@List.mem_range
def C0:=@List.getElem?_eq_some_iff
def C1:=@PySem.W.mg_of
def C2:=@List.getElem?_eq_getElem
def C3:=@congrArg
def C4:=@PySem.Heap.get?_push_size
def C5:=@List.mem_of_getElem?
def C6:=@decide_eq_decide
def C7:=@Nat.ne_of_gt
def C8:=@List.mem_append_left
def C9:=@PySem.wpAny_holding
def D0:=@Nat.lt_irrefl
def D3:=@List.mem_append_right
def D4:=@List.nodup_cons
def D5:=@PySem.PassesOwn.never
def D6:=@PySem.wpAny_mono
def D7:=@PySem.W.mg_none_of
def D8:=@PySem.wpAny_specialOf
def D9:=@Nat.lt_trans
def E1:=@Nat.le_add_right
def E2:=@List.mem_singleton
def E3:=@Int.emod_nonneg
def E4:=@decide_eq_true
def E5:=@beq_eq_false_iff_ne
def E6:=@Nat.le_of_lt
def E7:=@Nat.le_of_eq
def E8:=@PySem.mem_of_lookup
def E9:=@PySem.wpAny_field
def G0:=@PySem.Heap.get?_update_other
def K0:=@PySem.W.kia_one
def K2:=@PySem.Heap.get?_update_self
def L0:=@PySem.F.plainAttrs_list
def L1:=@PySem.wpAny_Call_Name_kw
def L3:=@PySem.call_meets
def L4:=@PySem.wpAny_updateSeq
def L5:=@List.mem_replicate
def L6:=@PySem.wpAny_call_entry
def L7:=@PySem.SeqAt.EqAt.same
def L8:=@List.mem_filter
def L9:=@PySem.wpAny_truthy_bool
def M0:=@PySem.wpAny_passesOwn
def M1:=@PyProof.Rows.callWith_type1
def N3:=@beq_iff_eq
def N4:=@PySem.wpAny_typeOf
def N9:=@PySem.wpAny_newObj_type
def O0:=@Nat.lt_of_le_of_lt
def P1:=@PySem.boot_len
def P2:=@List.mem_map_of_mem
def P3:=@List.nodup_nil
def P4:=@Int.emod_lt_of_pos
def P5:=@PySem.codeAny_builtin
def P6:=@PySem.wpAny_rule
def P7:=@decide_eq_false
def P8:=@PySem.Calls.spliced_cons
def Q1:=@PyProof.Rows.slot_tuple_getitem
def Q2:=@PySem.typeIs_str
def S4:=@PySem.plainId_quiet
def T0:=@List.nodup_iff_pairwise_ne
def U1:=@PySem.SeqAt.EqAt.int_str
def U2:=@PySem.SeqAt.EqAt.str_int
def W1:=@PySem.wpAny_seqItems
def X0:=@Nat.lt_succ_self
def X1:=@PySem.Calls.spliced_nil
def X2:=@PySem.codeAny_mono
def Y1:=@PySem.wpAny_callSpecial?_slot
def Y2:=@PySem.typeIs_int
def Y3:=@PySem.Heap.SameBut.update
def b5:=@List.map_congr_left
def b6:=@Array.getElem?_eq_getElem
def c5:=@PySem.F.plain_extend_loop
def c6:=@List.cons.inj
def c9:=@Prod.mk.inj
def d4:=@List.getElem_mem
def d5:=@List.mem_flatMap
def d6:=@List.length_range
def i3:=@List.nodup_append
def i4:=@PySem.F.slot_NoneType_hash
def i5:=@PySem.F.slot_tuple_hash
def i6:=@of_decide_eq_true
def i7:=@PySem.SeqAt.EqAt.none_int
def i8:=@PySem.SeqAt.EqAt.none_str
def i9:=@PySem.SeqAt.EqAt.int_none
def j0:=@PySem.SeqAt.EqAt.int_int
def j3:=@PySem.SeqAt.EqAt.str_none
def k0:=@PySem.SeqAt.EqAt.str_str
def k6:=@List.getElem?_eq_none_iff
def k7:=@List.mem_filterMap
def k8:=@PySem.concat_meets
def l5:=@Option.map_eq_some_iff
def l6:=@PySem.tupleKind_room_in1
def l7:=@List.length_eq_zero_iff
def l9:=@PySem.F.slot_zip_next
def m3:=@List.mem_iff_getElem?
def m4:=@PySem.F.slot_list_index
def n5:=@List.not_mem_nil
def n9:=@List.all_eq_true
def o0:=@List.pairwise_map
def o3:=@List.mem_flatten
def p9:=@PySem.F.typeOf_object_class
def r8:=@PySem.wpAny_pyHash_int
def r9:=@PySem.wpAny_pyHash_str
def t0:=@PySem.wpAny_forIn_list
def t5:=@List.ext_getElem
def t9:=@PySem.SeqAt.EqAt.none_tuple
def u3:=@PySem.SeqAt.EqAt.int_tuple
def u4:=@PySem.SeqAt.EqAt.str_tuple
def u8:=@PySem.SeqAt.EqAt.of_refs
def w8:=@PySem.SeqAt.RcAt.tuples
def x0:=@PySem.wpAny_isInstance
def x3:=@List.getElem_inj
def x5:=@PySem.wpAny_execs_nil
def x6:=@PySem.wpAny_standAt
def x8:=@PySem.W.plainGet_of
def x9:=@PySem.Heap.size_push
def y0:=@List.of_mem_zip
def y4:=@PySem.noFill_tuple_add
def y6:=@PySem.seq_tuple_add
def y8:=@PySem.F.slot_tuple_add
def y9:=@PySem.F.entry_tuple_add
def z0:=@PySem.F.args_tuple_add_2
def A00:=@PySem.wpAny_sequenceKey
def A20:=@PySem.slot_list_getitem
def A30:=@PySem.SeqAt.EqAt.none_bool
def A40:=@PySem.SeqAt.EqAt.bool_none
def A50:=@PySem.SeqAt.EqAt.bool_bool
def A60:=@PySem.SeqAt.EqAt.bool_int
def A70:=@PySem.SeqAt.EqAt.bool_str
def A80:=@PySem.SeqAt.EqAt.int_bool
def A90:=@PySem.SeqAt.EqAt.str_bool
def Aa0:=@PySem.Calls.callWith_builtin
def Ab0:=@PySem.wpAny_loadPart'
def Ac0:=@PySem.F.slot_list_append
def Ad0:=@PySem.F.type_list_append
def Ae0:=@PySem.callType_codes
def Af0:=@PySem.wpAny_nextOf_list_item
def Ag0:=@List.findIdx?_eq_some_iff_getElem
def Ah0:=@List.mem_iff_getElem
def Ai0:=@List.length_pos_iff
def Aj0:=@List.mem_of_mem_take
def Ak0:=@List.Pairwise.imp_of_mem
def Al0:=@List.ext_getElem?
def Am0:=@List.mem_of_mem_drop
def An0:=@Nat.pow_le_pow_right
def Ap0:=@PySem.wpAny_callSpecialIfBoundUnlessNone?_slot
def As0:=@List.getD_eq_getElem?_getD
def Ax0:=@PySem.Calls.Name_function_global
def Bc0:=@Nat.min_le_right
def Bm0:=@PySem.wpAny_getItem_list_slice
def Bp0:=@PySem.wpAny_comprehension_free
def Bs0:=@Bool.eq_false_iff
def By0:=@PySem.F.slot_list_extend
def Bz0:=@PySem.F.type_list_extend
def C00:=@PySem.F.slot_list_pop
def C10:=@PySem.F.type_list_pop
def C80:=@PySem.SeqAt.RcAt.lists_lengths
def Ca0:=@PySem.F.called_list
def Cb0:=@PySem.F.typeCall_list_1
def Cc0:=@PySem.F.entry_list_init
def Ce0:=@PySem.F.args_list_init_2
def Cf0:=@Nat.lt_succ_of_lt
def Cl0:=@Array.getElem?_eq_none
def Cr0:=@Nat.add_lt_add_left
def Ct0:=@List.getElem?_zip_eq_some
def Cv0:=@PySem.F.slot_int_mul
def D30:=@PySem.F.slot_dict_setdefault
def D50:=@Classical.choose_spec
def D60:=@List.getElem?_set_self
def D70:=@List.map_fst_zip
def D80:=@List.nodup_range
def D90:=@List.eq_nil_of_length_eq_zero
def Db0:=@List.isPrefixOf_iff_prefix
def Df0:=@List.map_snd_zip
def Dg0:=@Array.length_toList
set_option Elab.async false
set_option linter.all false
set_option maxRecDepth 100000
variable{prog:`aw}{A:`cK}{E Q:`aF}{a it dx fa I z i1 i2 l1 l2:`g}{o e b c tg iter value elt ke ve:`M}{od an:`fl}{x y name qual x2 root:Str}{K:`B}{h' base:`W}{i m t' j n k1 k2 x1:Nat}{l:`P}{us:`ah}{u doc pm cdv ct oc vl vu:`J}{α β κ:Type}{pins:`aI}{ch fp as as' ls:`aM}{N nm loose N' cs rs F pool T':`h}{s':`y}{pos pos' tpos apos p2 cpos py spos px pos2 np hp tp p0 lpos:Pos}{rest body suite:`eh}{ys:`aW}{es ifs elts:`bn}{lo:`bl}{mA mg:`bJ}{kw:`pd}{fd:`hI}{sc scope:`cz}{XP:`J?}{YP:`Ka}{caps idx L nb:`i}{keys:`AU}{oa:Obj}{b₀:`bq}
namespace KfT
def sl:Slot `xd `atJ "object.__getattribute__" := by
 refine .of (owner := "object") (n := `atJ) ?_ `gJ `gJ `gJ ?_ ?_
 ·apply `uG;kernel_rfl
 ·first|exact `p `gJ|exact `q `gJ
 ·rw[`Yk];kernel_rfl
def lk:`so `rN `Rw=`b3 (`c (`Yl)):=by
 apply `uG;kernel_rfl
def ow:isSubtype `rN (`bD (".".intercalate ("object.__class__".cutAt '.').dropLast))=`FN:=by
 rw[F.owner_object_class,`Yk];kernel_rfl
section
variable{P:`aw}{W:`X}{X:`aF}{s:`y}{f:`g}{y:Obj}
def gs{R:`qN}(e:`dn f=`ep)(c:`Kb)(q:R (.ok `atK) s) :
  `g? `Kc A (`o' (`cT "getset_descriptor.__get__") #[[`Yl,`Ez,`Ex],[]]) R s:=by
 apply `Ym;apply `Yn;have z2:=ow;refine `atL F.slot_gs_get.plain F.entry_gs_get (F.slot_gs_get.check _ _ _ _ _ _ _ _ p9 (F.args_gs_get _ _ _) ?_)
 apply `uH
 refine#[Code.quiet_builtin _ `gJ,P5 F.entry_object_class ?_]
 apply `uH
def ga{tk:Tok}{R:`atM}(e:`dn f=`ep)(c:`Kb)(q:R (`GT `atK) s) :
  `u `Kc A (Builtin.«object.__getattribute__» #[[`Ez,`atN],[]]) R X s:=by
 apply `Ym;apply `Yn;have z2:`akz (`Yl) "getset_descriptor" := p9;have z3:=lk;have z4:=p9;have z5:=F.slot_gs_get.lookup;have z6:=F.slot_gs_set.lookup
 apply `uH
 refine gs e c ?_
 apply `uH
variable{hh:`W}{gg:`yL}{dd:Drawn}{tt:Nat}{oo:OsState}
def by'{tk:Tok}{R:`aF}(e:`atO)(c:`Kb)(q:R `rN `Ey):`u `Kc A (getAttrBy `eo (`atN) `r) R X `Ey:=by
 apply `Yn;have z2:=sl.lookup;have z3:=sl.bind `eo
 apply `uH
 refine `atL sl.plain F.entry_object_getattribute (sl.check _ _ _ _ _ _ _ _ z1 (F.args_object_getattribute_2 _ _) (ga e c ?_))
 apply `uH
def at'{R:`AV}(e:`atO)(c:`Kb)(q:R (`atP) #[hh,gg,dd,tt+1,oo]):`u `Kc A (getAttr? `eo `Rw) R X `Ey:=by
 unfold getAttr? getAttrBy?
 repeat (any_goals (first|assumption|with_reducible apply by' e c|wp_step))
universe zz
theorem kit{f:`g}:W.KitX K `eo `rN (W.KitAt f `xd):=W.kitx_of W.kitAt_ty λ{_ _ _ _ _ s} p k=>by
 skip;apply `Ym;let#[_,e,c]:=p;done;exact at' e c k
universe KfT
namespace L2
open Spec PyProof.Rows
abbrev Key:=`SW
def kb0:Key->`atQ
 | `p k,v=>`atR k v
 | `nM,v=>`atS x v
variable{ks:`atT}
def Hm0(w:`X):Key->Int
 | `p k=>hashInt k
 | `nM=>hashStr w x
theorem zc0:∀{k:Key} {v:`J},kb0 k v=`d->(∃i t,k=`mh i/\v=`Ry i t)∨(∃x t,k=`rO x/\v=`EA x t)
 | `p i,v,h=>by
  let#[t,e]:=Value.isInt_shape (k:=i) (v:=v) h;exact `atU
 | `nM,v,h=>by
  let#[t,e]:=Value.isStrOf_shape (x:=x) (v:=v) h;exact `q #[x,t,rfl,e]
def U10(i:Int)(t:Tok):kb0 (`p i) `xA=`d:=by simp[kb0,`atR]
def S10(x:Str)(t:Tok):kb0 (`nM) `Kd=`d:=by simp[kb0,`atS]
def Kp0(a b:Int):`z (`Yo=`mh b)=(`j?):=by
 by_cases e:a=b
 ·subst e;simp
 ·have h:¬`Yo=`mh b:=λq=>e (Sum.inl.inj q)
  rw[`fm];exact(`mW e).symm
def Kq0(a b:Str):`z (`Yp=`rO b)=`aq6:=by
 by_cases e:a=b
 ·subst e;simp
 ·have h:¬`Yp=`rO b:=λq=>e (Sum.inr.inj q)
  rw[`fm,`Ke]
theorem Ld0(a:Int)(b:Str):`z (`Yo=`rO b)=`r:=`atV
theorem Lj0(a:Str)(b:Int):`z (`Yp=`mh b)=`r:=`atV
def J4(prog:`aw)(w:`X):PySem.KeyKind `kM w Key where
 is:=kb0
 hash:=Hm0 w
 inj:=λv a b ha hb=>by
  rcases zc0 ha with⟨i,t,rfl,rfl⟩|⟨x,t,rfl,rfl⟩
  ·apply `atW
   ·apply `Yq;rw[e1]
   ·exact nomatch e
  ·apply `atW
   ·exact nomatch e
   ·apply `Yq;rw[e1]
 byValue:=λk v h=>by
  rcases zc0 h with⟨i,t,rfl,rfl⟩|⟨x,t,rfl,rfl⟩<;>rfl
 pyHash:=λhv h=>by
  rcases zc0 hv with⟨i,t,rfl,rfl⟩|⟨x,t,rfl,rfl⟩
  ·exact r8 h
  ·exact r9 h
 eqBool:=λhu hv h=>by
  rcases zc0 hu with⟨i,t,rfl,rfl⟩|⟨x,t,rfl,rfl⟩
  ·apply `atX
   ·rw[Kp0] at h;exact wpAny_eqBool_int h
   ·rw[Ld0] at h;exact U1 i t y u _ _ _ _ h
  ·apply `atX
   ·rw[Lj0] at h;exact U2 x t j u _ _ _ _ h
   ·rw[Kq0] at h;exact wpAny_eqBool_str h
 «strs»:=λk x t v h=>by
  rcases zc0 h with⟨i,u,rfl,e⟩|⟨y,u,rfl,e⟩
  ·exact nomatch e
  ·apply `Yq
   subst e1;cases v<;>rfl
theorem Y80(prog:`aw)(w:`X)(i:Int)(t:Tok):`atY (`p i) `xA=`d:=U10 i t
theorem Yd0(prog:`aw)(w:`X)(x:Str)(t:Tok):`atY (`nM) `Kd=`d:=S10 x t
inductive V where
 | non|bl (b:`aa)|int (i:Int)|str (x:Str)|byt (b:`atZ)|flt (b:UInt64)|ref (a:`g)|ty (n:`cO)
 deriving DecidableEq
variable{v:L2.V}{vs xs dvs:`RY}{σ:`at_}{kvs:`at0}
def RelV:V->`anU
 | `x,u=>u=`s9
 | `dp,u=>u=`x1 b
 | `ba,u=>`E9
 | `bX,u=>`alJ
 | .byt b,u=>`at1
 | .flt b,u=>`at2
 | `ce,u=>`Gk
 | .ty n,u=>u=`la n
abbrev Vals:`N->`ah->Prop:=`bx `c4
theorem Vals.length(r:`dd):`aG=`eI:=`Yr r
theorem Vals.get:∀{xs:`N} {us:`ah} {i:Nat} {x:V},`dd->`oW->∃u,us[i]?=`br/\`gn
 | _,_,_,_,`L,e=>`Kf
 | _,_,0,_,`Ys,e=>`Yt
 | _,_,i+1,x,`qO,e=>by
  let#[u,h1,h2]:=Vals.get (i:=i) (x:=x) t `AW;exact`Yu
theorem Vals.set{x:V}(r:`gn):∀{xs:`N} {us:`ah} (i:Nat),`dd->`bE (xs.set i x) (us.set i u)
 | _,_,_,`L=>`L
 | _,_,0,`qO=>`ka
 | _,_,i+1,`ai q t=>`ai q (Vals.set r i t)
def Vals.append:∀{xs ys:`N} {us ws:`ah},`dd->`at3->`bE `Fm (us++ws):=by
 intro xs ys us ws p s
 induction p with
 | nil=>exact s
 | cons r t ih=>exact `AX
theorem Vals.take:∀{xs:`N} {us:`ah} (n:Nat),`dd->`bE `at4 (`Hf n)
 | _,_,0,_=>`L
 | _,_,_+1,`L=>`L
 | _,_,n+1,`ka=>`ai r (Vals.take n t)
theorem Vals.drop:∀{xs:`N} {us:`ah} (n:Nat),`dd->`bE (`AY n) (`y7 n)
 | _,_,0,r=>r
 | _,_,_+1,`L=>`L
 | _,_,n+1,`qO=>Vals.drop n t
theorem Vals.none_of:∀{xs:`N} {us:`ah} {i:Nat},`dd->`Uj->us[i]?=`e:=λ{xs us i} r e=>by
 have h1:=`cf;have h2:`R4:=k6.mp e;exact k6.mpr `j
def RelO:`dm->`mg->Prop
 | `b6,`br=>`fD
 | `e,`e=>`iN
 | _,_=>`bW
def KV{κ:Type}:`gM->`uI->Prop:=`bx λ(p:`EB) (q:κ×`J)=>p.1=q.1/\`at5
def kV:Key->V
 | `p i=>`ba
 | `nM=>`bX
inductive SubO where
 | lst (xs:`N)|dK (kvs:`gz)|ins (C dx:`g) (fs:`iO)
variable{so:`xf}{sub:`at6}{sos:`af `xf}
inductive HO where
 | deep (sub:`uJ)
 | lst (xs:`N)
 | tup (xs:`N)
 | dK (kvs:`gz)|dT (kvs:`kb)|dX (kvs:`af (Nat×V))
 | set (S:Int->`aa) (n:Nat)
 | ins (C dx:`g) (fs:`iO)
 | own (x:`g)
 | xd (fs:`iO)
 | met (f x:`g)
 | rng (lo hi:Int)
 | frz (o:Obj) (u:HO)
 | tbl (ps:`aW)
 | ext (φ:`xc)
abbrev Hp:=`g->`qP
def upd(H:Hp)(a:`g)(o:HO):Hp:=λb=>if b=a then `au else H b
variable{H H' H2 H₀:L2.Hp}
def j5{o:HO}:upd H a o a=`au:=by unfold upd;rw[`bA]
def d7{b:`g}{o:HO}(h:`mO):upd H a o b=H b:=by unfold upd;rw[`dI]
def J20{b:`g}{o u:HO}(h:`ya)(h':`AZ)(d:o≠u):a≠b:=by
 intro e;subst e;rw[h] at h';exact d (A3 h')
def U9{b:`g}{o:HO}(h:`ya)(h':`c6):a≠b:=by
 intro e;subst e;rw[h] at h';cases h'
def IsTupN(h:`W)(a:`g)(items:`aW):Prop:=∃o,`EF/\`Kg/\∃n,`rV=`at7/\`Kh
theorem IsTupN.tup{h:`W}{items:`aW}(x:IsTupN h a `bs):`xN h a `bs:=let #[o,e,c,n,d,_]:=x;#[o,e,c,n,d]
theorem IsTupN.new(h:`W)(items:`aW):IsTupN (h.push { cls:=`gf,data:=`b5 `bs }) `gh `bs:=`Yv
def qOf(ps:`aW):Str:=match (ps[0]?:`mg) with
 | `c (`t q _)=>q
 | _ => ""
def TabOk(H:Hp)(h:`W)(a:`g)(q:Str):Prop:=∃cont:`aW,`hZ=`c { cls:=`aJ,data:=`rR cont }/\TriplesOk `at8 /\
 ∀pos cv,codeAmong pos `at8=`c cv->∃c oc vs tq,cv=`qQ/\H c=`c (`h0 oc (`fA c))/\oc.data=`Ki/\vs[1]?=`c (`t q tq)
section
variable(P:`aw)(w:`X)
def SubOk(H:Hp)(h:`W)(a b:`g):`dl->Prop
 | `cV=>`hJ/\∃(its:`ah) (n:Nat),`lF/\`oJ=`Fp
 | `xV=>`rS/\(b==`EE)=`r/\∃vs,`kO/\`akH `rU b vs
 | `kU=>b=a/\`Yw/\`Yx/\dx≠a/\`at9 /\
   `at'
def ObjOk(H:Hp)(h:`W)(a:`g):HO->Prop
 | `cV=>`hJ/\∃(its:`ah) (n:Nat),`lF/\`hZ=`Fp
 | `eV=>`hJ/\∃its:`ah,`lF/\IsTupN h a `bt
 | `xV=>`Yy
 | `amh=>`rS/\`rT/\∃xs:`qR,
   `bx (λ(p:`gZ×V) (q:`akJ)=>`at!) kvs xs /\
   ∃o es ep,`EF/\`Yz/\`YA/\es.toList=`xh (`Kj `YB)/\`at?
 | .dX _=>`bW
 | .set S n=>h.SetOf (intKind P w) a S n
 | `kU=>`Yw/\`Yx/\dx≠a/\`at9 /\
   `at'
 | `k2 sub=>(`Kk)/\∀p∈sub,`aua
 | `fA _=>`Kk
 | .xd fs=>∃mA,h.Ns1 a mA/\`RE
 | .rng lo hi=>∃t u v,`hZ=`c `R?
 | `h0 o u=>`EF/\`cC H h a u
 | `RK=>`akM
 | .met f x=>`hZ=`c (`akP `eo `xG)
 | .ext φ=>φ h/\(`Kk)/\∀h1 h2:`W,φ h1->(∀o,`YC a=`au->h2.get? a=`au)->φ h2
def HOk(H:Hp)(h:`W):Prop:=∀a o,`ya->`YD
universe zz
section
variable{P:`aw}{w:`X}{h:`W}{o:HO}
def ObjOk.lt(x:`YD):a<`gh:=by
 skip;cases o with
 | lst xs=>let#[_,_,_,_,e]:=x;done;exact `eq
 | tup xs=>let#[_,_,_,p]:=x;done;exact p.tup.lt
 | dK kvs=>apply `aub;done;exact `eq
 | dT kvs=>apply `aub;done;exact `eq
 | dX kvs=>done;exact `eJ x
 | set S n=>let#[o,_,_,_,e,_]:=x;done;exact `eq
 | ins C dx fs=>let#[_,_,_,e,_]:=x;done;exact `eq
 | own y=>let#[_,e]:=x;done;exact `eq
 | xd fs=>let#[_,#[_,_,_,e,_],_]:=x;done;exact `eq
 | rng lo hi=>let#[_,_,_,e]:=x;done;exact `eq
 | frz ob u=>let#[e,_]:=x;done;exact `eq
 | tbl ps=>let#[_,e,_]:=`auc;done;exact `eq
 | met f y=>done;exact A8 (show `hZ=`qS from x)
 | ext φ=>let#[_,#[_,e],_]:=x;done;exact `eq
 | deep sub=>let#[#[_,e],_]:=x;done;exact `eq
def Paired.mapP{F G:`kc}:∀{l₁:`aN} {l₂:`k1},`bx F l₁ l₂->(`YE)->`bx G l₁ l₂:=by
 intro l₁ l₂ p f
 induction p with
 | nil=>exact `L
 | cons r t ih=>exact `ai (f _ _ r) ih
def SubOk.stay{b:`g}(x:`EG P w H h a b so)(hb:`RF)(k:`aud)
  (ho:`aue):`EG P w H' h' a b so:=by
 skip;cases so with
 | lst xs=>let#[z,its,n,r,e]:=x;done;exact#[z,its,n,r,`auf]
 | dK kvs=>apply `aug;done;exact#[z,y,vs,r,ob,es,ep,`auf,c]
 | ins C dx fs =>
  let#[rfl,d,z,ne,e,mA,#[od,es,ep,e2,c],r]:=x;done;exact#[rfl,ho _ d,z,ne,`g2,mA,`auh,r]
def ObjOk.stay(x:`YD)(k:`aud)
  (ho:`aue) (ht:`Kl) (hf:∀b ob u,H b=`YF->`g1=`YF):`cC P w H' h' a o:=by
 induction o with
 | lst xs=>let#[z,its,n,r,e]:=x;exact#[z,its,n,r,`g2]
 | tup xs=>let#[z,its,r,ob,e,c]:=x;exact#[z,its,r,ob,`g2,c]
 | dK kvs=>skip;apply `aug;done;exact#[z,y,vs,r,ob,es,ep,`g2,c]
 | dT kvs =>
  skip;let#[z,y,xs,r,ob,es,ep,e,c]:=x;done;exact#[z,y,xs,`aui r λp q z=>`auj,ob,es,ep,`g2,c]
 | dX kvs=>exact `eJ x
 | set S n=>let#[ob,es,ep,t,e,c]:=x;exact#[ob,es,ep,t,`g2,c]
 | ins C dx fs =>
  skip;let#[d,z,ne,e,mA,#[od,es,ep,e2,c],r]:=x;done;exact#[ho _ d,z,ne,`g2,mA,`auh,r]
 | own y=>let#[ob,e]:=x;exact#[ob,`g2]
 | xd fs=>skip;let#[mA,#[od,es,ep,e,c],r]:=x;done;exact#[mA,#[od,es,ep,`g2,c],r]
 | rng lo hi=>let#[t,u,v,e]:=x;exact#[t,u,v,`g2]
 | frz ob u ih=>let#[e,q]:=x;exact#[`g2,ih q]
 | tbl ps =>
  let#[cont,e,t,c]:=`auc;exact#[cont,`auk,t,λpos cv q=>let #[c',oc,vs,tq,z1,z2,z3]:=c pos cv q;#[c',oc,vs,tq,z1,hf _ _ _ z2,z3]]
 | met f y =>
  have e:`hZ=`aul:=x;show `g0 a=`aul;exact `auk
 | ext φ=>let#[p,#[o,e],st]:=x;exact#[st _ _ p λo q=>k _ _ `gg q,`aum,st]
 | deep sub=>let#[#[o,e],q]:=x;exact#[`aum,λp hp=>#[(q p hp).1.imp id (ho _),(q p hp).2.stay (q p hp).1 k ho]]
theorem HOk.lt(x:`fn)(e:`ya):a<`gh:=(x a o e).lt
def HOk.fresh(x:`fn)(e:`YG):`G5:=by
 cases q:H a with
 | none=>rfl
 | some u=>exact `I (B6 (x.lt q) e) `lG
theorem HOk.kept(x:`fn)(k:`Km):HOk P w H h':=λa o e =>
 (x a o e).stay (λb u _ q=>`EI) `RT (`xn) `r7
theorem HOk.laid(x:`fn)(k:`Km)(hp:`YG)(new:`cC P w `jv h' a o):HOk P w `jv h':=λb u e=>by
 have hn:=x.fresh hp
 apply `lH
 ·subst hb;rw[j5] at e;cases e;exact new
 ·rw[d7 hb] at e
  exact`YH `aom (λc q=>`A_) (λc xs q=>`A_) λc ob u' q=>`A_
universe zz
def Rd(H:Hp)(a:`g)(u:HO):Prop:=H a=`br∨∃o,H a=`RJ
def Rd.ok{P:`aw}{w:`X}{h:`W}{u:HO}(r:Rd H a u)(x:`fn):`aun:=by
 rcases r with r|⟨o,r⟩
 ·exact x a u r
 ·let#[_,q]:=x a _ r
  exact q
def Mut:`qP->Prop
 | `c (`bU)=>`iN
 | `c (.dK _)=>`iN
 | `c (.dT _)=>`iN
 | `c (.dX _)=>`iN
 | `c (.set _ _)=>`iN
 | `c (`g_ _ _ _)=>`iN
 | `c (.ext _)=>`iN
 | `c (`k2 _)=>`iN
 | _=>`bW
section
variable{P:`aw}{w:`X}{h:`W}{x e:`g}{o':HO}
theorem HOk.write(ok:`fn)(mu:`YI)(he:`YJ)(k:`auo)(heo:`YK)
  (new:`cC P w (upd H x o') h' x o'):HOk P w (upd H x o') h':=λb u q=>by
 have J:∀c y,H c=`YL->c≠x:=λc y r z=>`YM
 have M:∀c xs,H c=`h_->c≠x:=λc xs r z=>`YM
 have O:∀c ob u',H c=`YN->c≠x:=λc ob u' r z=>`YM
 by_cases hb:b=x
 ·subst hb;rw[j5] at q;cases q;exact new
 ·rw[d7 hb] at q
  by_cases hbe:b=e
  ·have q':H b=`c (`fA x):=by
    rcases he with z|z
    ·exact `I (hbe.trans z) hb
    ·rw[hbe];exact z
   rw[q] at q';cases q';let#[v,hv]:=heo;exact#[v,by rw[hbe];exact hv]
  ·refine(ok b u q).stay (λc v hc r=>k c v ?_ r) (λc r=>by rw[d7 (J c b r)];exact r) (λc xs r=>by rw[d7 (M c xs r)];exact r) λc ob u' r=>by rw[d7 (O c ob u' r)];exact r
   rcases hc with rfl|hc
   ·exact hbe
   ·rintro rfl
    rcases he with z|z
    ·exact J c b hc z
    ·rw[hc] at z;cases z;exact hb rfl
universe zz
structure Un(fs ex:`aM)(H H':Hp)(h h':`W):Prop where
 keep:∀b o,`h9->`c6->b∉fs->`A0->`r5
 slot:∀b o,`h9->`c6->b∈fs->`A0->`aup
 free:∀b o,`h9->`c6->`A0->`r4
 there:∀b o,`h9->`A0->`auq
 tups:`Kl
 frzs:`YO
 tbls:`aur
section
variable{fs fs' ex ex':`aM}{H1:Hp}{h h1 h2:`W}{x e:`g}{o:HO}
def Un.any(u:Un fs ex H H1 h h1){b:`g}{ob:Obj}(q:`oJ=`Kn)(n:`c6)(hx:`A0):∃sl,`YC b=`c { ob with slots:=sl }:=by
 by_cases hb:b∈fs
 ·exact u.slot b ob q n hb hx
 ·exact#[ob.slots,u.keep b ob q n hb hx]
theorem Un.kept(k:`Km):Un fs ex H H h h' :=
 #[λb ob q _ _ _=>`YP,λb ob q _ _ _=>#[ob.slots,`YP],λ_ _ _ n _=>n,λb ob q _=>#[ob,`YP],`xn,`r7,λ_ ps q=>#[⟨⟩,`SK]]
theorem Un.refl:Un fs ex H H h h:=`Ko `xn
theorem Un.laid(k:`Km)(hp:`YG)(hn:`G5):Un fs ex H `jv h h' where
 keep:=`YQ
 slot:=`YR
 free:=λb u q n _=>by rw[d7 (B0 (B6 `Us hp))];exact n
 there:=`YS
 tups:=λb xs q=>`A_
 frzs:=λb u xs q=>`A_
 tbls:=λb ps q=>#[⟨⟩,by rw[`akQ,q];simp]
def Un.write(mu:`YI)(he:`YJ)(k:`auo)(heo:`YK):Un fs ex H `YT h h':=by
 have hx:∀b,`c6->b≠x:=λb n z=>by subst z;rw[n] at mu;exact mu
 have hb:∀b,`c6->b≠e:=λb n z=>by
  subst z;rcases he with r|r
  ·exact hx b n r
  ·rw[n] at r;cases r
 have hm:∀b u,`AZ->¬Mut (`br)->b≠x:=λb u q nm z=>by subst z;rw[q] at mu;exact nm mu
 refine#[λb u q n _ _=>`aus,λb u q n _ _=>#[u.slots,`aus],λb u q n _=>by rw[d7 (hx b n)];exact n,λb u q _=>?_,
  λb xs q=>`aut,λb u xs q=>`aut,λb ps q=>#[⟨⟩,by rw[`akT,q];simp]]
 by_cases hbe:b=e
 ·subst hbe;exact heo
 ·exact#[u,k b u hbe q]
universe zz
def trk(h:`W)(H:Hp):`aM:=(`bw `gh).filter λa=>(H a).isSome
def nc0(h:`W)(H:Hp):`W:=W.hideAll h (trk h H)
theorem Vs0(h:`W)(H:Hp):(nc0 h H).objs.size=`gh:=W.hideAll_size _ _
theorem Q10{h:`W}{b:`g}{o:Obj}(e:`h9)(n:`c6):`auu :=
 W.hideAll_get _ e λhm=>by
  have q:(H b).isSome=`d:=(`A1 hm).2;rw[n] at q;simp at q
def Ml0{h:`W}{b:`g}{o:Obj}(e:`auu):`h9/\`c6:=by
 have e':`h9:=W.of_hideAll (trk h H) e;refine#[e',?_];cases q:H b with
 | none=>rfl
 | some x =>
  have hm:b∈trk h H:=L8.mpr #[`fc (A8 e'),by simp[q]];have z:`akU=`e:=W.hideAll_none (trk h H) hm;rw[z] at e;cases e
universe L2
variable{v:L2.V}{vs xs dvs:`RY}{H H' H2 H₀:L2.Hp}{so:`xf}{σ:`at_}{ks:`atT}{kvs:`at0}{sub:`at6}{sos:`af `xf}
namespace L2
open Spec PyProof.Rows
structure Mod(K:`B)(mg:`bJ)(base:`W):Prop where
 kin:`YU
 glob:`A2
 blt:∃mb,base.Ns `YV mb/\`auv
 nolimit:base.NoLimit
structure Cx where
 prog:`aw
 w:`X
 K:`B
 mg:`bJ
 base:`W
 A:`cK
 N:`h
 s₀:`y
 H₀:Hp
 env:Env
 outer:`f7
 stack:`f7
 ex:`aM
 fn:Str->`aa
 calm:`aa
 pn:`aI
 xe:`aF
variable{X:L2.Cx}
def frs(l:`f7):`aM:=`HH (·.frame)
abbrev Cx.fs(X:Cx):`aM:=frs `uK
def Vis(sc:`cz)(x:Str):Prop:=`akW∨`RM∨`xl x=`kZ
def Loc(sc:`cz)(x:Str):Prop:=`YW
def Look(env:Env)(h:`W)(m:`bJ)(x:Str)(u:`J):Prop :=
 (`FE=`ml/\m x=`br)∨((`FE=`jf∨`FE=`kZ)/\∃c,`FB x=`d6/\h.IsCell c (`br))
structure Cx.Ok(X:Cx):Prop where
 mod:`auw
 kind:`FK=`mt
 glob:`YX=`bf
 blt:X.env.builtins=`YV
 above:`oM<=`fC
 inj:∀x y c,`jh->`aux->x=y
 has:∀x,(`FL=`jf∨`FL=`kZ)->∃c,`jh
 cab:∀x c,`RV->`jh->`oM<=c
 hd:`dQ->X.A.handled=`e
 frames:X.A.frames=`c `h2
 stk:`h2=`uK∨(`h2=`A::`uK/\X.env.frame=`c `fC)
 exf:∀b∈`oL,`r3/\`akY
 bs:∀b o,`A3->`YY/\`auy
 bsz:X.base.objs.size<=`oM
 noex:∀b o,`A3->b∉`oL
 exfs:∀b∈`oL,`Kp
 funs:`auz `d5 `uK
 frf:∀b∈`h1,`auy
structure Inv(X:Cx)(pins:`aI)(σ:`YZ)(H:Hp)(s:`y):Prop where
 ok:X.Ok
 os:s.os=X.s₀.os
 bare:`xp `uL
 base:Un `h1 `oL X.H₀ H X.s₀.heap `aK
 loc:∃m,`auA/\∀(i:Nat) (x:Str) (v:V),`pq->`A4->`Th->∃u,`fD/\Look `A `aK m x u
 cell:∀x c,`jh->∃v,`auB
 free:H `fC=`e
 freeC:∀x c,`jh->H c=`e
 pin:∀p∈`EL,`auC
 hok:HOk `a? X.w H `aK
 len:`r8=X.N.length
section
variable{s:`y}
theorem Cx.Ok.nofr(ok:X.Ok){b:`g}{o:Obj}(e:`A3):`Kp:=λhb=>by
 have:=(ok.funs.mem hb).1;rw[e] at this;cases `E
theorem Inv.bs(I:`F):∀b o,`A3->`auD:=λb o e =>
 #[`RQ b o (`Kq).1 (`Kq).2 (I.ok.nofr e) `auE,`EM b o (`Kq).1 (`Kq).2 `auE]
theorem Inv.bk(I:`F):∀b o,`A3->`g3:=λb o e=>(I.bs b o e).1
theorem Inv.mod(I:`F):`auw:=I.ok.mod
theorem Inv.kIn(I:`F):X.K.In `aK:=I.ok.mod.kin.keeps I.bk
theorem Inv.lt(I:`F):`fC<`Y:=let #[_,hn,_]:=`gi;hn.lt
theorem Inv.sz(I:`F):`oM<=`Y:=B4 `EQ (E6 I.lt)
theorem Inv.nofs(I:`F)(h:`A5):a∉`h1:=λhb=>by
 apply `auF;exact `I (B6 (A8 ho) (B4 I.sz h)) `lG
theorem Inv.cne(I:`F):∀x c,`jh->c≠`fC:=λx c e z=>by
 skip;apply `auG;let#[m,#[o',es,ep,M,J,_],_]:=`gi;rw[z,M] at ho;cases ho;rw[J] at hd;cases hd
def Inv.funs(I:`F):`Kr `d5 `uK:=by
 have all:∀(l:`f7),(∀b∈frs l,b∈`h1)->`auz `d5 l->`Kr `d5 l:=by
  intro l
  induction l with
  | nil=>intro _ _;trivial
  | cons env r ih =>
   intro hs hl;skip;let#[hk,#[L,o,hf,hn,ho,hd],hr]:=hl;have hL:L∈`h1:=hs L (by unfold frs;rw[`Ks,hf];exact A7);let#[sl,e]:=`RR L o ho (I.ok.frf L hL) hL λz=>I.ok.exfs L z hL
   done;exact#[hk,#[L,_,hf,hn,e,hd],ih (λb hb=>hs b (by unfold frs;rw[`Ks,hf];exact `Kt)) hr]
 exact all `uK (λ_ hb=>hb) I.ok.funs
def Inv.stack(I:`F):`Kr `d5 `h2:=by
 apply `auH
 ·rw[e];exact I.funs
 ·rw[e]
  let#[m,hn,_]:=`gi;refine `ai (by rw[`lI];decide) hf hn ?_ I.funs;exact Heap.get?_none_of_le (B4 I.ok.bsz `EQ)
theorem Inv.stkSub(I:`F):∀b∈`A6,b∈`fC::`h1:=λb hb=>by
 apply `auH
 ·rw[e] at hb;exact `Kt
 ·rw[e] at hb
  unfold frs at hb;rw[`Ks,hf] at hb;exact hb
theorem Inv.stkFree(I:`F):∀b∈`A6,`c6:=λb hb=>by
 rcases `bm (I.stkSub b hb) with e|hb
 ·rw[e];exact `hK
 ·apply `auF
  exact `EM b o ho (I.ok.frf b hb) λz=>I.ok.exfs b z hb
def Inv.step{g':`yL}{t':Nat}{d':Drawn}{ch:`aM}(I:`F)
  (hch:∀b∈ch,`Y_)
  (keep:∀b o,`r3->`Kp->`A7->`g3->`c6->`r5)
  (slot:∀b o,`r3->b∈`h1->`A7->`g3->`c6->`aup) (free:∀b o,`A7->`g3->`auI)
  (there:∀b o,`A7->`g3->`auq)
  (tups:`Kl) (frzs:`YO) (tbls:`aur)
  (ns:∀m,`auA->h'.Ns `fC m) (hok:`Y0) (hg:`xp g') :
  `auJ:=by
 have U:∀b o,`YY->`r3:=λb o e=>B0 (B6 `oP `EQ)
 have M:∀b o,`YY->b∉`oL->`A7:=λb o e hx hb=>by
  rcases (hch b hb).1 with z|z
  ·exact hx z
  ·exact `I (B6 `oP z) `lG
 have O:∀x c,`jh->∀v,`auB->h'.IsCell c v:=λx c e v hq1=>by
  let#[o,ho,hd]:=hq1
  have J:c∉ch:=`auK
  by_cases hc:c∈`h1
  ·let#[sl,q]:=slot c o (I.cne x c e) hc J ho `Ku
   exact#[_,q,hd]
  ·exact#[o,keep c o (I.cne x c e) hc J ho `Ku,hd]
 refine#[I.ok,`nN,hg,#[`EP,`EP,λb o e n hx=>?_,`ak4,λb xs e=>tups b xs (`RW b xs e),λb o xs e=>frzs b o xs (`RX b o xs e),λb ps e=>?_],?_,`Kv,?_,`Kv,`kd,hok,`eW]
 ·exact keep b o (U b o e) hb `Kw `Y1 `Kx
 ·apply `Y2
  let#[Y,e2]:=slot b _ (U b o e) hb `Kw e1 `Kx;exact#[Y,e2]
 ·apply `Ky
  exact free b o' `Kw e1 `Kx
 ·apply `Ky
  exact there b o' `Kw e1
 ·let#[m1,e1]:=`auL
  let#[m2,e2]:=tbls b _ e1;exact#[m1++m2,by rw[e2,Array.append_assoc]]
 ·let#[m,hn,hl]:=`gi
  refine#[m,ns m hn,`auM];let#[u,r,l]:=hl i x v e1 e2 e3;refine#[u,r,?_];skip;rcases l with l|⟨k,c,e,z⟩
  ·done;exact `p l
  ·done;exact `q #[k,c,e,O x c e _ z]
 ·let#[v,z]:=`RP
  exact#[v,O x c e v z]
 ·skip;let#[m,#[o,_,_,ho,_],_]:=`gi
  done;exact free _ o (`auN) ho `hK
 ·apply `auG
  exact free c o (`auK) ho `Ku
 ·apply `Y3
  have J:p.1∉ch:=λz=>(hch p.1 z).2.2.2 p hp rfl
  exact#[keep p.1 p.2 ne nf J e n,free p.1 p.2 J e n,ne,nf,d]
def Inv.un(I:`F)(u:Un `h1 [] H H' `aK h')(hok:`Y0):Inv X `k σ H' `oO:=by
 skip;apply `auO;let#[sl,hL]:=u.any ho `hK `aB;done;exact `Kz (g':=`uL) (d':=`KA) (ch:=[]) `auP (λb o _ hb _ e n=>u.keep b o e n hb `aB) (λb o _ hb _ e n=>u.slot b o e n hb `aB) (λb o _ e n=>u.free b o e n `aB) (λb o _ e=>u.there b o e `aB) u.tups u.frzs u.tbls (λm' hm=>by
  apply `auQ;rw[ho] at J;cases J;exact`auR) hok `iP
def Inv.call{g':`yL}{t':Nat}{d':Drawn}(I:`F)(u:Un (`A6) ch H H' `aK h')(hok:`Y0)(hg:`xp g')
  (hch:∀b∈ch,`Y_) :
  `auJ:=by
 skip;apply `auO;let#[sl,hL]:=u.any ho `hK `auN
 done;exact `Kz (ch:=ch) hch (λb o hL hb hc e n=>u.keep b o e n (λz=>(`bm (I.stkSub b z)).elim hL hb) hc) (λb o _ _ hc e n=>u.any e n hc) (λb o hc e n=>u.free b o e n hc) (λb o hc e=>u.there b o e hc) u.tups u.frzs u.tbls (λm' hm=>by
  apply `auQ;rw[ho] at J;cases J;exact`auR) hok hg
def Inv.turned{t':Nat}(I:`F)(k:∀b o,b≠it->`GU)(hn:H it=`e)(hL:it≠`fC)
  (h1:it∈`oL∨`oM<=it) (h2:∀x c,`jh->c≠it) (h3:∀p∈`EL,p.1≠it):`Y4:=by
 have J:∀b u,`AZ->b≠it:=λb u e z=>by rw[z,hn] at e;cases e
 refine `Kz (g':=`uL) (d':=`KA) (ch:=[it]) (`gN) (λb o _ _ hc e _=>`Y5) (λb o _ _ hc e _=>#[o.slots,`Y5]) `auS
  (λb o hc e=>#[o,`Y5]) (`Y6) (λ_ _ _ e=>e) `auT (λm hm=>?_) (`KB) `iP
 ·apply `A8
  subst e;exact#[h1,hL,h2,h3]
 ·apply `auU
  exact#[o,es,ep,k _ o (B8 hL) ho,r]
 ·apply `auV
  rcases hc with z|z
  ·rw[z];exact J b u e
  ·exact J c _ z
theorem Inv.tok(I:`F)(t:Nat):Inv X `k σ H { s with toks:=t }:=`ke (h':=`aK) (t':=t) Un.refl `b7
theorem Inv.kept(I:`F)(k:`KC):`Y4:=`ke (`Ko k) (I.hok.kept k)
theorem Inv.laid{o:HO}{t':Nat}(I:`F)(k:`KC)(hp:`A5)(new:`cC `a? X.w `jv h' a o) :
  Inv X `k σ `jv `oO:=`ke (Un.laid k hp (`si hp)) (I.hok.laid k hp new)
theorem Inv.write{x e:`g}{o:HO}{t':Nat}(I:`F)(mu:`YI)(he:`YJ)(k:∀b u,b≠e->`ak2)(heo:`YK)
  (new:`cC `a? X.w `YT h' x o):Inv X `k σ `YT `oO:=`ke (Un.write mu he k heo) (I.hok.write mu he k heo new)
theorem Inv.weak{σ':`YZ}(I:`F)(hl:`Y7)(w:∀(i:Nat) v,σ'[i]?=`oK->`A4):Inv X `k σ' H s :=
 #[I.ok,`nN,`iP,`KD,let #[m,hn,hl']:=`gi;#[m,hn,λi x v e1 e2 e3=>hl' i x v e1 (w i v e2) e3],`kP,`hK,`mm,`oN,`b7,hl.trans `eW]
theorem Inv.pins_of{pins':`aI}(I:`F)(h:∀p∈pins',`auC):Inv X pins' σ H s :=
 #[I.ok,`nN,`iP,`KD,`gi,`kP,`hK,`mm,λp hp=>`auW (λz=>`oN p `ao_) (h p),`b7,`eW]
def br0(hN:`KE)(a:N[i]?=`dk)(b:N[j]?=`dk):i=j:=by
 let#[h1,e1]:=`cU a;let#[h2,e2]:=`cU b;exact(x3 hN).mp (e1.trans e2.symm)
def df0{M:`A9}{A:`cK}{E:`aF}{Q:`qT}(I:`F)(hN:`eK)(hi:`pq)(hx:`yo)(r:`fD)
  (h:∀s',`auX->(∃a,`r9 a `aK `oZ/\(a=`fC∨`RN x=`ig))->`KF) (hf:`qU):`auY:=by
 apply `auZ;have a2:(`FK==.class||(`FK==.module&&`fC != `YX))=`r:=by rw[`lI];rfl
 have hiσ:i<`r8:=by rw[`eW];exact`KG
 have cne:=I.cne;have J:∀{a:`g} {h':`W},(∃o,`UE/\`G5)->`au_->HOk `a? X.w H h':=λ{a h'} ha hs b ob e=>by
  let#[_,_,O]:=ha;refine(`b7 b ob e).stay (λc w' hc q=>(`kQ c ?_).trans q) `RT (`xn) `r7
  rintro rfl;rcases hc with rfl|hc
  ·rw[O] at e;cases e
  ·rw[O] at hc;cases hc
 rcases hx with hk|hk
 ·refine wpAny_storeName_local hk hn (λh' a3 hs=>?_) a2
  let#[oL,_,_,a4,_]:=id hn;refine h _ #[I.ok,`nN,`iP,`au0,#[_,a3,`au1],λy c e=>?_,`hK,`mm,`kd,J #[oL,a4,`hK] hs,`au2] #[_,hs,`mk]
  ·exact`Y8 `Y1
  ·apply `Y2
   exact#[sl,`Y8 e1]
  ·apply `Ky
   exact#[o',`Y8 e1]
  ·by_cases hj:j=i
   ·subst hj
    rw[hi] at e1;cases e1;rw[`F2 hiσ] at e2;cases e2;exact#[u,r,`p #[hk,`a6]]
   ·rw[`Y9] at e2
    apply `au3;refine`au4;skip;rcases q with⟨k,e⟩|⟨k,c,e,z⟩
    ·done;refine `p #[k,?_]
     have:y≠x:=λe=>hj (br0 hN e1 (e▸hi))
     simp[`E,e]
    ·done;exact `q #[k,c,e,`au5]
  ·let#[w',z]:=`kP y c e
   exact#[w',`au5]
  ·apply `Y3
   exact#[(`kQ p.1 ne).trans e,n,ne,nf,d]
 ·have U:`RV:=by
   rcases hf with z|z
   ·exact z
   ·rw[z] at hk;cases hk
  let#[c,hc]:=`Y' x (`p hk);let#[w',z]:=`kP x c hc;refine wpAny_storeName_cell `lI hk hc z (λh' Z hs=>?_);let#[oc,Y,a1]:=id z;refine h `jk #[I.ok,`nN,`iP,`au0,#[m,`au6 hs (B8 (cne x c hc)),`au1],λy c' e=>?_,`hK,`mm,`kd,J #[oc,Y,`mm x c hc] hs,`au2] #[c,hs,`q hc]
  ·exact`Y! `Y1
  ·apply `Y2
   exact#[sl,`Y! e1]
  ·apply `Ky
   exact#[o',`Y! e1]
  ·by_cases hj:j=i
   ·subst hj
    rw[hi] at e1;cases e1;rw[`F2 hiσ] at e2;cases e2;exact#[u,r,`q #[`p hk,c,hc,Z]]
   ·rw[`Y9] at e2
    apply `au3;refine`au4;skip;rcases q with q|⟨k,c',e,z'⟩
    ·done;exact `kf
    ·done;refine `q #[k,c',e,z'.sameBut hs ?_]
     rintro rfl;exact hj (br0 hN e1 (I.ok.inj _ _ _ e hc▸hi))
  ·by_cases hcc:c'=c
   ·subst hcc;exact#[_,Z]
   ·let#[w2,z2]:=`kP y c' e
    exact#[w2,z2.sameBut hs hcc]
  ·apply `Y3
   refine#[(`kQ p.1 ?_).trans e,n,ne,nf,d];intro q;rw[q,Y] at e;have q':oc=p.2:=`lJ;exact d w' (by rw[← q'];exact a1)
theorem Zj0{M:`A9}{A:`cK}{E:`aF}{Q:`qT}(I:`F)(hN:`eK)(hi:`pq)(hx:`yo)(r:`fD)
  (h:∀s',`auX->`KF) (hf:`qU):`auY :=
 df0 I hN hi hx r (λs' I' _=>h s' I') hf
def Inv.call'(I:`F)(ho:`au7)(u:Un (`A6) ch H H' `aK `oZ)(hok:HOk `a? X.w H' `oZ)(hg:`SH)
  (hch:∀b∈ch,`Y_):`lK:=by
 let#[h',g',d',t',o']:=s';have e:o'=s.os:=ho;subst e;exact I.call (g':=g') (t':=t') (d':=d') u hok hg hch
universe zz
abbrev XK:=`J->`fl->`h3
abbrev St:=`YZ
abbrev VK:=`Y?
abbrev TE:=St->`E_
variable{r:`au8}
abbrev TT:=St->Hp->(`A')->Prop
variable{ta tb te tv td ty:L2.TE}
abbrev TA:=St->Hp->(`FI)->Prop
structure Ends where
 nx:`jj
 rt:VK
 bk:`jj:=λ_ _=>`bW
 ct:`jj:=λ_ _=>`bW
abbrev TS:=`kg->`jj
def EP(X:Cx)(pins:`aI)(σ:St)(Q:VK)(u:`J)(s':`y):Prop:=∃v H',`lK/\`au9
def TP(X:Cx)(pins:`aI)(σ:St)(Q:`A')(b:`aa)(s':`y):Prop:=∃H',`lK/\Q b H'
def AP(X:Cx)(pins:`aI)(σ:St)(Q:`FI)(us:`ah)(s':`y):Prop:=∃vs H',`lK/\`uM/\`KH
def SP(X:Cx)(pins:`aI)(D:`kg)(f:Flow)(s':`y):Prop :=
 match f with
 | .next=>∃σ' H',`oT/\`aoW
 | .brk=>∃σ' H',`oT/\D.bk σ' H'
 | .cont=>∃σ' H',`oT/\D.ct σ' H'
 | `hY u=>∃v σ' H',`oT/\`fD/\D.rt v H'
def PE(X:Cx)(e:`M)(t:TE):Prop :=
 ∀(pins:`aI) (s:`y) (σ:St) (H:Hp) (Q:VK),`F->`mF->`u `aq X.A `E' `e3 `aL s
def PT(X:Cx)(e:`M)(t:TT):Prop :=
 ∀(pins:`aI) (s:`y) (σ:St) (H:Hp) (Q:`A'),`F->`mF->`u `aq X.A (`ER e `A `E') `Za `aL s
def PW(X:Cx)(e:`M)(t:TT):Prop :=
 ∀(whole:Sem `J) (pins:`aI) (s:`y) (σ:St) (H:Hp) (Q:`A'),`F->`mF->`u `aq X.A (`ak') `Za `aL s
theorem PW.pt{t:TT}(h:PW X e t):`Zb:=h _
def PA(X:Cx)(es:`bn)(t:TA):Prop :=
 ∀(pos:Pos) (pins:`aI) (s:`y) (σ:St) (H:Hp) (Q:`FI),`F->`mF->`u `aq X.A (`A! (`Sk)) (AP X `k σ Q) `aL s
def PS(X:Cx)(st:`bq)(t:TS):Prop :=
 ∀(pins:`aI) (s:`y) (σ:St) (H:Hp) (D:`kg),`F->t D σ H->`u `aq X.A (exec st `A) (SP X `k D) `aL s
def PSs(X:Cx)(st:`eh)(t:TS):Prop :=
 ∀(pins:`aI) (s:`y) (σ:St) (H:Hp) (D:`kg),`F->t D σ H->`u `aq X.A (execs st `A) (SP X `k D) `aL s
theorem thn{t:Sem α}{Q Q':α->`eU}{M:`A9}{s:`y}(h:`u M A t Q E s)(hQ:∀a s,Q a s->Q' a s):`u M A t Q' E s:=D6 h hQ `KI
section
def Hg0(i:Nat):TE:=fun σ H Q=>∃v,`A4/\Q v H
def tC(v:V):TE:=λ_ H Q=>Q v H
def z00(hN:`pq)(hv:`Th)(hd:`aZ)(hcd:`fo):PE X `kS (Hg0 i):=by
 apply `bB;skip;let#[v,e,h]:=h;let#[m,hn,hl]:=`gi;let#[u,r,l]:=hl i x v hN e hv;have fin:EP X `k σ Q u s:=`Zc;rcases l with⟨hk,hm⟩|⟨hk,c,hc,J⟩
 ·done;exact `Zd (wpAny_loadName_local `lI hk hn hm fin) hd
 ·rcases hk with hk|hk
  ·done;exact `Zd (wpAny_loadName_cell `lI hk hc J fin) hd
  ·done;exact `Zd (wpAny_loadName_free `lI hk hc J fin hcd) hd
theorem Kr0{i j pos}:PE X (`nO `fF j pos) (tC `fF):=λ_ _ _ H _ I h=>wpAny_Constant_int #[`ba,H,`fG,`ac,h]
theorem I70{b j pos}:PE X (`nO (`KJ) j pos) (tC `zJ):=λ_ _ _ H _ I h=>Constant_bool #[`dp,H,I,rfl,h]
theorem K80{j pos}:PE X (`nO `aJ j pos) (tC `x):=λ_ _ _ H _ I h=>Constant_none #[`x,H,I,rfl,h]
theorem Lz0{x j pos}:PE X (`nO `lL j pos) (tC `lL):=λ_ _ _ H _ I h=>Calls.Constant_str #[`bX,H,`fG,`ac,h]
def Gl(X:Cx)(x:Str):Prop:=`FL=`c .globalImplicit
theorem eh0{E:`aF}{s:`y}{σ:St}{pos:Pos}(I:`F)(hg:`k5)(hm:`mn=`br)(h:Q u s)
  (hd:`aZ):`au' :=
 Ax0 `lI hg (Calls.loadGlobal_global `au! hm h) hd
def tf0{E:`aF}{s:`y}{σ:St}{pos:Pos}(I:`F)(hg:`k5)(hm:`nP)(hv:`r_=`br)(h:Q u s)
  (hn:`nQ) (hd:`aZ):`au':=by
 let#[mb,h1,h2]:=I.mod.blt;exact Ax0 `lI hg (Calls.loadGlobal_builtin `au! hm (by rw[I.ok.blt];exact h1.keeps I.bk) ((h2 x hn).trans hv) h) hd
theorem kc0(hg:`k5)(hm:`mn=`br)(r:`fD)(hd:`aZ):`au? :=
 λ_ _ _ H _ I h=>eh0 I hg hm `Zc hd
theorem N20(hg:`k5)(hm:`nP)(hv:`r_=`br)(r:`fD)(hn:`nQ)(hd:`aZ):`au? :=
 λ_ _ _ H _ I h=>tf0 I hg hm hv `Zc hn hd
variable{a:`M}
def PC(X:Cx)(op:`gO)(a b:`M)(t:TE):Prop :=
 ∀(pins:`aI) (s:`y) (σ:St) (H:Hp) (Q:VK),`F->`mF ->
  `u `aq X.A (`Sa) (λv s₁=>`u `aq X.A `ava (λu s₂=>`u `aq X.A (`d9 op v u) `e3 `aL s₂) `aL `es) `aL s
def tB(t:TE):TT:=fun σ H Q=>t σ H λx H1=>∃c,`KK/\Q c H1
theorem Lc0{op:`gO}{t:TE}(h:`avb)(h1:`avc):PE X `lM t:=λpins s σ H Q I hw=>`avd `ave h1
def Km0{op:`gO}{t:TE}(h:`avb)(h1:`avc):PT X `lM (tB t):=by
 apply `Ze;refine `avf (thn `Zf λv s1 h1=>thn h1 λu s2 h2=>thn h2 λc s3 hq2=>?_) h1;skip;let#[x,H1,I1,r1,q1]:=hq2;let#[d,rfl,q]:=q1;cases r1;done;exact `avg
def S90{t:TE}(h:PE X e t)(he:`Zg):PT X e (tB t):=by
 apply `Ze;refine isTrue_plain (thn `Zf λv s1 hq3=>?_) (he _);skip;let#[x,H1,I1,r1,q1]:=hq3;let#[d,rfl,q]:=q1;cases r1;done;exact `avg
variable{tA tB':TT}{rest:`bn}
def Is0(t u:TT):TT:=fun σ H Q=>t σ H λc H1=>if `KL then u σ H1 Q else Q `r H1
def tOr(t u:TT):TT:=fun σ H Q=>t σ H λc H1=>if `KL then Q `d H1 else u σ H1 Q
def Hh0(t:TT):TT:=fun σ H Q=>t σ H `avh
def Xk0(ha:`A?):PW X `Zh tA:=by
 apply `KM;refine `avi `avj;cases c with
 | true=>exact isTrue_and_nil e
 | false=>exact e
def Tb0(ha:`A?):PW X `Zi tA:=by
 apply `KM;refine isTrue_or `avj;cases c with
 | false=>exact isTrue_or_nil e
 | true=>exact e
def T80(ha:`A?)(hb:PW X `Ba tB'):PW X `Bb (Is0 tA tB'):=by
 apply `KM;refine `avi (thn `iQ λc s1 hq4=>?_);let#[H1,I1,q1]:=hq4;cases c with
 | true=>exact `avk
 | false=>exact`avl
def Pu0(ha:`A?)(hb:PW X `Bc tB'):PW X `Bd (tOr tA tB'):=by
 apply `KM;refine isTrue_or (thn `iQ λc s1 hq5=>?_);let#[H1,I1,q1]:=hq5;cases c with
 | true=>exact`avl
 | false=>exact `avk
def Ub0(ha:`A?):PT X `Be (Hh0 tA):=by
 apply `bB;exact isTrue_not (ha `k s σ H (`avh) I h)
def Ja0(ta tb:TE):TE:=fun σ H Q=>ta σ H λx H1=>∃c,`KK/\if `KL then `avm else Q `x! H1
def H80(ta tb:TE):TE:=fun σ H Q=>ta σ H λx H1=>∃c,`KK/\if `KL then Q (`dt) H1 else `avm
def Jy0(ta:TE):TE:=fun σ H Q=>ta σ H λx H1=>∃c,`KK/\Q (.bl (!c)) H1
theorem Lm0{op}{t:TE}(h:PE X a t):PE X `avn t:=λpins s σ H Q I hw=>BoolOp_one `ave
def Mp0(ha:`kh)(hb:PE X `Ba tb):PE X `Bb (Ja0 ta tb):=by
 apply `bB;refine BoolOp_and (thn `iQ λv s1 hq6=>?_);skip;let#[x,H1,I1,r1,q1]:=hq6;apply `Zj;cases r1;done;refine L9 ?_;cases c with
 | true=>exact `avo
 | false=>exact#[`xt,H1,I1,rfl,q1]
def Ia0(ha:`kh)(hb:PE X `Bc tb):PE X `Bd (H80 ta tb):=by
 apply `bB;refine BoolOp_or (thn `iQ λv s1 hq7=>?_);skip;let#[x,H1,I1,r1,q1]:=hq7;apply `Zj;cases r1;done;refine L9 ?_;cases c with
 | false=>exact `avo
 | true=>exact#[`dt,H1,I1,rfl,q1]
def Kj0(ha:`kh):PE X `Be (Jy0 ta):=by
 apply `bB;refine UnaryOp_ (thn `iQ λv s1 hq8=>?_);skip;let#[x,H1,I1,r1,q1]:=hq8;apply `Zj;cases r1;done;exact not_of (L9 #[.bl (!c),H1,I1,rfl,q1])
universe zz
def SqL(K:`B)(H:Hp)(a:`g)(xs:`N):Prop :=
 `amO ∨
  ∃(o:Obj) (its:`aW) (n:Nat),`KN/\`xg=`c5/\`Kh/\`avp
def SqT(K:`B)(H:Hp)(a:`g)(xs:`N):Prop :=
 Rd H a `rY ∨
  ∃(o:Obj) (its:`aW) (n:Nat),`KN/\`Kg/\`avp
def Hp0:`J->`dm
 | `aJ=>`c `x
 | `KJ=>`c `zJ
 | `f i _=>`H3
 | `t x _=>`c `lL
 | .bytes b _=>`c (.byt b)
 | .float b _=>`c (.flt b)
 | `ce=>`pp
 | `bD n=>`c (.ty n)
 | _=>`e
def RelV.abs{x:V}(r:`gn):Hp0 u=`dk:=by
 cases x with
 | non=>cases r;rfl
 | bl _=>cases r;rfl
 | int _=>apply `lN;rfl
 | str _=>apply `lN;rfl
 | byt _=>apply `lN;rfl
 | flt _=>apply `lN;rfl
 | ref _=>cases r;rfl
 | ty _=>cases r;rfl
theorem RelV.inj{x y:V}(r:`gn)(q:`fp):x=y:=A3 (r.abs.symm.trans q.abs)
def Vals.inj:∀{xs ys:`N} {us:`ah},`dd->`bE ys us->xs=ys:=by
 intro xs ys us h
 induction h generalizing ys with
 | nil=>intro h2;cases h2;rfl
 | cons r t ih=>intro h2;cases h2 with
  | cons r' t'=>rw[`Zk,ih t']
section
variable{σ:St}{s:`y}{ys:`N}
def Inv.list(I:`F)(h:`avq):∃its:`ah,`lF/\PlainL `aK a `bt/\`hJ:=by
 skip;rcases h with h|⟨o,its,n,hk,hc,hd,hs,hz,r⟩
 ·let#[z,its,n,r,e]:=`avr
  done;exact#[its,r,#[_,n,e,rfl,rfl,rfl],z]
 ·done;refine#[`ET,r,#[o,n,`avs,hc,hd,`avt],?_]
  have e:=`cf;simp only[`KO] at e;lia
def Inv.tuple(I:`F)(h:`avu):∃its:`ah,`lF/\`xN `aK a `bt/\`hJ:=by
 skip;rcases h with h|⟨o,its,n,hk,hc,hs,hz,r⟩
 ·let#[z,its,r,p]:=`avr
  done;exact#[its,r,p.tup,z]
 ·done;refine#[`ET,r,#[o,`avs,hc,n,`avt],?_]
  have e:=`cf;simp only[`KO] at e;lia
def Inv.list_inj(I:`F)(h:`avq)(h':SqL X.K H a ys):xs=ys:=by
 skip;let#[its,r,#[o,n,e,_,_,d],_]:=`gl h;let#[J,r',#[o',n',e',_,_,d'],_]:=`gl h';rw[e] at e';cases e';rw[d] at d';done;injection d' with d1 _
 apply `avv
 subst this;exact `Zk
def Inv.tuple_inj(I:`F)(h:`avu)(h':SqT X.K H a ys):xs=ys:=by
 skip;let#[its,r,#[o,e,_,n,d],_]:=`h5 h;let#[J,r',#[o',e',_,n',d'],_]:=`h5 h';rw[e] at e';cases e';rw[d] at d';done;injection d' with d1 _
 apply `avv
 subst this;exact `Zk
universe zz
abbrev Cx.wish(X:Cx)(E:`aF):Cx:={ X with xe:=E }
abbrev Cx.nox(X:Cx):Cx:=X.wish `FG
theorem Cx.Ok.wish(ok:X.Ok)(E:`aF):`avw :=
 `avx
theorem Cx.Ok.unwish(ok:`avw):X.Ok :=
 `avx
section
variable{σ:St}{s:`y}
theorem Inv.wish(I:`F)(E:`aF):`avy:=#[I.ok.wish E,`nN,`iP,`KD,`gi,`kP,`hK,`mm,`oN,`b7,`eW]
theorem Inv.unwish(I:`avy):`F:=#[I.ok.unwish,`nN,`iP,`KD,`gi,`kP,`hK,`mm,`oN,`b7,`eW]
def SP.unwish{D:`kg}{f:Flow}(h:SP (X.wish E) `k D f s'):`avz:=by
 skip;cases f with
 | next=>apply `Zl;done;apply `Zm
 | brk=>apply `Zl;done;apply `Zm
 | cont=>apply `Zl;done;apply `Zm
 | ret u=>let#[v,σ',H',I,r,q]:=h;done;exact#[v,σ',H',`alb,r,q]
theorem PSs.nox{st:`eh}{t:TS}(h:PSs X.nox st t):PSs X st t:=λpins s σ H D I hw =>
 D6 (h `k s σ H D (I.wish _) hw) (λ_ _ q=>q.unwish) λ_ _ z=>`eJ z
universe zz
section
variable{st:`bq}{t u:TS}
def Jm0:TS:=λD σ H=>`Tk
def Iy0(t u:TS):TS:=λD σ H=>t `avA σ H
theorem fa0:PSs X [] Jm0:=λ_ _ σ H _ I h=>x5 `avB
def zo0(h1:PS X st t)(h2:PSs X `bh u):PSs X (st::`bh) (Iy0 t u):=by
 apply `iR;refine wpAny_execs_cons (thn (h1 `k s σ H `avA I h) λf s1 q=>?_);cases f with
 | next =>
  let#[σ',H',I',q]:=q;exact h2 `k s1 σ' H' D I' q
 | ret v=>exact q
 | brk=>exact q
 | cont=>exact q
def Inv.quiet{σ:St}{s:`y}(I:`F):`avC `A=`r:=by simp[`avC,`lI]
def I40(te:TE):TS:=λD σ H=>te σ H λ_ H1=>`avD
def fs0(he:`f8)(hs:`avE):PS X (.Expr e pos) (I40 te):=by
 apply `iR;exact wpAny_Expr_any (thn `iS λv s1 #[x,H1,I1,r1,q1]=>#[σ,H1,I1,q1]) I.quiet hs
def H30(te:TE):TS:=λD σ H=>te σ H D.rt
def o00(he:`f8):PS X `qV (H30 te):=by
 apply `iR;exact wpAny_Return_some (thn `iS λv s1 #[x,H1,I1,r1,q1]=>#[x,σ,H1,I1,r1,q1])
def Hj0(c:TT)(t u:TS):TS:=λD σ H=>c σ H λb H1=>if b=`d then t D σ H1 else u D σ H1
def b30{a b:`eh}{tc:TT}(hc:PT X c tc)(ha:PSs X a t)(hb:PSs X b u):PS X (.If c a b pos) (Hj0 tc t u):=by
 apply `iR;refine wpAny_If (thn (hc `k s σ H _ I h) λd s1 hq9=>?_);let#[H1,I1,q1]:=hq9;cases d with
 | true=>exact ha `k s1 σ H1 D I1 q1
 | false=>exact hb `k s1 σ H1 D I1 q1
def L20:TS:=`lO
theorem ra0{sts:`eh}:PSs X sts L20:=λ_ _ _ _ _ _ h=>`sJ
universe zz
abbrev TG:=V->`avF
abbrev TGs:=`N->`avF
def PG(X:Cx)(target:`M)(t:TG):Prop :=
 ∀(pins:`aI) (s:`y) (σ:St) (H:Hp) (v:V) (u:`J) (Q:`jj),`F->`fD->`avG ->
  `u `aq X.A (`g6 `FH `A u) `avH `aL s
def PGs(X:Cx)(ts:`bn)(t:TGs):Prop :=
 ∀(pins:`aI) (s:`y) (σ:St) (H:Hp) (vs:`N) (us:`ah) (Q:`jj),`F->`uM->t vs σ H Q ->
  `u `aq X.A (assignInOrder ((`mp ts `A).map `eX) us) `avH `aL s
abbrev V70:=`Zn
def Zl0(X:Cx)(t:V70):Prop :=
 ∀(pins:`aI) (s:`y) (σ:St) (H:Hp) (o i v:V) (ov iv u:`J) (Q:`h3),`F->`c4 o ov->`c4 i iv->`fD->t o i v H Q ->
  `u `aq X.A (`EV ov iv u) (λ_ s'=>∃H',`lK/\Q H') `aL s
def Pl0(i:Nat):TG:=λv σ H Q=>Q `xo H
def kl0(hN:`eK)(hi:`pq)(hx:`yo)(hf:`qU):PG X `kS (Pl0 i):=by
 apply `avI;exact `avJ (Zj0 I hN hi hx r (λs' I'=>#[_,H,I',h]) hf)
def Iz0:TGs:=λvs σ H Q=>vs=[]/\Q σ H
def Jv0(t:TG)(u:TGs):TGs:=λvs σ H Q=>∃v r,vs=v::r/\t v σ H fun σ' H'=>u r σ' H' Q
def Ns0:PGs X [] Iz0:=by
 apply `KP;let#[e,h]:=h;subst e;cases r;exact assignInOrder_nil `avB
def Y40{t:TG}{u:TGs}(h1:PG X e t)(h2:PGs X es u)
  (hs:`v ((`mp `gp `A).map `eX=`g6 e `A::(`Zo).map `eX) Aa):PGs X `gp (Jv0 t u):=by
 apply `KP;let#[v,vr,e1,h]:=h;subst e1;cases r with
 | cons r rr =>
  rw[hs];refine assignInOrder_cons (thn (h1 `k s σ H _ _ _ I r h) λ_ s1 hq10=>?_);let#[σ1,H1,I1,q1]:=hq10;exact h2 `k s1 σ1 H1 _ _ Q I1 rr q1
def Hb0(K:`B)(n:Nat)(t:TGs):TG:=λv σ H Q=>∃a xs,`jr/\`nR/\`aG=n/\t xs σ H Q
def Kd0{k:Nat}{t:TGs}{n:Nat}(hc:`dQ)(h:PGs X es t)
  (hn:`v ((`Zo).length=n) Aa) (hst:`v ((`Zo).findIdx? `bV=`e) Aa):PG X (`ld es k pos) (Hb0 X.K n t):=by
 intro pins s σ H v u Q I r hw;skip;let#[a,xs,e1,hq,hl,hw]:=hw;subst e1;cases r;let#[its,rv,ht,hz]:=`EY;done;refine assign_Tuple_tuple `iT ht (by simp[hn,← hl,`pE]) hst λh' hx=>?_
 have I1:`R7:=`KQ (t':=`bu) λb o e=>hx b o `Zp e
 exact h `k _ σ H xs _ Q I1 (`avK) hw
def Hf0(to ti:TE)(t:V70):TG:=λv σ H Q=>to σ H λo H1=>ti σ H1 λi H2=>t o i v H2 λH3=>Q σ H3
def b60{i:`M}{to ti:TE}{t:V70}(ho:`Zq)(hi:PE X i ti)(hs:Zl0 X t)
  (ha:`v (∀v,`g6 `Zr `A v=(do
   let ov ← `avL
   let iv ← `oR [v,ov] (`bg i `A)
   `KR
   `KS
   `KT)) Ac):PG X `Zr (Hf0 to ti t):=by
 apply `avI;rw[ha];refine A0 (C9 (thn `Bf λov s1 hq11=>?_));let#[x,H1,I1,r1,q1]:=hq11;refine A0 (C9 (thn `avM λiv s2 hq12=>?_));let#[y,H2,I2,r2,q2]:=hq12;refine A0 (x6 (A0 (C9 (thn (hs `k s2 σ H2 x y v ov iv u _ I2 r1 r2 r q2) λ_ s3 hq13=>?_))));let#[H3,I3,q3]:=hq13;exact wpAny_release #[σ,H3,I3,q3]
def L90(te:TE)(g:TG):TS:=λD σ H=>te σ H λx H1=>g x σ H1 `ji
def az0{g:TG}(he:`f8)(hg:PG X tg g)(hs:`Zs)(hw:`Zt)
  (h1:`Zu):PS X `Zv (L90 te g):=by
 apply `iR;refine wpAny_Assign_stores (thn `iS λv s1 hq14=>?_) hs hw;let#[x,H1,I1,r1,q1]:=hq14;rw[h1];exact thn (hg `k s1 σ H1 x v _ I1 r1 q1) λ_ s2 q=>q
def gn0(hN:`eK)(hi:`pq)(hx:`yo)(he:`f8)(hs:`v (`g4 e (`c (`avN)) `h4 `A=`g5) Aa)(hf:`qU) :
  PS X (`h8 [`avN] e pos) (L90 te (Pl0 i)):=by
 apply `iR;refine wpAny_Assign_Name (thn `iS λv s1 hq15=>?_) hs;let#[y,H1,I1,r1,q1]:=hq15;exact Zj0 I1 hN hi hx r1 (λs2 I2=>#[_,H1,I2,q1]) hf
def Lh0(c:TT)(tb:TS):TS:=λD σ H=>∃W:`avO,(∃m,W m σ H)/\∀m σ H,W m σ H ->
 c σ H λb H1=>if b=`d then ∃N:`jj,(∀σ' H',N σ' H'->∃m',m'<m/\W m' σ' H')/\tb `avP σ H1 else `avD
def P10{tc:TT}{tb:TS}(hp:`Bg)(hc:PT X c tc)(hb:`avQ):PS X `avR (Lh0 tc tb):=by
 apply `iR;let#[W,#[m0,w0],J]:=h;refine wpAny_While (codeAny_whileLoop (λn s'=>∃σ' H',`oT/\W n σ' H') ?_ m0 #[σ,H,I,w0]);rintro n s1 ⟨σ1,H1,I1,w1⟩;refine M0 hp (thn (hc `k s1 σ1 H1 _ I1 (J n σ1 H1 w1)) λb s2 hq16=>?_);let#[H2,I2,q2]:=hq16;cases b with
 | true =>
  let#[N,hN,q2]:=q2;rw[`bA];refine M0 hp (thn (hb `k s2 σ1 H2 _ I2 q2) λf s3 q3=>?_);skip;cases f with
  | next =>
   apply `avS;apply `avT;done;exact`avU
  | cont =>
   apply `avS;apply `avT;done;exact`avU
  | brk=>done;exact q3
  | ret v=>done;exact q3
 | false =>
  rw[`nS];exact x5 #[σ1,H2,I2,q2]
structure It where
 go:`avV
 yld:Nat->Hp->`Y?
 stop:`avV
def p10(X:Cx)(pins:`aI)(H:Hp)(b:`g):Prop :=
 `c6/\`r3/\`Kp/\`akZ/\`ak_
def Inv.fpOk{σ:St}{s:`y}{b:`g}(I:`F)(hb:`Y<=b)(hn:`r4):`Zw:=by
 refine#[hn,C7 (B6 I.lt hb),I.nofs hb,`q (B4 I.sz hb),`avW,`avX]
 ·let#[v,q]:=`RP
  exact `I (B6 q.lt `avY) `lG
 ·exact `I (B6 (A8 (`RS).1) `avY) `lG
structure Turn(P:`aw)(w:`X)(K:`B)(tg:`M)(J:It)(fp:`aM)(it:`g)(tn:`Zx):Prop where
 mem:it∈fp
 obj:∀i h,tn i h->∀b∈fp,∃o,`h9/\`avZ
 keep:∀i h h',tn i h->(∀b∈fp,∀o,`KU)->tn i h'
 item:∀(X:Cx),`a?=P->X.w=w->X.K=K->`dQ->∀(i:Nat) (pins:`aI) (s:`y) (σ:St) (H:Hp) (E:`aF),`F->`av_->`Zy->`Zz ->
  `u `o9 X.A (`yR `oU) (λr s1=>∃u,r=`br /\
   `u `o9 X.A `ZA (λ_ s2=>∃x H',`ZB/\`gn/\`ZC/\tn `d' s2.heap/\∀b∈fp,`r4) E s1) E s
 done:∀(X:Cx),`a?=P->X.w=w->X.K=K->`dQ->∀(i:Nat) (pins:`aI) (s:`y) (σ:St) (H:Hp) (E:`aF),`F->`av_->`Zy->`ZD ->
  `u `o9 X.A (`yR `oU) (λr s1=>r=`e/\Inv X `k σ H s1) E s
 self:∀(A:`cK) (i:Nat) (s:`y) (Q:`aF) (E:`aF),`Zy->Q `oU s->`u `o9 A (pyIter `oU) Q E s
abbrev TI:=St->Hp->(`KV)->Prop
def PIE(X:Cx)(pins:`aI)(σ:St)(tg:`M)(R:`KV)(itv:`J)(s2:`y):Prop :=
 ∃(it:`g) (fp:`aM) (tn:`Zx) (J:It) (H':Hp),itv=`C it/\`ZB/\`av0/\`av1/\(∀b∈fp,`Zw)/\R J H'
def PI(X:Cx)(tg iter:`M)(wi:TI):Prop :=
 ∀(pins:`aI) (s:`y) (σ:St) (H:Hp) (R:`KV),`F->wi σ H R ->
  `u `aq X.A (`bg `jm `A) (λv s1=>`u `aq X.A (pyIter v) `av2 `aL s1) `aL s
def cr0{M:`A9}{A:`cK}{E:`aF}{s:`y}{tg:`M}{u:`J}{o:Obj}{n:`cO}{vs:`aW}{Q:`qT}(ho:`dn it=`au)(hc:`xg=`bD n)(hd:`rV=`Ki)
  (hn:`av3=`r) (hQ:Q () s):`u M A `ZA Q E s:=by
 unfold letOwnedTupleGo;cases tg<;>first
  | exact A1 hQ
  | (cases u<;>first
    | exact A1 hQ
    | (refine A0 (`av4 ho ?_)
       rw[hc,hd];show `u M A (if (`av3&&vs[0]?==`c (`KW _))=`d then _ else _) Q E s;rw[`ap (by intro h;rw[hn,Bool.false_and] at h;cases h)];exact A1 hQ))
def Itl(K:`B)(a:`g):It :=
 #[`av5,λi H x H'=>H'=H/\`av6,`av7]
def Itt(K:`B)(a:`g):It :=
 #[λi H=>∃xs x,`nR/\`oW,λi H x H'=>H'=H/\∀xs,`nR->`oW,λi H=>∃xs,`nR/\`R4]
def Itr(lo:Int)(n:Nat):It:=#[λi _=>i<n,λi H x H'=>H'=H/\x=`ZE,λi _=>n<=i]
theorem Tl0{P:`aw}{w:`X}(a it:`g):Turn P w K tg (Itl K a) [it] it (λi h=>`av8) where
 mem:=`a6
 obj:=λi h st b hb=>by
  apply `A8
  subst e;apply `ZF;apply `ZG
 keep:=`av9
 item:=by
  apply `ki;skip;apply `kj;apply `ZH;apply `av';apply `ZI;apply `nT;done;refine wpAny_pyNext_list_item st `yI (x:=u) `ZJ `av!
  apply `av?;apply `ZK;exact#[u,rfl,cr0 (s:=`jk) e c d `s #[x,H,I1,ru,#[rfl,`awa],J,`KX]]
 done:=by
  apply `ki;skip;apply `kj;let#[xs,hq,hx]:=hg;apply `av';apply `nT;have hl:=`pE;done;exact wpAny_pyNext_list_end `iT st `yI `lP `Bh
 self:=λ_ _ _ _ _ st h=>wpAny_pyIter_listiter st h
theorem Vd0{P:`aw}{w:`X}(a it:`g):Turn P w K tg (Itt K a) [it] it (λi h=>h.IsTupleIter it a i) where
 mem:=`a6
 obj:=λi h st b hb=>by
  apply `A8
  subst e;apply `ZF;apply `ZG
 keep:=`av9
 item:=by
  apply `ki;skip;apply `kj;apply `ZH;apply `awb;apply `ZI;apply `nT;done;refine wpAny_pyNext_tuple_item st `awc (x:=u) `ZJ `av!
  apply `av?;apply `ZK;exact#[u,rfl,cr0 (s:=`jk) e c d `s #[x,H,I1,ru,#[rfl,λys hy=>by rw[`awd hy hq];exact hx],J,`KX]]
 done:=by
  apply `ki;skip;apply `kj;let#[xs,hq,hx]:=hg;apply `awb;apply `nT;have hl:=`pE;done;exact wpAny_pyNext_tuple_end `iT st `awc `lP `Bh
 self:=λ_ _ _ _ _ st h=>wpAny_pyIter_tupleiter st h
theorem Wr0{P:`aw}{w:`X}(it:`g)(lo:Int)(n:Nat):Turn P w K tg (Itr lo n) [it] it (λi h=>`awe h it (lo+(i:Nat)*1) (`ct - (i:Nat)) 1) where
 mem:=`a6
 obj:=λi h st b hb=>by
  apply `A8
  subst e;exact#[_,st,λv z=>by
   have z':`awf _=Data.cell v:=z;cases z']
 keep:=λi h h' st k=>k it `aB _ st
 item:=by
  apply `ki;skip;apply `kj;apply `nT;have W:=Walks.range (prog:=`a?) (w:=X.w) `iT it lo 1 n;done;refine W.item i s _ _ hg st λv h' tk hv J kk=>?_
  let#[t,rfl]:=hv;have I1:Inv X `k σ H `pO:=`EX (λb o hb e=>kk b o (`r6) e) f0 f1 f3 f4 f5;refine#[_,rfl,cr0 (s:=`pO) (n := "range_iterator") J rfl rfl `s #[`ZE,H,I1,#[t,?_],`kW,J,`KX]];rw[Int.mul_one]
 done:=by
  apply `ki;skip;apply `kj;apply `nT;done;exact wpAny_pyNext_range_end `iT st (by have:n<=i:=hg;lia) `Bh
 self:=λ_ _ _ _ _ st h=>wpAny_pyIter_rangeiter st h
def Ju0(K:`B)(tl:TE):TI:=fun σ H R=>tl σ H λx H1=>∃a,`de/\`awg/\R (Itl K a) H1
def Hn0(K:`B)(tl:TE):TI:=fun σ H R=>tl σ H λx H1=>∃a,`de/\(∃xs,SqT K H1 a xs)/\R (Itt K a) H1
def fq0{l:`M}{tl:TE}(hl:PE X l tl):PI X tg l (Ju0 X.K tl):=by
 apply `Bi;refine thn `awh λv s1 hq17=>?_;skip;let#[x,H1,I1,r1,q1]:=hq17
 apply `awi;subst e;cases r1;let#[its,rv,p,hz]:=I1.list hq;done;refine wpAny_pyIter_list `yI ?_;refine#[`gm,`Bj,_,_,H1,rfl,`KY,Tl0 a _,`KZ,`gN,q];have e:b=`gm:=`r6
 subst e;apply `Bk
def Lr0{l:`M}{tl:TE}(hl:PE X l tl):PI X tg l (Hn0 X.K tl):=by
 apply `Bi;refine thn `awh λv s1 hq18=>?_;skip;let#[x,H1,I1,r1,q1]:=hq18
 apply `awi;subst e;cases r1;let#[its,rv,p,hz]:=I1.tuple hq;done;refine wpAny_pyIter_tuple (show s1.heap.IsTuple a `bt from p) ?_;refine#[`gm,`Bj,_,_,H1,rfl,`KY,Vd0 a _,`KZ,`gN,q];have e:b=`gm:=`r6
 subst e;apply `Bk
def R00{σ:St}{s:`y}{R:`KV}{E:`aF}{lo hi:Int}{t u v:Tok}{tk:Nat}(I:`F)(h1:-(`fq)<=lo)(h2:lo<`fq)(h3:-(`fq)<=hi)(h4:hi<`fq)
  (q:R (Itr lo `sb) H):`u `aq X.A (pyIter `io) `av2 E `awj:=by
 refine wpAny_pyIter_range (IsRange.new ..) (small_one h1 h2 h3 h4) ?_;have I1:Inv X `k σ H `awj:=`KQ `sa
 refine#[`ZL,[`ZL],_,_,H,rfl,
  `R9 (t':=tk) `sa,Wr0 _ lo `sb,?_,`gN,q]
 ·have e1:lo+`sc*1=lo:=`a6
  have e2:`awk=Builtin.Range.rangeSize lo hi 1:=by rw[rangeSize_one];split<;>lia
  show `awe _ _ (lo+`sc*1) (`awk) 1;rw[e1,e2];exact `fz
 ·have e:b=`ZL:=`r6
  subst e;apply `Bk
def J30(ta:TA):TI:=fun σ H R=>ta σ H λvs H1=>∃j:Int,vs=[`fH]/\-(`fq)<=j/\j<`fq/\R (Itr 0 `h!) H1
def St0{a:`M}{ta:TA}{p:Pos}(hg:`awl)(hm:`awm)(ha:`awn)(hs:`K_):PI X tg `awo (J30 ta):=by
 apply `Bi;refine Call_ (tf0 I hg hm boot_range (M1 (thn `Fg λus s1 hq19=>?_) hs rfl));skip;let#[vs,H1,I1,r1,q1]:=hq19;let#[j,e,q1,q2,q]:=q1;subst e;cases r1 with
 | cons r rr =>
  cases rr;apply `lN;done;exact call_range_1 (R00 I1 `j `j q1 q2 (`ZM))
def He0(wi:TI)(g:TG)(tb:TS):TS:=λD σ H=>wi σ H λJ H1=>∃W:Nat->`avO,(∃m,W 0 m σ H1)/\∀i m σ H,W i m σ H ->
 (`ZD/\`Tk)∨(`Zz/\∃N:`jj,(∀σ' H',N σ' H'->∃m',m'<m/\W `d' m' σ' H')/\∀x H',`ZC->g x σ H' fun σ2 H2=>tb `avP σ2 H2)
def lg0(fp:`aM)(h:`W):`aI:=fp.filterMap λb=>(`oJ).map λo=>`xw
theorem rz0{h:`W}{b:`g}{o:Obj}(hb:b∈fp)(e:`h9):`xw∈lg0 fp h:=k7.mpr #[b,hb,`awp]
def T90{h:`W}{p:`aky}(hp:p∈lg0 fp h):p.1∈fp/\`kN p.1=`r2:=by
 let#[b,hb,e]:=k7.mp hp;cases q:`oJ with
 | none=>rw[q] at e;cases e
 | some o =>
  rw[q] at e;have e':`xw=p:=`lJ;subst e';exact#[hb,q]
theorem Inv.pinned{σ:St}{s:`y}(I:`F)(hf:∀b∈fp,`EW)(ho:∀b∈fp,∃o,`g3/\`avZ):Inv X (`k++lg0 fp `aK) σ H s :=
 I.pins_of λp hp=>`auW (λz=>`oN p (D3 _ z)) λz=>by
  skip;let#[hb,e]:=T90 z;let#[f0,f1,f2,_]:=hf p.1 hb;let#[o,e',d]:=ho p.1 hb;rw[e] at e';cases e';done;exact#[e,f0,f1,f2,d]
theorem Inv.unpinned{pl:`aI}{σ:St}{s:`y}(I:Inv X (`k++pl) σ H s):`F:=I.pins_of λp hp=>`oN p (D3 _ (C8 _ hp))
def Ti0{wi:TI}{g:TG}{tb:TS}{pos:Pos}(hp:`Bg)(hc:`dQ)(hi:`ZN)(hg:PG X tg g)(hb:`avQ)
  (hs:`ei):PS X `ZO (He0 wi g tb):=by
 apply `iR;refine wpAny_For (thn `Bl λv s1 h1=>thn h1 λa4 s2 h2=>?_) hs;skip;let#[it,fp,tn,J,H2,e,I2,T,a2,f2,W,#[m0,w0],Z]:=h2;subst e;have M:∀{H':Hp},`uN->∀b∈fp,`Zw:=λhn b hb=>#[hn b hb,(`k_).2]
 done;refine codeAny_forLoop_any (λn s'=>∃i σ' H',`oT/\`awq/\`uN/\W i n σ' H') ?_ m0 #[0,σ,H2,I2,a2,λb hb=>(`k_).1,w0];rintro n s3 ⟨i,σ3,H3,I3,U,Y,w3⟩;skip;rcases Z i n σ3 H3 w3 with⟨stop,qn⟩|⟨go,N,hN,step⟩
 ·done;refine M0 hp (thn (T.done X rfl rfl rfl hc i `k s3 σ3 H3 `aL I3 (M Y) U stop) λr s4 hq20=>?_);let#[hr,I4]:=hq20
  subst hr;exact x5 #[σ3,H3,I4,qn]
 ·done;refine M0 hp (thn (T.item X rfl rfl rfl hc i `k s3 σ3 H3 `aL I3 (M Y) U go) λr s4 hq21=>?_);let#[u,hr,h4]:=hq21
  subst hr;refine M0 hp (thn h4 λ_ s5 hq22=>?_);skip;let#[x,H5,I5,r5,y5,O,a1]:=hq22;have a3:=I5.pinned (M a1) (`x7 _ _ O);done;refine M0 hp (thn (hg _ s5 σ3 H5 x u _ a3 r5 (step x H5 y5)) λ_ s6 hq23=>?_);let#[σ6,H6,I6,q6]:=hq23;refine M0 hp (thn (hb _ s6 σ6 H6 _ I6 q6) λf s7 q7=>?_);skip;have again:∀{σ7:St} {H7:Hp},Inv X (`k++lg0 fp s5.heap) σ7 H7 s7->N σ7 H7->∃m,m<n/\∃i σ' H',Inv X `k σ' H' s7/\tn i s7.heap/\`uN/\W i m σ' H':=λ{σ7 H7} I7 n7=>by
   let#[m',hm,w7]:=hN σ7 H7 n7;refine#[m',hm,i+1,σ7,H7,`ZP,T.keep _ _ _ O λb hb o e=>(`awr).1,`gN,w7];let#[o,e,d]:=`x7 _ _ O b hb;exact(`awr).2.1
  cases f with
  | next=>apply `aws;done;exact `awt
  | cont=>apply `aws;done;exact `awt
  | brk=>let#[σ7,H7,I7,q7]:=q7;done;exact#[σ7,H7,`ZP,q7]
  | ret v=>let#[x7,σ7,H7,I7,r7,q7]:=q7;done;exact#[x7,σ7,H7,`ZP,r7,q7]
abbrev R2:=`Bm
def OpR(X:Cx)(f:`uO)(r:R2):Prop :=
 ∀(pins:`aI) (s:`y) (σ:St) (H:Hp) (x y:V) (v u:`J) (Q:VK),`F->`kk->`fp->`E4 ->
  `u `aq X.A `ZQ `e3 `aL s
def UnR(X:Cx)(f:`Sb)(r:`xy):Prop :=
 ∀(pins:`aI) (s:`y) (σ:St) (H:Hp) (x:V) (v:`J) (Q:VK),`F->`kk->r x H Q ->
  `u `aq X.A (f v) `e3 `aL s
def CallR(X:Cx)(f:`J)(r:`mw):Prop :=
 ∀(pins:`aI) (s:`y) (σ:St) (H:Hp) (xs:`N) (us:`ah) (Q:VK),`F->`dd->`K0 ->
  `u `aq X.A (`e2 f us) `e3 `aL s
def tOp(r:R2)(ta tb:TE):TE:=fun σ H Q=>ta σ H λx H1=>tb σ H1 λy H2=>r x y H2 Q
def tUn(r:`xy)(ta:TE):TE:=fun σ H Q=>ta σ H λx H1=>r x H1 Q
def rI(C:`ZR)(g:`K1):R2:=λx y H Q=>∃i j,`Bn/\y=`fH/\C i j/\Q `kT H
def rI0(g:`K1):R2:=λx y H Q=>∃i j,`Bn/\y=`fH/\Q `kT H
def rU(g:Int->V):`xy:=λx H Q=>∃i,`Bn/\Q (g i) H
section
variable{a:`M}{tc:TE}
def P30(ha:`kh)(hb:`uP){s:`y}{σ:St}{R:V->`Y?}(I:`F)
  (h:ta σ H λx H1=>tb σ H1 λy H2=>R x y H2) {Q:`aF} {f:`uO}
  (hf:∀v u s2 x y H2,`awu->`kk->`fp->R x y H2->`u `aq X.A `ZQ Q `aL s2) :
  `u `aq X.A (`Sa) (λv s₁=>`u `aq X.A `ava (λu s₂=>`u `aq X.A `ZQ Q `aL s₂) `aL `es) `aL s:=by
 refine thn `iQ λv s1 hq24=>?_;let#[x,H1,I1,r1,q1]:=hq24
 refine thn `ZS λu s2 hq25=>?_;let#[y,H2,I2,r2,q2]:=hq25
 exact hf v u s2 x y H2 I2 r1 r2 q2
def W50{op:`Bo}{r:R2}(ho:`awv)(ha:`kh)(hb:`uP):PE X `ZT `K2:=by
 apply `bB;exact wpAny_BinOp `aww
def Ih0{op:UnaryOp}{r:`xy}(ho:UnR X (unaryOp op) r)(ha:`kh):PE X (`R1 op a pos) (tUn r ta):=by
 apply `bB;exact UnaryOp_ (thn `iQ λv s1 #[x,H1,I1,r1,q1]=>ho `k s1 σ H1 x v Q I1 r1 q1)
def opI{f:`uO}{C:`ZR}{g:`awx}
  (rule:∀(i j:Int) (t u:Tok) (s:`y) (Q:`aF) (E:`aF),C i j->`awy) :
  OpR X f (rI C `awz):=by
 apply `fr;skip;let#[i,j,rfl,rfl,hc,q]:=h;apply `cm;apply `cA;done;exact rule i j t t' s _ _ hc `awA
def K30{f:`uO}{g:`awx}
  (rule:∀(i j:Int) (t u:Tok) (s:`y) (Q:`aF) (E:`aF),`awy) :
  OpR X f (rI0 `awz):=by
 apply `fr;skip;apply `awB;apply `cm;apply `cA;done;exact rule i j t t' s _ _ `awA
def Vq0{f:`uO}{g:Int->Int->`aa}
  (rule:∀(i j:Int) (t u:Tok) (s:`y) (Q:`aF) (E:`aF),Q (`fE `kT) s->`alp) :
  OpR X f (rI0 λi j=>.bl `kT):=by
 apply `fr;skip;apply `awB;apply `cm;apply `cA;done;exact rule i j t t' s _ _ #[.bl `kT,H,I,rfl,q]
def Rh0(i j:Int):Prop:=`K3
def Rq0(i j:Int):Prop:=`ZU
def CMul(i j:Int):Prop:=`TF
def CMul.ok{i j:Int}(h:CMul i j):IntMulOk i j:=by
 rcases h with⟨h1,h2⟩|⟨h1,h2⟩
 ·exact .of_left `awC
 ·exact .of_right `awC
theorem Th0:OpR X `Bp (rI0 `awD):=K30 λ_ _ _ _ _ _ _ q=>add_int q
theorem Mx0:OpR X (`jn .Sub) (rI0 `awE):=K30 λ_ _ _ _ _ _ _ q=>sub_int q
theorem Mu0:OpR X `awF (rI CMul `awG):=opI λ_ _ _ _ _ _ _ hc q=>mul_int q hc.ok
theorem M70:OpR X (`jn .FloorDiv) (rI Rh0 `awH):=opI λi j _ _ _ _ _ hc q=>by
 have h1:`gC<j:=hc.1;have h2:`alq:=hc.2;exact floordiv_int `j (by rw[Int.fdiv_eq_ediv_of_nonneg i `j];exact q) (`p (PyProof.noPylong_small `j))
theorem L30:OpR X (`jn .Mod) (rI (`awI) `awJ):=opI λi j _ _ _ _ _ hc q=>by
 have h1:`gC<j:=hc;exact mod_int' `j (by rw[Int.fmod_eq_emod_of_nonneg i `j];exact q)
theorem Kh0:OpR X (`jn .Pow) (rI Rq0 `awK):=opI λ_ _ _ _ _ _ _ hc q=>pow_int_small hc.1 hc.2.1 hc.2.2 q
def unI{f:`Sb}{g:`alo}
  (rule:∀(i:Int) (t:Tok) (s:`y) (Q:`aF) (E:`aF),Q (`f (g i) `bu) `o0->`u `aq X.A (f `xA) Q E s) :
  UnR X f (rU λi=>`awL):=by
 intro pins s σ H x v Q I rx h;let#[i,rfl,q]:=h;apply `cm;exact rule i t s _ _ #[`awL,H,`fG,`ac,q]
theorem Ln0:UnR X (unaryOp .USub) (rU λi=>`f (-i)):=unI λ_ _ _ _ _ q=>neg_int q
universe zz
def Qj0:V->V->`aa
 | `x,`x=>`d|`x,`cn=>`d|`cn,`x=>`d|`x,`bK=>`d|`bK,`x=>`d|`x,`bF=>`d|`bF,`x=>`d
 | `cn,`cn=>`d|`bK,`bK=>`d|`bF,`bF=>`d|.byt _,.byt _=>`d
 | `cn,`bF=>`d|`bF,`cn=>`d|`bK,`bF=>`d|`bF,`bK=>`d
 | _,_=>`r
def rEq:R2:=λx y H Q=>`ZV/\Q `asH H
def rNe:R2:=λx y H Q=>`ZV/\Q (.bl (!`E3)) H
def Xg0{i j:Int}:`z (`xZ i=`xZ j)=(i==j):=by
 rw[`uQ];simp
def T60{i j:`aa}:`z (V.bl i=V.bl j)=(i==j):=by
 rw[`uQ];simp
def X20{i j:Str}:`z (`yu i=`yu j)=(i==j):=by
 rw[`uQ];simp
def W20{i j:`atZ}:`z (V.byt i=V.byt j)=(i.toList==j.toList):=by
 rw[`uQ];cases i;cases j;simp
section
variable{a:`M}{tc:TE}
def T5{σ:St}{s:`y}{Q:VK}{k k':`aa}(I:`F)(q:Q (`sd) H)(e:k=k'):EP X `k σ Q (`fE k') s:=by
 subst e;exact#[`sd,H,I,rfl,q]
def W3:OpR X (`d9 .Eq) rEq:=by
 apply `fr;let#[hs,q]:=h;cases x with
 | non =>
  cases rx;cases y with
  | non=>cases ry;exact PySem.EqNone.eq_none_none `cP
  | bl j=>cases ry;exact PySem.EqNone.eq_none_bool `cP
  | int j=>apply `cA;exact PySem.EqNone.eq_none_int `cP
  | str j=>apply `cA;exact PySem.EqNone.eq_none_str `cP
  | _=>exact `hL
 | bl i =>
  cases rx;cases y with
  | non=>cases ry;exact PySem.EqNone.eq_bool_none `cP
  | bl j=>cases ry;exact eq_bool (T5 I q T60)
  | str j=>apply `cA;exact PySem.EqMixed.eq_bool_str `cP
  | _=>exact `hL
 | int i =>
  apply `cm;cases y with
  | non=>cases ry;exact PySem.EqNone.eq_int_none `cP
  | int j=>apply `cA;exact eq_int (T5 I q Xg0)
  | str j=>apply `cA;exact PySem.EqMixed.eq_int_str `cP
  | _=>exact `hL
 | str i =>
  apply `cm;cases y with
  | non=>cases ry;exact PySem.EqNone.eq_str_none `cP
  | bl j=>cases ry;exact PySem.EqMixed.eq_str_bool `cP
  | int j=>apply `cA;exact PySem.EqMixed.eq_str_int `cP
  | str j=>apply `cA;exact eq_str (T5 I q X20)
  | _=>exact `hL
 | byt i =>
  apply `cm;cases y with
  | byt j=>apply `cA;exact W.eq_bytes (T5 I q W20)
  | _=>exact `hL
 | _=>cases y<;>exact `hL
def Ip0:OpR X (`d9 .NotEq) rNe:=by
 apply `fr;let#[hs,q]:=h;cases x with
 | non =>
  cases rx;cases y with
  | non=>cases ry;exact PySem.EqNone.ne_none_none `cP
  | bl j=>cases ry;exact PySem.EqNone.ne_none_bool `cP
  | int j=>apply `cA;exact PySem.EqNone.ne_none_int `cP
  | str j=>apply `cA;exact PySem.EqNone.ne_none_str `cP
  | _=>exact `hL
 | bl i =>
  cases rx;cases y with
  | non=>cases ry;exact PySem.EqNone.ne_bool_none `cP
  | bl j=>cases ry;exact ne_bool (T5 I q (C3 not T60))
  | str j=>apply `cA;exact PySem.EqMixed.ne_bool_str `cP
  | _=>exact `hL
 | int i =>
  apply `cm;cases y with
  | non=>cases ry;exact PySem.EqNone.ne_int_none `cP
  | int j=>apply `cA;exact ne_int (T5 I q (C3 not Xg0))
  | str j=>apply `cA;exact PySem.EqMixed.ne_int_str `cP
  | _=>exact `hL
 | str i =>
  apply `cm;cases y with
  | non=>cases ry;exact PySem.EqNone.ne_str_none `cP
  | bl j=>cases ry;exact PySem.EqMixed.ne_str_bool `cP
  | int j=>apply `cA;exact PySem.EqMixed.ne_str_int `cP
  | str j=>apply `cA;exact ne_str (T5 I q (C3 not X20))
  | _=>exact `hL
 | byt i =>
  apply `cm;cases y with
  | byt j=>apply `cA;exact W.ne_bytes (T5 I q (C3 not W20))
  | _=>exact `hL
 | _=>cases y<;>exact `hL
theorem sl0:OpR X (`d9 .Lt) (rI0 `ZW):=Vq0 λ_ _ _ _ _ _ _ q=>lt_int q
theorem ia0:OpR X (`d9 .LtE) (rI0 `ZX):=Vq0 λ_ _ _ _ _ _ _ q=>le_int q
theorem t00:OpR X (`d9 .Gt) (rI0 `ZY):=Vq0 λ_ _ _ _ _ _ _ q=>gt_int q
theorem Jx0:OpR X (`d9 .GtE) (rI0 `ZZ):=Vq0 λ_ _ _ _ _ _ _ q=>ge_int q
def i70:OpR X (`d9 .Is) `awM:=by
 apply `fr;let#[rfl,q]:=h;cases ry;refine is_none_gen (T5 I q ?_);cases x<;>first
  | (cases rx;rfl)
  | (apply `cm;rfl)
def OpR.or{f:`uO}{r r':R2}(h:OpR X f r)(h':OpR X f r'):OpR X f `awN:=by
 intro pins s σ H x y v u Q I rx ry q;apply `K4
 ·exact h `k s σ H x y v u Q I rx ry q
 ·exact h' `k s σ H x y v u Q I rx ry q
def oi0(b:`M){op:`gO}(h:`v (op≠.In) Ab)(h2:`v (op≠`uR) Ab):`xr:=by
 have e1:(op==CmpOp.In)=`r:=by cases op<;>first|rfl|exact `Z_
 have e2:(op==CmpOp.NotIn)=`r:=by cases op<;>first|rfl|exact `I rfl h2
 cases b<;>simp[`xq,e1,e2]
def Xt0{op:`gO}{r:R2}(ho:`uS)(ha:`kh)(hb:`uP)(hm:`xr):PE X `lM `K2:=by
 apply `bB;exact `avd `aww hm
def Jt0(t:TE):TT:=fun σ H Q=>t σ H λx H'=>∃k,x=`sd/\Q k H'
def k60{op:`gO}{r:R2}(ho:`uS)(ha:`kh)(hb:`uP)(hm:`xr):PT X `lM (Jt0 `K2):=by
 apply `bB;refine `avf (thn `iQ λv s1 #[x,H1,I1,r1,q1]=>thn `ZS λu s2 #[y,H2,I2,r2,q2] =>
  thn `awO λc s3 #[z,H3,I3,r3,k,e,q3]=>?_) hm
 subst e;cases r3;exact L9 #[H3,I3,q3]
def U80(r r':R2)(ta tb tc:TE):TE:=fun σ H Q=>ta σ H λx H1=>tb σ H1 λy H2=>r x y H2 λz H3=>∃k,z=`sd /\
 (if k=`d then tc σ H3 λw' H4=>r' y w' H4 Q else Q `x! H3)
def Qf0{op op':`gO}{r r':R2}(ho:`uS)(ho':`awP)(ha:`kh)(hb:`uP)(hc:PE X c tc)
  (hm:`awQ):PE X `awR (U80 r r' ta tb tc):=by
 apply `bB;refine Compare_chain (thn `iQ λv s1 #[x,H1,I1,r1,q1]=>chain_link (thn `ZS λu s2 #[y,H2,I2,r2,q2] =>
  thn `awO λd s3 #[z,H3,I3,r3,k,e,q3]=>?_)) hm
 subst e;cases r3;refine L9 ?_;cases k with
 | false=>exact ite_ff #[`xt,H3,I3,rfl,q3]
 | true=>exact ite_tt (chain_last (thn (hc `k s3 σ H3 _ I3 q3) λw' s4 #[z',H4,I4,r4,q4]=>ho' `k s4 σ H4 y z' u w' Q I4 r2 r4 q4))
def qi0:(`S:Nat)<`Sz:=by rw[`Z0];decide
def iv0:OpR X `Bp (λx y H Q=>`awS):=by
 apply `fr;skip;let#[i,j,rfl,rfl,hz,q]:=h;apply `cm;apply `cA;done;exact add_str (λt' tk=>#[`alz,H,`fG,`ac,q]) hz
def vals1{x:V}(r:`awT):`awU:=by
 cases r with
 | cons r1 r2=>cases r2;exact#[_,rfl,r1]
def vals2{x y:V}(r:`awV):∃u w',us=[u,w']/\`gn/\`c4 y w':=by
 cases r with
 | cons r1 r2 =>
  cases r2 with
  | cons r3 r4=>cases r4;exact#[_,_,rfl,r1,r3]
def Vx0(hc:`dQ):`fN X (`cT `Bq) `awW:=by
 apply `nU;skip;let#[i,j,rfl,q]:=h;let#[u,w',rfl,#[t,rfl],#[t',rfl]]:=vals2 r;done;refine min_two_ints `iT λh' tk k=>#[_,H,`KQ k,?_,q]
 by_cases hj:j<i
 ·rw[`nV,`nV];exact`ac
 ·rw[`nW,`nW];exact`ac
def Tr0:`fN X (`bD `iU) `awX:=by
 apply `nU;skip;rcases h with⟨i,rfl,q⟩|⟨k,rfl,q⟩
 ·apply `Z1
  done;exact call_int_int #[`ba,H,I,`ac,q]
 ·let#[u,rfl,r1]:=`Sd
  cases r1;done;exact call_int_bool #[`Sc,H,`fG,`ac,q]
def Z40:`fN X (`cT `Br) `awY:=by
 apply `nU;skip;let#[x,rfl,hz,q]:=h;apply `Z1;done;exact ord_of_one hz #[`cn,H,`fG,`ac,q]
universe zz
structure ObjM(h:`W)(x dx C:`g)(mA:`bJ):Prop where
 obj:`kN x=`akE
 ns:`RD
 ne:dx≠x
open T in
def S60{h:`W}(n:`RD):∃od,`kN dx=`c od/\`awZ:=by
 let#[o,es,ep,ho,hd,hk,_,hm]:=n;refine#[o,ho,λname=>?_];have e:=hm `er;unfold nsFind findBy at e;rw[← Array.find?_toList] at e;unfold W.lookIn;rw[hd];dsimp only;split
 ·rename_i y q
  rw[q] at e;exact C3 `c e
 ·rename_i q
  rw[q] at e;have a:`aw_=`r:=by
   rw[List.any_eq_false];intro y hy;let#[z,t,J]:=hk y (Array.mem_toList_iff.mp hy);simp[DictEntry.refKey,J]
  have a':¬`aw_=`d:=by rw[a];exact B5
  rw[`ap a'];exact C3 `c e
theorem ObjM.look{h:`W}{x C:`g}(I:ObjM h x dx C mA):∃od,W.InstAt h x `akD C (`c od)/\`awZ :=
 let #[od,ho,hl]:=S60 I.ns
 #[od,#[I.obj,rfl,rfl,ho],hl]
section
variable{w:`X}{s:`y}{x C f:`g}{v:`J}
def get_map{expr:`aa}{Q:`aF}(X:`uT)(I:`Z2)(hg:`aw0)(hh:`Z3)
  (ha:`aw1=`c8) (hv:`Se=`b6) (hv':`aw2 v=`d) (h:Q v `o0) :
  `u `aC A (`Z4 `xG `er expr) Q E s:=by
 apply `Z5;exact W.get_value X J (x8 hg).1 (W.findObj_own hh ha rfl (by rw[hl,hv])) hv' h
def Rp0{pl:`uU}{Q:`aw3}(X:`uT)(I:`Z2)(hg:`aw0)
  (hf:`aw1=`E6) (ht:`Z6) (hv:`Se=`e) (h:Q (`Ez,[`C x]) s) :
  `u `aC A (`Sl `xG `er pl) Q E s:=by
 apply `Z5;exact W.method_fn X J (x8 hg).1 (x8 hg).2 hf (N3.mp ht) (by show (`alC).map `anz=`bv;rw[hl,hv];rfl) h
def Nd0{ns:`h}{Q:`qT}(X:`uT)(I:`Z2)
  (hs:`aw4) (hp:`aw5) (ht:W.takerIn K C `er=`c8) (hh:`Z3)
  (hw:`akF mA ns) (hsz:`aw6)
  (h:∀h',ObjM h' x dx C (λy=>if y=`er then `b6 else mA y)->`r9 dx `aK h'->Q () { s with heap:=h',toks:=`bu+2 }) :
  `u `aC A (setAttr `xG `er v) Q E s:=by
 apply `Z5;refine W.set_plain X J hs (W.osa_open (s:=`o0) (r:=`e) X J hp ht λb=>?_);let#[cd,hc,Y]:=W.any_some hh;have hx:`dn x=`c #[`sf,`Bs,.plain,⟨⟩]:=I.obj;refine A0 (A1 (A0 (A0 (wpAny_loadPart hx (A0 (W.Looks.here (s:=`o0) (W.looks_clsIn X hc) ?_))))));rw[Y];refine A1 (a:=`Bs) (A0 (A1 (`nX)));refine wpAny_nsSet1 (s:=`o0) I.ns λh' M O=>?_
 let#[oD,a3,a2,U,Z,a1]:=M.count (PySem.Within.cons `er v hw);refine A0 (wpAny_lookBehind U (by rw[Z];exact pastItsLine_dict (B4 a1 (`lA))) ?_);exact A1 (h _ #[(O.2 _ (B8 I.ne)).trans I.obj,M,I.ne] O)
def P50{R:`qN}{vs:`ah}{kw:`pd}(X:`uT)(hm:`Z7)
  (hi:`aw7) (hf:W.typeIn K `eo=`atP)
  (h:`g? `aC (A.under (`cT `alO #[`sf::vs,kw])) (`o' `eo #[`C `h?::vs,kw]) (W.InitBack `h? R)
   `aw8) :
  `g? `aC A (`o' `fI #[vs,kw]) R s:=by
 let#[hh,g,d,t,os]:=s;exact W.make_core (W.makes_of X hm) (W.looks_findIn X hi) (λself=>W.bind_fn X self hf) `gg h
universe zz
def ys0(f:Str)(v:V):`iO->`iO
 | []=>[(f,v)]
 | (g,x)::r=>if g=f then (g,v)::r else (g,x)::`alI
theorem kv0(f g:Str)(v:V):∀fs:`iO,(`Si).lookup g=if g=f then `b6 else `ED g
 | []=>by
  show `lQ g [(f,v)]=_
  by_cases h:g=f
  ·have hb:(g==f)=`d:=N3.mpr h
   simp only[`lQ,hb,`cQ]
  ·have hb:(g==f)=`r:=`mW h
   simp only[`lQ,hb,`dI]
 | `E7=>by
  have ih:=kv0 f g v r;apply `Z8
  by_cases hk:k=f
  ·rw[`Bt]
   by_cases h:g=k
   ·have hb:(g==k)=`d:=N3.mpr h
    simp only[`lQ,hb,`R (h.trans hk)]
   ·have hb:(g==k)=`r:=`mW h
    simp only[`lQ,hb,`ap (λe:g=f=>h (e.trans hk.symm))]
  ·rw[`K5]
   by_cases h:g=k
   ·have hb:(g==k)=`d:=N3.mpr h
    simp only[`lQ,hb,`ap (λe:g=f=>hk (h.symm.trans e))]
   ·have hb:(g==k)=`r:=`mW h
    simp only[`lQ,hb];exact ih
theorem mj0(f:Str)(v:V):∀fs:`iO,f∈`aw9/\∀g,g∈`RC->g∈`aw9
 | []=>#[`aw',λg h=>`gP]
 | `E7=>by
  let#[i1,i2]:=mj0 f v r;apply `Z8
  by_cases hk:k=f
  ·rw[`Bt]
   subst hk;exact#[`a6,λg h=>`am!]
  ·rw[`K5]
   refine#[?_,λg h=>?_]
   ·rw[`_]
    exact A6 _ i1
   ·rw[`_] at h ⊢
    rcases `bm h with e|e
    ·exact A5.mpr (`qW)
    ·exact A6 _ (i2 g e)
theorem j60(f:Str)(v:V):∀fs:`iO,(`Si).length<=`EC+1
 | []=>`aw'
 | `E7=>by
  have ih:=j60 f v r;apply `Z8
  by_cases hk:k=f
  ·rw[`Bt,`Z,`Z];lia
  ·rw[`K5,`Z,`Z];lia
def RelO.some_of{o:`mg}(r:`oI `r1 o):∃u,o=`br/\`fD:=by
 cases o with
 | none=>apply `K6
 | some u=>exact#[u,rfl,r]
def RelO.none_of{o:`mg}(r:`oI `e o):o=`e:=by
 cases o with
 | none=>rfl
 | some u=>apply `K6
def Sq0(r:`fD):`aw2 u=`d:=by
 cases v with
 | non=>cases (show u=`s9 from r);rfl
 | bl b=>cases (show u=`x1 b from r);rfl
 | int i=>apply `aw!;cases e;rfl
 | str x=>apply `aw?;cases e;rfl
 | byt b=>let#[t,e]:=(show `at1 from r);cases e;rfl
 | flt b=>let#[t,e]:=(show `at2 from r);cases e;rfl
 | ref a=>cases (show `Gk from r);rfl
 | ty n=>cases (show u=`la n from r);rfl
section
variable{P:`aw}{w:`X}{h:`W}{C:`g}{fs fs':`iO}
def fp0(hok:`fn)(e:`K7):∃mA,ObjM h a dx C mA/\(`RE)/\`akG/\`Yx/\`Yw:=by
 skip;let#[d,z,ne,ob,mA,n,r,q]:=(show `cC P w H h a (`kU) from hok a _ e);done;exact#[mA,#[ob,n,ne],r,q,z,d]
universe zz
structure Cls(K:`B)(C:`g):Prop where
 pg:`axa=`d
 hd:`Z3
 po:`aw5
 sa:`aw4
theorem Cls.get{C:`g}(c:`qX)(f:Str):`Sf K C f=`d:=c.pg
def NoAttr(K:`B)(C:`g)(f:Str):Prop:=`axb
def NoAttr.taker{C:`g}{f:Str}(n:`uV):W.takerIn K C f=`c8:=by
 unfold W.takerIn;rw[show `axb from n];rfl
structure Meth(K:`B)(C:`g)(m:Str)(f:`g):Prop where
 at_:`cD K `fI m=`E6
 fn:`Z6
 kp:`K8
section
variable{σ:St}{s:`y}{C:`g}{fs:`iO}{f:Str}
def gd0{b:`aa}{Q:`aF}(I:`F)(e:`K7)(c:`Bu)(n:`axc)(l:`Z9)
  (h:∀u s',`Bv->`fD->Q u s'):`u `aq A (`Z4 `d7 f b) Q E s:=by
 skip;apply `axd;let#[u,hu,ru]:=`Z' (v:=v) (o:=mA f) (by rw[← l];exact r f);done;exact get_map `d8 O (c.get f) c.hd n hu (Sq0 ru) (h u _ `GF ru)
def ik0{m:Str}{g:`g}{pl:`uU}{Q:`aw3}(I:`F)(e:`K7)(c:`Bu)(k:Meth X.K C m g)(l:`K9)
  (h:Q (`C g,`fP) s):`u `aq A (`Sl `d7 m pl) Q E s:=by
 apply `axd;have hn:mA m=`e:=RelO.none_of (by rw[← l];exact r m);exact Rp0 `d8 O (c.get m) k.at_ k.fn hn h
def ga0{y:V}{Q:`qT}(I:`F)(e:`K7)(c:`Bu)(n:`axc)(hl:`zf)(ry:`fp)
  (h:∀s',Inv X `k σ (upd H a `axe) s'->`KF):`u `aq A (setAttr `d7 f u) Q E s:=by
 let#[mA,O,r,wi,_,ho]:=`alM;have hz:(`RC).length<=`S:=by rw[`K,`Z0];lia
 refine Nd0 `d8 O c.sa c.po n.taker c.hd wi hz λh' O' sb=>h _ ?_
 have hd:∃o,`g0 dx=`au:=let #[o,_,_,e',_]:=O'.ns;#[o,e']
 refine `K' (x:=a) (e:=dx) `GG (`q ho) (λb q hb z=>`ali z) hd ?_;refine#[by rw[d7 O.ne];exact ho,?_,O.ne,O'.obj,_,O'.ns,λg=>?_,λg hg=>?_]
 ·have:=j60 f y fs;lia
 ·show `oI ((`alN).lookup g) `axf
  rw[kv0]
  by_cases q:g=f
  ·rw[`qY,`qY];exact ry
  ·rw[`nY,`nY];exact r g
 ·by_cases q:g=f
  ·rw[q];exact(`axg).1
  ·refine(`axg).2 g (wi g λz=>hg ?_)
   show `axf=`e;rw[`nY];exact z
def Inv.made(I:`F):Inv X `k σ (upd (upd H `Y (`axh)) `h? (`axi))
  `aw8:=by
 have e1:(`xE).get? `Y=`c `Sg:=C4 `aK rfl;have e2:(`alH).get? `h?=`c (`Sh):=by
  have:=C4 (`xE) (o:=`Sh) rfl
  rwa [x9] at this
 have e3:(`xE).Ns `Y (`uW):=#[`Sg,⟨⟩,_,e1,rfl,(λe he=>`I he `aB),`iI];have I1:=`lR (a:=`Y) (o:=`axh) (h':=`xE) (t':=`bu) (λb u q=>`xQ) `bi #[_,e1];refine `E! (a:=`sg) (o:=`axi) (t':=`bu) (λb u q=>`xQ) (E7 (x9 _ _)) ?_;have ne:`Y≠`sg:=B0 (X0 _);refine#[by rw[d7 ne,j5],`cu,ne,e2,`uW,(Heap.Ns1.of_empty e3).at λo q=>`xQ,λ_=>`kV,λy hy=>`I rfl hy]
theorem Nz0{prog:`aw}{w:`X}{env:Env}{f:Str}{pos:Pos}{s:`y}{Q:`aF}(hb:`fJ e f env (`Z!)=`Z!)
  (h:`u `aC A (`Z!) (λo s₁=>`u `aC A (`Z4 o f `d) Q E `es) E s):`u `aC A (`bg `Z? env) Q E s :=
 Attribute_any_ h (by rw[arm_eval_Attribute,hb])
universe zz
def It0(K:`B)(ta:TE)(f:Str):TE:=fun σ H Q=>ta σ H λx H1=>∃a C dx fs v,`de/\`K!/\`qX/\`uV/\`Z9/\Q v H1
def Ix0(K:`B)(ta tv:TE)(f:Str):TS:=λD σ H=>tv σ H λy H1=>ta σ H1 λx H2=>∃a C dx fs,`de/\H2 a=`ms/\`qX/\`uV/\`zf /\
 `ji σ (upd H2 a `axe)
def Li0(X:Cx)(op:`Bo)(rd:`Bm):Prop :=
 ∀(pins:`aI) (s:`y) (σ:St) (H:Hp) (x y:V) (u v:`J) (Q:VK),`F->`gn->`c4 y v->rd x y H Q->`u `aq X.A (inplaceOp op u v) `e3 `aL s
def No0(K:`B)(ta tv:TE)(rd:`Bm)(f:Str):TS:=λD σ H=>ta σ H λx H1=>∃a C dx fs v,`de/\`K!/\`qX/\`uV/\`Z9 /\
 tv σ H1 λy H2=>rd v y H2 λz H3=>∃dx' fs',H3 a=`c (`g_ C dx' fs')/\fs'.length<1000/\`ji σ (upd H3 a (`g_ C dx' (ys0 f z fs')))
section
variable{f:Str}
def K70(he:PE X e ta)(hb:`axj):PE X `Z? (It0 X.K ta f):=by
 apply `bB;refine Nz0 hb (thn `iS λu s1 hq26=>?_);skip;let#[x,H1,I1,rx,a,C,dx,fs,v,ex,ea,c,n,l,q]:=hq26;subst ex;apply `uX;done;exact gd0 I1 ea c n l λu' s2 I2 ru=>#[v,H1,I2,ru,q]
def bt0(ha:`K?)(hv:`axk)(hs:`g4 `eZ (`c (`axl)) `h4 `A=`g5):PS X (`h8 [`axl] `eZ pos) (Ix0 X.K ta tv f):=by
 apply `iR;refine plainObj_wpAny_Assign_Attribute (thn (hv `k s σ H _ I h) λu s1 hq27=>?_) hs;let#[y,H1,I1,ry,q]:=hq27;refine thn (ha `k s1 σ H1 _ I1 q) λov s2 hq28=>?_;skip;let#[x,H2,I2,rx,a,C,dx,fs,ex,ea,c,n,l,q2]:=hq28;subst ex;obtain rfl:ov=`rP:=rx;done;exact ga0 I2 ea c n l ry λs3 I3=>#[σ,_,I3,q2]
def Sf0{op:`Bo}{rd:`Bm}(ha:`K?)(hv:`axk)(hop:Li0 X op rd):PS X (`axm (`dq o f tpos) op `eZ pos) (No0 X.K ta tv rd f):=by
 apply `iR;refine wpAny_AugAssign_AttributeAny (thn `iQ λov s1 hq29=>?_);skip;let#[x,H1,I1,rx,a,C,dx,fs,v,ex,ea,c,n,l,q]:=hq29;subst ex;obtain rfl:ov=`rP:=rx;done;refine gd0 I1 ea c n l λu s2 I2 ru=>thn (hv `k s2 σ H1 _ I2 q) λw3 s3 hq30=>?_;let#[y,H2,I3,ry,q3]:=hq30;refine thn (hop `k s3 σ H2 v y u w3 _ I3 ru ry q3) λw4 s4 hq31=>?_;skip;let#[z,H3,I4,rz,M,fs',J,l',q4]:=hq31
 done;exact ga0 I4 J c n l' rz λs5 I5=>#[σ,_,I5,q4]
def H50:`Bm:=λx y H Q=>∃i j,`Bn/\y=`fH/\Q (`E1) H
def L60:Li0 X .Add H50:=by
 rintro pins s σ H x y u v Q I rx ry ⟨i,j,rfl,rfl,q⟩;let#[t,rfl]:=(show `E9 from rx);let#[t',rfl]:=(show ∃t',v=`Ry j t' from ry);exact PyProof.Rows.iadd_int #[`E1,H,`fG,`ac,q]
universe zz
structure Room(k:Nat)(A:`cK):Prop where
 hd:`gQ
 dp:`La+3*k+5<`axn
 un:`jq+16*k+200<`ic
theorem Room.mono{k:Nat}(r:`Bw)(h:j<=k):`go j A:=#[r.hd,`axo,`axp]
theorem Room.deeper{k:Nat}(r:`axq)(env:Env):`go k (`xH env) :=
 #[r.hd,by have:=r.dp;show `La+1+3*k+5<_;lia,by have:=r.un;show `jq+3+16*k+200<_;lia]
def Vo0{C:`g}:(`Lb).depth=`La+1:=by
 first|rfl|simp[`_a,Code.weight,Code.isCreation,Code.isGuard,Code.isCaller,`axr,`_b,guardIds]
def Vg0{C:`g}:(`Lb).units=`jq+1:=by
 first|rfl|simp[`_a,Code.cUnits,`axr,`_b]
theorem Room.make{k:Nat}(r:`axq)(C:`g)(us:`ah)(kw:`pd):`go k (`Lb) :=
 #[r.hd,by have:=r.dp;rw[Vo0];lia,by have:=r.un;rw[Vg0];lia]
def Room.depth{k:Nat}(r:`Bw):`La<`axn:=`axo
def Room.units{k:Nat}(r:`Bw):`jq+64<`ic:=`axp
def Wp0:TA:=λ_ H Q=>Q [] H
def Jj0(ta:TE)(tr:TA):TA:=fun σ H Q=>ta σ H λx H1=>tr σ H1 λxs H2=>Q (`lS) H2
section
variable{t:TA}
theorem y20:PA X [] Wp0:=λ_ _ _ _ H Q I h=>X1 `axs
def N7(ha:`f8)(hr:`uY)(hs:`ej):PA X `gp (Jj0 te t):=by
 intro pos pins s σ H Q I h;rw[hs];show `u _ _ (`A! (`o1::`Sk)) _ _ s;refine P8 (thn `iQ λu s1 hq32=>?_);let#[x,H1,I1,r1,q1]:=hq32;exact thn (hr pos `k s1 σ H1 _ I1 q1) λus s2 #[xs,H2,I2,r2,q2]=>#[`lS,H2,I2,`ai r1 r2,q2]
def H40(t:TA):TE:=fun σ H Q=>t σ H λxs H1=>`hJ/\∀p,`_c->Q `dr (upd H1 p `rY)
def Iv0(t:TA):TE:=fun σ H Q=>t σ H λxs H1=>`hJ/\∀p,`_c->Q `dr (upd H1 p `mo)
def a90{x1}(h:`uY):PE X (`ld es x1 pos) (H40 t):=by
 intro pins s σ H Q I hq;refine wpAny_Tuple_spliced (thn `axt λus s1 hq33=>?_);let#[xs,H1,I1,r,z,q]:=hq33;apply `axu;have hf:H1 `gm=`e:=`EZ;refine#[`axv,upd H1 `gm `rY,`axw,rfl,q _ hf];exact#[z,us,r,`Yv]
def gl0(h:`uY):PE X `_d (Iv0 t):=by
 intro pins s σ H Q I hq;refine wpAny_List_spliced (thn `axt λus s1 hq34=>?_);let#[xs,H1,I1,r,z,q]:=hq34;apply `axu;have hf:H1 `gm=`e:=`EZ;refine#[`axv,upd H1 `gm `mo,`axw,rfl,q _ hf];exact#[z,us,0,r,`fz]
universe zz
abbrev Sp:=`N->Hp->VK->XK->Prop
abbrev CXT:=`f7->Hp->`y->XK->`aF
variable{sp:L2.Sp}
structure Env0(P:`aw)(w:`X)(K:`B)(mg:`bJ)(base:`W)(A:`cK)(outer:`f7)(s:`y)(H:Hp):Prop where
 frames:A.frames=`c `cE
 mod:Mod K mg `m
 bs:∀b o,base.get? b=`au->`auD
 bsz:base.objs.size<=`Y
 funs:`Kr `m `cE
 frf:∀b∈frs `cE,`c6
 hok:HOk P w H `aK
 bare:`xp `uL
variable{CX:L2.CXT}
def CE(outer:`f7)(P:`aw)(w:`X)(H:Hp)(s:`y)(Q:VK)(u:`J)(s':`y):Prop :=
 ∃v H',`au7/\`SH/\Un (frs `cE) [] H H' `aK `oZ/\HOk P w H' `oZ/\`au9
def CR(CX:CXT)(outer:`f7)(P:`aw)(w:`X)(H:Hp)(s:`y)(Q:VK)(E:XK)(r:Result)(s':`y):Prop :=
 match r with
 | .ok (`hY u)=>`axx
 | .ok _=>`bW
 | .error e=>CX `cE H s E e s'
structure FnOk(P:`aw)(w:`X)(K:`B)(mg:`bJ)(base:`W)(CX:CXT)(k:Nat)(f:`g)(fd:`hI)(ps:`h)(sp:Sp):Prop where
 len:`_e
 run:∀(A:`cK) (outer:`f7) (s:`y) (H:Hp) (args:Args) (us:`ah) (vs:`N) (Q:VK) (E:XK),`Bw->`_f->`Fy s fd `iV `Bx->`uM->`E? ->
  `g? `o9 A (`o' `eo `iV) (CR CX `cE P w H s Q E) s
theorem Env0.make{P:`aw}{w:`X}{outer:`f7}{s:`y}(e:`_f)(C:`g)(us:`ah)(kw:`pd) :
  Env0 P w K mg `m (`Lb) `cE s H:=#[by first|exact `_g|(simpa [`_a,Code.envs,`_b,pushEnvs] using `_g),e.mod,e.bs,e.bsz,e.funs,e.frf,e.hok,e.bare]
section
variable{σ:St}{s:`y}
theorem Inv.env0(I:`F):Env0 `a? X.w X.K `cc `d5 X.A `h2 s H :=
 #[I.ok.frames,I.ok.mod,I.bs,B4 I.ok.bsz I.sz,I.stack,I.stkFree,`b7,`iP]
def Inv.after{Q:VK}(I:`F)(h:CE `h2 `a? X.w H s Q u s'):EP X `k σ Q u s':=by
 skip;let#[v,H',os,bare,un,hok,r,q]:=h;let#[hh,g,d,t,J]:=s';obtain rfl:J=s.os:=os;done;exact#[v,H',I.call (h':=hh) (g':=g) (d':=d) (t':=t) (ch:=[]) un hok bare (λb z=>`I z `aB),r,q]
universe zz
def Je0(sp:Sp)(dvs:`N)(E:XK)(t:TA):TE:=fun σ H Q=>t σ H λvs H1=>sp `nZ H1 Q E
def Jk0(C:`g)(m:Str)(sp:Sp)(dvs:`N)(E:XK)(ta:TE)(t:TA):TE:=fun σ H Q=>ta σ H λx H1=>∃a dx fs,`de/\`K!/\`K9 /\
 t σ H1 λvs H2=>sp (x::`nZ) H2 Q E
def Id0(C:`g)(sp:Sp)(dvs:`N)(E:XK)(t:TA):TE:=fun σ H Q=>t σ H λvs H1=>∀x dx,H1 x=`e->H1 dx=`e->dx≠x ->
 sp (`C x::`nZ) (upd (upd H1 dx (`fA x)) x `Sm) `axy E
def Binds(K:`B)(fd:`hI)(ps:`h)(ds:`ah):Prop :=
 ∀(s:`y) (us:`ah),`uT->`axz->`Fy s fd `Lc (`o2 `Fc)
theorem Binds.all{ps:`h}(h:∀us:`ah,`eI=`aA->`qL fd `Lc=`b3 `Bx):`yx:=λs us _ hl=>by
 rw[`bc] at hl ⊢;exact .of_eq (h us hl)
def qq0(CX:CXT)(X:Cx)(E:XK):Prop:=∀(pins:`aI) (σ:St) (H:Hp) (s:`y) (e:`J) (s':`y),`F->CX `h2 H s E e s'->`aL e s'
section
variable{k:Nat}{f C:`g}{ps:`h}{ds:`ah}{E:XK}{m:Str}{p:Pos}{t:TA}
def Y60{pins:`aI}{σ:St}{H:Hp}{s:`y}{Q:VK}{us:`ah}{vs:`N}(F:`uZ)(hr:`By)(hb:`u_)(hd:`u0)(hx:`u1)
  (I:`F) (r:`uM) (h:sp `nZ H Q E):`u `aq X.A (`e2 `eo us) `e3 `aL s:=by
 have r2:`bE `nZ `Fc:=`Bz hd;have hl:`axz:=by rw[← `mQ];exact F.len _ _ _ _ h
 refine `axA (X2 (F.run X.A `h2 s H `Lc `Fc `nZ Q E hr I.env0 (hb s us `d8 hl) r2 h) `_h);cases r with
 | error e=>exact hx `k σ H s e s' I hq
 | ok fl =>
  cases fl with
  | ret u=>exact I.after hq
  | next=>exact `eJ hq
  | brk=>exact `eJ hq
  | cont=>exact `eJ hq
def k00(F:`uZ)(hr:`By)(hg:`k5)(hm:`mn=`c `eo)(hk:`cs X.K `eo=`d)(hb:`u_)(hd:`u0)(hx:`u1)
  (ha:`u2) (hdb:`aZ) (he:`ej) (hpl:`gR) :
  PE X `xJ (Je0 sp dvs E t):=by
 apply `bB;refine `axB;refine `axC (h₀:=`d5) `axD hk (thn `Fg λus s1 hq35=>?_) he hpl;let#[vs,H1,I1,r,q]:=hq35;refine #[I1.kIn,?_];exact Y60 F hr hb hd hx I1 r q
def Ol0{pl:`uU}(he:`K?)(c:`Bu)(hm:`axE)(F:`uZ)(hr:`By)(hb:`u_)(hd:`u0)(hx:`u1)(ha:`u2)
  (hst:`ej) (hpl:`gR)
  (ht:`v (`bg `axF `A=(do
   let ov ← `h7
   `Ld
   let (f,`sh) ← `Le
   `axG)) Aa) :
  PE X `axF (Jk0 C m sp dvs E ta t):=by
 apply `bB;refine `axH (pl:=pl) (thn `iS λu s1 hq36=>?_) ht;skip;let#[x,H1,I1,rx,a,dx,fs,ex,ea,l,q]:=hq36;subst ex;apply `uX;done;refine `axI;refine `axC (first:=`fP) (h₀:=`d5) `axD hm.kp (thn (ha pos `k s1 σ H1 _ I1 q) λus s2 hq37=>?_) hst hpl;let#[vs,H2,I2,r,q2]:=hq37;refine #[I2.kIn,?_];exact Y60 (us:=`ce::us) (vs:=`ce::vs) F hr hb hd hx I2 (`ai rfl r) q2
structure Mk(K:`B)(C f:`g):Prop where
 makes:`Z7
 init:`aw7
 fn:`Z6
 kp:`_i=`d
def R30{pins:`aI}{σ:St}{H:Hp}{s:`y}{Q:VK}{us:`ah}{vs:`N}(M:`axJ)(F:`uZ)(hr:`axK)(hb:`u_)(hd:`u0)
  (hx:`u1) (I:`F) (r:`uM)
  (h:∀x dx,H x=`e->H dx=`e->dx≠x->sp (`C x::`nZ) (`axL) `axy E) :
  `u `aq X.A (`e2 `fI us) `e3 `aL s:=by
 have hq:=h `h? `Y (`si (Nat.le_succ _)) `Fl (B0 (X0 _));have I2:=Inv.made (C:=C) I;have r2:`bE (`axM::`nZ) `axN:=`ai rfl (`Bz hd);have hl:(`_j++ds).length=`aA:=by
  have e:=`mQ;rw[F.len _ _ _ _ hq] at e;exact e.symm
 refine `axA (P50 (f:=f) `d8 M.makes M.init (N3.mp M.fn) (X2 (F.run _ `h2 _ _ #[`_j,[]] `axN _ _ E (hr.make C us [])
  (I2.env0.make C us []) (hb _ (`_j) I2.kIn hl) r2 hq) λr s' J=>?_))
 skip;cases r with
 | error e=>done;exact hx `k σ _ _ e s' I2 J
 | ok fl =>
  cases fl with
  | ret u =>
   let#[v,H',I3,rv,ev,q3]:=I2.after J;subst ev;done;exact#[rv,#[`axM,H',I3,rfl,q3]]
  | next=>done;exact `eJ J
  | brk=>done;exact `eJ J
  | cont=>done;exact `eJ J
def Q40(M:`axJ)(F:`uZ)(hr:`axK)(hg:`k5)(hm:`mn=`FX)(hb:`u_)(hd:`u0)(hx:`u1)
  (hdb:`aZ):PE X (`a0 `Fa [] [] pos) (Id0 C sp dvs E Wp0):=by
 apply `bB;refine `axB;exact `axO `d8 M.kp (R30 (us:=[]) M F hr hb hd hx I `L h)
universe zz
structure FnScope(N P:`h)(sc:`cz):Prop where
 kind:`axP
 co:`axQ
 gen:`axR
 nd:`KE
 pre:N.take `j8=P
 par:∀x∈P,`YW
 nofree:∀y∈`Lf,`axS
theorem d60{kindOf:`Lg}:∀{binds:`pd} {m:`bJ},`axT->`BA `kl binds m x=m x
 | [],_,_=>rfl
 | (n,v)::r,m,h=>by
  unfold bindL;rw[d60 `axU];split
  ·apply `axV
   simp[`E]
  ·rfl
theorem dt0{kindOf:`Lg}:∀{binds:`pd} {m:`bJ},`axT->`BB `kl binds m x=m x
 | [],_,_=>rfl
 | (n,v)::r,m,h=>by
  unfold bindC;rw[dt0 `axU];split
  ·rfl
  ·apply `axV
   simp[`E]
theorem ez0{kindOf:`Lg}{v:`J}:∀{P:`h} {vs:`ah} {i:Nat} {m:`bJ},P.Nodup->`axW->`_k->`kl x=`ml ->
  `BA `kl (`So) m x=`b6
 | [],_,_,_,_,h,_,_=>`gP
 | `dJ,[],_,_,_,_,h,_=>`gP
 | p::P,w::vs,0,m,nd,h1,h2,hk=>by
  simp at h1 h2;subst h1;subst h2;show `BA `kl `Lh m p=_;unfold bindL;rw[d60 `axX,`Bt];simp
 | p::P,w::vs,i+1,m,nd,h1,h2,hk=>by
  show `BA `kl `Lh m x=_;unfold bindL;exact ez0 (i:=i) (`Sp).2 (`rQ) (`Li) hk
theorem dq0{kindOf:`Lg}{v:`J}:∀{P:`h} {vs:`ah} {i:Nat} {m:`bJ},P.Nodup->`axW->`_k->`kl x≠`ml ->
  `BB `kl (`So) m x=`b6
 | [],_,_,_,_,h,_,_=>`gP
 | `dJ,[],_,_,_,_,h,_=>`gP
 | p::P,w::vs,0,m,nd,h1,h2,hk=>by
  simp at h1 h2;subst h1;subst h2;show `BB `kl `Lh m p=_;unfold bindC;rw[dt0 `axX,`K5];simp
 | p::P,w::vs,i+1,m,nd,h1,h2,hk=>by
  show `BB `kl `Lh m x=_;unfold bindC;exact dq0 (i:=i) (`Sp).2 (`rQ) (`Li) hk
def start(N:`h)(vs:`N):St:=`hm `c++`a1 (`BC - `cg) `e
def n80(CX:CXT)(P:`aw)(w:`X)(K:`B)(mg:`bJ)(base:`W)(N:`h)(qual:Str)(scope:`cz)(f:`g)(cd:`J)(A:`cK)(outer:`f7)(s:`y)(H:Hp)(E:XK):Cx where
 prog:=P
 w:=w
 K:=K
 mg:=mg
 base:=`m
 A:=`axY
 N:=N
 s₀:=s
 H₀:=H
 env:=`xI
 outer:=`cE
 stack:=`xI::`cE
 ex:=[]
 calm:=`d
 fn:=λ_=>`d
 pn:=[]
 xe:=λe s'=>`u `o9 (`axY) (leaving (`xI) e) (λ_ s''=>CX `cE H s E e s'') (λe' s''=>CX `cE H s E e' s'') s'
def a00(h:`RM):∃c,(`alW n `Lf []).lookup x=`d6:=by
 have q:=`axZ `Lf n [] (`p h);exact Option.isSome_iff_exists.mp q
def Tf0{CX:CXT}{P:`aw}{w:`X}{K:`B}{mg:`bJ}{base:`W}{N ps:`h}{qual:Str}{scope:`cz}{f:`g}{cd:`J}{A:`cK}{outer:`f7}{s s1:`y}{H:Hp}{E:XK}{us:`ah}{vs:`N}
  (S:`ax_) (hd:`gQ) (e0:`_f) (hl:`cg=`aA) (r:`uM)
  (x:InCallC s `Y (`BA `ax0 `Bx `uW) (`ax1) (`BB `ax0 `Bx `uW) s1) :
  Inv (`ax2) [] `Fe H s1:=by
 have O:`aA<=`BC:=by have:=C3 `tJ S.pre;rw[`dS] at this;lia
 let#[h1,tk,rfl,hk]:=x.done;have J:∀b:`g,b∉(`ax2).ex:=λb z=>`ax3
 refine#[#[e0.mod,S.kind,rfl,rfl,`jl,λy z c h1 h2=>?_,λy hy=>?_,λy c _ h=>?_,λ_=>hd,Around.frames_deeper e0.frames,`ax4,`ax5,e0.bs,e0.bsz,λb _ _=>J b,`ax5,e0.funs,e0.frf],
  rfl,e0.bare,`Ko hk,#[_,x.toInCall.ns,λi y v h1 h2 h3=>?_],λy c h=>#[_,x.cell y c h],`ax6 `bi,λy c h=>?_,λp hp=>`I (show p∈([]:`aI) from hp) `aB,e0.hok.kept hk,?_]
 ·exact name_of_addr x.apart (E8 h1) (E8 h2)
 ·have hy:`FA=`jf∨`FA=`kZ:=hy
  rcases hy with hy|hy
  ·exact a00 hy
  ·exact `I rfl (S.nofree _ (E8 hy))
 ·exact `ax7
 ·have hi:i<`cg:=by
   unfold start at h2
   by_cases hi:i<`cg
   ·exact hi
   ·rw[`_l] at h2
    rw[`lT] at h2;split at h2<;>cases h2
  have ha:`_k:=by
   unfold start at h2;rw[`Lj,`bN] at h2;cases e:vs[i]? with
   | none=>rw[e] at h2;cases h2
   | some a=>rw[e] at h2;cases h2;rfl
  let#[u,hu,rv]:=`sq ha;have hp:ps[i]?=`ep:=by
   rw[← S.pre,List.getElem?_take_of_lt `j];exact h1
  have M:ps.Nodup:=by rw[← S.pre];exact S.nd.sublist (List.take_sublist _ _)
  refine#[u,rv,?_];rcases S.par y (C5 hp) with k|k
  ·exact `p #[k,ez0 M hp hu k]
  ·let#[c,e]:=a00 (n:=`sg) k
   refine `q #[`p k,c,e,?_];have q:=x.cell y c e;rw[dq0 M hp hu (by show `FA≠_;rw[k];decide)] at q;exact q
 ·exact `ax6 (`ax7)
 ·unfold start
  show _=`BC;rw[`O,`K,`qZ];lia
def Ky0{CX:CXT}{P:`aw}{w:`X}{K:`B}{mg:`bJ}{base:`W}{k:Nat}{f:`g}{name qual:Str}{params:Arguments}{body:`eh}{scope:`cz}{dV kV doc pm cdv ct oc:`J}{an od:`fl}
  {osl:`n_} {N ps:`h} {sp:Sp} (lk:`Lk=`c #[oc,od,`co `ax8,osl]) (hcd:`_m) (S:`ax_)
  (len:`_e)
  (hbody:∀(A:`cK) (outer:`f7) (s:`y) (H:Hp) (vs:`N) (Q:VK) (E:XK),`go k (`xH (`Fd `fM `cF `Y f cdv))->`E? ->
   ∃t,PSs `_n `gk t/\`ax9) :
  `T P w K mg `m CX `fK f `ax8 ps sp:=by
 refine#[len,λA outer s H Y us vs Q E hr e0 hb r O=>?_];have hl:=len _ _ _ _ O;have KX:`uT:=e0.mod.kin.keeps `ax'
 have U:s.heap.NoLimit:=e0.mod.nolimit.keeps `ax'
 have M:∀y∈`o2 us,`ams∨(`sj y.1=`jf/\((`ax1).lookup y.1).isSome=`d):=λhq38 hy=>by
  let#[n,v]:=hq38
  rcases S.par n (y0 hy).1 with q|q
  ·exact `kf
  ·exact `q #[q,`axZ _ _ _ (`kf)]
 refine codeAny_call_function hr.depth (KX _ _ lk) rfl S.co S.gen rfl (W.codeRec_of KX hcd) (hb _ _ _ _ ?_);refine wpAny_newFunctionEnv_cells S.kind M λenv he s1 x=>?_
 subst he;refine#[U.keeps x.toInCall.keep,codeAny_func ?_];let#[t,ht,hq]:=hbody A `cE s H vs Q E (hr.deeper _) O;have I:Inv `_n [] `Fe H s1:=Tf0 S hr.hd e0 hl r x;refine D6 (ht [] s1 `Fe H _ I hq) (λfl s' hs=>?_) λe s' hs=>hs
 skip;have fin:∀{σ':St} {H':Hp} {v:V} {u:`J},Inv `_n [] σ' H' s'->`fD->`oQ->`axx :=
  λ{σ' H' v u} J rv q=>#[v,H',J.os,J.bare,J.base,J.hok,rv,q]
 cases fl with
 | ret u =>
  let#[v,σ',H',J,rv,q]:=hs;done;exact fin J rv q
 | next =>
  let#[σ',H',J,q]:=hs;done;exact fin (v:=V.non) (u:=`s9) J rfl q
 | brk =>
  let#[_,_,_,q]:=hs;done;exact `eJ q
 | cont =>
  let#[_,_,_,q]:=hs;done;exact `eJ q
section
variable{p:Pos}{t:TA}{id T:`cO}
def tCB(r:`mw)(t:TA):TE:=fun σ H Q=>t σ H λvs H1=>r vs H1 Q
def nn0(hc:`ax!)(hg:`k5)(hm:`nP)(hv:`ax?)(ha:`u2)(hn:`nQ)(hdb:`aZ)
  (he:`ej) (hpl:`gR):`aya:=by
 apply `bB;apply `ayb;exact PyProof.Rows.callWith_builtin1 `ayc he hpl
def pm0(hc:`_o)(hg:`k5)(hm:`nP)(hv:`_p)(ha:`u2)(hn:`nQ)(hdb:`aZ)
  (he:`ej) (hpl:`gR):`aya:=by
 apply `bB;apply `ayb;exact M1 `ayc he hpl
universe zz
universe L2
variable{r:`au8}{X:L2.Cx}{ta tb te tv td ty:L2.TE}{CX:L2.CXT}{sp:L2.Sp}
namespace HT
open PyProof.Rows
section
variable{w:`X}{s:`y}
def Ne0{t b:`g}{vs ws:`ah}{Q:`aF}(ht:`xN `aK t `o8)(hb:`xN `aK b `Ll)(hv:vs≠[])
  (h1:ws=[]->Q `kY s) (h2:ws≠[]->Q `io { s with heap:=`g8 { cls:=`gf,data:=`b5 `ayd } })
  (hsz:`cg+`Lm<=`S):`u `aC A (`jn .Add `kY `GM) Q E s:=by
 skip;let#[#[cls,dd,data,sl],ho,hc,n,hd]:=id ht;let#[#[Z,U,data2,Y],J,O,n2,M]:=id hb;simp only at hc hd O M;subst hc hd O M;have e:`o8++`Ll=`ayd:=`a6
 by_cases hw:ws=[]
 ·done;exact k8 `q_ `_q y4 y6 y8 y9 `_r
   (tuple_addW1 t b `o8 `Ll n n2 dd U sl Y `_s (by simp[hw])) #[ho,J,h1 hw]
 ·done;refine k8 `q_ `_q y4 y6 y8 y9 `_r
   (tuple_addW2 t b `o8 `Ll n n2 dd U sl Y `_s `ama (by rw[`bY,`bY];exact hsz)) #[ho,J,?_]
  rw[e];exact h2 hw
def sIx(n d:Nat):`aye
 | `e=>d
 | `b6=>`Ln
def Lu0(n d:Nat)(hd:d<=n)(o:`bl):sIx n d o<=n:=by
 cases o with
 | none=>exact hd
 | some v =>
  show (`Ln)<=n
  by_cases hv:v<0
  ·rw[`_t];lia
  ·rw[`ap hv];exact Bc0 _ _
def X00(v:Int)(n d:Nat):`ayf=((sIx n d `r1:Nat):Int):=by
 show `ayf=(((`Ln):Nat):Int)
 by_cases hv:v<0
 ·simp only[`_t];lia
 ·simp only[`ap hv];lia
def Wn0(lo hi:`bl)(n:Nat):`ayg=(`Lo,`ayh):=by
 have h1:¬(`sn<0):=`H
 unfold Builtin.Slice.sliceAdjust;simp only[h1,`dy];refine Prod.ext ?_ ?_
 ·cases lo with
  | none=>rfl
  | some v=>exact X00 v n 0
 ·cases hi with
  | none=>rfl
  | some v=>exact X00 v n n
def V60(i j:Nat):`_u `sm `b8 1=j - i:=by
 unfold Builtin.Slice.slicePlaces;have h1:`al?:=`H
 simp only[h1,`gr,Int.ediv_one];split<;>lia
def gi0{v:`J}{o:`bl}{Q:`bl->`eU}(p:`xM v o)(h:Q o s):`u `aC A (Builtin.Slice.slicePartIndex v) Q E s:=by
 cases p with
 | none=>exact `ayi h
 | int i t=>exact slicePart_int h
def qv0{sl:`g}{hi:`bl}{n:Nat}{Q:Int×Int×Nat->`eU}(hs:`Lp)(pl:`Lq)(pu:`Lr)
  (h:Q (`Lo,1,`al1 - `al0) s):`u `aC A (Builtin.Slice.sliceApplied `Fi (`b3 `ct)) Q E s:=by
 let#[os,M,O,J]:=id hs;unfold Builtin.Slice.sliceApplied Builtin.Slice.sliceFields;refine A0 (A0 (E9 M J (x:=vl) rfl (A0 (E9 M J (x:=vu) rfl (A0 (E9 M J (x:=`aJ) rfl `xO))))));refine A0 (`ayi ?_);show `u _ _ (if (`sn==0)=`d then _ else _) _ _ s;rw[`it];refine A0 (gi0 pl (A0 (gi0 pu (A0 `xO))));show `u _ _ (match `ayg with|(lo,hi)=>`b3 (lo,`sn,`_u lo hi 1)) _ _ s;rw[Wn0 lo hi n];show `u _ _ (`b3 (`Lo,`sn,`_u `Lo `ayh 1)) _ _ s;rw[V60];exact A1 h
def Qa0(xs:`aW)(i k:Nat):((`bw k).filterMap `ayj).toArray=((xs.toList.drop i).take k).toArray:=by
 have e:(`ayj)=`ayk:=by
  funext m
  have:`al2=i+m:=`H
  rw[`E]
 rw[e];have:=pick_run xs i k;rw[List.filterMap_map] at this;have e2:((λx=>xs[x]?) ∘ λx=>i+x)=`ayk:=rfl
 rw[e2] at this;rw[`E]
def kp0{t sl:`g}{items:`aW}{hi:`bl}{Q:`aF}(ht:`ayl)(hs:`Lp)(pl:`Lq)(pu:`Lr)
  (hw:¬(`aym))
  (h:Q `io { s with heap:=`g8 { cls:=`gf,data:=`ayn } })
  (hsz:`fO<=`S):`ayo:=by
 have J:sizeOk (`ayn):=by
  show (`al3).toArray.size<=`S;rw[`bY,`dS,`iF,`KO];lia
 have hj:`Sq<=`fO:=Lu0 _ _ `bi hi;let#[os,U,Y,Z]:=id hs;have O:`ayp := #[os,U,Y];unfold getItem
 apply `BD
 apply `ayq
 refine `ayr;refine A0 (Y1 (name:=`ays) `o3 Q1
  `ayt)
 apply `ayu;refine `ayv;refine A0 (N4 O ?_);rw[`_v];refine `ayw;have M:¬(`Ss):=by
  intro q;rw[`bz,`bz] at q;have q1:`al5=0:=`Ls q.1.1;have q2:`Sr=`fO:=`Ls q.2;exact hw #[`H,`H]
 apply `ayx;rw[`ap M,Qa0]
 first
  | exact `ayy
  | exact A0 (m:=`Fj _) (N9 (A0 `ayz) J)
  | exact A0 (A0 (m:=`Fj _) (N9 `ayz J))
  | exact A0 (`ayy)
universe zz
universe HT
namespace L2
open Spec PyProof.Rows
abbrev TO:=St->Hp->(`ayA)->Prop
def PO(X:Cx)(e:`oH)(t:TO):Prop :=
 ∀(pins:`aI) (s:`y) (σ:St) (H:Hp) (Q:`ayA),`F->`mF ->
  `u `aq X.A (evalPart e `A) (λu s'=>∃o H',`lK/\`xM u o/\Q o H') `aL s
def Ny0:TO:=λ_ H Q=>Q `e H
def Jg0(t:TE):TO:=fun σ H Q=>t σ H λx H1=>∃i,`Bn/\Q (`pU) H1
section
variable{lo hi:`oH}{tl th:TO}
def N00:PO X `e Ny0:=by
 apply `bB;rw[`ayB];exact A1 #[`e,H,I,`aJ,h]
def Nc0(h:`f8):PO X (`c e) (Jg0 te):=by
 apply `Ze;rw[evalPart_some];refine thn `Zf λu s1 hq39=>?_;skip;let#[x,H1,I1,r1,q1]:=hq39
 let#[i,rfl,q]:=q1;let#[t,rfl]:=r1;done;exact#[`pU,H1,I1,`Rx,q]
def SlR(X:Cx)(r:`q0):Prop :=
 ∀(pins:`aI) (s:`y) (σ:St) (H:Hp) (x:V) (v vl vu:`J) (lo hi:`bl) (sl:`g) (Q:VK),`F->`kk->`Lp->`Lq->`Lr->`ayC ->
  ∃T id,`ayD/\`mv v T/\`u `aq X.A (`mu v `Fi) `e3 `aL s
def SlR.or{r r':`q0}(h:SlR X r)(h':SlR X r'):SlR X (λx lo hi H Q=>`ayC∨r' x lo hi H Q):=by
 intro pins s σ H x v vl vu lo hi sl Q I rx hs pl pu q;apply `K4
 ·exact h `k s σ H x v vl vu lo hi sl Q I rx hs pl pu q
 ·exact h' `k s σ H x v vl vu lo hi sl Q I rx hs pl pu q
def tSl(r:`q0)(te:TE)(tl th:TO):TE:=fun σ H Q=>te σ H λx H1=>tl σ H1 λl H2=>th σ H2 λu H3=>r x l u H3 Q
def Q50{r:`q0}(hr:SlR X r)(he:`f8)(hl:`ayE)(hu:`ayF):PE X `ayG (tSl r te tl th):=by
 apply `bB;refine `Lt (thn `iS λv s1 hq40=>?_);let#[x,H1,I1,r1,q1]:=hq40;refine `ayH (thn `ayI λvl s2 hq41=>?_);let#[l,H2,I2,pl,q2]:=hq41;refine thn `ayJ λvu s3 hq42=>?_;let#[u,H3,I3,pu,q3]:=hq42;rw[`ayB];refine `ia;have I4:Inv X `k σ H3 `_w:=I3.kept (t':=s3.toks) `Sv
 let#[T,id,hT,ht,hg]:=hr `k `_w σ H3 x v vl vu l u `sp Q I4 r1 `ayK pl pu q3;show `u `aq X.A (`ayL e `al7 v (`ayM)) `e3 `aL `_w;exact `_x (ops:=[`ayM,v]) ht hT hg (by with_unfolding_all rfl)
def mk0(xs:`N)(lo hi:`bl):`N:=(`AY (`xR)).take (`Su - `xR)
def j00(xs:`N)(lo hi:`bl):(`Fk).length<=`aG:=by
 unfold mk0;rw[`dS,`iF];lia
def Ha0(K:`B):`q0:=λx lo hi H Q=>∃a xs,`de/\`nR /\
 ¬`ayN/\∀p,`dP->Q `dr (upd H p (`ayO))
def Lp0:SlR X (Ha0 X.K):=by
 apply `Lu;skip;apply `ayP;cases rx;apply `ayQ;apply `ayR
 done;refine#[`d3,_,Q1.lookup,`o3,?_];refine HT.kp0 ht hs pl pu (`Lv) ?_ (by rw[J];exact hz);rw[J];refine#[`h',_,`lR (t':=`bu) (o:=`ayO) `Lw `bi ?_,rfl,`_y];exact#[`ayS,_,`ayT,`_z]
def Ps0(K:`B):R2:=λx y H Q=>∃a b xs ys,`de/\`BE/\`nR/\`ayU/\`_A/\`TE /\
 (ys=[]->Q `d7 H)/\(ys≠[]->∀p,`dP->Q `dr (upd H p (`_B)))
def Vals.nil_iff(r:`dd):us=[]↔`u3:=by
 cases r with
 | nil=>simp
 | cons _ _=>simp
def X80:OpR X `Bp (Ps0 X.K):=by
 apply `fr;skip;let#[a,b,xs,ys,rfl,rfl,ha,hb,hx,hz,q1,q2]:=h;cases rx;cases ry;apply `ayV;let#[J,r2,p2,_]:=`h5 hb;done;refine HT.Ne0 p1 p2 (λz=>hx (`ayW z)) (λz=>#[`ce,H,I,rfl,q1 (r2.nil_iff.mp z)]) (`mK) (by rw[← `mH,← `mQ];exact hz);refine#[`h',_,`lR (t':=`bu) (o:=`_B) `Lw `bi ?_,rfl,q2 (λw=>z (r2.nil_iff.mpr w)) _ `Fl];exact#[`ayX,_,`Lx,`_z]
universe zz
def ixN(n:Nat)(i:Int):`Ly:=`ayY
def atI{α:Type}(xs:`aN)(i:Int):`aP α:=`ayZ
def X40{i:Int}(h:ixN n i=`u4):seqIndex? i n=`u4/\j<n/\`Sw/\i<n:=by
 unfold ixN at h
 by_cases h0:`g!
 ·rw[`R h0] at h
  by_cases h1:i<n
  ·rw[`_C] at h
   have e:`e1=j:=`pK;exact#[by rw[`_D h0 h1,e],`H,`H,h1]
  ·rw[`_E] at h;cases h
 ·rw[`_F] at h
  by_cases h1:`Sw
  ·rw[`_C] at h
   have e:`al8=j:=`pK;exact#[by rw[`_G `j h1,e],`H,h1,`H]
  ·rw[`_E] at h;cases h
def f90{xs:`aN}{i:Int}{v:α}(h:`xS=`b6):∃j,seqIndex? i `aG=`u4/\`Fn=`b6/\j<`aG/\-(`aG:Int)<=i/\`u5:=by
 unfold atI at h;cases e:`al9 with
 | none=>rw[e] at h;cases h
 | some j =>
  rw[e] at h;let#[h1,h2,h3,h4]:=X40 e;exact#[j,h1,h,h2,h3,h4]
def od0(b:`M):Prop:=∀o i,`zi b `r o i=`apg
def IxR(X:Cx)(r:R2):Prop :=
 ∀(value slice:`M) (pins:`aI) (s:`y) (σ:St) (H:Hp) (x y:V) (v u:`J) (Q:VK),`F->`kk->`fp->`E4 ->
  `zi `n0 `r v u=`Sx [v,u] (`mu v u)->`u `aq X.A (`ayL `eZ `n0 v u) `e3 `aL s
def MtR(X:Cx)(id:`cO)(r:`gS):Prop :=
 ∀(pins:`aI) (s:`y) (σ:St) (H:Hp) (x:V) (xs:`N) (v:`J) (us:`ah) (Q:VK),`F->`kk->`dd->`ay_ ->
  `ay0
section
variable{a:`M}
def IxR.or{r r':R2}(h:`_H)(h':IxR X r'):IxR X `awN:=by
 intro value slice pins s σ H x y v u Q I rx ry q hs;apply `K4
 ·exact h `eZ `n0 `k s σ H x y v u Q I rx ry q hs
 ·exact h' `eZ `n0 `k s σ H x y v u Q I rx ry q hs
def Wt0{r:R2}(hr:`_H)(ha:`kh)(hb:`uP)(hs:od0 b):PE X `u6 `K2:=by
 apply `bB;exact `Lt (P30 ha hb I h λv u s2 x y H2 I2 rx ry q=>hr a b `k s2 σ H2 x y v u Q I2 rx ry q (hs _ _))
def K90(K:`B):R2:=λx y H Q=>∃p xs i v,`BF/\y=`ba/\`Lz/\`ay1
def Mq0(K:`B):R2:=λx y H Q=>∃p xs i v,`BF/\y=`ba/\`_I/\`ay1
def My0:R2:=λx y H Q=>∃z i c,x=`mx/\y=`ba/\`st/\`ay2=`d6/\Q (`sG) H
def Xc0:IxR X (K90 X.K):=by
 apply `_J;skip;apply `ay3;cases rx;apply `_K;apply `BG;apply `_L;apply `ay4;have hl:=`cf;have hn:=qi0;apply `ay5
 by_cases h0:`g!
 ·have hj:`e1=j:=by
   rw[`_D h0 h5] at h1;exact `s0
  done;exact item_listR `lU h0 `j `ay6 fin hs
 ·have hj:(i+`ay7).toNat=j:=by
   rw[`_G `j h4] at h1;apply `u7;exact `s0
  done;exact `ay8 (x:=w) `ay9 `_M
   (wpAny_getItem_list_neg (Q:=`ay') `lU `j `_N `j `ay6 `ay!) hs
def Zc0:IxR X (Mq0 X.K):=by
 apply `_J;skip;apply `ay3;cases rx;apply `_K;apply `LA;apply `_L;apply `ay4;have hl:=`cf;have hn:=qi0;apply `ay5;done;exact `ay8 (x:=w) pl.typeIs slot_tuple_getitem.lookup
  (getItem_tuple (j:=j) (Q:=`ay') pl `j `j (by apply `u7;exact h1) (by simpa using ew) `ay!) hs
def K00:IxR X My0:=by
 apply `_J;skip;let#[z,i,c,rfl,rfl,hz,he,q]:=h;apply `cm;apply `cA;apply `_L;have hl:z.cps.toList.length=`Sy:=by simp[Str.length]
 rw[hl] at h1 h4 h5;have hn:=qi0;done;exact `_x (Q2 s z t) slot_str_getitem.lookup (getItem_str (c:=c) (by
  have e1:`z (i < `ay?)=`r:=`_O;have e2:`z (i ≥ 2 ^ 63)=`r:=`_O;rw[e1,e2,`Un]) (by rw[h1];simpa using h2) #[`sG,H,`fG,`ac,q]) hs
def rIx(K:`B):R2:=λx y H Q=>K90 K x y H Q∨Mq0 K x y H Q∨My0 x y H Q
theorem Ko0:IxR X (rIx X.K):=Xc0.or (Zc0.or K00)
def Wk0(its:`ah)(n j:Nat)(u:`J):`jz `aza `RB={ cls:=`c5,data:=`b5 (its.set j u).toArray n }:=by
 simp[`jz]
def Inv.lst{σ:St}{s:`y}{p:`g}(I:`F)(h:`_P) :
  ∃(its:`ah) (n:Nat),`lF/\`azb/\`hJ:=by
 let#[z,its,n,r,e]:=`b7 p _ h;exact#[its,n,r,e,z]
def Inv.lstUpd{σ:St}{s:`y}{p:`g}{ys:`N}{its its':`ah}{n n':Nat}{f:Obj->Obj}(I:`F)(h:`_P)
  (ho:`azb) (hf:f `RB=`azc) (r:`azd) (hz:`y_) (t:Nat) :
  Inv X `k σ (upd H p `su) { s with heap:=`m1 p f,toks:=t }:=by
 have e:(`m1 p f).get? p=`c `azc:=by
  rw[Heap.get?_update_self f ho (by rw[hf]<;>rfl),hf]
 refine `K' (x:=p) (e:=p) (by rw[h];trivial) `gg (λb u hb q=>`s4 q) `LB ?_;exact#[hz,its',n',r,e]
def J60:`Zn:=λo i v H Q=>∃p xs k j,o=`fL/\i=`iy/\`_P/\ixN `aG k=`u4/\Q `aze
def set_list:Zl0 X J60:=by
 apply `azf;skip;let#[p,xs,k,j,rfl,rfl,hp,hj,q]:=h;cases ro;let#[t,rfl]:=ri;let#[its,n,r,ho,hz]:=I.lst hp;let#[h1,h2,h3,h4]:=X40 hj;have hl:=`cf;have hn:=qi0;have I':Inv X `k σ `aze { s with heap:=`m1 p (`jz `aza) } :=
  I.lstUpd hp ho (Wk0 its n j u) (r.set rv j) (by rw[`azg];exact hz) `bu
 by_cases h0:`iW
 ·have hk:`hh=j:=by
   rw[`_D h0 h4] at h1;exact `s0
  done;exact W.ki_setAt ho h0 `j (by apply `u7;exact h4) `azh
 ·have hk:(k+`ay7).toNat=j:=by
   rw[`_G `j h3] at h1;apply `u7;exact `s0
  done;exact W.ki_setBack ho `j (by apply `u7;exact h3) `j `azh
def Zg0(lo hi:`bl)(n:Nat):(`_Q).1=((`jp n 0 lo:Nat):Int)/\(`_Q).2.1=((`jp n n hi:Nat):Int)/\(`_Q).2.2=1:=by
 refine#[?_,?_,rfl]
 ·cases lo with
  | none=>simp[`o4,`jp]
  | some i =>
   apply `azi
   by_cases h:i<0
   ·simp only[h,`gr]<;>lia
   ·simp only[h,`dy]<;>lia
 ·cases hi with
  | none=>simp[`o4,`jp]
  | some i =>
   apply `azi
   by_cases h:i<0
   ·simp only[h,`gr]<;>lia
   ·simp only[h,`dy]<;>lia
def c20(its:`ah)(lo hi:`bl):slicePick `bt lo hi `e=((its.drop (`azj)).take (`jp `o5 `o5 hi - `azj)).toArray:=by
 let#[h1,h2,h3]:=Zg0 lo hi `g';unfold slicePick;rw[h1,h2,h3];simp only[sliceRange_one,pick_run,`bY]<;>rfl
def H00(K:`B):`q0:=λx lo hi H Q=>∃a xs,`de/\`oV/\∀p,`dP->Q `dr (upd H p (`azk))
def Oa0:SlR X (H00 X.K):=by
 apply `Lu;skip;let#[a,xs,rfl,hx,q]:=h;cases rx;let#[its,r,ht,hz]:=`gl hx;have J:=`cf;done;refine#[`d4,_,`_M,`azl,?_];refine Bm0 ht.isList hs pl pu `aJ `aB ?_ `_N;rw[c20,← J];refine#[`h',_,`lR (t':=`bu) (o:=`azk) `Lw `bi ?_,rfl,`_y];exact#[`ayS,_,0,`ayT,`fz]
def uh0:V->`aa
 | `x=>`d
 | `bK=>`d
 | `cn=>`d
 | `bF=>`d
 | _=>`r
def eqV:V->V->`aa
 | `x,`x=>`d
 | `u8,`dp=>`j?
 | `u8,`iC=>`_R
 | `n1,`dp=>`_S
 | `n1,`iC=>`j?
 | `hg,`mU=>`j?
 | _,_=>`r
def Lt0{s:`y}{y x:V}{v:`J}(ry:`fp)(rx:`kk)(fy:`azm)(fx:`_T):`GQ A s u v (`SA):=by
 cases y with
 | non =>
  cases ry;cases x with
  | non=>cases rx;exact L7 _
  | bl b=>cases rx;exact A30 b
  | int b=>apply `cm;exact i7 b t
  | str b=>apply `cm;exact i8 b t
  | _=>apply `LC
 | bl a =>
  cases ry;cases x with
  | non=>cases rx;exact A40 a
  | bl b=>cases rx;exact A50 a b
  | int b=>apply `cm;exact A60 a b t
  | str b=>apply `cm;exact A70 a b t
  | _=>apply `LC
 | int a =>
  apply `cA;cases x with
  | non=>cases rx;exact i9 a t'
  | bl b=>cases rx;exact A80 a t' b
  | int b=>apply `cm;exact j0 a t' b t
  | str b=>apply `cm;exact U1 a t' b t
  | _=>apply `LC
 | str a =>
  apply `cA;cases x with
  | non=>cases rx;exact j3 a t'
  | bl b=>cases rx;exact A90 a t' b
  | int b=>apply `cm;exact U2 a t' b t
  | str b=>apply `cm;exact k0 a t' b t
  | _=>apply `LC
 | _=>exact `I (show `xC from fy) B5
def eqU(x:V)(u:`J):`aa:=match u with
 | `aJ=>eqV `x x
 | `KJ=>eqV `zJ x
 | `f i _=>eqV `fF x
 | `t z _=>eqV `yZ x
 | _=>`r
def Uk0{x y:V}(r:`fp)(f:`azm):eqU x u=`SA:=by
 cases y with
 | non=>cases r;rfl
 | bl b=>cases r;rfl
 | int i=>apply `lN;rfl
 | str z=>apply `lN;rfl
 | _=>exact `I (show `xC from f) B5
theorem o80{x:V}:∀{xs:`N} {us:`ah},`dd->`LD->us.any `o6=`azn
 | _,_,`L,_=>rfl
 | y::xs,u::us,`ka,f=>by
  rw[`lV,`bz] at f;rw[`km,`km,Uk0 r f.1,o80 t f.2]
theorem v80{s:`y}{x:V}{v:`J}(rx:`kk)(fx:`_T):∀{xs:`N} {us:`ah},`dd->`LD->∀u∈us,`GQ A s u v (eqU x u)
 | _,_,`L,_=>λu hu=>by cases hu
 | y::xs,u::us,`ka,f=>λu' hu=>by
  rw[`lV,`bz] at f;rcases `bm hu with rfl|hu
  ·rw[Uk0 r f.1];exact Lt0 r rx f.1 fx
  ·exact v80 rx fx t f.2 u' hu
def inV(x:V)(xs:`N):`aa:=`azn
def rIn(K:`B)(neg:`aa):R2:=λx y H Q=>∃p xs,y=`fL/\(`Lz∨`_I)/\`_T/\`LD/\Q (.bl (if neg then !inV x xs else inV x xs)) H
def dl0:OpR X (`d9 .In) (rIn X.K `r):=by
 apply `fr;skip;apply `azo;cases ry;apply `LE
 ·apply `BG
  done;refine SeqAt.in_listAt `o6 `lU `LF `LG;apply `LH;exact q
 ·apply `LA
  done;refine SeqAt.in_tupleAt `o6 pl `LF `LG;apply `LH;exact q
def bh0:OpR X (`d9 `uR) (rIn X.K `d):=by
 apply `fr;skip;apply `azo;cases ry;apply `LE
 ·apply `BG
  done;refine SeqAt.notIn_listAt `o6 `lU `LF `LG;apply `LH;exact q
 ·apply `LA
  done;refine SeqAt.notIn_tupleAt `o6 pl `LF `LG;apply `LH;exact q
def qf0:`fN X `_U `azp:=by
 apply `nU;skip;apply `azq;apply `LI;cases rx;have hn:=qi0;apply `LE
 ·apply `_V
  apply `BH;done;exact Calls.call_len_list `lU `BI `azr
 ·apply `_W
  apply `BH;done;exact len_tuple pl `BI `azr
def aq0:`fN X `_U (λxs H Q=>`azs):=by
 apply `nU;skip;let#[z,rfl,hz,q]:=h;apply `Z1;have hn:=qi0;done;exact len_str `j #[`SB,H,`fG,`ac,q]
def CallR.or{f:`J}{r':`mw}(h:`fN X f r)(h':`fN X f r'):`fN X f (λxs H Q=>`K0∨r' xs H Q):=by
 intro pins s σ H xs us Q I rs q;apply `K4
 ·exact h `k s σ H xs us Q I rs q
 ·exact h' `k s σ H xs us Q I rs q
def lo0:`fN X `yK (λxs H Q=>∃p ys,`my/\`ame/\`azt):=by
 apply `nU;skip;apply `azq;apply `LI;cases rx;have fin:∀(its:`ah),`azu->`y_->∀(h':`W) (c':Nat),(∀b o',`EK=`c o'->`akS) ->
   `_X=`c { cls:=`c5,dict:=`e,data:=`b5 `bt c',slots:=⟨⟩ }->EP X `k σ Q `io `jk:=λits r' hz h' c' kp e =>
  #[`h',_,`lR (t':=`bu) kp `bi (show `cC `a? X.w _ h' _ `su from #[hz,its,c',r',e]),rfl,`_y]
 apply `LE
 ·apply `_V
  apply `BH;let#[o,ho,hc,n,hd]:=`lU;done;exact `azv p `gg ho hc hd `azw `BI
 ·apply `_W
  apply `BH;let#[o,ho,hc,n,hd]:=pl;done;exact `azv p `u9 ho hc hd `azw `BI
def G7:`fN X `Hy `azx:=by
 apply `nU;skip;let#[p,ys,rfl,h]:=h;apply `LI;cases rx;rcases h with⟨hq,q⟩|⟨hq,q⟩
 ·apply `_V
  apply `BH;done;refine call_tuple_list `lU (λh' kp=>?_) `BI;have I1:`R7:=`KQ (t':=`bu) kp;have I2:Inv X `k σ (upd H `xU `Fs) { s with heap:=`_Y { cls:=`gf,data:=`b5 `bt } } :=
   `E! (t':=`bu) (`sa) `bi (show `cC `a? X.w _ _ _ `Fs from #[hz,its,r',`_z])
  exact#[`azy,_,I2,rfl,q _ (`EZ)]
 ·apply `_W
  done;exact call_tuple_same pl #[`fL,H,I,rfl,q]
def tyV(K:`B)(T:`cO)(x:V)(H:Hp):Prop:=match x with
 | `bF=>T = `iX
 | `cn=>T = `iU
 | `fL=>(T = `d4/\∃xs,`Lz)∨(T = `d3/\∃o,`cd p=`au/\`Kg/\`Kh) ∨
   (T = `GH/\((∃kvs,`UD)∨∃kvs,H p=`anv))∨(T = "set"/\∃S n,H p=`c (.set S n))
 | _=>`bW
def Un0{σ:St}{s:`y}{T:`cO}{x:V}{v:`J}(I:`F)(r:`kk)(ty:tyV X.K T x H) :
  `mv v T/\∀a,`jr->∃ob,`EO=`Kn/\`azz:=by
 skip;cases x with
 | str z =>
  apply `lN;cases (show T = `iX from ty);done;exact#[Q2 s z t,λ_ e=>nomatch e]
 | int i =>
  apply `lN;cases (show T = `iU from ty);done;exact#[Y2 s i t,λ_ e=>nomatch e]
 | ref p =>
  cases r;rcases ty with⟨rfl,xs,hq⟩|⟨rfl,o,hk,hc,hd⟩|⟨rfl,hk⟩|⟨rfl,S,n,hk⟩
  ·let#[its,_,pl,_]:=`r?
   done;refine#[`ay9,λa e=>?_];skip;cases e;let#[o,n,e,c,hd,_]:=pl;done;exact#[o,e,hd]
  ·done;refine#[#[o,`d8 p o hk,hc],λa e=>?_]
   cases e;exact#[o,`d8 _ o hk,hd]
  ·have z:∃o,`dn p=`au/\`Yz:=by
    rcases hk with⟨kvs,hk⟩|⟨kvs,hk⟩
    ·skip;apply `azA
     done;exact`azB
    ·skip;apply `azA
     done;exact`azB
   let#[o,e,ex]:=z;done;apply `azC;cases e2;exact`azD
  ·let#[o,_,_,_,e,ex,_]:=`ami
   done;apply `azC;cases e2;exact`azD
 | _=>done;exact `eJ ty
def Hc0(K:`B)(T:`cO)(r:`gS)(to:TE):TE:=fun σ H Q=>to σ H λx H1=>`azE/\r x [] H1 Q
def tBM(K:`B)(T:`cO)(r:`gS)(to:TE)(t:TA):TE:=fun σ H Q=>to σ H λx H1=>`azE/\t σ H1 λxs H2=>r x xs H2 Q
variable{to:TE}{t:TA}{T id:`cO}{r:`gS}
def Uh0(pa:PlainAttrs T)(slot:`azF)(hty:`_Z)(hm:`__)(ho:`Zq)
  (hbase:`_0) (hline:`fs):PE X (`a0 `_1 [] [] `ch) (Hc0 X.K T r to):=by
 apply `bB;refine wpAny_Call_method0_late `ft `fu (thn `Bf λv s1 hq43=>?_);skip;let#[x,H1,I1,r1,ty,q1]:=hq43;let#[h1,h2]:=Un0 I1 r1 ty;done;exact#[T,id,pa,slot,hty,h1,h2,Aa0 rfl (PySem.evalArgs_none (hm `k s1 σ H1 x [] v [] Q I1 r1 `L q1))]
def sm0(pa:PlainAttrs T)(slot:`azF)(hty:`_Z)(hm:`__)(ho:`Zq)(ha:`u2)
  (hbase:`_0)
  (hfew:`v (((`gj `ch (`Sj)).all `Gp&&`Gq
  &&`z (`_2+`yv+`yw<30))=`d) Aa)
  (hline:`fs) (hs:`ej) (hplain:`v (`azG=`r) Aa) :
  PE X (`a0 `_1 `gp [] `ch) (tBM X.K T r to t):=by
 apply `bB;refine wpAny_Call_method_late `ft `hM `fu rfl (thn `Bf λv s1 hq44=>?_);skip;let#[x,H1,I1,r1,ty,q1]:=hq44;let#[h1,h2]:=Un0 I1 r1 ty;done;refine#[T,id,pa,slot,hty,h1,h2,?_];have hA:=ha `ch `k s1 σ H1 _ I1 q1;rw[hs] at hA ⊢;refine Aa0 (by show (`r||`azG)=`r;rw[`iY]<;>rfl) (`azH ?_);exact thn hA λus s2 #[vs,H2,I2,r2,q2]=>hm `k s2 σ H2 x vs v us Q I2 r1 r2 q2
universe zz
def MtM(X:Cx)(id:`cO)(r:`gS):Prop :=
 ∀(pins:`aI) (s:`y) (σ:St) (H:Hp) (x:V) (xs:`N) (v:`J) (us:`ah) (Q:VK),`F->`kk->`dd->`ay_ ->
  `ay0
def Vals.one:∀{x:V} {us:`ah},`awT->`awU:=by
 intro x us h
 cases h with
 | cons r t=>cases t;exact`akA
def Vals.two:∀{x y:V} {us:`ah},`awV->∃u v,us=[u,v]/\`gn/\`c4 y v:=by
 intro x y us h
 cases h with
 | cons r t=>cases t with
  | cons q t=>cases t;exact#[_,_,rfl,r,q]
theorem Vals.zero:∀{us:`ah},`bE [] us->us=[]
 | _,`L=>rfl
def Vals.dropLast(h:`dd):`bE `SE us.dropLast:=by
 induction h with
 | nil=>exact `L
 | cons r t ih =>
  cases t with
  | nil=>exact `L
  | cons q t'=>exact `AX
def Vals.reverse(h:`dd):`bE `LJ us.reverse:=by
 induction h with
 | nil=>exact `L
 | cons r t ih=>rw[`eL,`eL];exact `azI ih (`ai r `L)
theorem Vals.rep(h:`dd):∀k:Nat,`bE `azJ (`a1 k us).flatten
 | 0=>`L
 | k+1=>by
  rw[`f9,`f9,`kn,`kn];exact `azI h (Vals.rep h k)
def Wi0(l:`aN):l.eraseIdx (`aR - 1)=`azK:=by
 induction l with
 | nil=>rfl
 | cons a r ih =>
  cases r with
  | nil=>rfl
  | cons b r =>
   have e:`azL - 1=(`azM - 1)+1:=by
    have h1:`azL=`cf+2:=rfl;have h2:`azM=`cf+1:=rfl;lia
   rw[e,List.eraseIdx_cons_succ,ih]
   all_goals rfl
theorem foldl_rep(its:`ah):∀(k:Nat) (acc:`ah),
  List.foldl (λx1 x2=>x1++x2) `azN (`a1 k `bt)=(acc++`azO).toArray
 | 0,acc=>`a6
 | k+1,acc=>by
  have e:`azN++`bt=(`_3).toArray:=`a6
  have e2:(`_3)++`azO=acc++(`a1 `fK its).flatten:=by
   rw[`f9,`kn,`aV]
  rw[← e2,← foldl_rep its k (`_3),← e,`f9,List.foldl_cons]
section
variable{σ:St}{s:`y}{l b:`g}{ys zs:`N}
def Inv.lset{its its':`ah}{n:Nat}{f:`aW->`aW}{t':Nat}(I:`F)(hH:`BJ)
  (e:`azP) (hf:f `bt=`al') (hv:`azd) (hz:`y_) :
  Inv X `k σ (upd H l `su) { s with heap:=`m1 l (`jz f),toks:=t' }:=by
 have q:=PySem.IsL.update e f;rw[hf] at q;refine `K' (x:=l) (e:=l) (by rw[hH];exact `s_) `gg (λb' u hb hu=>(G0 `aK (`jz f) (B8 hb)).trans hu) #[_,q] ?_;exact#[hz,its',_,hv,q]
theorem Inv.lnew{its:`ah}{t':Nat}(I:`F)(hv:`azu)(hz:`y_) :
  Inv X `k σ (upd H `Y `su) { s with heap:=`g8 { cls:=`c5,data:=`b5 `bt },toks:=t' } :=
 `lR `_4 `bi #[hz,its,0,hv,`fz]
theorem Inv.fresh(I:`F):H `Y=`e:=`Sn
def Inv.lstM(I:`F)(hH:`BJ):`hJ/\∃(its:`ah) (n:Nat),`lF/\`aG=`o5/\`azP:=by
 let#[z,its,n,r,e]:=`b7 l _ hH;exact#[z,its,n,r,`cf,e]
def Qo0(h:`u'):`LK n=`r:=by
 apply `azQ;exact `_O
universe zz
def N90:`gS:=λx vs H Q=>∃l xs y,`LL/\vs=[y]/\`BJ/\`aG<`S/\Q `x (upd H l (`o (xs++[y])))
def pj0:MtM X `azR N90:=by
 apply `u!;skip;let#[l,xs,y,rfl,rfl,hH,hz,q]:=h;cases rx;apply `BK;apply `_5;done;refine L3 F.slot_list_append `_6 F.entry_list_append (F.args_list_append_2 _ _) (PySem.list_append l `bt n u `pP) `azS;refine#[`x,_,I.lset (its':=its++[u]) hH e `aB (`Bz (`ai ru `L)) ?_,rfl,q];apply `lc;lia
def H60:`gS:=λx vs H Q=>∃l xs y,`LL/\vs=[]/\`BJ/\xs[`aG - 1]?=`ep/\Q y (upd H l `_7)
def T40:MtM X "list.pop" H60:=by
 apply `u!;skip;let#[l,xs,y,rfl,rfl,hH,hy,q]:=h;cases rx;have J:=rv.zero;subst J;apply `_5;let#[u,hu,ru]:=`sq hy;have M:`bt[`g' - 1]?=`br:=by
  show `bt[`o5 - 1]?=`br;rw[← `azT,← hl];exact hu
 done;refine L3 F.slot_list_pop `_6 F.entry_list_pop (F.args_list_pop_1 _) (MeetsSeq.list_pop_last l `bt n u M `pP) `azS;refine#[y,_,I.lset (its':=its.dropLast) hH e ?_ r.dropLast ?_,ru,q]
 ·show its.toArray.eraseIdxIfInBounds (`g' - 1)=its.dropLast.toArray
  rw[`bY,List.eraseIdxIfInBounds_toArray,Wi0]
 ·rw[List.length_dropLast]
  lia
def len_rep(xs:`aN)(k:Nat):(`aml).flatten.length=k*`aG:=by
 induction k with
 | zero=>simp
 | succ k ih=>rw[`f9,`kn,`O,ih,Nat.succ_mul,Nat.add_comm]
universe L2
namespace Att
open PySem.W PySem.Calls PyProof.Rows
def ge0{P:`SL}{h:`W}:∀(ns:`P) (vs:`ah),WellAll P h vs (`mA WData.int)->`BL:=by
 intro ns
 induction ns with
 | nil =>
  intro vs w;rw[`k8] at w;cases w;exact `L
 | cons n ns ih =>
  intro vs w;rw[`_] at w;cases w with
  | cons a b =>
   cases a;exact `ai _ _ (ih _ b)
def Ss0{l:`_8}(hn:`LM){P:`SL}{h:`W}{args:`azU}{vals:`ah}
  (hpre:l.row.toRowW.claim.pre `iV=`d) (hwl:WellAll P h `jH `iV) :
  ∃a vs ns,`jH=[`rP]/\`iV=[WData.list (`mA WData.int)]/\`hZ=`amm/\`BL/\`BM:=by
 skip;have M:WShape.hasAll [] `iV [.list `f]=`d:=(`azV).1;have hc:l.pre.holds [] { args:=`iV }=`d:=(`azV).2;let#[d,r,rfl,h1,h2]:=hasAllW_cons M;obtain rfl:=hasAllW_nil h2;let#[xs,rfl,h3]:=hasW_list h1;let#[ns,rfl]:=items_int h3;have J:`BM:=by
  unfold OpenLaw.pre at hc;have h4:(WTm.not (.lt (.lit `H') (.len (.arg 0)))).holds [] { args:=[.list (`mA `f)] }=`d:=by
   have h4:=(holds_andW hc).1;rw[hn] at h4;exact h4
  have h5:=condW_of h4 (w_not (w_lt w_lit (w_len_list (w_arg rfl))));rw[`K] at h5;refine Nat.le_of_not_lt λq=>?_
  have q':`ct<((`eY:Nat):Int):=`H
  first
   | (rw[`bd q'] at h5;exact `I h5 `s)
   | (simp at h5;lia)
 cases hwl with
 | cons w1 w2 =>
  cases w2;cases w1 with
  | list ho hall=>done;exact#[_,_,ns,rfl,rfl,ho,ge0 ns _ hall,J]
theorem Tn0(l:`_8)(args:`azU):l.row.toRowW.claim.post `iV `xY `iV=`d :=
 postW_of (r:=`SM) (X:=`azW)
  (show `azX [] `xY `fE=`d by first|rfl|decide|simp[`azX,WShape.arms,WShape.armsAll])
  (show (WTm.eq .res (.lit `xY)).value [] { args:=`iV,res:=`c `xY,after:=`iV }=`c (`fE `azW) from w_eq_bool (w_res rfl) w_lit) rfl
def Ye0{l:`_8}{n:Nat}{q:`aw}{loose:`h}{XP:`J?}{YP:`Ka}{d:DefRec}
  (hn:`LM) (hdf:`_9)
  (call:∀(w:`X) (s₀ s₁:`y) (mg mb:`bJ) (fa:`g) (o:Obj) (pm cd doc:`J) (a:`g) (vs:`ah) (ns:`P),
   Ground q loose [] XP w s₀ mg mb `sv->YP w `sv ->
   `Fx fa=`au->`rV=`co (docDef `SG d.params d.body d.scope pm cd doc)->s₁.heap.CodeRec cd `SG->`_' ->
   `azY->`BL->`BM->`azZ ->
   `g? (`xe `aj w) `x_ (`o' `xX `SJ) `amn `es) :
  WalkO q loose XP YP `SM d [] `amp:=by
 intro w s₀ s₁ mg mb G Y fa o pm cd doc dV kV ho hd a2 hD a1 hg a3 vals as U a4 a6 Z a5;skip;obtain rfl:dV=`aJ:=Dflts.none hD hdf;obtain rfl:kV=`aJ:=Dflts.noKw hD;let#[a,vs,ns,rfl,rfl,M,J,O]:=Ss0 hn U Z;done;refine enter_call (X2 (`e2 w s₀ `es mg mb fa o pm cd doc a vs ns G Y ho (fd_plain hd) a2 a1 M J O hg) `_h);let#[rfl,h2,h3,h4]:=hq;exact#[`p #[`Fv,`Fv,[],rfl,`iI,`Fv,Tn0 l _,λ_=>#[`aof,λ_ hm=>(nomatch hm)]],h2,h3,h4]
universe Att
namespace L2
open Spec PyProof.Rows
theorem er0:∀{vs:`ah} {ns:`P},`BL->`bE `x0 vs
 | _,_,`L=>`L
 | _,_,`ai n t h=>`ai `y0 (er0 h)
def Only(H:Hp):Prop:=∀b,`c6∨∃o xs,H b=`Fz
def Q90{P:`aw}{w:`X}{K:`B}{mg mb:`bJ}{CX:CXT}{k:Nat}{fa a:`g}{fd:`hI}{x:Str}{sp:Sp}{s₁:`y}{vs:`ah}{ns:`P}
  (KX:`rZ `sv) (hns:`_! `bf mg) (hb:`_! `YV mb) (hbb:`auv) (hlim:s₁.heap.NoLimit) (hg:`azZ)
  (ha:`azY) (hi:`BL) (hl:`aw6) (hr:`_?)
  (F:∀base:`W,`YU->`A2->`T P w K mg `m CX k fa fd [x] sp) (hbind:`aaa)
  (hsp:∀H:Hp,Only H->`aab->sp `fP H `LN `lO)
  (hCX:∀H e s',CX [] H `es (`lO) e s'->`bW) :
  `az_:=by
 have rv:=er0 hi;have Z:=hi.length;have O:∀H:Hp,Only H->`aab->HOk P w H `sv->(∀b,`aac->b=a)->(H a≠`e->`cd a=`e) ->
   `az_:=by
  intro H hO hS hok hA hK;have J:∀{b:`g} {o:Obj},`Fx b=`au->`c6->(`BN).get? b=`au:=λe n=>Q10 e n
  have a1:∀{b:`g} {o:Obj} {es:`xb DictEntry} {ep:Nat},`Fx b=`au->`YA->`c6:=λ{b o es ep} e d=>by
   cases q:H b with
   | none=>rfl
   | some u =>
    have e':b=a:=`az0;subst e';rw[ha] at e;cases e;have d':Data.seq `o8 _=Data.dict es ep:=d;cases d'
  have M:∀{b:`g} {m:`bJ},`_! b m->(`BN).Ns b m:=λ{b m} #[o,es,ep,e,d,r]=>#[o,es,ep,J e (a1 e d),d,r]
  have U:`rZ (`BN):=λb o e=>J (KX b o e) (by
   cases q:H b with
   | none=>rfl
   | some u =>
    have e':b=a:=`az0;subst e';rw[hK (`SK)] at e;cases e)
  have hM:Mod K mg (`BN):=#[U,M hns,#[mb,M hb,hbb],let #[mc,h1,h2]:=hlim;#[mc,M h1,h2]];have e0:Env0 P w K mg (`BN) `x_ [] `es H:=#[rfl,hM,λb o e=>Ml0 e,E7 (Vs0 _ _),`s_,λb hb=>`I (show `alX from hb) `aB,hok,.of_eq hg];refine X2 ((F _ U (M hns)).run `x_ [] `es H `SJ `fP `fP _ _ hr e0 (hbind `es `d7) (`ai rfl `L) (hsp H hO hS)) λr s' h=>?_
  skip;cases r with
  | error e=>done;exact(hCX H e s' h).elim
  | ok fl =>
   cases fl with
   | next=>done;exact `eJ h
   | brk=>done;exact `eJ h
   | cont=>done;exact `eJ h
   | ret u =>
    let#[v,H',os,bare,un,Y,r',q]:=h;have q':v=`dt:=q;subst q';obtain rfl:u=`LO:=r';done;refine#[rfl,OldK.of_keep `az1,os,bare];skip;cases q:H b with
    | none=>done;exact un.keep b o e q (by intro z;exact `ax3) `aB
    | some u =>
     rcases hO b with z|⟨ob,xs,z⟩
     ·rw[q] at z;cases z
     ·have z2:=un.frzs b ob _ z
      let#[e1,_]:=hok b _ z;let#[e2,_]:=Y b _ z2;rw[e] at e1;cases e1;done;exact e2
 cases hk:`cd a with
 | some o =>
  have e:=KX a o hk;rw[ha] at e;cases e;refine O (`uW) (λ_=>`mk) (`q #[_,`o8,_,hk,rfl,rfl,rfl,by rw[`bY,Z];exact hl,`avK]) (λb u z=>by have z':(`e:`qP)=`br:=z;cases z') (λb z=>`az2) λz=>`az2
 | none =>
  refine O (λb=>if b=a then `c (`h0 `SF (`o `x0)) else `e) (λb=>?_) (`p (`q #[`SF,`bA])) (λb u z=>?_) (`GJ) λ_=>hk
  ·apply `lH
   ·exact `q #[_,_,`iZ]
   ·exact `p (`hN)
  ·apply `lH
   ·have z':=(`iZ).symm.trans z
    cases z';subst hb;exact#[ha,by rw[`K];exact hl,vs,_,rv,ha]
   ·have z':=(`hN).symm.trans z
    cases z'
  ·apply `lH
   ·exact hb
   ·exact `I (`hN) z
def M60{l:`aad}{n k:Nat}{q:`aw}{loose:`h}{XP:`J?}{YP:`Ka}{d:DefRec}{K:`az3}{CX:`X->CXT}{sp:`X->Sp}{x:Str}
  (hn:`LM) (hn2:`u') (hdf:`_9) (hr:`_?)
  (hY:`az4)
  (F:∀(w:`X) (mg:`bJ) (fa:`g) (h:`W),`x2 h->`LP->`_' ->
   ∃fd:`hI,(`aaa) /\
    ∀base:`W,`x2 `m->`A2->`T `aj w `sw mg `m (CX w) k fa fd [x] (sp w))
  (hsp:∀(w:`X) (H:Hp) (a:`g) (ns:`P),`BM->Only H->`az5->sp w `fP H `LN `lO)
  (hCX:∀(w:`X) (H:Hp) (s:`y) (e:`J) (s':`y),CX w [] H s (`lO) e s'->`bW) :
  `az6:=by
 refine Att.Ye0 hn hdf λw s₀ s₁ mg mb fa o pm cd doc a vs ns G Y ho hd Z U O M J hg=>?_
 have KX:=hY w _ Y;let#[fd,hb,hF]:=F w mg fa _ KX G.T.g U;exact Q90 KX G.T.g G.T.b G.T.builtins G.T.nolimit hg O M (B4 J hn2) hr hF hb (λH hO hS=>hsp w H a ns J hO hS) λH e s'=>hCX w H `es e s'
def V8(s:`bq):Arguments:=match s with
 | `aae _ a _ _ _ _ _ _ _ _=>a
 | _=>{ posonlyargs:=[],args:=[],vararg:=`e,kwonlyargs:=[],kw_defaults:=[],kwarg:=`e,defaults:=[] }
def W4(s:`bq):`eh:=match s with
 | `aae _ _ b _ _ _ _ _ _ _=>b
 | _=>[]
def t8(s:`bq):`cz:=match s with
 | `aae _ _ _ _ _ _ sc _ _ _=>sc
 | _=>{ kind:=`mt,names:=[],isGenerator:=`r,isCoroutine:=`r }
abbrev CX0:CXT:=λ_ _ _ _ _ _=>`bW
abbrev E0:XK:=`lO
theorem nh0:qq0 CX0 X E0:=λ_ _ _ _ _ _ _ h=>`sJ
structure Fun(K:`B)(x qual:Str)(st:`bq)(f:`g)(fd:`hI):Prop where
 ex:∃(oc:`J) (od:`fl) (kV doc pm:`J) (an:`fl) (cdv ct:`J) (osl:`n_),
  fd=`LQ/\`Lk=`c #[oc,od,`co fd,osl]/\`_m
 kp:`K8
section
variable{P:`aw}{w:`X}
def Fun.ok{st:`bq}{f:`g}{ps:`h}{k:Nat}(F:`az7)(S:`LR)(len:`_e)
  (hbody:∀(cdv:`J) (A:`cK) (outer:`f7) (s:`y) (H:Hp) (vs:`N) (Q:VK) (E:XK),`go k (`xH (`Fd `fM `o! `Y f cdv))->`E? ->
   ∃t,PSs (n80 CX0 P w K mg `m N `fM `o! f cdv A `cE s H E).nox `x3 t/\`ax9):`T P w K mg `m CX0 `fK f fd ps sp:=by
 skip;let#[oc,od,kV,doc,pm,an,cdv,ct,O,rfl,lk,M]:=F.ex;done;refine Ky0 lk M S len λA outer s H vs Q E hr J=>?_
 let#[t,h,q]:=hbody cdv A `cE s H vs Q E hr J;exact#[t,h.nox,q]
def Fun.binds{st:`bq}{f:`g}{ps:`h}(F:`az7)
  (h:∀(kV doc pm:`J) (an:`fl) (cdv ct:`J) (us:`ah),`eI=`aA->`qL (`LQ) `Lc=`b3 `Bx):`yx:=by
 skip;let#[oc,od,kV,doc,pm,an,cdv,ct,M,rfl,lk,J]:=F.ex;done;exact .all (h kV doc pm an cdv ct)
theorem G3{st:`bq}{f:`g}{osl:`n_}{kV:`J}(l:`Lk=`c #[oc,od,`co (`LQ),osl])
  (c:`_m) (k:`K8):Fun K x `fM st f (`LQ):=#[#[oc,od,kV,doc,pm,an,cdv,ct,osl,rfl,l,c],k]
universe zz
theorem M6{k:Nat}(hr:`Bw):`BO:=O0 (Nat.add_le_add_left (`an:1<=64) _) `J2
structure Same(H H':Hp):Prop where
 old:`az8
 nf:∀b o xs,`az9
instance{H H':Hp}:`eM (`a3) (λ_=>`az8):=#[Same.old]
theorem Same.refl(H:Hp):`cG H H:=#[λ_ _ h=>h,λ_ _ _ h=>h]
theorem Same.trans{H1:Hp}(a:`cG H H1)(b:`LS):`cG H H2:=#[λc o h=>b c o (a c o h),λc o xs h=>a.nf c o xs (b.nf c o xs h)]
def Same.free(e:`a3){l:`g}(h:H' l=`az'):H l=`az':=by
 cases q:H l with
 | none=>rfl
 | some o =>
  rw[e l o q] at h;cases h
def Its(x:Str):It:=#[λi _=>i<`BP,λi H v H'=>H'=H/\∃c,`aaf=`d6/\v=`sG,λi _=>`BP<=i]
theorem bm0{P:`aw}{w:`X}{K:`B}{tg:`M}(it:`g)(T:`cO)(hT:T = `az!∨T = `az?)(x:Str)(t:Tok) :
  Turn P w K tg (Its x) [it] it (λi h=>h.IsStrIter it T x t i) where
 mem:=`a6
 obj:=λi h st b hb=>by
  apply `A8
  subst e;apply `ZF;apply `ZG
 keep:=λi h h' st k=>by
  let#[o,e,r]:=st;exact#[o,`alh,r]
 item:=by
  apply `ki;skip;apply `kj;have O:i<`BP:=hg;have hx:`aaf=`c `amr:=by simp[O]
  apply `nT;have fin:∀h',h'.IsStrIter it T x t `d'->`r9 it `aK h' ->
    ∃u,(`c (`EA `aAa `bu))=`br/\`u `aq X.A `ZA (λ_ s2=>∃x_1 H',`ZB/\`c4 x_1 u/\(Its x).yld i H x_1 H'/\s2.heap.IsStrIter it T x t `d'/\∀b∈[it],`r4) E `LT:=by
   intro h' J sb;have I1:Inv X `k σ H `LT:=`EX `R6 f0 f1 f3 f4 f5;apply `ZK;refine#[_,rfl,cr0 (s:=`LT) (n:=T) e c d (by rcases hT with rfl|rfl<;>decide) #[`t `aAa,H,I1,`ac,#[rfl,_,hx,rfl],J,`KX]]
  rcases hT with rfl|rfl
  ·done;exact wpAny_pyNext_ascii_item st hx `aAb
  ·done;exact wpAny_pyNext_wide_item st hx `aAb
 done:=by
  apply `ki;skip;apply `kj;have M:`BP<=i:=hg;have hx:`aaf=`e:=by simp[M]
  apply `nT;rcases hT with rfl|rfl
  ·done;exact wpAny_pyNext_ascii_end `iT st hx `Bh
  ·done;exact wpAny_pyNext_wide_end `iT st hx `Bh
 self:=λ_ _ _ _ _ st h=>by
  rcases hT with rfl|rfl
  ·exact wpAny_pyIter_striter_ascii st h
  ·exact wpAny_pyIter_striter_wide st h
def Hd0(te:TE):TI:=fun σ H R=>te σ H λv H1=>∃x,`LU/\R (Its x) H1
def Kl0(he:`f8):PI X tg e (Hd0 te):=by
 apply `Bi;refine thn `iS λv s1 hq45=>?_;skip;let#[y,H1,I1,r1,q1]:=hq45
 let#[x,rfl,q]:=q1;let#[t,rfl]:=r1;have fp:∀(o:Obj),∀b∈`Bj,p10 X `k H1 b:=λo b hb=>by
  have e:b=`gm:=`r6
  subst e;apply `Bk
 cases ha:x.cps.all (·<128) with
 | true =>
  done;exact wpAny_pyIter_ascii ha #[`gm,`Bj,_,_,H1,rfl,`KY,bm0 _ `az! `gg x t,`KZ,`aAc,q]
 | false =>
  done;exact wpAny_pyIter_wide ha #[`gm,`Bj,_,_,H1,rfl,`KY,bm0 _ `az? `u9 x t,`KZ,`aAc,q]
def Y5(X:Cx)(scope:`cz)(cl:`q1)(N':`h)(s:`y)(H:Hp)(ex:`aM):Cx :=
 { X with N:=N',s₀:=s,H₀:=H,env:=compEnvC `cF cl `Y `A,outer:=`h2,ex:=ex,fn:=λ_=>`r,pn:=[],xe:=`FG }
structure CompOk(sc scope:`cz)(N N':`h)(n:Nat)(caps:`i):Prop where
 kind:scope.kind=`mt
 nocell:∀y∈`gq,`aAd
 loc:∀y∈`gq,`aAe
 free:∀y∈`gq,`aAf
 nd:N'.Nodup
 len:`aAg
 cap:∀k∈`bw `sx,`aAh
def J8(n:Nat)(caps:`i)(σ:St):St:=`a1 n `e++`aAi
def Ux0(n:Nat)(caps:`i)(σ:St):`aAj=n+`sx:=by simp[J8]
theorem qn0{env:Env}:∀(names:`aAk),(∀x∈`ko,`aAl)->∀acc:`q1,
  ∃cl:`q1,(`ta `ko acc (λ(x:`amw) (cs:`q1)=>if (x.2==`jg)=`d then do let a ← cellOf env x.1;`b3 (`FF ((x.1,a)::cs)) else `b3 (`FF cs)):Sem (`q1))=`b3 cl /\
   (∀y c,`aag->`FB y=`d6∨`aAm)/\(∀x∈`ko,`aah)/\(∀y c,`aAm->∃c',`FC y=`c c')
 | [],_,acc=>#[acc,rfl,λ_ _ h=>`LV,`aAn,λ_ c h=>#[c,h]]
 | `aai,h,acc=>by
  skip;cases hk:(`SS) with
  | true =>
   have hk':k=`jg:=by simpa using hk
   let#[c,hc]:=h `FD A7 hk';let#[cl,e,h1,h2,h3]:=qn0 r (`u?) ((n,c)::acc);done;refine#[cl,?_,`aAo,`aAp,`aAo]
   ·rw[`Ug]
    simp only[hk,`gr,cellOf,hc,pure_bind];exact e
   ·rcases h1 y d hy with z|z
    ·exact `e9
    ·rw[`f'] at z
     cases q:(y==n) with
     | true =>
      rw[q] at z;cases z;have:y=n:=`ZM
      subst this;exact `p hc
     | false =>
      rw[q] at z;exact `tg
   ·apply `va
    ·exact h3 n c (by simp[`f'])
    ·exact `aAq
   ·by_cases q:y=n
    ·subst q
     exact h3 y c (by simp[`f'])
    ·refine h3 y d ?_
     have:(y==n)=`r:=`ZM
     rw[`f',`E];exact hy
  | false =>
   let#[cl,e,h1,h2,h3]:=qn0 r (`u?) acc;done;refine#[cl,?_,h1,`aAp,h3]
   ·rw[`Ug]
    simp only[hk,`s8,`dy,pure_bind];exact e
   ·apply `va
    ·have:k=`jg:=hf
     rw[`E] at hk;exact `I hk `s
    ·exact `aAq
def pg0{env:Env}(h:∀x∈`gq,`aAl) :
  ∃cl:`q1,`aAr `cF env=`b3 cl/\(∀y c,`aag->`FB y=`d6)/\∀x∈`gq,`aah:=by
 let#[cl,e,h1,h2,_]:=qn0 `gq h [];refine#[cl,?_,λy c hy=>(h1 y c hy).elim id `ea,h2];simp only[`aAr];rw[← bind_pure (`ta _ _ _)] at e
 first
  | exact e
  | (refine Eq.trans ?_ e;rfl)
theorem s30{env:Env}:∀(names:`aAk) (x:Str),
  (`zP `aaj).lookup x =
   (names.lookup x).map λk=>`aak
 | [],_=>rfl
 | `aai,x=>by
  have ih:=@s30 env r x;have l1:`lQ x ((`aai).map `aaj) =
    `lQ x ((if `aAs then (n,`x5) else `FD)::r.map `aaj):=rfl
  rw[l1,`f' (as:=r)]
  by_cases hc:`aAs
  ·rw[`R hc,`f']
   cases hx:x==n with
   | true =>
    have e:x=n:=`aAt
    subst e;show `c `x5=`c (`aak);rw[`R hc]
   | false=>exact ih
  ·rw[`BQ,`f']
   cases hx:x==n with
   | true =>
    have e:x=n:=`aAt
    subst e;show `e6=`c (`aak);rw[`BQ]
   | false=>exact ih
section
variable{w:`X}{R:`qN}{s:`y}
def aj0{elt target iter:`M}{ifs:`bn}{scope:`cz}{pos:Pos}{it acc:`J}{env:Env}(I:`aal)
  (turn:∀n s,I n s->`u `aC A (`yR it) (λr s₁=>match r with
   | `e=>R `aAu `es
   | `b6=>`u `aC A (`alg `FH it v) (λ_ s₁'=>`u `aC A (`g6 `FH env v) (λ_ s₂ =>
     `u `aC A (`ta ifs `d λc r=>if r=`d then do let ok ← `ER c env (`bg c env);`aAv else `aAw) (λok s₃ =>
      if ok=`d then `u `aC A (`bg elt env) (λx s₄ =>
       `u `aC A (`e2 (`cT `azR) [acc,x]) (λ_ s₅=>∃m,m<n/\I m s₅) `n2 s₄) `n2 s₃
      else ∃m,m<n/\I m s₃) `n2 s₂) `n2 s₁') `n2 `es) `n2 s)
  (n:Nat) (h:I n s) :
  `g? `aC A (.compLoop `aAx 0 it acc env) R s:=by
 refine codeAny_loop rfl I (λn s hI=>?_) n h;show `u _ A ((compTurn `aAx 0 it acc env).onRaise (λx=>do noteFrame x env;theTreesLotGoes x)) _ _ s;refine wpAny_noted ?_;rw[compTurn_list];refine A0 (x6 (A0 (D6 (turn n s hI) (λr s₁ h₁=>?_) `vb)));cases r with
 | none=>exact A1 h₁
 | some v =>
  refine A0 (D6 h₁ (λ_ s₁' J=>?_) `vb);refine A0 (D6 J (λ_ s₂ h₂=>A0 (D6 h₂ (λok s₃ h₃=>?_) `vb)) `vb);cases ok with
  | false=>exact A1 #[rfl,h₃]
  | true =>
   exact A0 (A0 (D6 h₃ (λx s₄ h₄=>A0 (D6 h₄ (λ_ s₅ h₅=>A1 (A1 #[rfl,h₅])) `vb)) `vb))
universe zz
def PF(X:Cx)(ifs:`bn)(t:TT):Prop :=
 ∀(pins:`aI) (s:`y) (σ:St) (H:Hp) (Q:`A'),`F->`mF ->
  `u `aq X.A (`ta ifs `d λc r=>if r=`d then do let ok ← `ER c `A (`bg c `A);`aAv else `aAw) `Za `aL s
theorem Lx0:PF X [] λ_ H Q=>Q `d H:=λ_ _ _ H _ I h=>wpAny_tests_nil #[H,I,h]
theorem Mv0{t:TT}(h:PT X c t):PF X [c] t:=λpins s σ H Q I q=>wpAny_tests_one (h `k s σ H Q I q)
def Wk(σ σ':St):Prop:=`Y7/\∀(j:Nat) (v:V),`aam->σ'[j]?=`oK
def b40(n:Nat)(caps:`i)(wi:TI)(g:TG)(tt:TT)(te:TE):TE:=fun σ H Q=>wi σ H λJ H1=>∀D,H1 D=`e ->
 ∃W:`aAy,(∃m,W 0 m [] (upd H1 D `ex))/\∀i m ys H2,`aAz ->
  `aAA∨(J.go i H2/\∀x H3,`aAB->g x `e4 H3 fun σ4 H4=>`aAC/\tt σ4 H4 λb H5 =>
   `aAD)
section
variable{wi:TI}{g:TG}{tt:TT}
def If0(X:Cx)(pins:`aI)(H:Hp)(C:`g):Prop :=
 H C=`e/\C≠`fC/\`oM<=C/\(∀x c,`jh->c≠C)/\∀p∈`EL,p.1≠C
def ev0{pins:`aI}{σ:St}{H2:Hp}{s2:`y}{it:`g}{fp:`aM}{tn:`Zx}{J:It}{cl:`q1}{Q:VK}{RR:`J->`g->`qN}{E:`aF}
  (hc:`dQ) (hsc:`k9) (ok:`n3)
  (hcl1:∀y c,`aag->`aux) (hcl2:∀x∈`gq,`aah)
  (hg:∀s H ex,`amF) (ht:∀s H ex,`amG) (he:∀s H ex,`amH)
  (I2:`awu) (T:`av0) (st2:`av1) (f2:∀b∈fp,p10 X `k H2 b)
  (q:∀D,H2 D=`e->∃W:`aAy,(∃m,W 0 m [] (upd H2 D `ex))/\∀i m ys H2,`aAz ->
   `aAA∨(J.go i H2/\∀x H3,`aAB->g x `e4 H3 fun σ4 H4=>`aAC/\tt σ4 H4 λb H5 =>
    `aAD))
  (hend:∀(D C:`g) (H':Hp) (s':`y) (m:`bJ),`lK->If0 X `k H' C->s'.heap.Ns C m->Q `pb H'->RR `pb C `aAu s') :
  `u `aq X.A (`aan) (λacc s₃=>`u `aq X.A (newFunctionEnv `cF `YX cl [] X.env.qual `e `aJ (`c `A)) (λcenv s₄ =>
   `g? `aq X.A (.compStart `mB 0 `oU acc { cenv with scope:=`amC }) (RR acc cenv.locals) s₄) E s₃) E s2:=by
 refine N9 (wpAny_newFunctionEnv ok.nocell (by intro y hy;simp at hy) (λh₁ Y U=>?_) `xu);dsimp only at Y U ⊢;obtain⟨D,hD⟩:∃D,D=`BR:=`ac;have I3:Inv X `k σ (upd H2 `BR `ex) `aAE:=I2.lnew (its:=[]) (t':=`SU) `L `q2;have d2:H2 `BR=`e:=I2.fresh;let#[W,#[m0,w0],b3]:=q `BR d2;generalize hs3:(`aAE:`y)=s3 at *;have a7:`amA=s3.heap:=`LW
 have h8:`SU=s3.toks:=`LW
 rw[a7] at Y U ⊢;generalize hH3:upd H2 `BR (`Vn [])=H3 at *;rw[← hD] at b3 hH3 d2 ⊢;have old:∀b o,`aAF->`aao:=λb o e=>`LX b o `Zp (`oY)
 have b4:∀b o,s2.heap.get? b=`au->`aAF:=λb o e=>by rw[← a7];exact `oY
 have e7:∀b∈fp,b<`sp:=λb hb=>by
  apply `aAG;exact A8 `aAH
 have f8:∀b∈fp,b≠D:=λb hb z=>by
  apply `aAG;rw[z,hD] at e;exact `I `oP `lG
 obtain⟨X',M⟩:∃X',X'=`aAI:=`ac;have h5:X'.Ok:=by
  subst M;refine#[I3.ok.mod,`xu,I3.ok.glob,I3.ok.blt,`jl,λx y c h1 h2=>I3.ok.inj x y c (hcl1 x c h1) (hcl1 y c h2),`kp,λx c h _=>`I h (by simp[Y5]),I3.ok.hd,I3.ok.frames,`mk,
   λb hb=>#[`aAJ,`aAK],λb o e=>I3.bs b o e,B4 I3.ok.bsz I3.sz,λb o e hb=>?_,λb hb hf=>?_,I3.stack,I3.stkFree]
  ·have a3:(`x8=`jf)∨(`x8=`kZ):=hx
   have q2:=s30 (env:=`A) `gq x;have q3:`aAL:=q2
   cases e:`sj x with
   | none =>
    rw[q3,e] at a3;rcases a3 with z|z<;>cases z
   | some k =>
    have hk:k=`jg:=by
     rw[q3,e] at a3;have nc:=ok.nocell (x,k) (E8 e);cases k<;>first
      | rfl
      | exact `I rfl nc
      | (rcases a3 with z|z<;>simp at z)
    subst hk;exact hcl2 `aap (E8 e) rfl
  ·rcases `aAM with z|z
   ·exact I3.ok.noex b o e z
   ·exact `I (B6 (A8 (I3.ok.bs b o e).1) z) `lG
  ·apply `aAN
   ·exact`aaq z
   ·exact(`k_).2.2.1 z
 have I4:Inv X' [] `e4 H3 `aAO:=by
  refine#[h5,?_,?_,?_,?_,`Kv,?_,`Kv,`kd,(by subst M;exact I3.hok.kept old),?_]
  ·subst M;rfl
  ·exact I3.bare
  ·subst M;exact `Ko old
  ·subst M
   refine#[_,Y,`auM];skip;have hi:n<=i:=by
    by_cases hi:i<n
    ·unfold J8 at e2
     rw[`Lj,`lT,`R hi] at e2;cases e2
    ·lia
   obtain⟨k,rfl⟩:∃k,i=n+k:=#[i - n,`H];have hk:k<`sx:=by
    have:=(`cU e1).1;have e5:(`aAI).N.length=n+`sx:=ok.len;lia
   let#[c1,c2]:=ok.cap k (`fc hk);have e6:`SO=`dk:=e1;unfold J8 at e2;rw[`aAP,`qZ,`aAQ,`bN] at e2;obtain⟨j,hj⟩:∃j,`SP=`u4:=#[caps[k],by simp[hk]];rw[hj] at e2 c1;have h7:X.N[j]?=`dk:=by rw[← e6,c1];rfl
   have a2:`SQ=`b6:=A3 e2;have f0:`aam:=by
    cases q:`sy with
    | none=>rw[q] at a2;cases a2
    | some o=>rw[q] at a2;rw[show o=`b6 from a2]
   rw[e6] at c2;have O:`sj x=`kZ:=by simpa using c2
   have b2:=ok.free `aap (E8 O) rfl;let#[m,hn,hl]:=I3.loc;let#[u,ru,l]:=hl j x v h7 f0 (by
    rcases b2 with z|z
    ·exact `q (`p `aAR)
    ·exact `q (`q `aAR))
   done;refine#[u,ru,`q `LY]
   ·have q3:`aAL:=s30 `gq x
    rw[O] at q3;show `x8=_∨`x8=_;rw[q3]
    by_cases hcc:(`SR==`SR&&`amD&&`amE)=`d
    ·left;simp only[`gx,`R hcc]
    ·right;simp only[`gx,`ap hcc]
   ·skip;let#[c',e0]:=hcl2 `aap (E8 O) rfl
    rcases l with⟨f4,_⟩|⟨_,c,f9,c0⟩
    ·have b1:`ak3:=f4
     rw[hsc] at b1;done;rcases b2 with z|z<;>(rw[b1] at z;cases z)
    ·have:=hcl1 x c' e0
     rw[f9] at this;cases `E;let#[o,ho,hd]:=c0;done;exact#[_,e0,o,`aAS,hd]
  ·apply `aAT
   let#[v,o,ho,hd]:=I3.cell x c (hcl1 x c e');exact#[v,o,`aAS,hd]
  ·subst M;exact I3.hok.fresh `bi
  ·apply `aAT
   exact I3.freeC x c (hcl1 x c e')
  ·subst M;exact `aAU
  ·subst M
   show _=`amt;rw[Ux0,ok.len]
 have a6:X'.calm=`d:=by subst M;exact hc
 have Z:∀{H':Hp},`uN->∀b∈fp,p10 X' [] H' b:=λ{H'} hn b hb=>by
  subst M;refine#[hn b hb,`aAJ,λhf=>?_,`aar,`aAK,λp hp=>`aAU];apply `aAN
  ·exact`aaq z
  ·exact(`k_).2.2.1 z
 have g5:∀b∈fp,H3 b=`e:=λb hb=>by rw[← hH3,d7 (f8 b hb)];exact(`k_).1
 have c4:tn 0 h₁:=T.keep _ _ _ st2 λb hb o e=>old b o `aAH
 have loop:∀s4:`y,s4=`aAO ->
   `g? `aq X.A (.compLoop `mB 0 `oU `pb X'.env) (RR `pb `sp) s4:=by
  rintro s4 rfl;refine aj0 (λk s'=>∃i ys H',Inv X' [] `e4 H' s'/\`awq/\`uN/\W i k ys H') ?_ m0 #[0,[],H3,I4,c4,g5,w0];rintro k s5 ⟨i,ys,H5,I5,c3,e4,w5⟩;have eP:X'.prog=`a?:=`BS
  have ew:X'.w=X.w:=`BS
  have eK:X'.K=X.K:=`BS
  have eA:X'.A=X.A:=`BS
  rcases b3 i k ys H5 w5 with⟨stop,qe⟩|⟨go,step⟩
  ·have T':=T.done X' eP ew eK a6 i [] s5 `e4 H5 `n2 I5 (Z e4) c3 stop
   rw[eA] at T';refine thn T' λr s6 hq46=>?_;let#[hr,I6]:=hq46
   subst hr;have f5:Un (`A6) fp H3 H5 s3.heap s6.heap:=by have:=I6.base;subst M;exact `E
   have g4:s6.os=s3.os:=by have:=I6.os;subst M;exact `E
   have e9:HOk `a? X.w H5 s6.heap:=by have:=I6.hok;subst M;exact `E
   have IX:Inv X `k σ H5 s6:=I3.call' g4 f5 e9 I6.bare λb hb=>#[`aAM,`aaq,`amB,(`k_).2.2.2.2.2]
   let#[m6,g9,_]:=I6.loc;have f3:s6.heap.Ns `sp m6:=by subst M;exact g9
   refine hend D `sp H5 s6 m6 IX #[by have:=I6.free;subst M;exact `E,C7 I3.lt,I3.sz,`avW,`avX] f3 qe
   ·let#[v,qc]:=I3.cell x c e
    exact `I (B6 qc.lt `aAV) `lG
   ·exact `I (B6 (A8 (I3.pin p hp).1) `aAV) `lG
  ·have T':=T.item X' eP ew eK a6 i [] s5 `e4 H5 `n2 I5 (Z e4) c3 go
   rw[eA] at T';refine thn T' λr s6 hq47=>?_;let#[u,hr,h6]:=hq47
   subst hr;refine thn h6 λ_ s7 hq48=>?_;skip;let#[x,H7,I7,r7,y7,b0,g3]:=hq48
   have f6:=I7.pinned (Z g3) (`x7 _ _ b0);have d3:=hg s3 H3 fp;have d1:=ht s3 H3 fp;have c8:=he s3 H3 fp;rw[← M] at d3 d1 c8;have g1:=d3 _ s7 `e4 H7 x u _ f6 r7 (step x H7 y7);rw[eP,ew,eA] at g1;have a4:X'.xe=`FG:=`BS
   rw[a4] at g1;done;refine thn g1 λ_ s8 hq49=>?_;let#[σ8,H8,I8,a5,q8]:=hq49
   have t1:=d1 _ s8 σ8 H8 _ I8 q8;rw[eP,ew,eA,a4] at t1;refine thn t1 λb s9 hq50=>?_;let#[H9,I9,q9]:=hq50
   have back:∀{σa:St} {Ha:Hp} {sa:`y} {a8:`N} {ma:Nat},Inv X' ([]++lg0 fp s7.heap) σa Ha sa->σa.length=`aAj->(∀(j:Nat) v,`e4[j]?=`oK->σa[j]?=`oK)->W `d' ma a8 Ha ->
     ∃i ys H',Inv X' [] `e4 H' sa/\tn i sa.heap/\`uN/\W i ma ys H':=λ{σa Ha sa a8 ma} Ia hl hw wa=>by
    refine#[i+1,a8,Ha,(Ia.weak hl.symm hw).unpinned,T.keep _ _ _ b0 λb hb o e=>(`aAW).1,`gN,wa];let#[o,e,d]:=`x7 _ _ b0 b hb;exact(`aAW).2.1
   cases b with
   | false =>
    rw[`nS];rw[`nS] at q9;let#[m',hm,w9]:=q9;exact#[m',hm,back I9 a5.1 a5.2 w9]
   | true =>
    rw[`bA];rw[`bA] at q9;have e1:=c8 _ s9 σ8 H9 _ I9 q9;rw[eP,ew,eA,a4] at e1;refine thn e1 λv f7 hq51=>?_;skip;let#[y,h0,g7,g8,f1,e8,m',hm,h3]:=hq51
    have a1:=pj0 (X:=X') _ f7 σ8 h0 `pb [y] `pb [v] (λ_ H'=>W `d' m' (ys++[y]) H') g7 rfl (`ai g8 `L) #[D,ys,y,rfl,rfl,f1,e8,h3];rw[eP,ew,eA,a4] at a1;done;refine thn a1 λ_ i0 hq52=>?_;let#[_,h9,h4,_,g6]:=hq52
    exact#[m',hm,back h4 a5.1 a5.2 g6]
 subst M;exact codeAny_compStart_list (loop _ (`LW)) (T.self X.A 0 _ _ _ c4 (loop _ (`LW)))
def k80(hc:`dQ)(hsc:`k9)(ok:`n3)(hi:`ZN)
  (hg:`aAX) (ht:`aAY) (he:`aAZ)
  (hs:`ei) :
  PE X `mB (b40 n `bZ wi g tt te):=by
 apply `bB;let#[cl,M,U,O]:=pg0 (env:=`A) (scope:=`cF) λx hx hf=>`Y' x.1 (by
  rcases ok.free x hx hf with z|z
  ·apply `aA_
  ·apply `aA0)
 rw[eval_ListComp];refine Bp0 (use:=`e) rfl hs M `xu ok.loc (thn `Bl λv s1 h1=>thn h1 λa1 s2 h2=>?_);skip;apply `aA1;done;refine ev0 (Q:=Q) (RR:=λZ C=>compPost `aq X.A `aL `e `e3 Z C) hc hsc ok U O (hg cl) (ht cl) (he cl) I2 T Y f2 q2 ?_;intro D C H' s' m IX as hn qe;refine#[m,hn,λh' sb=>#[`C D,H',IX.turned (t':=s'.toks) `R6 as.1 as.2.1 (`q as.2.2.1) `aas `aA2,rfl,qe]]
def ib0{py spos:Pos}(hN:`eK)(hiN:X.N[i]?=`ep)(hy:`ane)(hc:`dQ)(hsc:`k9)(ok:`n3)(hi:`ZN)
  (hg:`aAX) (ht:`aAY) (he:`aAZ)
  (hsw:`aat)
  (hs:`ei)
  (hf:`i_) :
  PS X `anf (λD σ H=>b40 n `bZ wi g tt te σ H `aA3):=by
 apply `iR;let#[cl,M,U,O]:=pg0 (env:=`A) (scope:=`cF) λx hx hf=>`Y' x.1 (by
  rcases ok.free x hx hf with z|z
  ·apply `aA_
  ·apply `aA0)
 rw[exec_Assign_Name_used _ _ _ _ hsw];refine A0 (x6 (`nX));show `u _ X.A (do let _ ← comprehension `mB `cF `A _ (`aan) `r (`bg `jm `A) (`aau)) _ _ s;refine A0 (D6 (Bp0 (use:=`aau) (Q:=`aA4) rfl hs M `xu ok.loc
  (thn `Bl λv s1 h1=>thn h1 λa5 s2 h2=>?_)) (λ_ s' hq=>A1 (A1 hq)) `Y6)
 skip;apply `aA1;done;refine ev0 (Q:=`aA3) (RR:=λZ C=>compPost `aq X.A `aL (`aau) (`aA4) Z C) hc hsc ok U O (hg cl) (ht cl) (he cl) I2 T Y f2 q2 ?_;intro Da C H' s' m IX as hn qe;show `u _ X.A (`g6 `FM `A (`C Da)) _ _ _;refine `avJ (df0 IX hN hiN hy (v:=`C Da) rfl (λa1 a3 hq53=>?_) hf);let#[a,sb,ha]:=hq53;have a4:C≠a:=by
  rcases ha with z|z
  ·rw[z];exact as.2.1
  ·exact B8 (`aas y a z)
 refine#[m,`au6 sb a4,λh' a2=>#[_,H',a3.turned (t':=a1.toks) (λb o hb e=>(a2.2 b hb).trans e) as.1 as.2.1 (`q as.2.2.1) `aas `aA2,qe]]
universe zz
universe L2
namespace DL
open Spec PyProof.Rows
inductive D where
 | non|bl (b:`aa)|int (i:Int)|str (x:Str)|tup (ds:`l)|lst (ds:`l)|dct (ks:Sum (`aav) (`af (`aav))) (ds:`l)|fn (ks:`aav) (ds:`l)
 deriving Inhabited
variable{items ns ds:`SX}{n' d0 d' b':DL.D}{q:`aA5}
@[simp] def unl:`kq
 | `w [_,d]=>d
 | d=>d
@[simp] def isL:`df
 | `BT=>`d
 | _=>`r
inductive Sl where
 | un|sh (d:D)|ow (d:D)
 | ex (c:Str) (n:`bl)
abbrev Ds:=`af Sl
inductive Res where
 | nx (δ:Ds)|rt (d:D)|bk (δ:Ds)|ct (δ:Ds)|rf (d:D)
variable{f:`aA6}{gt:`aA7}{ge gb:`aA8}{δ':`pf}{gi gA:`aA9}
abbrev GE:=`bo
abbrev GB:=`gT
variable{gk g0 go g1 g2:DL.GE}
abbrev GA:=`f!
abbrev GS:=`i0
@[simp] def asB:D->`FO
 | `dp=>`k4
 | _=>`e
variable{G Gh:DL.GS}
@[simp] def asI:D->`bl
 | `ba=>`pU
 | _=>`e
@[simp] def gv(i:Nat):GE:=fun δ=>match `cl with
 | `Td=>`a7
 | _=>`e
@[simp] def gc(d:D):GE:=λ_=>`a7
@[simp] def o2(ga gb:GE)(f:`a5):GE:=fun δ=>`vc λx=>`LZ λy=>f x y
@[simp] def ob(g:GE):GB:=fun δ=>`cR asB
@[simp] def xw0(g:GB):GB:=fun δ=>`vd (!·)
@[simp] def ui0(gt gu:GB):GB:=fun δ=>`sD λt=>if `x? then gu δ else `bv
@[simp] def wg0(gt gu:GB):GB:=fun δ=>`sD λt=>if `x? then `e5 else gu δ
@[simp] def pr0(ga gb:GE):GE:=fun δ=>`aA' λt=>if `x? then `dO else `ve
@[simp] def orG(ga gb:GE):GE:=fun δ=>`aA' λt=>if `x? then `nD else `dO
@[simp] def Rb0(ga:GE):GE:=fun δ=>(`amK).map λt=>.bl (!t)
@[simp] def v5:GA:=`aaw
@[simp] def z7(g:GE)(gA:GA):GA:=fun δ=>`cR λd=>(`cH).map λds=>`ay
@[simp] def zw0(gA:GA):GE:=fun δ=>`ip λds=>if `vf then `L_ else `e
@[simp] def V7(gA:GA):GE:=fun δ=>`ip λds=>if `vf then `vg else `e
@[simp] def oA(gA:GA)(f:`Q):GE:=fun δ=>`ip f
@[simp] def zy0(f:`df)(g:GE):GE:=fun δ=>`vd λd=>.bl (f d)
@[simp] def U7(d:D):`du:=match d with
 | `ba=>`c (`f (-i))
 | _=>`e
@[simp] def unG(f:`x')(g:GE):GE:=fun δ=>`cR f
@[simp] def v9(G1 G2:GS):GS:=fun δ=>match `mC with
 | `dv=>`BU
 | r=>r
@[simp] def t6:GS:=`aA!
@[simp] def V2(g:GE):GS:=fun δ=>`vd .rt
@[simp] def gN(i:Nat):`aT:=λd δ=>`c `L0
@[simp] def d8(f:`aT)(g:GE):GS:=fun δ=>`cR λd=>(`sE).map .nx
@[simp] def ifD(gt:GB)(Ga Gb:GS):GS:=`aA?
def J2(f:`aT)(G:GS):`l->`i0
 | [],δ=>`ph
 | `ay,δ=>match `aBa G with
  | `dv=>`aBb
  | `BV=>`aBb
  | `BW=>`dv
  | r=>r
@[simp] def td0(gi:GA)(f:`aT)(G:GS):GS:=fun δ=>`vh λitems=>`aax
@[simp] def cy0:`aay
 | `cw=>`pk
 | _=>`e
@[simp] def Pk0:`aay
 | `ci=>`pk
 | _=>`e
def signs(x:Str):`l:=x.cps.toList.map `aBc
@[simp] def Yx0:`aay
 | `bX=>`c (`i1 x)
 | _=>`e
@[simp] def re0(g:GE):GA:=fun δ=>`cR cy0
@[simp] def tupI(g:GE):GA:=fun δ=>`cR Pk0
@[simp] def jb0(g:GE):GA:=fun δ=>`cR Yx0
def zr0(lo hi:Int):`l:=(`bw `sb).map λk=>`f (lo+(k:Nat))
@[simp] def Wx0(ds:`l):`sA:=match ds with
 | [`fH]=>if -(`fq)<=j/\j<`fq then `c (zr0 0 j) else `e
 | _=>`e
@[simp] def ue0(gA:GA):GA:=fun δ=>`ip Wx0
@[simp] def noT:GB:=λ_=>`e5
@[simp] def ke0:`L1->Sl
 | `Td=>`et
 | _=>.un
@[simp] def zb0(n:Nat)(caps:`i)(δ:Ds):Ds:=`aBd++`aBe
def za0(f:`aT)(gt:GB)(ge:GE)(δ:Ds):`aaz
 | []=>`pg
 | `ay=>match `sE with
  | `e=>`e
  | `pj=>match `BX with
   | `e=>`e
   | `bv=>`aBf
   | `e5=>match `FS with
    | `e=>`e
    | `ep=>(`aBf).map λr=>y::r
@[simp] def T4(n:Nat)(caps:`i)(gi:GA)(f:`aT)(gt:GB)(ge:GE):GE :=
 fun δ=>`vh λitems=>if `q3 then `aBg `o else `e
@[simp] def S8(N:`h)(ds:`l):Ds:=ds.map .sh++`a1 (`BC - `bP) .un
@[simp] def isInt:`df
 | `cn=>`d|`bK=>`d|_=>`r
@[simp] def isStr:`df
 | `bF=>`d|_=>`r
@[simp] def isBool:`df
 | `bK=>`d|_=>`r
@[simp] def isTup:`df
 | `BT=>`d|_=>`r
@[simp] def ii(f:Int->Int->`du):`a5
 | `ba,`fH=>f i j
 | _,_=>`e
@[simp] def K7:`a5:=ii λi j=>`c (`f (i - j))
@[simp] def j9:`a5:=ii λi j=>if `K3 then `aBh else `e
@[simp] def m8:`a5:=ii λi j=>if 0<j then `aaA else `e
@[simp] def m90:`a5:=ii λi j=>if `ZU then `c (`alv) else `e
@[simp] def ltD:`a5:=ii λi j=>`c (.bl (`z (i<j)))
@[simp] def leD:`a5:=ii λi j=>`c (`alw)
@[simp] def gtD:`a5:=ii λi j=>`c (.bl (`z (j<i)))
@[simp] def geD:`a5:=ii λi j=>`c (`alx)
@[simp] def eqS:D->D->`FO
 | `x,`x=>`e5
 | `x,`cn=>`bv|`cn,`x=>`bv|`x,`bK=>`bv|`bK,`x=>`bv|`x,`bF=>`bv|`bF,`x=>`bv
 | `ba,`fH=>`aaB
 | .bl i,.bl j=>`aaB
 | `t i,`t j=>`aaB
 | `cn,`bF=>`bv|`bF,`cn=>`bv|`bK,`bF=>`bv|`bF,`bK=>`bv
 | _,_=>`e
@[simp] def eqD(x y:D):`du:=`aBi .bl
@[simp] def neD(x y:D):`du:=`aBi λb=>.bl (!b)
@[simp] def Jd0:`df
 | `x=>`d|_=>`r
@[simp] def mh0(x y:D):`du:=match y with
 | `x=>`c (.bl (Jd0 x))
 | _=>`e
def ixN(n:Nat)(i:Int):`Ly:=`ayY
def atI{α:Type}(xs:`aN)(i:Int):`aP α:=`ayZ
@[simp] def ixD:`a5
 | `cV,`ba=>`xS
 | `eV,`ba=>`xS
 | `mx,`ba=>if `st then (`ay2).map `aBc else `e
 | _,_=>`e
def sIx(n d:Nat):`aye
 | `e=>d
 | `b6=>`Ln
def cutD(xs:`l)(lo hi:`bl):`l:=(`AY (`aaC)).take (`aBj - `aaC)
abbrev GO:=`vi
@[simp] def xx0:GO:=λ_=>`c8
@[simp] def someO(g:GE):GO:=fun δ=>`cR λd=>(asI d).map `c
@[simp] def V1:`Q
 | `ss=>if `st then `c (`SB) else `e
 | [`cV]=>`aBk
 | [`eV]=>`aBk
 | _=>`e
def sd0:`l->`aP (`h)
 | []=>`pg
 | `mU::ds=>(`vj).map λr=>b::r
 | _=>`e
@[simp] def cv0(d:D)(ds:`l):`du:=match d,ds with
 | `t sep,[`cV]=>(sd0 xs).bind λys=>if `aBl then `c `aBm else `e
 | _,_=>`e
@[simp] def nq0(g:GE)(gA:GA):GE:=fun δ=>`cR λd=>`ip λds=>cv0 d ds
@[simp] def xk0:`Q
 | `BY=>`L_
 | [`ci]=>`L_
 | _=>`e
theorem qm0{gt:GB}{ge:GE}{δ:Ds}(p:`df)(h:`kq):∀{items:`l},(∀d∈`bs,∃δ',`aaD/\`BX=`c (p d)/\(p d=`d->`aBn)) ->
  `aBo=`c ((items.filter p).map h)
 | [],_=>rfl
 | `ay,H=>by
  let#[δ',e1,e2,e3]:=H d A7;have ih:=qm0 p h λd hd=>H d (A6 _ hd)
  unfold za0;rw[e1];dsimp only;rw[e2];cases hp:p d with
  | false =>
   dsimp only;rw[`aBp (`aaE)];exact ih
  | true =>
   dsimp only;rw[e3 hp,ih,`aBq hp];rfl
def v50{gt:GB}{ge:GE}{δ:Ds}(h:`kq)(H:∀d∈`bs,∃δ',`aaD/\`BX=`e5/\`aBn):`aBo=`c (items.map h):=by
 have:=qm0 (f:=f) (gt:=gt) (ge:=ge) (δ:=δ) (λ_=>`d) h (items:=`bs) λd hd=>by
  let#[δ',a,b,c]:=H d hd;exact#[δ',a,b,λ_=>c]
 rw[`aBr `aB] at this;exact `E
theorem strs_map(h:α->Str):∀l:`aN,`aBs=`c (`eu h)
 | []=>rfl
 | a::l=>by
  show (`aBs).map (λr=>h a::r)=_;rw[strs_map h l];rfl
theorem qa0(P:Nat->Ds->Prop):∀(items:`l) (i:Nat) (δ:Ds),(∀j d δ,`bs[j]?=`a7->P `E0 δ->∃δ1 δ2,`aBt/\`aBu/\P (i+j+1) δ2)->P i δ ->
  ∃δ',`aax=`dv/\P (i+`b_) δ'
 | [],i,δ,_,h=>#[δ,rfl,h]
 | `ay,i,δ,H,h=>by
  skip;let#[δ1,δ2,e1,e2,h2]:=H 0 d δ rfl h;let#[δ',e3,h3]:=qa0 P ds `d' δ2 (λj d δ hj hp=>by
   have q:i+`n4=i+1+j:=`H
   let#[a,b,c,d',e]:=H `n4 d δ (`BZ) (by rw[q];exact hp);exact#[a,b,c,d',by rw[q] at e;exact e]) h2
  have q:i+`L2=i+1+`bP:=`lA
  done;refine#[δ',?_,by rw[q];exact h3];unfold J2;rw[e1];simp only[`n,e2];exact e3
def L50{G1 G2:GS}{δ:Ds}(h:`aaF):`L3=`BU:=`aaG
def Z4{G1 G2:GS}{δ:Ds}{d:D}(h:`mC=`sR):`L3=`sR:=`aaG
def T9{g:GE}{δ:Ds}{d:D}(h:`hO):V2 g δ=`sR:=by unfold V2;rw[h];rfl
def X8{g:GE}{δ:Ds}{d:D}(h:`hO):d8 `Tv g δ=`c (.nx `L0):=by unfold d8;rw[h];rfl
def R9{g:GB}{Ga Gb:GS}{δ:Ds}(h:`aaH):`aBv=`FQ:=`aBw
def Y0{g:GB}{Ga Gb:GS}{δ:Ds}(h:`aaI):`aBv=Gb δ:=`aBw
def xa0{gi:GA}{gt:GB}{ge:GE}{δ:Ds}{out:`l}(h1:`L4)(h2:`q3)(h3:`SZ=`c out):`aBx=`c (`o out):=by
 unfold T4;rw[h1];show (if `q3 then `aBg `f0 else `e)=_;rw[`R h2,h3];rfl
def t50{gi:GA}{δ:Ds}{r:`x9}(h1:`L4)(h2:`aax=r):td0 gi f G δ=r:=by
 unfold td0;rw[h1];exact h2
def cons_of{g:GE}{gA:GA}{δ:Ds}{d:D}(h1:`hO)(h2:`lW):z7 g gA δ=`c `hx:=by unfold z7;rw[h1,h2];rfl
def c7{gA:GA}{δ:Ds}{f:`Q}(h:`lW):oA gA f δ=f ds:=by unfold oA;rw[h];rfl
def o4{ga gb:GE}{δ:Ds}{x y:D}{f:`a5}(h1:`cv=`dk)(h2:`dO=`ep):`aBy=f x y:=by unfold o2;rw[h1,h2];rfl
def O30{g:GE}{gA:GA}{δ:Ds}{x:D}(h1:`ax=`dk)(h2:`lW):nq0 g gA δ=cv0 x ds:=by unfold nq0;rw[h1,h2];rfl
def vp0{xs:`aN}{i:Int}(h0:`g!)(h1:`u5)(d:α):`xS=`c (`L5 `e1 d):=by
 unfold atI ixN;rw[`R h0,`_C];show xs[`e1]?=_;have:`e1<`aG:=`H
 simp[`bO,`E]
universe DL
variable{f:`aA6}{items ns ds:`SX}{n' d0 d' b':DL.D}{q:`aA5}{gt:`aA7}{ge gb:`aA8}{G Gh:DL.GS}{δ':`pf}{gi gA:`aA9}{gk g0 go g1 g2:DL.GE}
namespace DL
open Spec PyProof.Rows L2
abbrev BS:=`g->Prop
abbrev St:=L2.St
variable{B B' B₀:DL.BS}
structure NB(o:`qP):Prop where
 ne:o≠`e
 nf:∀ob u,o=`YF->∃xs,u=`cV
 nt:∀xs,o≠`h_
instance{o:`qP}:`eM (NB o) (λ_=>o=`e->`bW):=#[λh e=>h.ne e]
def NB.of{o:`qP}{u:HO}(h:o=`br)(n:∀ob u',u≠`akR)(t:∀xs,u≠`eV):NB o:=by
 subst h;exact#[`aBz,λob u' z=>`I (A3 z) (n ob u'),λxs z=>t xs (A3 z)]
def NB.keep(q:`B_)(h:`mD):NB (H' a):=by
 cases e:H a with
 | none=>exact `I e h.ne
 | some o=>rw[q o e,← e];exact h
theorem NB.same(q:`a3)(h:`mD):NB (H' a):=h.keep λo e=>q a o e
def SqT'(K:`B)(H:Hp)(B:BS)(a:`g)(xs:`N):Prop:=`sH/\H a=`h_
def SqL'(K:`B)(H:Hp)(B:BS)(a:`g)(xs:`N):Prop:=(`aBA)∨`bW
theorem SqT'.to(h:`FU):`nR:=`p (`p h.2)
theorem SqL'.at(h:`yd):`aBA:=`sJ id `eJ
theorem SqL'.to(h:`yd):`oV:=`p h.at.2
def Gr(H H':Hp)(B B':BS):Prop:=∀b o,`sO->`SN->¬B' b/\`g1=`au
theorem SqT'.mono(g:`dZ)(h:`FU):SqT' K H' B' a xs:=`aBB
def SqL'.mono(g:`dZ)(h:`yd):SqL' K H' B' a xs:=by
 obtain⟨n,h|⟨o,h⟩⟩:=h.at
 ·exact `p #[(`L6).1,`p (`L6).2]
 ·exact `p #[(`L6).1,`q #[o,(`L6).2]]
theorem Gr.same(s:`a3):`aBC:=λb o n h=>#[n,s b o h]
theorem Gr.less(h:`q4):Gr H H B B':=λb o n e=>#[λz=>n (h b z),e]
abbrev KS:=Sum (`gZ) (`af (`gZ))
def dOb:KS->`N->HO
 | `yg,xs=>`sK
 | `B0,xs=>`aaJ
def dLn:KS->Nat
 | `yg=>`gs
 | `B0=>`gs
def J10(fd:`hI)(x y:Str)(c cd:`g):Prop :=
 ∃p1 p2 p3,fd.body=.expr (`h6 (`cr x p1) (`cr y p2) p3)/\fd.scope.isCoroutine=`r/\fd.scope.isGenerator=`r/\fd.scope.kind=`mt/\`aBD y=`ml/\`aBD x=`kZ /\
  (∀z∈fd.scope.names,z.2≠`r0)/\fd.closure=[(x,c)]/\fd.code=`C cd/\fd.globals=`bf/\`ak6/\`ak8/\`aoI /\
  ∀u:`J,`qL fd `SI=`b3 [(y,u)]
def rk(n:Nat):`gZ:=`V1 λ(i:Nat)=>`mh `sm
def TelO(K:`B)(H:Hp)(B:BS)(p:`g)(kvs:`gz):Prop:=(¬B p/\`UD)∨∃xs,SqL' K H B p xs/\kvs=(rk `aG).zip xs
def TelO.mono{p:`g}(g:`dZ)(h:`aBE):TelO K H' B' p kvs:=by
 rcases h with h|⟨xs,h,e⟩
 ·exact `p (`aBB)
 ·exact `q #[xs,h.mono g,e]
def FnAtH(K:`B)(H:Hp)(B:BS)(f:`g)(kvs:`gz):Prop :=
 ∃(oF oC oK:Obj) (fd:`hI) (c cd p:`g) (x y:Str),(¬B f/\H f=`c (`h0 oF (`fA f)))/\(oF.cls=`Ex/\oF.data=`co fd/\J10 fd x y c cd)/\(¬B c/\H c=`c (`h0 oC (`fA c)))/\oC.data=`r0 `TP /\
  (¬B cd/\H cd=`c (`h0 oK (`fA cd)))/\(∃vs t,oK.data=`Ki/\vs[1]?=`c (`t fd.qualname t))/\`aBE
def FnAtH.mono{f:`g}(g:`dZ)(h:FnAtH K H B f kvs):FnAtH K H' B' f kvs:=by
 skip;let#[oF,oC,oK,fd,c,cd,p,x,y,#[b1,h1],a,#[b2,h2],e,#[b3,h3],q,h4]:=h;done;exact#[oF,oC,oK,fd,c,cd,p,x,y,g _ _ b1 h1,a,g _ _ b2 h2,e,g _ _ b3 h3,q,h4.mono g]
mutual
def Rp(K:`B)(H:Hp)(B:BS):`aBF
 | `x,v=>`xF
 | `dp,v=>v=`dp
 | `ba,v=>`B1
 | `bX,v=>`LU
 | `ci,v=>`aBG
 | `cw,v=>`aBH
 | `kr,v=>`aBI
 | `q5,v=>`aBJ
def Rps(K:`B)(H:Hp)(B:BS):`aBK
 | [],xs=>`u3
 | `ay,xs=>`aBL
end
mutual
theorem Rp.mono(g:`dZ):∀{d:D} {v:V},`aBM
 | `x,_,h=>`L7
 | `bK,_,h=>`L7
 | `cn,_,h=>`L7
 | `bF,_,h=>`L7
 | `ci,_,h=>by
  apply `yf;apply `L8;exact`aBN
 | `cw,_,h=>by
  apply `yf;apply `L8;exact`aBN
 | `kr,_,h=>by
  apply `yf;skip;let#[a,xs,e,n,q,l,r]:=h;done;exact#[a,xs,e,(g _ _ n q).1,(g _ _ n q).2,l,`S6]
 | `q5,_,h=>by
  apply `yf;let#[a,xs,e,q,l,r]:=h;exact#[a,xs,e,`S5,l,`S6]
theorem Rps.mono(g:`dZ):∀{ds:`l} {xs:`N},`aaK
 | [],_,h=>by unfold Rps at h ⊢;exact h
 | `ay,_,h=>by
  unfold Rps at h ⊢;apply `B2;exact#[x,r,e,`S! g h1,`S4 g h2]
end
def U5:Rp K H B `x v=(`xF):=`L9
def Y7{b:`aa}:Rp K H B `zJ v=(v=`dp):=`L9
def j7{i:Int}:Rp K H B `fF v=(`B1):=`L9
def Y8:Rp K H B `lL v=(`LU):=`L9
def U8:Rp K H B `sC v=`aBG:=`L'
def X4:Rp K H B `FP v=`aBH:=`L'
def on0{ks:KS}:Rp K H B (`kr) v=`aBI:=`L'
def Pz0:Rp K H B (`q5) v=`aBJ:=`L'
theorem gj0:Rp K H B `L! v=∃a xs,`jr/\`sH/\H a=`c (`sK)/\`S2:=on0
theorem e30{ks:`af (`gZ)}:Rp K H B (`cj (`B0) ds) v=∃a xs,`jr/\`sH/\H a=`c (`aaJ)/\`S2:=on0
def m9:Rps K H B [] xs=(`u3):=by unfold Rps;rfl
def o9{d:D}:Rps K H B `hx xs=`aBL:=by conv=>lhs;unfold Rps
theorem Rps.length:∀{ds:`l} {xs:`N},`bb->`aG=`bP
 | [],_,h=>by rw[m9] at h;subst h;rfl
 | `ay,_,h=>by
  rw[o9] at h;apply `aBO;simp[Rps.length h2]
theorem Rps.get:∀{ds:`l} {xs:`N} {i:Nat} {d:D},`bb->ds[i]?=`a7->∃x,`oW/\`ye
 | [],_,_,_,_,e=>`Kf
 | `ay,_,0,d',h,e=>by
  rw[o9] at h;let#[x,r,rfl,h1,_]:=h;simp at e;subst e;exact`B3
 | `ay,_,i+1,d',h,e=>by
  skip;rw[o9] at h;apply `aBO;let#[y,e1,e2]:=Rps.get (i:=i) h2 `AW;done;exact#[y,`aBP,e2]
theorem Rps.snoc:∀{ds:`l} {xs:`N} {d:D} {x:V},`bb->`ye->Rps K H B (ds++[d]) (`aaL)
 | [],_,_,_,h,r=>by
  rw[m9] at h;subst h;rw[`hF,`hF,o9];exact#[_,[],rfl,r,`gU]
 | `ay,_,_,_,h,r=>by
  rw[o9] at h;apply `L?;rw[`hE,`hE,o9];exact#[y,_,rfl,h1,`pJ h2 r]
theorem Rps.append:∀{ds es:`l} {xs ys:`N},`bb->`aBQ->Rps K H B `anr `Fm
 | [],_,_,_,h,r=>by rw[m9] at h;subst h;exact r
 | `ay,_,_,_,h,r=>by
  rw[o9] at h;apply `L?;rw[`hE,`hE,o9];exact#[y,_,rfl,h1,`aBR h2 r]
theorem Rps.drop:∀{ds:`l} {xs:`N} (n:Nat),`bb->Rps K H B (ds.drop n) (`AY n)
 | _,_,0,h=>h
 | [],_,n+1,h=>by rw[m9] at h;subst h;simpa [m9]
 | `ay,_,n+1,h=>by
  rw[o9] at h;apply `L?
  simpa using Rps.drop n h2
theorem Rps.take:∀{ds:`l} {xs:`N} (n:Nat),`bb->Rps K H B (ds.take n) `at4
 | _,_,0,h=>`aaM
 | [],_,n+1,h=>`aaN
 | `ay,_,n+1,h=>by
  rw[o9] at h;apply `L?;rw[`aBS,`aBS,o9];exact#[y,_,rfl,h1,Rps.take n h2]
theorem Rps.same(s:`a3)(h:`bb):Rps K H' B ds xs:=`S4 `sL h
theorem Rp.same{d:D}(s:`a3)(h:`ck):`Te:=`S! `sL h
def RpO(K:`B)(H:Hp)(B:BS)(d:D)(a:`g):Prop:=match d with
 | `cw=>∃xs,H a=`Fo/\`bb
 | `kr=>∃xs,`amP
 | _=>`bW
def RpO.same{d:D}(s:`a3)(h:`i2):RpO K H' B d a:=by
 apply `Ma
 ·apply `n5;exact#[xs,`aaO,`Mb]
 ·apply `aaP;exact#[xs,`aaO,l,`Mb]
def RpO.rp{d:D}(l:`q4)(n:¬`pl)(h:`i2):Rp K H B' d `d7:=by
 apply `Ma
 ·apply `n5
  rw[X4];exact#[a,xs,rfl,`p #[n,`qW],`aaQ]
 ·let#[xs,e,q,r]:=h
  rw[on0];exact#[a,xs,rfl,n,e,q,`aaQ]
def RpO.live{d:D}(h:`i2):`mD:=by
 apply `Ma
 ·apply `n5;apply `aBT
 ·let#[xs,e,q,r]:=h;refine .of e (λ_ _ z=>?_) λ_ z=>?_<;>(unfold dOb at z;split at z<;>cases z)
def RpX(K:`B)(H:Hp)(B:BS)(ks vs:`l)(a:`g):Prop:=∃(ts:`i)(xs:`N),ks=[]/\H a=`c (.dX (ts.zip xs))/\ts.length=`aG/\Rps K H B vs xs
def yq0:`l->`Ly
 | [`bX,`ba]=>if x = "@" then `c `e1 else `e
 | _=>`e
mutual
def RpN(K:`B)(H:Hp)(B:BS)(as:`aM):`aBF
 | `x,v=>`xF
 | `dp,v=>v=`dp
 | `ba,v=>`B1
 | `bX,v=>`LU
 | `ci,v=>`aBU
 | d,v=>`ck
def RpNs(K:`B)(H:Hp)(B:BS)(as:`aM):`aBK
 | [],xs=>`u3
 | `ay,xs=>`aBV
end
mutual
theorem RpN.mono(g:`dZ)(l:`aBW):∀{d:D} {v:V},`i3->RpN K H' B' as' d v
 | `x,_,h=>`Mc
 | `bK,_,h=>`Mc
 | `cn,_,h=>`Mc
 | `bF,_,h=>`Mc
 | `ci,_,h=>by
  apply `S';skip;rcases h with⟨k,a,e,q,r⟩|⟨n,a,xs,e,q,r⟩
  ·done;exact `p #[k,a,e,l k a q,r]
  ·done;exact `q #[n,a,xs,e,`S5,`aaR g l r]
 | `cw,_,h=>`aaS
 | `kr,_,h=>`aaS
 | `q5,_,h=>`aaS
theorem RpNs.mono(g:`dZ)(l:`aBW):∀{ds:`l} {xs:`N},`gu->`gt K H' B' as' ds xs
 | [],_,h=>by unfold RpNs at h ⊢;exact h
 | `ay,_,h=>by
  unfold RpNs at h ⊢;apply `B2;exact#[x,r,e,RpN.mono g l h1,`aaR g l h2]
end
theorem rt0{F G:`kc}(h:`YE):`aBX
 | _,_,`L=>`L
 | _,_,`ka=>`ai (h _ _ r) (rt0 h t)
def NodeOk(K:`B)(H:Hp)(B:BS)(as:`aM)(n:D)(so:`dl):Prop:=match n with
 | `cw=>∃xs,`aaT/\`gu
 | `FV=>`aBY
 | `aBZ=>`aB_
 | _=>`bW
def NodeOk.mono(g:`dZ){n:D}(h:`Md):`e8 K H' B' as n so:=by
 unfold NodeOk at h ⊢;split at h
 ·apply `n5;exact#[xs,e,`aaU]
 ·apply `aaP;exact#[xs,e,l,`aaU]
 ·skip;let#[C,dx,ns,xs,e,f,l,c,q,r]:=h;done;exact#[C,dx,ns,xs,e,f,l,c,q,`aaU]
 ·exact `sJ
structure RpW(K:`B)(H:Hp)(B:BS)(ns:`l)(a:`g)(as:`aM)(sos:`vk):Prop where
 hd:`aB0
 nd:`lX
 at':`aoX
 own:∀b∈as,b=a∨(`sO/\`EH)
 len:`Me
 all:`bx (`e8 K H B as) ns sos
 ins:`aaV
def RpD(K:`B)(H:Hp)(B:BS)(ns:`l)(a:`g):Prop:=∃as sos,`fv
def RpD.mono(s:`B_)(g:`dZ)(h:`Tb):RpD K H' B' ns a:=by
 let#[as,sos,h]:=h;exact#[as,sos,h.hd,`gV,s _ `vl,λb hb=>`UR id λz=>g b _ z.1 z.2,`i4,rt0 (λ_ _ r=>`mL) `B4,`B5]
def RpD.live(h:`Tb):`mD:=by
 let#[as,sos,h]:=h;exact .of `vl `aaW λ_ z=>nomatch z
def RpG(K:`B)(H:Hp)(B:BS)(d:D)(a:`g):Prop:=match d with
 | `w es=>`aB1
 | d=>`i2
def RpO.toG{d:D}(h:`i2):`lY:=by
 cases d with
 | tup es=>apply `aaX
 | _=>exact h
def RpG.toO{d:D}(n:`Gi)(h:`lY):`i2:=by
 cases d with
 | tup es=>cases n
 | _=>exact h
def RpG.same{d:D}(s:`a3)(h:`lY):RpG K H' B d a:=by
 cases d with
 | tup es=>apply `aaY;exact`aB2
 | _=>exact(RpO.same s `Mf).toG
def RpG.live{d:D}(h:`lY):`mD:=by
 cases d with
 | tup es=>apply `aaY;exact `q6
 | _=>exact RpO.live `Mf
def RpO.plain{d:D}(h:`i2):`aaZ:=by
 intro o ys z;cases d with
 | lst ds=>apply `n5;rw[e] at z;cases z
 | dct ks ds =>
  apply `n5;rw[e] at z;unfold dOb at z;split at z<;>cases z
 | _=>apply `aaX
def RpG.plain{d:D}(h:`lY):`aaZ:=by
 skip;cases d with
 | tup es=>let#[x,ns,e,as,sos,r]:=h;done;intro o xs z;rw[r.at'] at z;cases z
 | _=>done;exact RpO.plain `Mf
def RpL(K:`B)(H:Hp)(B:BS)(d:D)(a:`g):Prop:=match d with
 | `w es=>(∃d',es=[`tF,d']/\RpG K H B d' a)∨(∃ks vs,es=[`o ks,`zU]/\RpX K H B ks vs a)∨`aB1
 | d=>`i2
def RpO.toL{d:D}(h:`i2):`k3:=by
 cases d with
 | tup es=>apply `aaX
 | _=>exact h
def RpL.toO{d:D}(n:`Gi)(h:`k3):`i2:=by
 cases d with
 | tup es=>cases n
 | _=>exact h
def RpG.toL{d:D}(h:`lY):`k3:=by
 cases d with
 | tup es=>exact `q (`LV)
 | _=>exact h
def RpL.same{d:D}(s:`a3)(h:`k3):`aB3:=by
 skip;cases d with
 | tup es =>
  apply `aa_
  ·done;exact `p #[d',q,`Mb]
  ·done;exact `q (`p #[ks,vs,q,ts,xs,q1,`aaO,q2,`Mb])
  ·done;exact `q (`q `aB2)
 | _=>done;exact(RpO.same s `B6).toL
def RpL.live{d:D}(h:`k3):`mD:=by
 skip;cases d with
 | tup es =>
  apply `aa_
  ·done;exact `q6
  ·done;apply `aBT
  ·done;exact `q6
 | _=>done;exact RpO.live `B6
def RpL.plain{d:D}(h:`k3):`aaZ:=by
 skip;cases d with
 | tup es =>
  rcases h with⟨d',q,r⟩|⟨ks,vs,q,ts,xs,q1,e,q2,r⟩|⟨x,ns,_,as,sos,r⟩
  ·done;exact r.plain
  ·done;intro o ys z;rw[e] at z;cases z
  ·done;intro o xs z;rw[r.at'] at z;cases z
 | _=>done;exact RpO.plain `B6
def Iw0(a C:`g)(od:`fl):`xc:=λh=>∃oe,`hZ=`c oe/\oe.cls=`sf/\(∀dx,od=`Bs->oe.dict=`Bs)/\∃vs,oe.data=`Ki
def Hl0(H:Hp)(B:BS)(od:`fl):`bl->Prop
 | `e=>`iN
 | `xW=>∃dx,od=`Bs/\¬B dx/\H dx=`c (.xd [(`tq,`lu)])
def XcR(K:`B)(H:Hp)(B:BS)(c:Str)(n:`bl)(a:`g):Prop:=∃C od,`sH/\H a=`c (.ext (Iw0 a C od))/\`po/\Hl0 H B od n
def XcR.mono{c:Str}{n:`bl}(g:`dZ)(h:`aB4):XcR K H' B' c n a:=by
 let#[C,od,h1,h2,h3,h4]:=h;refine#[C,od,(`aB5).1,(`aB5).2,h3,?_];cases n with
 | none=>trivial
 | some n=>let#[dx,e,q1,q2]:=h4;exact#[dx,e,(`aB6).1,(`aB6).2]
def SlR(K:`B)(H:Hp)(B:BS)(o:`dm):Sl->Prop
 | .un=>`iN
 | `et=>∃v,o=`b6/\`ck
 | `sU=>∃a,o=`pp/\`aB7
 | .ex c n=>∃a,o=`pp/\`aB4
theorem Pd.get{F:`kc}:∀{l:`aN} {m:`k1} {i:Nat} {b:β},`pm->`aa0->∃a,`B7/\`xi
 | _,_,_,_,`L,e=>`Kf
 | _,_,0,_,`Ys,e=>`Yt
 | _,_,i+1,b,`qO,e=>by
  let#[u,h1,h2]:=`yl (i:=i) (b:=b) t `AW;exact`Yu
def Pd.imp{F G:`kc}(h:`YE):`aBX:=by
 intro l m p
 induction p with
 | nil=>exact `L
 | cons r t ih=>exact `ai (h _ _ r) ih
theorem Pd.set{F:`kc}{a:α}{b:β}(r:`xi):∀{l:`aN} {m:`k1} (i:Nat),`pm->`bx F (`aa1) `aB8
 | _,_,_,`L=>`L
 | _,_,0,`qO=>`ka
 | _,_,i+1,`ai q t=>`ai q (`n6 r i t)
theorem Pd.len{F:`kc}:∀{l:`aN} {m:`k1},`pm->`aR=`arm
 | _,_,`L=>rfl
 | _,_,`qO=>by simp[`pS t]
def Pd.app{F:`kc}:∀{l l':`aN} {m m':`k1},`pm->`bx F l' m'->`bx F (l++l') (m++m'):=by
 intro l l' m m' p s
 induction p with
 | nil=>exact s
 | cons r t ih=>exact `AX
structure Env(K:`B)(H:Hp)(B:BS)(σ:St)(δ:Ds):Prop where
 all:`aa2
 bad:`ym
 own:∀(i j:Nat) (a:`g) (ds es:D),`am5->`pi=`aB9->`jt->`sy=`yk->i=j
section
variable{σ σ':St}{δ:Ds}
def SlR.same{o:`dm}{s:Sl}(q:`a3)(h:`aa3):SlR K H' B o s:=by
 cases s with
 | un=>trivial
 | sh d=>apply `f?;exact#[v,e,`FW q]
 | ow d=>let#[a,e,b,r]:=h;exact#[a,e,b,`FW q]
 | ex c n=>let#[a,e,r]:=h;exact#[a,e,`cX (`S7 q)]
theorem Env.same(q:`a3)(e:`be):Env K H' B σ δ :=
 #[`pD (λ_ _ h=>`Mg q) `ha,(λa b=>(`jw a b).same q),`mE]
theorem Env.free(e:`be){p:`g}(h:`dP):¬B p:=λz=>`jw p z h
def Env.get(e:`be){d:D}(h:`aB'):∃v,`A4/\`ck:=by
 let#[o,h1,v,rfl,r]:=`aB!;exact#[v,h1,r]
def Env.set(e:`be)(i:Nat){d:D}(r:`ck):Env K H B `xo `L0:=by
 refine#[`n6 `aB? i `ha,`jw,`TQ];have hj:j≠i:=by
  rintro rfl
  by_cases hl:j<`m0
  ·rw[`B8] at h1;cases h1
  ·rw[`Mh] at h1;cases h1
 have hk:k≠i:=by
  rintro rfl
  by_cases hl:k<`m0
  ·rw[`B8] at h2;cases h2
  ·rw[`Mh] at h2;cases h2
 rw[`Y9] at h1 h3;rw[`kR (B8 hk)] at h2 h4;apply `Mi
universe zz
theorem X6{p:`g}{o:HO}(h:`dP)(hz:`aCa:=by intro _ _ z;cases z):`cG H `aa4:=#[λb u e=>by rw[d7 (U9 e h)];exact e,λb ob xs e=>by
 by_cases z:b=p
 ·subst z
  rw[j5] at e;exact `I (`lJ) (hz ob xs)
 ·rw[d7 z] at e;exact e]
def tD(K:`B)(B:BS)(δ:Ds)(g:`bo):TE:=fun σ H Q=>∃d,`be/\`hO/\`B9
structure PD(X:Cx)(e:`M)(g:`bo):Prop where
 mk::go:`aCb
instance{X:Cx}{e:`M}{g:`bo}:`eM (`cB) (λ_=>`aCb):=#[PD.go]
def tDT(K:`B)(B:BS)(δ:Ds)(g:`gT):TT:=fun σ H Q=>∃b,`be/\`ax=`k4/\∀H',`a3->Q b H'
structure PTD(X:Cx)(e:`M)(g:`gT):Prop where
 mk::go:`aCc
instance{X:Cx}{e:`M}{g:`gT}:`eM (PTD X e g) (λ_=>`aCc):=#[PTD.go]
structure PWD(X:Cx)(e:`M)(g:`gT):Prop where
 mk::go:`aCd
instance{X:Cx}{e:`M}{g:`gT}:`eM (PWD X e g) (λ_=>`aCd):=#[PWD.go]
def tDA(K:`B)(B:BS)(δ:Ds)(g:`f!):TA:=fun σ H Q=>∃ds,`be/\`ax=`pk/\∀vs H',`a3->Rps K H' B ds vs->`KH
structure PDA(X:Cx)(es:`bn)(g:`f!):Prop where
 mk::go:`aCe
instance{X:Cx}{es:`bn}{g:`f!}:`eM (PDA X es g) (λ_=>`aCe):=#[PDA.go]
def a80{d:D}{b:`aa}(h:asB d=`k4):d=`dp:=by
 cases d<;>simp[asB] at h
 subst h;rfl
def Op2(K:`B)(r:R2)(f:`a5):Prop:=∀(H:Hp) (B:BS) (x y:V) (dx dy d:D) (Q:VK),`q7->`aa5->`aCf->f dx dy=`a7->(`B9)->`E4
def FnR(K:`B)(r:`mw)(f:`Q):Prop:=∀(H:Hp) (B:BS) (xs:`N) (ds:`l) (d:D) (Q:VK),`q7->`bb->`B'->(`B9)->`K0
section
variable{a:`M}{g ga:`bo}{gu:`gT}{rest:`bn}
theorem _root_.L2.PE.imp{t t':TE}(h:PE X e t)(q:`Mj):PE X e t':=`aCg
theorem _root_.L2.PT.imp{t t':TT}(h:`Zb)(q:`Mj):PT X e t':=`aCg
theorem _root_.L2.PW.imp{t t':TT}(h:PW X e t)(q:`Mj):PW X e t':=λw pins s σ H Q I z=>h w `k s σ H Q I `Tg
theorem _root_.L2.PA.imp{t t':TA}(h:`uY)(q:`Mj):PA X es t':=λp pins s σ H Q I z=>h p `k s σ H Q I `Tg
def J80{δ:Ds}{d:D}(h:gv i δ=`a7):`aB':=by
 unfold gv at h;split at h
 ·cases h;assumption
 ·cases h
theorem z8(i:Nat)(hN:`ek)(hv:`ga)(hd:`aZ)
  (hcd:`fo):PD X `kS (gv i):=.mk λB δ=>`aCh fun σ H Q hq54=>by
 let#[d,en,h,k]:=hq54
 let#[v,e,r]:=en.get (J80 h);exact#[v,e,k v H `c' r]
theorem v6{i:Int}:PD X (`nO `fF j pos) (gc `fF):=.mk λB δ=>Kr0.imp fun σ H Q hq55=>by let#[d,en,h,k]:=hq55;cases h;exact `s2
theorem zl0{i:`aa}:PD X (`nO (`fE i) j pos) (gc (.bl i)):=.mk λB δ=>I70.imp fun σ H Q hq56=>by let#[d,en,h,k]:=hq56;cases h;exact `TA
theorem sp0:PD X (`nO `aJ j pos) `lo:=.mk λB δ=>K80.imp fun σ H Q hq57=>by let#[d,en,h,k]:=hq57;cases h;exact k _ H `c' `il
theorem o8:PD X (`nO `lL j pos) (gc `lL):=.mk λB δ=>Lz0.imp fun σ H Q hq58=>by let#[d,en,h,k]:=hq58;cases h;exact `Mk
theorem fo0(hm:∃t,`mn=`aCi)(hg:`gb)(hd:`aZ):PD X `kS (gc (`mV)):=.mk λB δ=>by
 let#[t,hm]:=hm;exact(kc0 (v:=`mV) hg hm `y0 hd).imp fun σ H Q hq59=>by let#[d,en,h,k]:=hq59;cases h;exact `Mk
theorem z40{i:Int}(hm:∃t,`mn=`c `xA)(hg:`gb)(hd:`aZ):PD X `kS (gc `fF):=.mk λB δ=>by
 let#[t,hm]:=hm;exact(kc0 (v:=`ba) hg hm `y0 hd).imp fun σ H Q hq60=>by let#[d,en,h,k]:=hq60;cases h;exact `s2
def gk0{r:R2}{f:`a5}(hf:Op2 K r f){δ:Ds}{σ:St}{Q:VK}(h:tD K B δ `B! σ H Q):tOp r (tD K B δ ga) (tD K B δ gb) σ H Q:=by
 skip;apply `vm;unfold o2 at h;cases e1:`cv with
 | none=>rw[e1] at h;cases h
 | some x =>
  cases e2:`dO with
  | none=>apply `b?;cases h
  | some y =>
   apply `b?;done;apply `vn;exact hf H2 B v1 v2 x y d Q `aa6 `yN r2 h λv H' s r=>k v H' (`GR s) r
theorem no0{op:`Bo}{r:R2}{f:`a5}(ho:`awv)(hf:`B?)(ha:`ca)(hb:`c0):PD X `ZT `B!:=.mk λB δ=>(W50 ho `bk `fw).imp `aa7
theorem qh0{op:`gO}{r:R2}{f:`a5}(ho:`uS)(hf:`B?)(ha:`ca)(hb:`c0)(hm:`Ca):PD X `lM `B! :=
 .mk λB δ=>(Xt0 ho `bk `fw hm).imp `aa7
theorem Kz0{r:R2}{f:`a5}(ho:`_H)(hf:`B?)(ha:`ca)(hb:`c0)(hs:`Ml):PD X `u6 `B! :=
 .mk λB δ=>(Wt0 ho `bk `fw hs).imp `aa7
theorem o7{op:`gO}{r:R2}{f:`a5}(ho:`uS)(hf:`B?)(ha:`ca)(hb:`c0)(hm:`Ca):PTD X `lM (ob `B!) :=
 .mk λB δ=>(k60 ho `bk `fw hm).imp fun σ H Q hq61=>by
  let#[t,en,h,k]:=hq61
  unfold ob at h;cases e:`aBy with
  | none=>rw[e] at h;cases h
  | some d =>
   rw[e] at h;cases a80 h;exact gk0 hf `aCj
theorem z20(h:`cB)(he:`Zg):PTD X e (ob g) :=
 .mk λB δ=>(S90 `cI he).imp fun σ H Q hq62=>by
  let#[t,en,h,k]:=hq62
  unfold ob at h;cases e:`ax with
  | none=>rw[e] at h;cases h
  | some d =>
   rw[e] at h;cases a80 h;exact`aCj
theorem ol0(h:`Cb):PTD X `Be (xw0 gt) :=
 .mk λB δ=>(Ub0 `cI).imp fun σ H Q hq63=>by
  let#[t,en,h,k]:=hq63
  unfold xw0 at h;cases e:`d! with
  | none=>rw[e] at h;cases h
  | some b =>
   rw[e] at h;cases h;exact#[b,en,e,λH' s=>`F']
theorem jp0(h:`Cb):PWD X `Zh gt:=.mk λB δ=>Xk0 `cI
theorem py0(h:`Cb):PWD X `Zi gt:=.mk λB δ=>Tb0 `cI
theorem gx0(ha:`Cb)(hb:PWD X `Ba gu):PWD X `Bb (ui0 gt gu) :=
 .mk λB δ=>(T80 `bk `fw).imp fun σ H Q hq64=>by
  let#[t,en,h,k]:=hq64
  unfold ui0 at h;cases e:`d! with
  | none=>rw[e] at h;cases h
  | some b =>
   rw[e] at h;refine`aCk;cases b with
   | true=>apply `aCl
   | false =>
    simp at h;subst h;rw[`nS];exact `F'
theorem o50(ha:`Cb)(hb:PWD X `Bc gu):PWD X `Bd (wg0 gt gu) :=
 .mk λB δ=>(Pu0 `bk `fw).imp fun σ H Q hq65=>by
  let#[t,en,h,k]:=hq65
  unfold wg0 at h;cases e:`d! with
  | none=>rw[e] at h;cases h
  | some b =>
   rw[e] at h;refine`aCk;cases b with
   | false=>apply `aCl
   | true =>
    simp at h;subst h;rw[`bA];exact `F'
theorem PWD.pt(h:PWD X e gt):`aCm:=.mk λB δ=>(`Tj).pt
theorem g00{op}(h:PD X a g):PD X `avn g:=.mk λB δ=>Lm0 `cI
theorem bc0(ha:`ca)(hb:PD X `Ba gb):PD X `Bb (pr0 ga gb) :=
 .mk λB δ=>(Mp0 `bk `fw).imp fun σ H Q hq66=>by
  let#[d,en,h,k]:=hq66
  unfold pr0 ob at h;cases e:`cv with
  | none=>rw[e] at h;cases h
  | some x =>
   rw[e] at h;apply `aa8;cases x with
   | bl c =>
    rw[Y7] at r;refine`aCn;cases c with
    | true=>apply `aCo
    | false =>
     simp[asB] at h;rw[`nS];exact `aa9
   | _=>simp[asB] at h
theorem I20(ha:`ca)(hb:PD X `Bc gb):PD X `Bd (orG ga gb) :=
 .mk λB δ=>(Ia0 `bk `fw).imp fun σ H Q hq67=>by
  let#[d,en,h,k]:=hq67
  unfold orG ob at h;cases e:`cv with
  | none=>rw[e] at h;cases h
  | some x =>
   rw[e] at h;apply `aa8;cases x with
   | bl c =>
    rw[Y7] at r;refine`aCn;cases c with
    | false=>apply `aCo
    | true =>
     simp[asB] at h;rw[`bA];exact `aa9
   | _=>simp[asB] at h
theorem Kc0(ha:`ca):PD X `Be (Rb0 ga) :=
 .mk λB δ=>(Kj0 `bk).imp fun σ H Q hq68=>by
  let#[d,en,h,k]:=hq68
  unfold Rb0 ob at h;cases e:`cv with
  | none=>rw[e] at h;cases h
  | some x =>
   rw[e] at h;apply `aa8;cases x with
   | bl c =>
    rw[Y7] at r;simp[asB] at h;exact#[c,r,`aa9]
   | _=>simp[asB] at h
theorem u5:PDA X [] v5:=.mk λB δ=>y20.imp fun σ H Q hq69=>by let#[ds,en,h,k]:=hq69;cases h;exact k [] H `c' (`gU)
theorem z9(ha:`cB)(hr:`vo)(hs:`ej):PDA X `gp (z7 g gA) :=
 .mk λB δ=>(N7 `bk (hr B δ) hs).imp fun σ H Q hq70=>by
  skip;let#[ds,en,h,k]:=hq70
  unfold z7 at h;cases e1:`ax with
  | none=>rw[e1] at h;cases h
  | some d =>
   cases e2:`cH with
   | none=>apply `b?;cases h
   | some es' =>
    apply `b?;cases h;done;refine#[d,en,e1,λv H1 s1 r1=>#[es',`fR,e2,λvs H2 s2 r2=>k _ H2 `mT ?_]];rw[o9];exact#[v,vs,rfl,`pr,r2]
theorem yn0{x1}(h:`vo):PD X (`ld es x1 pos) (zw0 gA) :=
 .mk λB δ=>(a90 `cI).imp fun σ H Q hq71=>by
  let#[d,en,h,k]:=hq71
  unfold zw0 at h;cases e1:`cH with
  | none=>rw[e1] at h;cases h
  | some ds =>
   rw[e1] at h
   by_cases hl:`vf
   ·apply `aa'
    cases h;apply `aCp;rw[U8];exact#[p,vs,rfl,#[(`fR).free hp,j5],`F9 `fS]
   ·apply `aa!
    cases h
theorem ud0(h:`vo):PD X `_d (V7 gA) :=
 .mk λB δ=>`aCq fun σ H Q hq72=>by
  let#[d,en,h,k]:=hq72
  unfold V7 at h;cases e1:`cH with
  | none=>rw[e1] at h;cases h
  | some ds =>
   rw[e1] at h
   by_cases hl:`vf
   ·apply `aa'
    cases h;apply `aCp;rw[X4];exact#[p,vs,rfl,`p #[(`fR).free hp,`aa?],`F9 `fS]
   ·apply `aa!
    cases h
def a70{f:`Q}(hf:FnR K r f){δ:Ds}{σ:St}{Q:VK}(h:tD K B δ `F! σ H Q):tCB r (tDA K B δ gA) σ H Q:=by
 apply `vm;apply `Cc;cases e1:`cH with
 | none=>rw[e1] at h;cases h
 | some ds =>
  rw[e1] at h;exact#[ds,en,e1,λvs H1 s1 r1=>hf H1 B vs ds d Q `aba r1 h `aCr]
theorem v40{id:`cO}{p:Pos}{f:`Q}(hc:`ax!)(hf:`Mm)(hm:`nP)(hv:`ax?)(ha:`n7)(hg:`gb)
  (hn:`nQ) (hdb:`aZ) (he:`ej) (hpl:`gR) :
  `Cd:=.mk λB δ=>(nn0 hc hg hm hv `bk hn hdb he hpl).imp `abb
theorem wc0{T:`cO}{p:Pos}{f:`Q}(hc:`_o)(hf:`Mm)(hm:`nP)(hv:`_p)(ha:`n7)(hg:`gb)
  (hn:`nQ) (hdb:`aZ) (he:`ej) (hpl:`gR) :
  `Cd:=.mk λB δ=>(pm0 hc hg hm hv `bk hn hdb he hpl).imp `abb
def spD(K:`B)(f:`Q):Sp:=λvs H Q _=>∃(B:BS) (ds:`l) (d:D),`q7/\`Mn/\`B'/\`B9
theorem Nh0{k:Nat}{ps:`h}{p:Pos}{f:`Q}(F:`T `a? X.w X.K `cc `d5 CX0 k fa fd ps (spD X.K f))(hr:`By)(hm:`mn=`Fw)(hk:`cs X.K `xX=`d)(hb:`aCs)
  (ha:`n7) (hg:`gb) (hdb:`aZ) (he:`ej) (hpl:`gR) :
  `Cd:=.mk λB δ=>(k00 (E:=E0) F hr hg hm hk hb `L nh0 `bk hdb he hpl).imp fun σ H Q h=>by
 apply `vm;apply `Cc;cases e1:`cH with
 | none=>rw[e1] at h;cases h
 | some ds =>
  rw[e1] at h;refine`aCt;show spD X.K f `abc H1 Q E0;rw[`bc];exact#[B,ds,d,`aba,r1,h,`aCr]
universe zz
universe DL
variable{B B' B₀:DL.BS}
namespace DL
open Spec PyProof.Rows L2
structure EnvS(K:`B)(H₀:Hp)(B₀:BS)(H:Hp)(σ:St)(δ:Ds):Prop where
 same:`Mo
 ex:∃B:BS,(`i5)/\(`i6)/\`be
 fr:`aCu
 b0:`abd
def H90(K:`B)(H₀:Hp)(B₀:BS)(D:`kg):Res->Prop
 | `SY=>`aCv
 | .rt d=>∀v H,`Mo->Rp K H `V d v->D.rt v H
 | .bk δ=>∀σ H,`cJ->D.bk σ H
 | .ct δ=>∀σ H,`cJ->D.ct σ H
 | .rf d=>∀p H,`abe->`Mo->RpL K H (λa=>`mI∨a=p) d p->D.rt `dr H
def tDS(K:`B)(H₀:Hp)(B₀:BS)(δ:Ds)(G:`i0):TS:=λD σ H=>∃r,`cJ/\G δ=`ew/\H90 K `ad `V D r
structure PSD(X:Cx)(st:`bq)(G:`i0):Prop where
 mk::go:`aCw
instance{X:Cx}{st:`bq}{G:`i0}:`eM (`abf) (λ_=>`aCw):=#[PSD.go]
structure PSsD(X:Cx)(st:`eh)(G:`i0):Prop where
 mk::go:`aCx
instance{X:Cx}{st:`eh}{G:`i0}:`eM (`mJ X st G) (λ_=>`aCx):=#[PSsD.go]
section
variable{σ:St}{δ:Ds}
theorem EnvS.grow(e:`cJ)(s:`a3):`cY K `ad `V H' σ δ:=#[e.same.trans s,let #[B,b1,b2,en]:=e.ex;#[B,b1,b2,`fQ s],e.fr,e.b0]
universe zz
structure Wr(idx:`i)(σ σ':St)(δ δ':Ds):Prop where
 len:`Y7
 oth:∀j,j∉idx->σ'[j]?=`sy/\`UJ=`pi
 own:∀j∈idx,∀ds,`UJ≠`F1
def tDG(K:`B)(idx:`i)(f:`aT)(B:BS)(d:D)(δ:Ds):TG:=λv σ H Q=>∃δ',`ck/\`be/\`aaD/\∀σ',`aCy->Env K H B σ' δ'->Q σ' H
structure PGD(X:Cx)(tg:`M)(idx:`i)(f:`aT):Prop where
 mk::go:`aCz
instance{X:Cx}{tg:`M}{idx:`i}{f:`aT}:`eM (`Ce) (λ_=>`aCz):=#[PGD.go]
theorem _root_.L2.PG.imp{t t':TG}(h:PG X tg t)(q:∀v σ H Q,t' v σ H Q->`avG):PG X tg t':=λpins s σ H v u Q I r z=>h `k s σ H v u Q I r (q v σ H Q z)
def ba0{σ:St}{δ:Ds}{d:D}:Wr [i] σ `xo δ `L0:=by
 refine#[`a6,`abg,λj hj ds h=>?_]
 ·have:j≠i:=`BZ
  rw[`aCA,`aCA];exact`kW
 ·have:j=i:=`BZ
  subst this
  by_cases hl:j<`m0
  ·rw[`B8] at h;cases h
  ·rw[`Mh] at h;cases h
theorem o5(i:Nat){pos:Pos}(hN:`eK)(hi:`ek)(hx:`abh)
  (hf:`qU):PGD X `kS [i] `Tv:=.mk λB d δ=>(`abi).imp λv σ H Q hq73=>by
 let#[δ',r,en,e,k]:=hq73
 cases e;exact k _ ba0 (en.set i r)
section
variable{st:`bq}{g:`bo}{G G1 G2 Ga Gb:`i0}{as bs:`eh}
theorem u9:`mJ X [] t6:=.mk λH₀ B₀ δ pins s σ H D I hq74=>by
 let#[r,en,e,k]:=hq74
 cases e;apply `aCB
theorem w6(h1:PSD X st G1)(h2:`mJ X `bh G2):`mJ X (st::`bh) (v9 G1 G2):=.mk λH₀ B₀ δ pins s σ H D I hq75=>by
 skip;let#[r,en,e,k]:=hq75
 unfold v9 at e;cases e1:`mC with
 | none=>rw[e1] at e;cases e
 | some r1 =>
  rw[e1] at e;cases r1 with
  | nx δ'=>done;exact zo0 `am7 (h2 `ad `V δ') `k s σ H D I `aCC
  | rt d=>cases e;done;apply `Mp
  | bk δ'=>cases e;done;apply `Mp
  | ct δ'=>cases e;done;apply `Mp
  | rf d=>cases e;done;apply `Mp
theorem Y6(h:`cB):PSD X `qV (V2 g):=.mk λH₀ B₀ δ pins s σ H D I hq76=>by
 skip;let#[r,en,e1,k]:=hq76
 unfold V2 at e1;apply `a_;cases e2:`ax with
 | none=>apply `U;cases e1
 | some d =>
  apply `U;cases e1;done;exact o00 `cI `k s σ H D I #[d,env,e2,λv H' s' r=>k v H' (`TR s') (`cX (`ie b1))]
def EnvS.wr{σ σ':St}{δ:Ds}(e:`cJ)(b1:`i5)(b2:`i6)(s:`a3)(w:`aCy)(en:Env K H' B σ' δ'):`aCD:=by
 refine#[e.same.trans s,#[B,b1,b2,en],`am',e.b0]
 by_cases hi:i∈idx
 ·exact `I h1 (w.own i hi ds)
 ·rw[(`aCE).2] at h1
  rw[(`aCE).1] at h2;exact `aCF
theorem b8(h:`cB)(hg:`Ce)(hs:`Zs)(hw:`Zt)
  (h1:`Zu):PSD X `Zv (d8 f g):=.mk λH₀ B₀ δ pins s σ H D I hq77=>by
 skip;let#[r,en,e1,k]:=hq77
 unfold d8 at e1;apply `a_;cases e2:`ax with
 | none=>apply `U;cases e1
 | some d =>
  apply `U;apply `eN;cases e3:`sE with
  | none=>apply `bH;cases e1
  | some δ' =>
   apply `bH;cases e1;done;exact az0 `cI (hg B d δ) hs hw h1 `k s σ H D I #[d,env,e2,λv H' s' r=>#[δ',r,`abj,e3,fun σ' w en'=>k σ' H' (en.wr b1 b2 s' w en')]]
theorem X3(hc:`Mq)(ha:`aCG)(hb:`aCH):PSD X `Mr (ifD gt Ga Gb):=.mk λH₀ B₀ δ pins s σ H D I hq78=>by
 skip;let#[r,en,e1,k]:=hq78
 unfold ifD at e1;apply `a_;cases e2:`d! with
 | none=>apply `U;cases e1
 | some t =>
  apply `U;done;refine b30 (hc B δ) (ha `ad `V δ) (hb `ad `V δ) `k s σ H D I `aCI;cases t with
  | true=>apply `Ms
  | false=>apply `Ms
structure ItD(K:`B)(B:BS)(J:It)(items:`l)(H₁:Hp):Prop where
 go:∀i H,`abk->i<`b_->`Zz
 yld:∀i H x H',`abk->`ZC->i<`b_->`a3/\∃d,`bs[i]?=`a7/\∀B':BS,Gr H₁ H' B B'->(∀a,`pl->`mD)->Rp K H' B' d x
 stop:∀i H,`abk->`b_<=i->`ZD
def tDI(K:`B)(B:BS)(δ:Ds)(g:`f!):TI:=fun σ H R=>∃items,`be/\`ax=`FT/\∀J H',`a3->ItD K B J `bs H'->R J H'
structure PID(X:Cx)(tg e:`M)(g:`f!):Prop where
 mk::go:`aCJ
instance{X:Cx}{tg e:`M}{g:`f!}:`eM (PID X tg e g) (λ_=>`aCJ):=#[PID.go]
theorem _root_.L2.PI.imp{t t':TI}(h:PI X tg e t)(q:∀σ H R,t' σ H R->t σ H R):PI X tg e t':=λpins s σ H R I z=>h `k s σ H R I (q σ H R z)
theorem qt0(h:`cB):PID X tg e (re0 g):=.mk λB δ=>`Cf (fq0 `cI) fun σ H R hq79=>by
 let#[items,en,e1,k]:=hq79
 unfold re0 at e1;cases e2:`ax with
 | none=>apply `U;cases e1
 | some d =>
  apply `U;cases d<;>simp[cy0] at e1
  subst e1;apply `abl;rw[X4] at r;apply `abm;apply `aCK
  ·have:`u5:=`Gc
   apply `abn
  ·apply `abo
   apply `abp;have:=`abq;rw[e4] at this;cases `E;subst e3;apply `abr
  ·apply `abs
theorem lz0(h:`cB):PID X tg e (tupI g):=.mk λB δ=>`Cf (Lr0 `cI) fun σ H R hq80=>by
 let#[items,en,e1,k]:=hq80
 unfold tupI at e1;cases e2:`ax with
 | none=>apply `U;cases e1
 | some d =>
  apply `U;cases d<;>simp[Pk0] at e1
  subst e1;apply `abl;rw[U8] at r;apply `abm;apply `aCK
  ·have:`u5:=`Gc
   apply `abn
  ·apply `abo
   apply `abp;have:=`abq;rw[e4] at this;cases `E;subst e3;apply `abr
  ·apply `abs
def eo0(x:Str):(`i1 x).length=`BP:=by simp[`i1]
theorem Yz0(h:`cB):PID X tg e (jb0 g):=.mk λB δ=>`Cf (Kl0 `cI) fun σ H R hq81=>by
 let#[items,en,e1,k]:=hq81
 unfold jb0 at e1;cases e2:`ax with
 | none=>apply `U;cases e1
 | some d =>
  apply `U;cases d<;>simp[Yx0] at e1
  subst e1;apply `abl;rw[Y8] at r;refine#[_,r,`am8]
  ·rw[eo0] at hi;exact hi
  ·let#[e3,c,hc,rfl]:=y
   subst e3;refine#[`Gb,`sG,?_,λB' gB _=>`amY];unfold signs;rw[`bN,`azT,hc];rfl
  ·rw[eo0] at hi;exact hi
def jy0(lo hi:Int):(zr0 lo hi).length=`sb:=by simp[zr0]
def Nw0(lo hi:Int):ItD K B (Itr lo `sb) (zr0 lo hi) H:=by
 refine`Tn
 ·rw[jy0] at hi;exact hi
 ·let#[e3,rfl]:=y
  rw[jy0] at hi;subst e3;exact#[`Gb,`ZE,by simp[zr0,hi],λB' gB _=>`F6]
 ·rw[jy0] at hi;exact hi
open T in
theorem vv0{a:`M}{p:Pos}(hm:`awm)(ha:`aCL)(hg:`v (`awl) Aa)(hs:`K_):PID X tg `awo (ue0 gA) :=
 .mk λB δ=>`Cf (St0 hg hm `bk hs) fun σ H R hq82=>by
 let#[items,en,e1,k]:=hq82
 unfold ue0 at e1;cases e2:`cH with
 | none=>apply `U;cases e1
 | some ds =>
  apply `U;apply `eN;unfold Wx0 at e1;split at e1
  ·split at e1
   ·rename_i j hj
    cases e1;apply `aCM;rw[o9] at r;apply `Mt;rw[m9] at r2;subst r2;rw[j7] at r1;subst r1;refine#[j,rfl,hj.1,hj.2,k _ H' s' ?_];have:=Nw0 (K:=X.K) (B:=B) (H:=H') 0 j;rw[Int.sub_zero] at this;exact `E
   ·cases e1
  ·cases e1
def EnvS.lower{H₁:Hp}{σ:St}{δ:Ds}(e:`cY K H₁ `V H σ δ)(s:`cG `ad H₁)(b0:`abd):`cJ:=by
 let#[B,b1,b2,en]:=e.ex;exact#[`am0 e.same,#[B,b1,λa z=>(b2 a z).imp id λq=>s.free q,en],λi ds a h1 h2=>s.free (`aCF),b0]
open Classical in
theorem tu0(hp:`Bg)(hc:`dQ)(hi:`hP)(hg:`Ce)(hb:`aCN)
  (hs:`ei):PSD X `ZO (td0 gi f G):=.mk λH₀ B₀ δ pins s σ H D I hq83=>by
 let#[r,en,e1,k]:=hq83
 unfold td0 at e1;apply `a_;cases e2:`sF with
 | none=>apply `U;cases e1
 | some items =>
  apply `U;apply `eN;apply `aCO
  have a7:PSs X `gk (λD σ H=>∃H₀ B₀ δ,`aCP):=λpins s σ H D I #[`ad,`V,δ,h]=>`aCQ
  apply `aCR;apply `aCS
  apply `aCT
  apply `aCU
  apply `aCV
  have a2:`aCW:=#[λb o h=>by
   by_cases z:`yr
   ·rw[`aCX] at h;cases h
   ·rw[O] at h
    have h':`aCY:=h;rw[`n8] at h';exact h',λb o xs h=>by
   by_cases z:`yr
   ·apply `aCZ
    apply `aC_;cases h0
   ·rw[O]
    show (`Gd)=_;rw[`n8];exact h]
  have hS:`aC0:=#[λb o h=>by
   have h1:=`aC1
   by_cases z:B b
   ·rcases b2 b z with q|q
    ·rw[a3 b q];exact h1
    ·rw[h] at q;cases q
   ·rw[U b z];exact h1,`aC2]
  have Y:=`jx;have start:`aC3:=by
   apply `aC4
   ·by_cases q:`mI
    ·exact `kf
    ·exact `aC5
   ·have hn:=`aC6
    have nb:¬`mI:=λz=>`ii a z hn
    apply `aC7;rw[h2] at e3;cases e3;cases e4;exact Z a hB nb
   ·rw[a3 a z]
    exact `aC8
  refine#[λi m σ H=>m=`b_ - i/\`abt/\∃δi,`aC9/\J2 f G (`ju i) δi=`ew,`aC',?_];apply `aC!;apply `aC?
  by_cases hlt:i<`b_
  ·refine `q #[`aDa,fun σ' H'=>∃δn,`aDb/\J2 f G (`ys) δn=`ew,`aDc,`aDd]
   apply `aDe;apply `aDf;have a5:`aDg:=rd B' (λb o n h=>by
    have h':Hh b=`au:=`Tr
    apply `aDh;rcases c2 b z with q|q
    ·exact `aDi
    ·rw[h'] at q;cases q) env0.bad
   have a4:=`aDj
   replace M:=M.grow sm
   have a1:`aDk:=by
    apply `Mu;congr 1;rw[`Mv] at hd;exact A3 hd
   rw[a1] at ei;unfold J2 at ei;cases e3:f d δi with
   | none=>rw[e3] at ei;cases ei
   | some δ2 =>
    rw[e3] at ei;simp only[`n] at ei;apply `aDl;apply `aDm;cases e4:G δ2 with
    | none=>rw[e4] at ei;cases ei
    | some rb =>
     rw[e4] at ei;apply `aDn;cases rb with
     | nx δn=>apply `abu
     | ct δn=>apply `abu
     | bk δn =>
      cases ei;exact fun σ' H' en'=>k σ' H' (en'.lower hS `ii)
     | rt d' =>
      cases ei;exact λv H' s' r'=>k v H' (`abv s') r'
     | rf d' =>
      cases ei;exact λp H' hp s' r'=>k p H' (hS.free hp) (`abv s') r'
  ·have e:i=`b_:=`H
   subst e;apply `aDo;rw[`n9] at ei;cases ei;exact `aDp
structure PFD(X:Cx)(ifs:`bn)(g:`gT):Prop where
 mk::go:`aDq
instance{X:Cx}{ifs:`bn}{g:`gT}:`eM (PFD X ifs g) (λ_=>`aDq):=#[PFD.go]
theorem wp0:PFD X [] noT:=.mk λB δ pins s σ H Q I hq84=>by
 let#[b,en,e,k]:=hq84
 cases e;exact Lx0 `k s σ H Q I (k H `c')
theorem lv0(h:`Mq):PFD X [c] gt:=.mk λB δ=>Mv0 `cI
def by0{σ:St}(h:j<n):`e4[j]?=`c8:=by
 unfold J8;rw[`g9 `hB,`lT,`cQ]
theorem mm0:∀n:Nat,`bx `F0 (`a1 n (`e:`dm)) (`aDr)
 | 0=>`L
 | n+1=>`ai `s_ (mm0 n)
theorem Zx0{σ:St}{δ:Ds}(en:`be):∀caps:`i,`bx `F0 (`aAi) (`aBe)
 | []=>`L
 | j::`bZ=>by
  refine `ai ?_ (Zx0 en `bZ);show SlR K H B `SQ (ke0 `pi);cases h:`pi with
  | none=>trivial
  | some sl =>
   cases sl with
   | un=>trivial
   | ow ds=>trivial
   | ex c n=>trivial
   | sh d =>
    let#[v,e,r]:=en.get h;rw[e];exact`aB?
def Sw0{o:`L1}{ds:D}(h:ke0 o=`Tc):`bW:=by
 cases o with
 | none=>cases h
 | some s=>cases s<;>cases h
def ul0{δ:Ds}{ds:D}(h:`id[i]?=`F1):`bW:=by
 unfold zb0 at h
 by_cases hi:i<n
 ·rw[`Lj,`lT,`R hi] at h
  cases h
 ·rw[`_l,`bN] at h
  cases q:`bZ[i - (`aDr).length]? with
  | none=>rw[q] at h;cases h
  | some j =>
   rw[q] at h;exact Sw0 (`pK)
theorem Env.comp{σ:St}{δ:Ds}(en:`be)(n:Nat)(caps:`i):Env K H B `e4 `id :=
 #[`ij (mm0 n) (Zx0 en `bZ),en.bad,`abw]
def SlR.gr{o:`dm}{s:Sl}(g:`dZ)(no:∀ds,s≠`Tc)(h:`aa3):SlR K H' B' o s:=by
 cases s with
 | un=>trivial
 | sh d=>apply `f?;apply `Cg
 | ow ds=>exact `I rfl (no ds)
 | ex c n=>let#[a,e,r]:=h;exact#[a,e,`mL]
def Pd.impG(g:`dZ):∀{σ:St} {δ:Ds},(`aDs)->`aa2->`bx (SlR K H' B') σ δ:=by
 intro σ δ no p
 induction p with
 | nil=>exact `L
 | cons r t ih=>exact `ai (r.gr g λds z=>no 0 ds (by rw[← z];rfl)) (ih λi ds z=>no `d' ds `aDt)
def tDF(K:`B)(B:BS)(δ:Ds)(g:`bo):TE:=fun σ H Q=>∃d,`be/\`hO/\`aDu
structure PDF(X:Cx)(e:`M)(g:`bo):Prop where
 mk::go:`aDv
instance{X:Cx}{e:`M}{g:`bo}:`eM (`vp) (λ_=>`aDv):=#[PDF.go]
def tD.toF{δ:Ds}{g:`bo}{σ:St}{Q:VK}(h:tD K B δ g σ H Q):tDF K B δ g σ H Q:=by
 let#[d,en,e,k]:=h;exact#[d,en,e,λp H' hp s r=>k _ H' s (r.rp (λa z=>`e9) (en.free hp))]
theorem PDF.pd{g:`bo}(h:`vp):`cB:=.mk λB δ=>(`Tj).imp fun σ H Q z=>z.toF
def ph0{K:`B}{B:BS}{δ:Ds}{σ:St}{H:Hp}{Q:VK}{caps:`i}{gi:`f!}{f:`aT}{gt:`gT}{ge:`bo}(hidx:∀j∈idx,j<n)
  (h:tDF K B δ `Gg σ H Q) :
  b40 n `bZ (tDI K B δ gi) `aDw (fun σ H Q=>∃B δ,tDT K B δ gt σ H Q) (fun σ H Q=>∃B δ,tD K B δ ge σ H Q) σ H Q:=by
 apply `vm;unfold T4 at h;cases e1:`sF with
 | none=>rw[e1] at h;cases h
 | some items =>
  rw[e1] at h;apply `d_
  by_cases hsz:`q3
  ·rw[`R hsz] at h
   cases e2:`SZ with
   | none=>rw[e2] at h;cases h
   | some out =>
    rw[e2] at h;cases h;refine#[`bs,en,e1,`aDx];have U:=`fR;have a8:¬B L:=U.free hL;obtain⟨Bp,M⟩:∃Bp:BS,Bp=`aDy:=`ac
    have a6:Bp L:=by rw[M];exact `o7
    have b1:∀a,B a->Bp a:=λa z=>by rw[M];exact `e9
    have a1:∀a,Bp a->`anc:=λa z=>by rw[M] at z;exact z
    have gr:∀{H2:Hp},`LS->`aDz:=λ{H2} s2 b o nb hb=>#[(λz=>by
     rcases a1 b z with q|q
     ·exact nb q
     ·subst q;rw[hL] at hb;cases hb),s2 b o hb]
    refine#[λi m ys H2=>m=`b_ - i/\`abt/\`aDA/\`LS/\`e0<=i/\∃pre rest,out=pre++`bh/\`aDB/\za0 f gt ge `id (`ju i)=`c `bh,
     #[_,rfl,`cu,j5,X6 hL,`jl,[],out,rfl,`gU,e2],?_]
    rintro i m ys H2 ⟨rfl,b0,hD,s2,a7,pre,rest,ho,rp,ec⟩;have O:Env K H2 Bp `e4 `id:=by
     refine#[Pd.impG (gr s2) `aDC (U.comp n `bZ).all,`hb,`abw];rcases a1 a z with q|q
     ·exact(U.same s2).bad a q
     ·subst q;rw[hD];exact .of rfl `aaW λ_ z=>nomatch z
    by_cases hlt:i<`b_
    ·refine `q #[it.go i H2 `G? hlt,`aDD]
     let#[sm,dx,Z,rx]:=`Tt i H2 x H3 `G? y hlt;have a4:`aDE:=rx Bp (gr (`HA sm)) O.bad
     replace O:=O.same sm
     replace s2:=`HA sm
     replace hD:=sm _ _ hD
     replace rp:=rp.same sm
     have Y:`ju i=dx::`ys:=by
      apply `Mu;congr 1;rw[`Mv] at Z;exact A3 Z
     rw[Y] at ec;unfold za0 at ec;cases e3:f dx `id with
     | none=>rw[e3] at ec;cases ec
     | some δ' =>
      rw[e3] at ec;dsimp only at ec;refine#[Bp,dx,`FR,δ',a4,O,e3,fun σ4 w en4=>#[#[w.len,λj v z=>?_],?_]]
      ·by_cases hj:j∈idx
       ·rw[by0 (`fx j hj)] at z;cases z
       ·rw[(`yp j hj).1];exact z
      ·cases e4:`BX with
       | none=>rw[e4] at ec;cases ec
       | some t =>
        rw[e4] at ec;refine#[Bp,δ',t,en4,e4,`aDF];cases t with
        | false =>
         rw[`nS];exact#[`Ts,`H,rfl,hlt,s5 _ _ hD,`HA s5,`H,pre,`bh,ho,rp.same s5,ec]
        | true =>
         rw[`bA];dsimp only at ec;cases e5:`FS with
         | none=>rw[e5] at ec;cases ec
         | some yd =>
          rw[e5] at ec;dsimp only at ec;cases e6:za0 f gt ge `id (`ys) with
          | none=>rw[e6] at ec;cases ec
          | some rest' =>
           rw[e6] at ec;cases ec;refine#[Bp,δ',yd,`aDG,e5,λv H6 s6 r6=>?_];have a3:`aDH:=s6 _ _ (s5 _ _ hD);have g6:`aDI:=λb o nb hb=>#[nb,by
            rw[d7 (λz=>nb (by rw[z];exact a6))];exact hb]
           refine#[a3,`H,`Ts,`H,rfl,hlt,j5,#[λb o hb=>?_,λb ob zs hb=>?_],`R8,pre++[yd],rest',by rw[ho];simp,?_,e6]
           ·have a5:b≠L:=λz=>by rw[z,hL] at hb;cases hb
            rw[d7 a5];exact s6 _ _ (s5 _ _ (s2 _ _ hb))
           ·by_cases z:b=L
            ·rw[z,j5] at hb;cases hb
            ·rw[d7 z] at hb
             exact s2.nf _ _ _ (s5.nf _ _ _ (s6.nf _ _ _ hb))
           ·exact(`pJ ((rp.same s5).same s6) r6).mono g6
    ·have e:i=`b_:=`H
     subst e;refine `p #[`Tu _ H2 `G? `bi,?_];rw[`n9] at ec;have a2:`aDJ:=A3 ec;subst a2;rw[`bc] at ho;subst ho;refine k L H2 (`im hL) `mT #[ys,hD,?_];rw[M] at rp;exact rp
  ·rw[`ap hsz] at h;cases h
theorem Zm0{sc scope:`cz}{elt iter:`M}{ifs:`bn}{N':`h}{n:Nat}{caps:`i}{gi:`f!}{idx:`i}{f:`aT}{ge:`bo}
  (hc:`dQ) (hsc:`k9) (ok:`n3) (hidx:∀j∈idx,j<n) (hi:`hP)
  (hg:`hQ) (ht:`q8) (he:`n')
  (hs:`ei) :
  `aDK:=.mk λB δ =>
 (k80 hc hsc ok `Tp (g:=`pt) (tt:=`Mw) (te:=`Mx)
  `vq
  `abx
  `My hs).imp fun σ H Q h=>ph0 `fx h
theorem O60{sc scope:`cz}{elt iter:`M}{ifs:`bn}{N':`h}{n:Nat}{caps:`i}{gi:`f!}{idx:`i}{f:`aT}{ge:`bo}
  (hc:`dQ) (hsc:`k9) (ok:`n3) (hidx:∀j∈idx,j<n) (hi:`hP)
  (hg:`hQ) (ht:`q8) (he:`n')
  (hs:`ei) :
  `aDL:=(Zm0 hc hsc ok `fx hi hg ht he hs).pd
theorem Yq0(i:Nat){y:Str}{py spos:Pos}{sc scope:`cz}{elt iter:`M}{ifs:`bn}{N':`h}{n:Nat}{caps:`i}{gi:`f!}{idx:`i}{f:`aT}{ge:`bo}
  (hN:`eK) (hc:`dQ) (hsc:`k9) (ok:`n3) (hidx:∀j∈idx,j<n) (hi:`hP)
  (hg:`hQ) (ht:`q8) (he:`n')
  (hiN:`vr) (hy:`ks)
  (hsw:`aat)
  (hs:`ei)
  (hf:`i_) :
  `aDM:=.mk λH₀ B₀ δ pins s σ H D I hq85=>by
 skip;let#[r,en,e1,k]:=hq85
 unfold d8 at e1;apply `a_;cases e2:`aBx with
 | none=>apply `U;cases e1
 | some d =>
  apply `U;cases e1;done;refine ib0 (i:=i) hN hiN hy hc hsc ok `Tp (g:=`pt) (tt:=`Mw) (te:=`Mx)
   `vq
   `abx
   `My hsw hs hf `k s σ H D I (ph0 `fx (tD.toF #[d,env,e2,λv H' s' r'=>k _ H' (en.wr b1 b2 s' ba0 ((`abj).set i r'))]))
universe zz
theorem sr0{N:`h}:∀{ds:`l} {vs:`N},`Mn->`bx `F0 (`hm `c) (ds.map `j3)
 | [],_,h=>by rw[m9] at h;subst h;exact `L
 | `ay,_,h=>by
  rw[o9] at h;apply `q9;exact `ai `B3 (sr0 (N:=N) h2)
def pf0{es:D}(h:`Gh[i]?=`aB9):`bW:=by
 unfold S8 at h
 by_cases hi:i<`bP
 ·rw[`Lj,`bN] at h
  cases q:ds[i]? with
  | none=>rw[q] at h;cases h
  | some d=>rw[q] at h;cases h
 ·rw[`_l,`lT] at h
  apply `aby
section
variable{P:`aw}{w:`X}
def okD{st:`bq}{ps:`h}{k:Nat}{f:`Q}{G:`i0}(F:`abz)(S:`LR)
  (body:`aDN)
  (hf:∀ds d,`B'->`bP=`aA/\`aDO) :
  `T P w K mg `m CX0 `fK fa fd ps (spD K f):=by
 apply `abA
 ·skip;apply `aDP;done;rw[`cf];exact(`Ch).1
 ·skip;apply `aDQ;done;apply `aDR
  skip;have en:`aDS:=by
   apply `aDT;unfold L2.start S8;rw[`cf];exact `aDU
  rcases (`Ch).2 with e|⟨rfl,δ,e⟩|⟨e,hn⟩
  ·done;exact#[_,en,e,λv H' s' r'=>q v H' s' r']
  ·done;exact#[_,en,e,fun σ' H' en'=>q `x H' en'.same `il]
  ·done;exact#[_,en,e,λp H' hp s' r'=>q _ H' s' ((r'.toO hn).rp (λa z=>`e9) (λz=>hb p z hp))]
def spN(K:`B)(f:`Q):Sp:=λvs H Q _=>∃(B:BS) (ds:`l) (d:D),`q7/\`Mn/\`B'/\`aDu
def okN{st:`bq}{ps:`h}{k:Nat}{f:`Q}{G:`i0}(F:`abz)(S:`LR)
  (body:`aDN)
  (hf:∀ds d,`B'->`bP=`aA/\`Tw) :
  `T P w K mg `m CX0 `fK fa fd ps (spN K f):=by
 apply `abA
 ·skip;apply `aDP;done;rw[`cf];exact(`Ch).1
 ·skip;apply `aDQ;done;apply `aDR
  have en:`aDS:=by
   apply `aDT;unfold L2.start S8;rw[`cf];exact `aDU
  exact#[_,en,(`Ch).2.1,λp H' hp s' r'=>q p H' hp s' (r'.toO (`Ch).2.2)]
universe zz
universe DL
namespace L2
open Spec PyProof.Rows
theorem Y70:∀{ys:`h} {us:`ah},`aDV->StrsAre us ys
 | [],_,r=>`aDW
 | `Ci,_,r=>by
  rw[`_] at r;cases r with
  | cons r1 r2 =>
   let#[t,e]:=r1;subst e;exact `ai y t (Y70 r2)
def Oj0:MtR X "str.join" (λx xs H Q=>∃(sep:Str) (p:`g) (ys:`h),x=`t sep/\`my/\SqL X.K H p `sS/\`aBl/\Q `aBm H):=by
 apply `aDX;skip;let#[sep,p,ys,rfl,rfl,hq,hz,q]:=h;apply `cm;let#[u,rfl,ru]:=rs.one;cases ru;let#[its,rv,pl,_]:=`r?;done;exact join_list `lU (by simpa using Y70 rv) hz `aDY
def part_of{o:`bl}(p:`xM u o):∃l:`aP (Int×Tok),u=partValue l/\`eu `bV=o:=by
 cases p with
 | none=>exact#[`e,rfl,rfl]
 | int i t=>exact#[`c (i,t),rfl,rfl]
def Mr0:SlR X (λx lo hi H Q=>∃z,x=`mx/\`st/\Q `aDZ H):=by
 apply `Lu;skip;let#[z,rfl,hz,q]:=h;apply `cm;let#[l,rfl,rfl]:=part_of pl;let#[u,rfl,rfl]:=part_of pu;done;refine#[`iX,_,F.slot_str_getitem.lookup,Q2 _ _ _,wpAny_getItem_str_slice (l:=l) (u:=u) (st:=`e) ?_ rfl (post_val_or_str #[B4 (Txt.slice_le z _ _) hz,`aDY])];let#[o,h1,h2,h3]:=hs;exact#[o,h1,h2,h3]
universe L2
namespace DL
open Spec PyProof.Rows L2
def tyD:D->`cO
 | `x => "NoneType"|`bK => `vs|`cn => `iU|`bF => `iX|`BT => `d3|`bU => `d4|`n! => `GH|`n? => `xd
def okT(T:`cO)(f:`df):Prop:=∀(K:`B) (d:D),W.kitOne K (`bD (tyD d)) `xK=`c (f d)
theorem Ni0:okT `iU isInt:=`Mz
theorem W30:okT `iX isStr:=`Mz
theorem Re0:okT `vs isBool:=`Mz
theorem sx0:okT `d3 `zs:=`Mz
section
def R60{T:`cO}{f:`df}(hT:okT T f):`fN X (`cT `vt) (λxs H Q=>∃B d x,xs=[x,.ty T]/\`GP/\Q (.bl (f d)) H):=by
 intro pins s σ H xs us Q I rs h;skip;let#[B,d,x,rfl,r,q]:=h;let#[u,c,rfl,ru,rc]:=rs.two;obtain rfl:c=`la T:=rc;have fin:∀tk,EP X `k σ Q (`fE (f d)) { s with toks:=tk }:=λtk=>#[`bK,H,I.tok tk,rfl,q]
 have e:=hT X.K d;cases d with
 | non=>rw[U5] at r;subst r;cases (show u=`s9 from ru);done;exact K0 W.kitx_none `d8 `kV e `ea fin
 | bl y=>rw[Y7] at r;subst r;cases (show u=`x1 y from ru);done;exact K0 W.kitx_bool `d8 `kV e `ea fin
 | int i=>rw[j7] at r;subst r;let#[t,rfl]:=(show `E9 from ru);done;exact K0 W.kitx_int `d8 `kV e `ea fin
 | str y=>rw[Y8] at r;subst r;let#[t,rfl]:=(show ∃t,u=`EA y t from ru);done;exact K0 W.kitx_str `d8 `kV e `ea fin
 | tup ds =>
  rw[U8] at r;apply `abB;apply `MA;let#[its,_,p,_]:=`h5 `le;let#[o,h1,h2,_]:=p;done;exact K0 W.kitx_tuple `d8 `aD_ e `ea fin
 | lst ds =>
  rw[X4] at r;apply `abB;apply `MA;let#[its,_,p,_]:=`gl `le;let#[o,n,h1,h2,_]:=p;done;exact K0 W.kitx_list `d8 `aD_ e `ea fin
 | dct ks ds =>
  rw[on0] at r;let#[a,xs,rfl,_,hq,_]:=r;apply `MA;cases ks with
  | inl ks =>
   let#[_,_,vs,_,p]:=(show `cC `a? X.w H `aK a (`sK) from `aD0);let#[o,es,ep,h1,h2,_]:=p;done;apply `aD1
  | inr ks =>
   let#[_,_,vs,_,o,es,ep,h1,h2,_]:=(show `cC `a? X.w H `aK a (`aaJ) from `aD0);done;apply `aD1
 | fn ks ds =>
  rw[Pz0] at r;apply `abB;apply `MA;let#[oF,_,_,_,_,_,_,_,_,#[_,h1],#[h2,_],_]:=hq;done;exact K0 KfT.kit `d8 #[oF,(`b7 a _ h1).1,h2] e `ea fin
theorem tg0{T:`cO}{f:`df}{Tn:Str}{g:`bo}{p p2 pos:Pos}(hT:okT T f)(hb:`fB Tn=`c `xK)(hm:`cc `vt=`e)(hmT:`cc Tn=`e)(h:`cB)(hg:`v (Gl X `vt) Aa)(hgT:`v (Gl X Tn) Aa)
  (hn:`v (Tn ≠`EJ) Ab) (hd:`v ((Tn==`r!)=`r) Ab)
  (he:`v (`c7 [e,`Gl] `A=`o1::`abC) Aa) (he2:`v (`abC=(`r,`bg (`Gl) `A)::`hd) Aa)
  (hpl:`v ((`gj pos (`abC)).any `bV=`r) Aa) :
  PD X (`a0 (`cr `vt p) [e,`Gl] [] pos) (zy0 f g) :=
 .mk λB δ=>(nn0 (R60 hT) hg hm PyProof.Rows.boot_isinstance (N7 `cI (N7 (N20 (v:=.ty T) hgT hmT hb rfl hn hd) y20 he2) he) `s `s he hpl).imp fun σ H Q hq86=>by
  let#[d,en,h,k]:=hq86
  unfold zy0 at h;cases e1:`ax with
  | none=>rw[e1] at h;cases h
  | some x =>
   rw[e1] at h;cases h;exact#[x,en,e1,λv H1 s1 r1=>#[B,x,v,rfl,r1,k _ H1 s1 `F7]]
open T in
def io0{C:`ZR}[∀i j,`iK (C i j)]{g:`K1}{g':`aD2}(hg:`aD3):Op2 K (rI C g) (ii λi j=>if C i j then `c `Tz else `e):=by
 apply `i7;apply `aD4
 rename_i i j;split at h
 ·cases h
  rw[j7] at rx ry;subst rx ry;exact#[i,j,rfl,rfl,`Cj,`aD5]
 ·cases h
open T in
def lb0{g:`K1}{g':`aD2}(hg:`aD3):Op2 K (rI0 g) (ii λi j=>`c `Tz):=by
 apply `i7;apply `aD4
 rename_i i j;rw[j7] at rx ry;subst rx ry;exact#[i,j,rfl,rfl,`aD5]
instance decDiv(i j:Int):`iK (Rh0 i j):=inferInstanceAs (`iK (`K3))
instance decPow(i j:Int):`iK (Rq0 i j):=inferInstanceAs (`iK (`ZU))
variable{a:`M}{g ga:`bo}
theorem O8(ha:`ca)(hb:`c0):PD X (`o_ a .Sub b pos) (o2 ga gb K7):=no0 Mx0 (lb0 (g':=`awE) `Ck) ha hb
theorem V0(ha:`ca)(hb:`c0):PD X (`o_ a .FloorDiv b pos) (o2 ga gb j9):=no0 M70 (io0 (C:=Rh0) (g':=`awH) `Ck) ha hb
theorem Z8(ha:`ca)(hb:`c0):PD X (`o_ a .Mod b pos) (o2 ga gb m8):=no0 L30 (io0 (C:=`awI) (g':=`awJ) `Ck) ha hb
theorem oc0(ha:`ca)(hb:`c0):PD X (`o_ a .Pow b pos) (o2 ga gb m90):=no0 Kh0 (io0 (C:=Rq0) (g':=`awK) `Ck) ha hb
universe zz
universe DL
namespace L2
open Spec PyProof.Rows
def O10(K:`B):R2:=λx y H Q=>∃l b xs zs,`LL/\`BE/\SqL K H l xs/\`aD6/\`aD7/\∀p,`dP->Q `dr (upd H p `MB)
def gw0:OpR X `Bp (O10 X.K):=by
 apply `fr;skip;apply `aD8;cases rx;cases ry;let#[its,r,p1,z1]:=`gl hH;apply `aD9;apply `aD';let#[#[a2,Y,data2,a1],U,O,n2,M]:=`MC;simp only at hc hd O M;subst hc hd O M;have e:`bt++`abD=(its++J).toArray:=`a6
 have Z:`aD!:=by
  rw[`bY,`bY,← `cf,← `mQ];exact hz
 done;refine k8 `q_ #[_,U,rfl] noFill_list_add seq_list_add PySem.F.slot_list_add PySem.F.entry_list_add (PySem.F.args_list_add_2 _ _) (list_addW l b `bt `abD n n2 dd Y sl a1 Z) #[ho,U,?_];rw[e];exact#[`C _,_,I.lnew (t':=`bu) (`Bz r2) (`ayX),rfl,`aD?]
universe L2
namespace DL
open Spec PyProof.Rows L2
section
variable{a:`M}{p:Pos}{g ga:`bo}
theorem d50(hb:`ym){p:`g}(h:`dP):¬B p:=λz=>hb p z h
def ob0{p:`g}(hb:`ym)(h:`dP)(r:`bb):Rp K (upd H p `mo) B `FP `dr:=by
 rw[X4];exact#[p,xs,rfl,`p #[d50 hb h,`aa?],`aEa]
def fk0{p:`g}(hb:`ym)(h:`dP)(r:`bb):Rp K (upd H p `rY) B `sC `dr:=by
 rw[U8];exact#[p,xs,rfl,#[d50 hb h,j5],`aEa]
theorem uc0:Op2 K (rI0 `ZW) ltD:=lb0 (g':=`ZW) `MD
theorem li0:Op2 K (rI0 `ZX) leD:=lb0 (g':=`ZX) `MD
theorem vg0:Op2 K (rI0 `ZY) gtD:=lb0 (g':=`ZY) `MD
theorem Kn0:Op2 K (rI0 `ZZ) geD:=lb0 (g':=`ZZ) `MD
def Sn0{x y:V}{dx dy:D}{b:`aa}(rx:`aa5)(ry:`aCf)(h:`abE=`k4):`ZV/\`E3=b:=by
 cases dx<;>cases dy<;>simp only[eqS] at h<;>try cases h
 all_goals
  simp only[U5,Y7,j7,Y8] at rx ry;subst rx ry;refine`abF;simp
def Z7:Op2 K rEq eqD:=by
 apply `i7;unfold eqD at h;cases e:`abE with
 | none=>rw[e] at h;cases h
 | some b =>
  rw[e] at h;cases h;let#[h1,h2]:=Sn0 rx ry e;apply `aEb
def L40:Op2 K rNe neD:=by
 apply `i7;unfold neD at h;cases e:`abE with
 | none=>rw[e] at h;cases h
 | some b =>
  rw[e] at h;cases h;let#[h1,h2]:=Sn0 rx ry e;apply `aEb
def ki0:Op2 K `awM mh0:=by
 apply `i7;have hy:dy=`x:=by cases dy<;>first|rfl|cases h
 subst hy;cases h;rw[U5] at ry;refine#[ry,`ME];rw[Y7];cases dx<;>simp only[U5,Y7,j7,Y8,U8,X4,on0,Pz0] at rx
 all_goals first
  | (subst rx;rfl)
  | (let#[a,xs,rfl,_]:=rx;rfl)
theorem Sr0(xs:`aN)(i:Int):`abG=DL.atI xs i:=rfl
def pu0(n d:Nat)(o:`bl):`jp n d o=sIx n d o:=by cases o<;>rfl
def X30{i:Int}{d:D}(r:`bb)(h:DL.atI ds i=`a7):∃v,`abG=`b6/\`ck:=by
 rw[Sr0];unfold DL.atI at h ⊢;rw[`cf];cases e:DL.ixN `bP i with
 | none=>rw[e] at h;cases h
 | some j =>
  rw[e] at h;exact `sq h
def K60:Op2 K (rIx K) ixD:=by
 apply `i7;cases dx<;>cases dy<;>simp only[ixD] at h<;>try cases h
 ·split at h
  ·rename_i hz
   rw[Y8] at rx;rw[j7] at ry;subst rx ry;let#[c,hc,rfl]:=l5.mp h;exact `q (`q #[_,_,c,rfl,rfl,hz,hc,`Mk])
  ·cases h
 ·skip;rw[U8] at rx
  rw[j7] at ry;subst ry;apply `aEc;apply `aEd;done;exact `q (`aEe)
 ·skip;rw[X4] at rx
  rw[j7] at ry;subst ry;apply `aEc;apply `aEd;done;exact `aEe
theorem d9(ha:`ca)(hb:`c0)(hs:`Ml):PD X `u6 (o2 ga gb ixD):=Kz0 Ko0 K60 ha hb hs
structure PDO(X:Cx)(e:`oH)(g:`vi):Prop where
 mk::go:`aEf
instance{X:Cx}{e:`oH}{g:`vi}:`eM (PDO X e g) (λ_=>`aEf):=#[PDO.go]
theorem v60:PDO X `e xx0:=.mk λB δ pins s σ H Q I hq87=>by
 let#[o,en,h,k]:=hq87
 cases h;exact N00 `k s σ H Q I (k H `c')
theorem zu0(h:`cB):PDO X (`c e) (`ho g):=.mk λB δ pins s σ H Q I hq88=>by
 let#[o,en,hq,k]:=hq88
 unfold someO at hq;cases e1:`ax with
 | none=>rw[e1] at hq;cases hq
 | some d =>
  rw[e1] at hq;cases d<;>simp[asI] at hq
  subst hq;exact Nc0 `cI `k s σ H Q I #[_,en,e1,λv H' s' r=>#[_,`aEg,k H' s']]
def Xr0(r:`bb)(lo hi:`bl):Rps K H B (`sV ds lo hi) (`Fk):=by
 unfold cutD mk0;rw[`cf,pu0,pu0];exact(r.drop _).take _
def yf0{d:D}(h:Rps K H B [d] xs):∃v,xs=[v]/\`ck:=by
 rw[o9] at h;apply `q9;rw[m9] at h2;subst h2;exact`B3
def Ku0:FnR K (λxs H Q=>(`azs)∨∃p ys,`my/\(`abH∨`abI)/\`amf) V1:=by
 apply `q';unfold V1 at h;split at h
 ·split at h
  ·cases h
   apply `i8;rw[Y8] at r1;subst r1;exact `p #[_,rfl,`Cj,`s2]
  ·cases h
 ·skip;cases h
  apply `i8;apply `oa;apply `vu;done;exact `q #[a,ys,rfl,`abJ,`aEh]
 ·skip;cases h
  apply `i8;rw[U8] at r1;apply `vu;done;exact `q #[a,ys,rfl,`abK,`aEh]
 ·cases h
theorem N8(hm:`abL)(ha:`vv)(hg:`abM)(he:`eO)(hpl:`i9) :
  PD X `aEi (oA gA V1):=v40 (aq0.or qf0) Ku0 hm P1 ha hg `s `s he hpl
theorem Zk0:∀{ds:`l} {xs:`N} {bs:`h},`bb->`vj=`c bs->xs=bs.map `yu
 | [],_,_,r,h=>by
  cases h;rw[m9] at r;exact r
 | `ay,_,bs,r,h=>by
  rw[o9] at r;apply `Mt;apply `aEj
  let#[t',e,rfl]:=l5.mp h;rw[Y8] at r1;rw[r1,Zk0 r2 e];rfl
theorem Xs0{apos cpos:Pos}(ho:`MF)(ha:`vv)(hbase:`v (`fJ o "join" `A `mq=`h7) Aa)
  (hfew:`v ((`lZ
  &&`Cl)=`d) Aa)
  (hline:`fs) (hs:`eO) (hplain:`kt) :
  PD X (`a0 (`dq o "join" `e_) [e] [] `ch) (nq0 g gA):=.mk λB δ =>
 (sm0 `aEk F.slot_str_join F.type_str_join Oj0 `MG `bk `ft `hM `fu hs `iY).imp fun σ H Q hq89=>by
  skip;let#[d,en,h,k]:=hq89
  unfold nq0 at h;cases e1:`ax with
  | none=>rw[e1] at h;cases h
  | some x =>
   cases e2:`cH with
   | none=>apply `b?;cases h
   | some ds =>
    apply `b?;apply `d_;unfold cv0 at h;split at h
    ·cases e3:sd0 _ with
     | none=>rw[e3] at h;cases h
     | some ys =>
      rw[e3] at h;apply `d_;split at h
      ·cases h
       done;apply `MH;rw[Y8] at r1;subst r1;refine`aEl;skip;let#[w,rfl,r3]:=yf0 r2;rw[X4] at r3;let#[a,zs,rfl,q,rr]:=r3;have:=Zk0 rr e3;subst this;done;exact#[_,a,ys,rfl,rfl,`ev,`Cj,k _ H2 `mT `F8]
      ·cases h
    ·cases h
def qr0:FnR K (λxs H Q=>∃p ys,`my/\((`abH/\`amg)∨(`abI/\Q `dr H))) xk0:=by
 apply `q';unfold xk0 at h;split at h
 ·skip;cases h
  apply `i8;apply `oa;apply `vu;done;exact#[a,ys,rfl,`p #[`ev,λl hl=>k _ _ (X6 hl) (fk0 hb hl rr)]]
 ·skip;cases h
  apply `i8;have J:=r1;rw[U8] at r1;apply `vu;done;exact#[a,ys,rfl,`q #[`ev,k _ H `c' J]]
 ·cases h
universe zz
section
variable{a:`M}{p:Pos}{g ga:`bo}
theorem zf0(h:`ca):PD X (`R1 .USub a pos) (unG U7 ga):=.mk λB δ=>(Ih0 Ln0 `cI).imp fun σ H Q hq90=>by
 let#[d,en,h,k]:=hq90
 unfold unG at h;cases e1:`cv with
 | none=>rw[e1] at h;cases h
 | some x =>
  rw[e1] at h;cases x<;>simp[U7] at h
  subst h;exact#[_,en,e1,λv H' s r=>#[_,`aEg,k _ H' s `yn]]
def FnD(P:`aw)(w:`X)(K:`B)(mg:`bJ)(base:`W)(x:Str)(k:Nat)(ps:`h)(f:`Q):Prop :=
 ∃(fa:`g) (fd:`hI),`T P w K mg `m CX0 k fa fd ps (spD K f)/\`abN
def M7{k:Nat}{ps:`h}{f:`Q}(C:`aEm)(hr:`Cm)(hk:k<=m)(ha:`n7)(hg:`gb)(hdb:`aZ)
  (he:`ej) (hpl:`gR):`Cd:=by
 apply `abO;exact Nh0 F `q! hm kp hb ha hg hdb he hpl
theorem f00{sc scope:`cz}{elt iter tg:`M}{ifs:`bn}{N N':`h}{n:Nat}{caps:`i}{gi:`f!}{idx:`i}{f:`aT}{gt:`gT}{ge:`bo}
  (ok:`ob) (hidx:∀j∈idx,j<n) (hi:`hP)
  (hg:`hQ) (ht:`q8) (he:`n')
  (hc:`hR) (hsc:`q?) (hN:`ra) (hs:`ei) :
  `aDL:=O60 hc hsc `rb `fx hi hg ht he hs
theorem jg0(i:Nat){y:Str}{py spos:Pos}{sc scope:`cz}{elt iter tg:`M}{ifs:`bn}{N N':`h}{n:Nat}{caps:`i}{gi:`f!}{idx:`i}{f:`aT}{gt:`gT}{ge:`bo}
  (hnd:`KE) (ok:`ob) (hidx:∀j∈idx,j<n) (hi:`hP)
  (hg:`hQ) (ht:`q8) (he:`n')
  (hc:`hR) (hsc:`q?) (hN:`ra)
  (hiN:`vr) (hy:`ks)
  (hsw:`aat)
  (hs:`ei)
  (hf:`i_) :
  `aDM:=Yq0 i (hN▸hnd) hc hsc `rb `fx hi hg ht he hiN hy hsw hs hf
universe zz
universe DL
namespace DL
open Spec PyProof.Rows
@[simp] def fz:D->Sl
 | `w [`bU,`bU]=>.un
 | `w (`bF::_)=>.un
 | `w [`cn,`BT]=>.un
 | d=>.sh (unl d)
@[simp] def s70:Sl->Sl
 | `sU=>fz d
 | s=>s
@[simp] def frz(δ:Ds):Ds:=δ.map s70
@[simp] def flat:`df
 | `x=>`d|`bK=>`d|`cn=>`d|`bF=>`d|_=>`r
@[simp] def ur0(g:GE):GE:=fun δ=>`abP λd=>if `ku then `a7 else `e
@[simp] def ff0(g:GB):GB:=`aEn
@[simp] def ei0(g:GE):GE:=`aEn
@[simp] def frzAt(i:Nat)(δ:Ds):Ds:=match `cl with
 | `c s=>`bj i `abQ
 | `e=>δ
@[simp] def P20(i:Nat)(G:GS):GS:=fun δ=>G (frzAt i δ)
@[simp] def zj0(i:Nat)(g:GE):GS:=fun δ=>`vd λd=>.nx `pB
abbrev GX:=Ds->`aP (D×Ds)
@[simp] def Y4(g:GE):GX:=fun δ=>`vd λd=>(d,δ)
variable{gx:DL.GX}
@[simp] def N6(gx:GX)(ft:`aT):GS:=fun δ=>`Cn λr=>(ft r.1 r.2).map .nx
@[simp] def j4(gx:GX):GS:=fun δ=>`Co λr=>.nx r.2
@[simp] def owL(i:Nat)(δ:Ds):`sA:=match `cl with
 | `aEo=>`pk
 | _=>`e
@[simp] def yt0(i:Nat)(g:GE):GX:=fun δ=>`abR λds=>`cR λd=>if `bP<`S then `c (`x,`aEp) else `e
@[simp] def wu0(i:Nat)(g:GE):GX:=fun δ=>`abR λds=>`cR λd=>match d with
 | `jy=>if `bP+`gw<=`S then `c (`x,`aEq) else `e
 | _=>`e
@[simp] def qz0(i:Nat):GX:=fun δ=>`abR λds=>(`aEr).map λd=>(d,`aEs)
abbrev O4:=`SW
@[simp] def y90:D->`aP O4
 | `ba=>`c (`p i)
 | `bX=>`c (`nM)
 | _=>`e
def th0:`l->`aEt
 | []=>`pg
 | `ay=>`MI λk=>(`MJ).map (k::·)
@[simp] def qx0:D->`aEt
 | `ci=>`MJ
 | _=>`e
def xq0{κ:Type}[`l_]:`l0->`l->κ->`du
 | `hS,`ay,q=>if k=q then `a7 else `Hk
 | _,_,_=>`e
def zt0{κ:Type}[`l_](ks:`l0)(k:κ):`aa:=ks.any λq=>`z (q=k)
def xt0{κ:Type}[`l_](ks:`l0)(k:κ):`l0:=if `yy=`d then ks else ks++[k]
def xu0{κ:Type}[`l_](ks:`l0)(ds:`l)(q:κ)(v:D):`l:=if `pH=`d then `aEu (`an1) else ds++[v]
@[simp] def fc0(i:Nat)(δ:Ds):`aP (`aEv):=match `cl with
 | `c (.ow `L!)=>`c (ks,ds)
 | _=>`e
@[simp] def putAt(i:Nat)(g:GE):`aT:=λv δ=>`aEw λr=>`cR λd=>`MI λk =>
 if r.1.length<`S then `c (`bj i (.ow (`cj (`p (xt0 r.1 k)) (xu0 r.1 r.2 k v)))) else `e
@[simp] def p80:`a5
 | `kr,d=>match ks with
  | `yg=>`MI `aEx
  | `B0=>(qx0 d).bind `aEx
 | _,_=>`e
@[simp] def vf0(neg:`aa):`a5
 | d,`kr=>match ks with
  | `yg=>(`Gt).map `aEy
  | `B0=>(qx0 d).map `aEy
 | _,_=>`e
def U3(gt:GB)(G:GS):Nat->`i0
 | 0,_=>`e
 | n+1,δ=>match `d! with
  | `bv=>`ph
  | `e5=>match G δ with
   | `dv=>`abS
   | `BV=>`abS
   | `BW=>`dv
   | r=>r
  | `e=>`e
@[simp] def uj0(i j:Nat):`aT
 | `abT,δ=>`c ((`bj i (.sh a)).set j (.sh b))
 | _,_=>`e
mutual
def deq:D->`df
 | `x,`x=>`d
 | `u8,`dp=>`j?
 | `u8,`iC=>`_R
 | `n1,`dp=>`_S
 | `n1,`iC=>`j?
 | `hg,`mU=>`j?
 | `eV,`Fr=>`MK
 | `cV,`xT=>`MK
 | _,_=>`r
def wy0:`l->`Cp
 | [],[]=>`d
 | `lS,`Ci=>`qD&&`MK
 | _,_=>`r
end
mutual
def lean:D->Nat->`aa
 | `n!,_=>`r
 | `n?,_=>`r
 | `eV,n+1=>`abU
 | `cV,n+1=>`abU
 | `BT,0=>`r
 | `bU,0=>`r
 | _,_=>`d
def leans:`l->Nat->`aa
 | [],_=>`d
 | `lS,n=>`e' x n&&`abU
end
@[simp] def l80(x y:D):`du:=if `Jx then `c (.bl (`qD)) else `e
@[simp] def uy0(x y:D):`du:=if `Jx then `c (.bl (!`qD)) else `e
@[simp] def eqF:D->`df
 | `x,`x=>`d
 | `u8,`dp=>`j?
 | `u8,`iC=>`_R
 | `n1,`dp=>`_S
 | `n1,`iC=>`j?
 | `hg,`mU=>`j?
 | _,_=>`r
@[simp] def xg0(neg:`aa):`a5
 | x,`xT=>`aEz
 | x,`Fr=>`aEz
 | _,_=>`e
@[simp] def Wc0:`Q
 | `alB=>`c `alA
 | _=>`e
@[simp] def intOfD:`Q
 | [`ba]=>`H3
 | [`sd]=>`c (`Sc)
 | _=>`e
@[simp] def wm0:`Q
 | `BY=>`vg
 | [`ci]=>`vg
 | _=>`e
def mkF(n:Nat)(N:`h)(G:GS)(ds:`l):`du:=if `vw then (match `yt with
 | `sR=>`a7
 | `pw=>`aEA
 | `c (.nx _)=>`c `x
 | _=>`e) else `e
def J5{d:D}(h:`aEB):`vw/\`aDO:=by
 unfold mkF at h;split at h
 ·rename_i hl
  refine`aEC;split at h
  ·rename_i e;cases h;exact `qW
  ·rename_i e
   split at h
   ·cases h
   ·rename_i hn
    cases h;exact `q (`q `aED)
  ·rename_i e;cases h;exact `q (`p #[rfl,_,e])
  ·cases h
 ·cases h
def mkN(n:Nat)(N:`h)(G:GS)(ds:`l):`du:=if `vw then (match `yt with
 | `pw=>`aEA
 | _=>`e) else `e
def vq0{d:D}(h:`aEE):`vw/\`Tw:=by
 unfold mkN at h;split at h
 ·rename_i hl
  refine`aEC;split at h
  ·rename_i e
   split at h
   ·cases h
   ·rename_i hn
    cases h;exact`aED
  ·cases h
 ·cases h
def R8{d:D}(hl:`vw)(h:`anj)(hn:`v (`Gi) Aa):`aEE:=by
 unfold mkN;rw[`ps,h];simp only[];rw[hn];rfl
@[simp] def Q9(g:GE):GS:=fun δ=>`vd .rf
@[simp] def n90(i:Nat):GS:=fun δ=>match `cl with
 | `sZ=>`pw
 | _=>`e
def U0{G1 G2:GS}{δ:Ds}{d:D}(h:`mC=`pw):`L3=`pw:=`aaG
def K1{g:GE}{δ:Ds}{d:D}(h:`hO):Q9 g δ=`pw:=by unfold Q9;rw[h];rfl
def V9{d:D}(hl:`vw)(h:`ank):`aEB:=by
 unfold mkF;rw[`ps,h]
theorem t7{G1 G2:GS}{δ:Ds}{r:`x9}(h:`aaF)(k:`BU=r):`L3=r:=(L50 h).trans k
@[simp] def m7:`a5
 | `ba,`fH=>`c (`E1)
 | `bX,`mV=>if `se+y.length<=`S then `c (`t (x++y)) else `e
 | `cV,`xT=>`aEF
 | `eV,`Fr=>if `TE then `c (`_B) else `e
 | _,_=>`e
@[simp] def W5:`a5
 | `ba,`fH=>`aEG
 | _,_=>`e
@[simp] def slA(d:D)(lo hi:`bl):`du:=match d with
 | `mx=>if `st then `c `aDZ else `e
 | `cV=>`c (`o (`abV))
 | `eV=>`c (`w (`abV))
 | _=>`e
@[simp] def we0(g:GE)(gl gh:GO):GE:=fun δ=>`cR λd=>`aEH λl=>`aEI λh=>slA d l h
universe DL
variable{gx:DL.GX}
namespace Dep
open Spec PyProof.Rows
section
variable{w:`X}{K:Type}[`Gu K]{knd:`aEJ}{s:`y}{d:`g}{xs:`aEK}{k:K}{v:`J}{Q:`qT}
def At(knd:`aEJ)(h:`W)(d:`g)(xs:`aEK):Prop :=
 ∃o es ep,`kN d=`au/\`Yz/\`YA/\es.toList=`xh (`Kj knd)/\(∀x∈xs,knd.is h x.1 x.2.1)/\`at?
def At.old{h:`W}(x:At knd h d xs):h.DictOfH knd d xs:=by skip;let#[o,es,ep,a,b,c,e,f,g,_]:=x;done;exact#[o,es,ep,a,b,c,e,f,g]
def put(hu:knd.room A)(hkey:`aEL)(hm:`aEM)
  (hQ:`aEN) (hsz:`hJ) :
  `u `aC A (`aEO) Q E s:=by
 skip;let#[o,es,ep,ho,hc,hd,he,J,hn,hp]:=hm;done;unfold dictSet
 apply `BD
 refine A0 (knd.pyHash hu hkey ?_);unfold dictSetHashed
 apply `BD
 refine A0 (wpAny_dictFind_heap (s:=`abW) hu hkey ho hd he J hn ?_ ?_)
 ·intro O
  have M:=atKey_none_of_get O;have U:k∉`xh `bV:=not_mem_keys_of_get O;refine A0 (P6 (wpAny_updateDictKeys (hz:=by have e:=size_of_entries he;lia) (s:=`abW) ho hd (hQ _ ?_ `Cq)));rw[storedH_new M];refine#[_,_,ep+1,K2 _ ho (`aEP (`aEQ)),hc.mapDictKeys _,`aEQ,by simp[he,`Kj],`kp,?_,`aaE]
  ·rcases `W? with hx|hx
   ·exact `abX (J x hx) ho hd `Cq
   ·rw[`ec hx];exact `abX hkey ho hd `Cq
  ·rw[`a4,`ML]
   exact#[hn,`a6,λx hx y hy e=>U (by rw[`_,`k8,`aER] at hy;have e2:x=k:=e.trans hy;rw[← e2];exact hx)]
 ·intro j p hj
  have Y:=atKey_of_get hn hj;refine A0 (P6 (A0 (wpAny_updateDict (s:=`abW) ho hd (wpAny_point (hQ _ ?_ `Cq)))));rw[storedH_old Y];refine#[_,_,ep,K2 _ ho (`aEP (`aES)),hc.mapDict _,`aES,?_,`kp,?_,`aaE]
  ·have:=modify_map_putAt (`Kj knd) (λe:DictEntry=>{ e with val:=v }) k v (`abY) hn hj
   rw[← he] at this;let#[l]:=es
   apply `Aw
  ·apply `abZ
   unfold putAt;split<;>exact `abX `ar8 ho hd `Cq
  ·rw[keys_map_putAt];exact hn
def set(hu:knd.room `bR)(hkey:`aEL)(hm:`aEM)
  (hQ:`aEN) (hsz:`hJ) :
  `u `aC A (`EV (`C d) `d7 v) Q E s:=by
 have ty:=hm.old.typeIs;unfold setItem
 apply `BD
 refine A0 (A00 ty `s ?_);refine A0 (Y1 (name:=`xP `aET) ty `aEU (L6 `aEU ty entry_dict_setitem ?_ (args_dict_setitem _ _ _)));show `u _ _ (Builtin.Dict.notOrdered `aET #[[`C d,`ce,v],[]]>>=_) _ _ s;refine A0 (wpAny_notOrdered_dict ty ?_);show `u _ _ (`aEO>>=_) _ _ s;exact A0 (put hu hkey hm (λh' M J=>A1 #[`aJ,rfl,A1 (hQ h' M J)]) hsz)
universe zz
universe Dep
namespace L2
open Spec PyProof.Rows
section
variable[`l_]
def zh0(kvs:`gM)(k:κ):`dm:=(kvs.find? `TG).map `eX
def putK(kvs:`gM)(k:κ)(v:V):`gM :=
 if `MM=`d then `GC (λkv=>if `Gz then (`pA,v) else kv) else kvs++[`E8]
def qs0{p:`EB}{r:`gM}{k:κ}(e:p.1=k):`aEV=`r2:=`aEW
def qk0{p:`EB}{r:`gM}{k:κ}(e:¬p.1=k):`aEV=zh0 r k:=`aEW
theorem ae0(k:κ):∀kvs:`gM,`MM=(`k').isSome
 | []=>rfl
 | p::r=>by
  rw[`km]
  apply `Cr
  ·simp only[qs0 e,`bd e,`aEX,Option.isSome_some]
  ·rw[`Cs,`Ke,`ab_];exact ae0 k r
def sn0(kvs:`gM)(k:κ)(v:V):`anx<=`je+1:=by
 unfold putK;split
 ·rw[`K];lia
 ·rw[`O,`Z,`m_];lia
def RelO.isSome_eq{o:`dm}{u:`mg}(r:`oI o u):`vx=u.isSome:=by
 cases o with
 | none=>cases u with
  | none=>rfl
  | some _=>apply `K6
 | some _=>cases u with
  | none=>apply `K6
  | some _=>rfl
def KV.val{kvs:`gM}{vs:`uI}(r:`kO)(k:κ):`oI `MN (`aEY):=by
 unfold KV at r
 induction r with
 | nil=>exact `kV
 | @cons p q ps qs h t ih =>
  let#[h1,h2]:=h
  apply `Cr
  ·have e':q.1=k:=`TI
   have b:`aEZ=`c q.2:=`aE_
   rw[qs0 e,b];exact h2
  ·have e':¬q.1=k:=`TJ
   have b:`aEZ=`GB qs k:=`aE_
   rw[`Cs,b];exact ih
def KV.any{kvs:`gM}{vs:`uI}(r:`kO)(k:κ):`MM=`aE0:=by
 unfold KV at r
 induction r with
 | nil=>rfl
 | cons h t ih=>rw[`km,`km,ih,h.1]
def KV.repl{kvs:`gM}{vs:`uI}(r:`kO)(k:κ){y:V}(ry:`fp) :
  KV `aE1 (`hm λkv=>if `Gz then (`pA,u) else kv):=by
 unfold KV at r ⊢
 induction r with
 | nil=>exact `L
 | @cons p q ps qs h t ih =>
  rw[`_,`_];refine `aE2;let#[h1,h2]:=h
  apply `Cr
  ·rw[`d0,`aE3];exact#[h1,ry]
  ·rw[`dg,`aE4];exact`ab0
def KV.put{kvs:`gM}{vs:`uI}(r:`kO)(k:κ){y:V}(ry:`fp):KV (`mN kvs k y) (stored vs k u):=by
 unfold putK stored;rw[r.any k]
 by_cases e:(`aE0)=`d
 ·rw[`d0,`d0];exact `aE5
 ·rw[`dg,`dg];exact `aE6 r #[rfl,ry]
theorem KV.length{kvs:`gM}{vs:`uI}(r:`kO):`je=`cg:=`Yr r
universe zz
def nt0{P:`aw}{w:`X}{k:Key}(r:`aE7):(J4 P w).is k u=`d:=by
 cases k with
 | inl i=>apply `aw!;subst e;exact Y80 P w i t
 | inr x=>apply `aw?;subst e;exact Yd0 P w x t
theorem ex0{P:`aw}{w:`X}:∀{ks:`gZ} {us:`ah},`bE (`GE) us->ItemsAre `rU ks us
 | [],_,r=>`aDW
 | `hS,_,r=>by
  rw[`_] at r;cases r with
  | cons h t=>exact `ai (nt0 h) (ex0 t)
abbrev KT(H:Hp):`kb->`qR->Prop:=`bx λp q=>`at!
def KT.val{kvs:`kb}{xs:`qR}(r:`vy)(k:`gZ):`oI `MN (`aE8):=by
 induction r with
 | nil=>exact `kV
 | @cons p q ps qs h t ih =>
  let#[h1,_,h2]:=h
  apply `Cr
  ·have e':q.1=k:=`TI
   have b:`aE9=`c q.2:=`aE'
   rw[qs0 e,b];exact h2
  ·have e':¬q.1=k:=`TJ
   have b:`aE9=`GD qs k:=`aE'
   rw[`Cs,b];exact ih
def KT.repl{kvs:`kb}{xs:`qR}(r:`vy)(k:`gZ){y:V}(ry:`fp) :
  KT H `aE1 (`xh (`zr k u)):=by
 induction r with
 | nil=>exact `L
 | @cons p q ps qs h t ih =>
  rw[`_,`_];refine `aE2;let#[h1,h2,h3]:=h;unfold putAt
  apply `Cr
  ·rw[`d0,`aE3];exact#[h1,h2,ry]
  ·rw[`dg,`aE4];exact#[h1,h2,h3]
def KT.put{kvs:`kb}{xs:`qR}(r:`vy)(k:`gZ){b:`g}{y:V}(hb:`Ct)(ry:`fp) :
  KT H (`mN kvs k y) (storedH xs k b u):=by
 have e:`MM=`aE!:=by
  rw[ae0,(r.val k).isSome_eq,`ab1]
 unfold putK storedH;rw[e]
 by_cases q:`aE!=`d
 ·rw[`qY,`qY];exact `aE5
 ·rw[`nY,`nY];exact `aE6 r #[rfl,hb,ry]
theorem KT.keeps{kvs:`kb}{xs:`qR}(r:`vy)(ht:∀b ys,H b=`Uz->`g1=`Uz):KT H' kvs xs :=
 `aui r λ_ _ z=>`auj
section
variable{P:`aw}{w:`X}{h:`W}
theorem Pv0{u:HO}(ok:`fn)(e:Rd H a u):`aun:=e.ok ok
theorem kj0(ok:`fn)(e:`ab2):`Yy :=
 show `cC P w H h a `Ft from Pv0 ok e
theorem cz0(ok:`fn)(e:`Cu):`Yy:=kj0 ok (`qW)
def lc0(ok:`fn)(e:H a=`c `aE?):`aFa h ks a:=by
 skip;let#[_,its,r,o,h1,h2,n,h3,_]:=(show `cC P w H h a `aE? from ok a _ e);done;exact#[o,`bt,n,h1,h2,h3,by simpa using ex0 r]
def S20{kvs:`kb}(ok:`fn)(e:`MO):`rS/\`rT /\
  ∃xs,`vy/\Dep.At `YB h a xs:=by
 skip;let#[z,y,xs,r,o,es,ep,h1,h2,h3,h4,h5,h6]:=(show `cC P w H h a `SD from Pv0 ok e);done;refine#[z,y,xs,r,o,es,ep,h1,h2,h3,h4,`kp,h5,h6];have all:∀{l:`kb} {m:`qR},KT H l m->∀x∈m,`aFa h x.1 x.2.1:=by
  intro l m q
  induction q with
  | nil=>intro x hx;exact nomatch hx
  | @cons p q ps qs hq t ih =>
   intro x hx;rcases `x4 with e|hx
   ·subst e
    exact lc0 ok (by rw[← hq.1];exact hq.2.1)
   ·exact ih x hx
 exact all r x hx
def gg0{kvs:`kb}(ok:`fn)(e:`MO):`rS/\`rT /\
  ∃xs,`vy/\h.DictOfH `YB a xs:=by
 let#[z,y,xs,r,d]:=S20 ok e;exact#[z,y,xs,r,d.old]
universe zz
def DGet(H:Hp)(a:`g)(y:V)(r:`dm):Prop :=
 (∃kvs k,`ab2/\y=kV k/\r=`k')∨∃kvs k b,`MO/\`BE/\`Ct/\r=`k'
def DPut(H:Hp)(a:`g)(y v:V)(H':Hp):Prop :=
 (∃kvs k,`Cu/\y=kV k/\`Cv/\H'=`ab3) ∨
 ∃kvs k b,`aFb/\`BE/\`Ct/\`Cv/\H'=upd H a (.dT (`TH))
theorem DGet.k{k:Key}(e:`Cu):`sW H a (kV k) `MN:=`p #[kvs,k,`qW,rfl,rfl]
theorem DGet.t{b:`g}{kvs:`kb}{k:`gZ}(e:`aFb)(eb:`Ct):`sW H a `GM `MN:=`q #[kvs,k,b,`qW,rfl,eb,rfl]
theorem DPut.k{k:Key}(e:`Cu)(hl:`Cv):DPut H a (kV k) v (`ab3):=`p #[kvs,k,e,rfl,hl,rfl]
section
variable{σ:St}{s:`y}{y:V}{r:`J}{o:`dm}
def Inv.big(I:`F):`EE<`Y:=by
 have h:`bf<`Y:=(`ak9).lt;exact D9 `s h
def Tg0(hu:`BO)(I:`F)(g:`sW H a y `r1)(ry:`fp)(h:∀w' s',`Bv->`c4 v w'->Q w' s') :
  `u `aq A (`mu `d7 u) Q E s:=by
 skip;apply `ab4
 ·subst ey
  apply `ab5;let#[w',hw,J]:=`Z' (v:=v) (o:=`aEY) `aFc;done;exact wpAny_getItem_of `Cw `ab6 hw (`aFd)
 ·subst ey
  apply `MP;apply `ab7;let#[w',hw,J]:=`Z' (v:=v) (o:=`aE8) `aFc;let#[p,hp,M]:=l5.mp hw;done;refine wpAny_getItem_heap `MQ `MR dd hp ?_;rw[M];exact `aFd
def Hk0(hu:`BO)(I:`F)(g:`ab8)(ry:`fp)(h:∀s',`Bv->Q (`fE `vx) s') :
  `u `aq A (`d9 .In u `d7) Q E s:=by
 skip;apply `ab4
 ·subst ey
  apply `ab5;done;refine wpAny_in_of `Cw hd `ab6 ?_;rw[← `MS,← l];exact `MT
 ·subst ey
  apply `MP;apply `ab7;done;refine wpAny_in_heap `MQ `MR hd dd ?_;have q:=`MS;rw[`ab1] at q;rw[← q,← l];exact `MT
def Nu0(hu:`BO)(I:`F)(g:`ab8)(ry:`fp)(h:∀s',`Bv->Q (`fE (!`vx)) s') :
  `u `aq A (`d9 `uR u `d7) Q E s:=by
 skip;apply `ab4
 ·subst ey
  apply `ab5;done;refine wpAny_notIn_of `Cw hd `ab6 ?_;rw[← `MS,← l];exact `MT
 ·subst ey
  apply `MP;apply `ab7;done;refine wpAny_notIn_heap `MQ `MR hd dd ?_;have q:=`MS;rw[`ab1] at q;rw[← q,← l];exact `MT
theorem lu0{t':Nat}{ob:HO}(I:`F)(mu:Mut (H a))(hs:`au_)(he:`ab9)(new:`cC `a? X.w (upd H a ob) h' a ob) :
  Inv X `k σ (upd H a ob) `oO :=
 `K' (x:=a) (e:=a) mu `gg (λb q hb z=>(`kQ b hb).trans z) he new
theorem bl0{P:`aw}{w:`X}{H':Hp}{vs:`ab'}(z:`rS)(hd:`rT)(rel:`kO)(dd:h'.DictOf `rU a vs) :
  `cC P w H' h' a `Ft:=#[z,hd,vs,rel,dd]
def Uq0{Q:`qT}(hu:`BO)(I:`F)(g:DPut H a y v H')(ry:`fp)(rv:`c4 v r)(h:∀s',`lK->`KF) :
  `u `aq A (`EV `d7 u r) Q E s:=by
 skip;rcases g with⟨kvs,k,e,ey,l,eH⟩|⟨kvs,k,b,e,ey,eb,l,eH⟩
 ·subst ey eH
  apply `aFe;apply `aFf
  apply `ab!
  done;refine wpAny_setItem_pairs (hsz:=hz) `Cw dd `aFg
  have he:`ab9:=`ab?
  exact `aFh
 ·subst ey eH
  apply `MP;let#[z,hd,xs,rel,dd]:=S20 `b7 (`qW);have hz:`hJ:=by rw[← `Yr rel];exact z
  apply `ab!
  done;refine Dep.set `MQ `MR dd (`aFg) hz;skip;let#[q,es,ep,hq,h2,h3,h4,_,h5]:=J;done;refine lu0 I `GG hs #[q,hq] #[hl,hd,_,(rel.put k eb rv).keeps λc ys ec=>?_,q,es,ep,hq,h2,h3,h4,h5];rw[d7 (J20 ec e `ea)];exact ec
universe zz
def Z70(i:`M):Prop:=∀ov iv,`zi i `r ov iv=`Sx [ov,iv] (`mu ov iv)
def M50{prog:`aw}{w:`X}{A:`cK}{E:`aF}{s:`y}{env:Env}{value slice:`M}{pos:Pos}{T id:`cO}{Q:`aF}
  (hl:`ayD) (hs:Z70 `n0)
  (h:`u `aC A (`bg `eZ env) (λo s₁=>`u `aC A (`bg `n0 env) (λi s₂=>s₂.TypeIs o T/\`u `aC A (`mu o i) Q E s₂) E `es) E s) :
  `u `aC A (`bg (`h6 `eZ `n0 pos) env) Q E s:=by
 refine `Lt (D6 h (λo s₁ h₁=>D6 h₁ (λi s₂ h₂=>?_) `KI) `KI);let#[hT,h₂]:=h₂;unfold subscriptTail;refine `nX;rw[getitemInPython_of_ne hT.not_modules];refine A0 (D8 hT hl ?_);have fin:`u `aC A (`zi `n0 `r o i) (λr s₃=>`u `aC A (letTemporaryGo `eZ o r>>=λ_=>`b3 r) Q E s₃) E s₂:=by
  rw[hs o i];exact wpAny_operating (D6 h₂ (λr s₃ h₃=>A0 (wpAny_letTemporaryGo (A1 h₃))) `KI)
 first
  | exact `aFi
  | exact A0 (`aFi)
  | exact A0 fin
def Yg0{σ:St}{s:`y}{y:V}{o:`dm}(I:`F)(g:`ab8):`aFj := by
 skip;rcases g with⟨kvs,k,e,_,_⟩|⟨kvs,k,b,e,_,_,_⟩
 ·let#[_,_,vs,_,dd]:=`TK
  done;exact `GI
 ·let#[_,_,xs,_,dd]:=`TM
  done;exact `GI
def Jf0(td ty:TE):TE:=fun σ H Q=>td σ H λx H1=>ty σ H1 λy H2=>∃a v,`de/\`sW H2 a y `r1/\Q v H2
def Hi0(ty td:TE):TE:=fun σ H Q=>ty σ H λy H1=>td σ H1 λx H2=>∃a o,`de/\`aFk/\Q (.bl `vx) H2
def Ok0(ty td:TE):TE:=fun σ H Q=>ty σ H λy H1=>td σ H1 λx H2=>∃a o,`de/\`aFk/\Q (.bl (!`vx)) H2
section
variable{i:`M}
def gu0(hu:`i')(ho:`MU)(hi:`aca)(hs:Z70 i):PE X `Zr (Jf0 td ty):=by
 apply `bB;refine M50 PySem.F.slot_dict_getitem.lookup hs (thn `Bf λu s1 hq91=>?_);let#[x,H1,I1,rx,q1]:=hq91;refine thn `avM λiv s2 hq92=>?_;skip;let#[y,H2,I2,ry,a,v,ex,g,q2]:=hq92;subst ex;apply `uX;done;exact#[Yg0 I2 g,Tg0 hu I2 g ry λw' s3 I3 J=>#[v,H2,I3,J,q2]]
def K10(hu:`i')(hi:`aca)(ho:`MU):PC X .In i o (Hi0 ty td):=by
 apply `bB;refine thn `Bl λiv s1 hq93=>?_;let#[y,H1,I1,ry,q1]:=hq93;refine thn `aFl λu s2 hq94=>?_;skip;let#[x,H2,I2,rx,a,ov,ex,g,q2]:=hq94
 subst ex;apply `uX;done;exact Hk0 hu I2 g ry λs3 I3=>#[.bl ov.isSome,H2,I3,rfl,q2]
def S00(hu:`i')(hi:`aca)(ho:`MU):PC X `uR i o (Ok0 ty td):=by
 apply `bB;refine thn `Bl λiv s1 hq95=>?_;let#[y,H1,I1,ry,q1]:=hq95;refine thn `aFl λu s2 hq96=>?_;skip;let#[x,H2,I2,rx,a,ov,ex,g,q2]:=hq96
 subst ex;apply `uX;done;exact Nu0 hu I2 g ry λs3 I3=>#[.bl (!ov.isSome),H2,I3,rfl,q2]
universe zz
theorem an0{P:`aw}{w:`X}(h:`W)(hb:`EE<`gh):`cC P w H (h.push `aFm) `gh (`vz) :=
 #[`cu,`mW (B8 (B0 hb)),[],`L,Heap.DictOf.new h]
def Ka0:TE:=λ_ H Q=>∀p,`dP->Q `dr (upd H p (`vz))
theorem Rl0:PE X (`zj [] [] pos) Ka0:=λpins s σ H Q I h =>
 wpAny_Dict_empty #[`h',_,`lR (a:=`Y) (o:=`vz) (t':=`bu) `_4 `bi (an0 `aK I.big),rfl,h _ `Fl]
def mx0:`Cx->St->Hp->(`aFn)->Prop
 | [],_,H,Q=>Q [] H
 | (tk,tv)::r,σ,H,Q=>tk σ H λx H1=>tv σ H1 λy H2=>mx0 r σ H2 λps H3=>Q ((x,y)::ps) H3
abbrev VV:`k!->`aFo->Prop:=`bx λp q=>`c4 p.1 q.1/\`at5
def PPs(X:Cx)(pos:Pos)(keys:`AU)(values:`bn)(trs:`Cx):Prop :=
 ∀(pins:`aI) (s:`y) (σ:St) (H:Hp) (Q:`aFn),`F->`acb ->
  `u `aq X.A (evalPairs (pairTrees `he values `A pos)) (λvs s'=>∃ps H',`lK/\VV ps vs/\Q ps H') `aL s
theorem Xx0:PPs X pos [] [] []:=λpins s σ H Q I h=>pairTrees_nil_walk `axs
theorem Z90{k v:`M}{ks:`AU}{vs:`bn}{tk:TE}{trs:`Cx}(hk:PE X k tk)(hv:PE X v tv)(hr:PPs X pos ks vs trs) :
  PPs X pos (`e6::ks) (`Cy) ((tk,tv)::trs):=λpins s σ H Q I h =>
 pairTrees_cons_walk (thn (hk `k s σ H _ I h) λu s1 #[x,H1,I1,rx,q1]=>thn (hv `k s1 σ H1 _ I1 q1) λw2 s2 #[y,H2,I2,ry,q2] =>
  thn (hr `k s2 σ H2 _ I2 q2) λws s3 #[ps,H3,I3,rel,q3]=>#[(x,y)::ps,H3,I3,`ai #[rx,ry] rel,q3])
def tj0(kvs more:`gz):`gz:=more.foldl (λacc kv=>`mN acc `pA kv.2) kvs
def KV.merge:∀{more:`gz} {rs:`ab'} {kvs:`gz} {vs:`ab'},KV more rs->`kO->KV (`aFp) (merged vs rs):=by
 intro more rs kvs vs r;unfold KV at r
 induction r generalizing kvs vs with
 | nil=>intro q;exact q
 | @cons p q ps qs h t ih =>
  intro r0;have e:KV `acc (stored vs q.1 q.2):=by
   have:=r0.put p.1 h.2;rw[← h.1];exact `E
  exact ih e
theorem m00:∀(more kvs:`gz),(`aFp).length<=`je+more.length
 | [],kvs=>by show `je<=`je+0;lia
 | p::r,kvs=>by
  have h1:=m00 r `acc;have h2:=sn0 kvs p.1 p.2;show (tj0 `acc r).length<=_;rw[`Z];lia
theorem ij0{P:`aw}{w:`X}:∀{kvs:`gz} {ws:`aFo},VV (`GC `acd) ws->∃rs,Carries `rU ws rs/\KV kvs rs
 | [],_,r=>by rw[`k8] at r;cases r;exact#[[],`kV,`L]
 | p::kvs,_,r=>by
  rw[`_] at r;cases r with
  | @cons a b as bs h t =>
   let#[rs,c,q]:=ij0 (P:=P) (w:=w) t;let#[b1,b2]:=b;exact#[(p.1,b2)::rs,#[nt0 h.1,rfl,c],`ai #[rfl,h.2] q]
def Ir0(trs:`Cx):TE:=fun σ H Q=>∀p,`dP->mx0 trs σ (upd H p (`vz)) λps H2=>H2 p=`c (`vz)/\∃kvs:`gz,ps=`GC (`acd)/\`je<=15/\Q `dr (upd H2 p (.dK (`aFq)))
def X10{values:`bn}{trs:`Cx}(h:PPs X pos `he values trs)(hall:`ao6)(hl:`HD=values.length)(h0:`ao7)
  (h15:`HD<=15):PE X (`zj `he values pos) (Ir0 trs):=by
 intro pins s σ H Q I q;have hn:=`si (A2 `Y);have I1:=`lR (a:=`Y) (o:=`vz) (h':=`g8 `aFm) (t':=`bu) `_4 `bi (an0 `aK I.big);refine wpAny_Dict_walk (knd:=`aFr) hall hl h0 h15 (thn (h `k _ σ _ _ I1 (q _ hn)) λws s2 hq97=>?_);skip;let#[ps,H2,I2,rel,e,kvs,ep,lk,q2]:=hq97;subst ep;let#[rs,c,rk]:=ij0 (P:=`a?) (w:=X.w) rel;let#[z,hd,M,r0,dd]:=cz0 I2.hok e;cases r0;done;refine#[rs,c,dd,λh' J hs=>#[`h',_,?_,rfl,q2]];have hz:(`aFq).length<=`S:=by
  have h1:=m00 kvs [];rw[`m_] at h1;rw[`Z0];lia
 have he:∃q,`_X=`sX:=`ab?
 exact lu0 I2 `GG hs he (bl0 hz hd (rk.merge `L) J)
structure M2(X:Cx)(o:`M)(m:Str)(apos:Pos)(e f:`M)(cpos:Pos):Prop where
 base:`fJ o m `A `mq=`h7
 few:(`aFs
 &&`aFt)=`d
 line:`amj
 trees:`aFu
def IsD(H:Hp)(a:`g):Prop:=(∃kvs,`ab2)∨∃kvs,`MO
def K50{σ:St}{s:`y}(I:`F)(d:IsD H a) :
  `aFj/\(∀b,`rP=`sl->∃ob,`EK=`Kn/\`azz)/\`rT:=by
 rcases d with⟨kvs,e⟩|⟨kvs,e⟩
 ·let#[_,hd,vs,_,dd]:=`TK
  refine`aFv;skip;cases q;apply `aFw;done;exact`aFx
 ·let#[_,hd,xs,_,dd]:=`TM
  refine`aFv;skip;cases q;apply `aFw;done;exact`aFx
universe L2
namespace DL
open Spec PyProof.Rows L2
section
variable{σ σ':St}{δ:Ds}
theorem Gr.fresh{p:`g}{o:HO}(h:`dP):Gr H `aa4 B `k7:=λb u n e=>by
 have hb:`yE:=U9 e h;exact#[λz=>`pC n hb,by rw[d7 hb];exact e]
theorem Gr.own{o:HO}(h:B a):Gr H `jv B B:=λb u n e=>#[n,by rw[d7 (λz=>n (by rw[z];exact h))];exact e]
def RpO.mono{d:D}(s:`B_)(g:`dZ)(h:`i2):RpO K H' B' d a:=by
 apply `Ma
 ·apply `n5;exact#[xs,s _ e,`mL]
 ·apply `aaP;exact#[xs,s _ e,l,`mL]
def RpG.mono{d:D}(s:`B_)(g:`dZ)(h:`lY):RpG K H' B' d a:=by
 cases d with
 | tup es=>apply `aaY;exact`aFy
 | _=>exact(RpO.mono s g `Mf).toG
def RpL.mono{d:D}(s:`B_)(g:`dZ)(h:`k3):RpL K H' B' d a:=by
 skip;cases d with
 | tup es =>
  apply `aa_
  ·done;exact `p #[d',q,`ace s g r]
  ·done;exact `q (`p #[ks,vs,q,ts,xs,q1,s _ e,q2,`mL])
  ·done;exact `q (`q `aFy)
 | _=>done;exact(RpO.mono s g `B6).toL
theorem Pd.get'{F:`kc}:∀{l:`aN} {m:`k1} {i:Nat} {a:α},`pm->`B7->∃b,`aa0/\`xi
 | _,_,_,_,`L,e=>`Kf
 | _,_,0,_,`Ys,e=>`Yt
 | _,_,i+1,a,`qO,e=>by
  let#[u,h1,h2]:=`mZ (i:=i) (a:=a) t `AW;exact`Yu
def Pd.impI{F G:`kc}:∀{l:`aN} {m:`k1},(∀(i:Nat) a b,`B7->`aa0->`akN)->`amQ:=by
 intro l m h p
 induction p with
 | nil=>exact `L
 | cons r t ih=>exact `ai (h 0 _ _ rfl rfl r) (ih λi a b e1 e2=>h `d' a b (`aBP) (by simpa using e2))
theorem qo0:∀{l:`aN} {i:Nat} {a:α},`B7->`aa1=l
 | [],_,_,h=>`gP
 | x::l,0,a,h=>by simp at h;subst h;rfl
 | x::l,i+1,a,h=>by rw[List.set_cons_succ,qo0 `hB]
def Pd.setR{F:`kc}{a:α}{b:β}(r:`xi){l:`aN}{m:`k1}(e:`B7)(h:`pm):`bx F l `aB8:=by
 have:=`n6 r i h
 rwa [qo0 e] at this
def get_set{l:`aN}{a b:α}(h:(`aa1)[j]?=`k4):(i=j/\a=b/\j<`aR)∨(`Hu/\l[j]?=`k4):=by
 by_cases e:i=j
 ·subst e
  by_cases hl:i<`aR
  ·rw[`B8] at h
   exact `p #[rfl,`pK,hl]
  ·rw[`Mh] at h;cases h
 ·rw[`kR e] at h
  exact `q #[e,h]
theorem Env.len(e:`be):`r8=`m0:=`pS `ha
def Env.at(e:`be){d:D}(h:`anF):∃a,`jt/\`aB7:=by
 let#[o,h1,a,rfl,hb,r]:=`aB!;exact#[a,h1,hb,r]
def Env.mut(e:`be){d:D}{o:HO}(hi:`Cz)(hs:`jt)(r:RpL K `jv B d a):`aFz:=by
 apply `aFA;rw[hs] at h1;cases h1;apply `aFB
 ·
  have h0:`bx (λ(o':`dm) (s:Sl)=>SlR K `jv B o' s∨`acf) σ δ:=`pD (λo' s h=>by
   cases s with
   | un=>exact `acg
   | ex c n=>apply `f?;exact `aFC
   | sh d=>apply `f?;exact `aFC
   | ow d =>
    apply `MV
    apply `CA
    ·subst z;apply `ach
    ·exact `p #[b,e,M,`cX (λo h=>by rw[d7 z];exact h) `k?]) `ha
  apply `aFD;apply `aFE;apply `aFF
  ·exact h
  ·skip;apply `aci
   ·cases e3;done;exact`GK
   ·done;apply `aFG
 ·by_cases z':b=a
  ·subst z';exact `q6
  ·rw[d7 z'];exact `acj
 ·have q1:`aFH:=by
   skip;apply `MW
   ·done;exact`MX
   ·done;exact`MY
  have q2:`aFI:=by
   skip;apply `aFJ
   ·done;exact`MX
   ·done;exact`MY
  let#[d1,q1]:=q1;let#[d2,q2]:=q2;apply `aFK
def EnvS.mut(en:`cJ)(s:`a3)(b1:`i5)(b2:`i6){d:D}{o:HO}(hi:`Cz)(hs:`jt)
  (env:Env K (upd H' a o) B σ `pB):`cY K `ad `V (upd H' a o) σ `pB:=by
 have h0:=`aFL;have J:i<`m0:=`KG;apply `aFM
 ·apply `aFN
  rw[`ack];exact s _ _ `aFO
 ·apply `CA
  ·apply `aFP
   rw[hs] at e1;cases e1;rw[z] at h;exact `aFQ
  ·rw[d7 z] at h
   exact `Ge b ob xs (s.nf b ob xs h)
 ·skip;apply `MW
  ·rw[hs] at h2;cases h2;done;exact h0
  ·done;exact `aFR
def EnvS.take(en:`cJ)(b1:`i5)(b2:`i6)(e:`be)(i:Nat){d:D}{p:`g}(hp:`dP)(s:`a3)
  (r:`anb):`aFS:=by
 apply `acl
 have J:`abe:=`acm;have live:`aFT:=λ{j d' b} h1 h2=>by
  apply `aFU;rw[h2] at q1;cases q1;apply `aFV
 apply `aFW
 ·apply `MZ
  ·exact b2 a z
  ·exact `q J
 ·refine `n6 #[p,rfl,`o7,r.toL] i `aFX
  cases sl with
  | un=>trivial
  | ex c n=>apply `f?;apply `Cg
  | sh d=>apply `f?;apply `Cg
  | ow d=>apply `MV;apply `aFY
 ·apply `MZ
  ·apply `acn
  ·exact `q6
 ·skip;apply `M_
  ·apply `M0
   ·done;rfl
   ·apply `aFZ
    ·cases e3
     apply `CB;done;exact `aF_
    ·done;exact `M1
  ·apply `M0
   ·apply `aF0
    ·cases e4
     apply `CC;done;exact `aF1
    ·done;exact `aF2
   ·apply `CC
    apply `CB;done;apply `Mi
 ·skip;apply `M_
  ·apply `aF3
   ·cases e3;done;exact J
   ·done;exact `M1
  ·rw[`GN] at h2
   done;apply `aco
def cw0{d e:D}(h:`acp=.ow e):`bW:=by
 unfold DL.fz at h;apply `aby
def fn0{s:Sl}{e:D}(h:s70 s=.ow e):`bW:=by
 cases s with
 | ow d=>exact cw0 h
 | un=>cases h
 | sh d=>cases h
 | ex c n=>cases h
def RpL.fz{d:D}(l:`q4)(n:¬`pl)(h:`k3):SlR K H B' (`pp) (`acp):=by
 skip;cases d with
 | tup es =>
  rcases h with⟨d',rfl,r⟩|⟨ks,vs,rfl,_⟩|⟨x,ns,rfl,_⟩
  ·cases d' with
   | tup es=>done;trivial
   | _=>done;exact#[_,rfl,RpO.rp l n (RpG.toO rfl r)]
  ·done;trivial
  ·done;trivial
 | _=>done;exact#[_,rfl,RpO.rp l n `B6]
def Env.frz(e:`be):∃B':BS,(`q4)/\(∀a,B a->`pl∨`TT)/\Env K H B' σ `aF4:=by
 refine#[`aF5,`GO,`hb,?_,λa z=>`jw a z.1,`ao1]
 ·by_cases q:`TT
  ·exact `q q
  ·exact `acq
 ·have:`bx (λo s=>SlR K H (`aF5) o `abQ) σ δ:=`GL (λi o s e1 e2 h=>by
   cases s with
   | un=>trivial
   | ex c n=>apply `f?;exact`M2
   | sh d=>apply `f?;exact`M2
   | ow d =>
    let#[a,rfl,hb,r]:=h;exact r.fz (`GO) λz=>z.2 #[i,d,e2,e1]) `ha
  have mp:∀{l:St} {m:Ds} {F:`dm->Sl->Prop},`bx (λo s=>F o `abQ) l m->`bx F l (m.map s70):=by
   intro l m F h
   induction h with
   | nil=>exact `L
   | cons r t ih=>exact `AX
  exact mp `E
 ·unfold DL.frz at h1
  rw[`bN] at h1;cases q:`cl with
  | none=>rw[q] at h1;cases h1
  | some s=>rw[q] at h1;exact`aF6
def EnvS.frz(en:`cJ):`cY K `ad `V H σ `aF4:=by
 skip;apply `a_;let#[B',c1,c2,J]:=env.frz;done;refine#[`fQ,`aF7,λi ds a h1 _=>?_,`ii]
 ·skip;rcases `aF8 with q|⟨i,d,q1,q2⟩
  ·done;exact q
  ·done;apply `aF9
 ·unfold DL.frz at h1
  rw[`bN] at h1;cases q:`cl with
  | none=>rw[q] at h1;cases h1
  | some s=>rw[q] at h1;exact`aF6
def Env.frzAt(e:`be)(i:Nat):∃B':BS,(`q4)/\(∀a,B a->`pl∨∃(d:D),`anG)/\Env K H B' σ (DL.frzAt i δ):=by
 unfold DL.frzAt;cases h:`cl with
 | none=>apply `M3
 | some s =>
  cases s with
  | un=>dsimp only [s70];rw[qo0 h];apply `M3
  | ex c n=>dsimp only [s70];rw[qo0 h];apply `M3
  | sh d=>dsimp only [s70];rw[qo0 h];apply `M3
  | ow d =>
   let#[a,h1,hb,r]:=e.at h;refine#[`aF',`aF!,`GJ,?_,λb z=>`jw b z.1,λj k b ds es O M h3 h4=>?_]
   ·by_cases q:b=a
    ·subst q;exact `q #[d,rfl,h1]
    ·exact `acq
   ·have h0:`bx (λ(o':`dm) (s:Sl)=>SlR K H (`aF') o' s∨`acf) σ δ:=`pD (λo' s h=>by
     cases s with
     | un=>exact `acg
     | ex c n=>apply `f?;exact `p `M2
     | sh d=>apply `f?;exact `p `M2
     | ow d =>
      let#[b,e,U,r]:=h
      apply `CA
      ·subst z;apply `ach
      ·exact `p #[b,e,#[U,z],`cX `acr (`ie `GO)]) `ha
    have h2:=`TO (i:=i) (b:=`acp) (`p (r.fz (`aF!) λz=>z.2 rfl)) h1 h0;refine `GL (λj o' s e1 e2 hh=>?_) h2;rcases hh with hh|⟨d',rfl,rfl⟩
    ·exact hh
    ·skip;apply `aci
     ·done;exact(cw0 e3).elim
     ·done;exact `I (`mE i j a d d' h e3 h1 e1) J
   ·skip;rcases `ik O with⟨_,q,_⟩|⟨_,q1⟩
    ·done;exact`aF?
    ·rcases `ik M with⟨_,q,_⟩|⟨_,q2⟩
     ·done;exact`aF?
     ·done;exact `mE j k b ds es q1 q2 h3 h4
def EnvS.frzAt(en:`cJ)(i:Nat):`cY K `ad `V H σ (DL.frzAt i δ):=by
 skip;apply `a_;let#[B',c1,c2,J]:=env.frzAt i;done;refine#[`fQ,`aF7,`TS,`ii]
 ·rcases `aF8 with q|⟨d,q1,q2⟩
  ·exact q
  ·apply `aF9
 ·skip;unfold DL.frzAt at h1
  cases q:`cl with
  | none=>rw[q] at h1;done;apply `aco
  | some s =>
   rw[q] at h1;rcases `yB with⟨rfl,q',_⟩|⟨_,q1⟩
   ·done;exact(fn0 q').elim
   ·done;exact `pu j ds a q1 h2
def vy0{d:D}(h:`ku)(r:`ck):`S3:=by
 apply `acs
 ·rw[U5] at r ⊢;exact r
 ·rw[Y7] at r ⊢;exact r
 ·rw[j7] at r ⊢;exact r
 ·rw[Y8] at r ⊢;exact r
universe zz
section
variable{st:`bq}{g:GE}{gt:GB}
theorem ar0(h:`cB):PD X e (ur0 g):=.mk λB δ pins s σ H Q I hq98=>by
 skip;let#[d,en,hq,k]:=hq98
 apply `M4;unfold ur0 at hq;cases e1:`py with
 | none=>rw[e1] at hq;cases hq
 | some x =>
  rw[e1] at hq
  by_cases hf:`TD
  ·simp only[`n,`rc] at hq
   cases hq;done;exact h B' `px `k s σ H Q I #[_,J,e1,λv H' s' r=>k v H' s' (vy0 hf r)]
  ·simp only[`n,`M5] at hq
   cases hq
theorem Xi0(h:`aCm):PTD X e (ff0 gt):=.mk λB δ pins s σ H Q I hq99=>by
 skip;let#[d,en,hq,k]:=hq99
 apply `M4;done;exact h B' `px `k s σ H Q I #[d,J,hq,k]
theorem Qu0(i:Nat)(h:`abf):PSD X st (P20 i G):=.mk λH₀ B₀ δ pins s σ H D I #[r,en,hq,k]=>h `ad `V _ `k s σ H D I #[r,en.frzAt i,hq,k]
theorem Rr0(h:`cB):PSD X `qV (V2 (ei0 g)):=.mk λH₀ B₀ δ pins s σ H D I #[r,en,hq,k] =>
 Y6 h `ad `V `px `k s σ H D I `aGa
theorem G5{gA:GA}(h:`vo):PDF X `_d (V7 gA) :=
 .mk λB δ=>`aCq fun σ H Q hq100=>by
  let#[d,en,h,k]:=hq100
  unfold V7 at h;cases e1:`cH with
  | none=>rw[e1] at h;cases h
  | some ds =>
   rw[e1] at h
   by_cases hl:`vf
   ·apply `aa'
    cases h;refine#[ds,en,e1,λvs H1 s1 r1=>#[`am3,λp hp=>k _ _ (`im hp) `am2 #[vs,j5,r1.mono `G8]]]
   ·apply `aa!
    cases h
theorem ds0:PDF X (`zj [] [] pos) `VL:=.mk λB δ=>Rl0.imp fun σ H Q hq101=>by
 let#[d,en,h,k]:=hq101
 cases h;exact λp hp=>k p _ hp `fS #[[],j5,rfl,`gU]
theorem yv0(i:Nat){px:Pos}(h:`vp)(hN:`eK)(hi:`ek)(hx:`abh)
  (hs:`v (`ale `M6 e `h4 `A=`g5) Aa) (hw:`v (`alf `M6 e `A=`xv) Aa)
  (h1:`v ((`mp `M6 `A).map `eX=[`g6 `e! `A]) Aa)
  (hf:`qU):PSD X (`h8 `M6 e pos) (zj0 i g):=.mk λH₀ B₀ δ pins s σ H D I hq102=>by
 skip;let#[r,en,e1,k]:=hq102
 unfold zj0 at e1;apply `a_;cases e2:`ax with
 | none=>apply `U;cases e1
 | some d =>
  apply `U;cases e1;done;exact az0 `cI (`abi) hs hw h1 `k s σ H D I #[d,env,e2,λp H' hp s' r=>k _ H' (en.take b1 b2 env i hp s' r)]
universe zz
universe DL
namespace L2
open Spec PyProof.Rows
open PySem.AutoSeq1 (wpAny_loadPart')
theorem Wl0(p:`g)(xs:`aW)(k:Nat)(q:`g)(ys:`aW)(m:Nat)(dq:`fl)(sq:`n_)(h0:¬(!xs.isEmpty&&`LK (`s7+`yS))=`d)(h1:`s7<=`S)(h2:`s7+`yS<=`S+1) :
  Meets (Builtin.«list.extend» #[[`fL,`C q],[]]) (λ_ R s=>`dn p=`c { cls:=`c5,dict:=`e,data:=`b5 xs k,slots:=⟨⟩ }/\`dn q=`c { cls:=`c5,dict:=dq,data:=`b5 ys m,slots:=sq }/\R (.ok (`hY `s9)) { s with heap:=`m1 p (`jz λz=>z++ys) }) :=
 .of_wp λprog w A R s h=>by
  skip;apply `aGb;let#[hl,hb,h]:=h;have f1:=AutoSeq1.idx_int;have f2:=AutoSeq1.sub_tuple_tuple;have f3:=AutoSeq1.sub_list_list;have f4:=AutoSeq1.sub_tuple_list;have f5:=AutoSeq1.sub_list_tuple;have J:(xs++ys).size<=`S+1:=by rw[Array.size_append];exact h2
  done;wp_walk using (L4 hl rfl (hz:=h1) (_hz':=J)),Ab0 hl,Ab0 hb
  exact`aGc
def Ry0(K:`B):`gS:=λx vs H Q=>∃l b xs zs,`LL/\vs=[`sl]/\`BJ/\`aD6/\`aD7/\Q `x (upd H l `MB)
def gf0:MtM X "list.extend" (Ry0 X.K):=by
 apply `u!;skip;apply `aD8;cases rx;apply `BK;cases ru;apply `_5;apply `aD9;let#[#[a3,Y,data2,a1],a2,U,n2,O]:=`MC;simp only at U O;subst U O;have hl2:=`mQ;have Z:`aD!:=`act
 have M:¬(!`acu&&`LK (`ano))=`d:=by
  rw[Qo0 Z,`acv];exact B5
 done;refine L3 F.slot_list_extend `_6 F.entry_list_extend (F.args_list_extend_2 _ _)
  (Wl0 l `bt n b `abD n2 Y a1 M `pP `j) #[e,a2,?_]
 refine#[`x,_,I.lset (its':=its++J) hH e `aB (`Bz r2) ?_,rfl,q];rw[`O];lia
def Mn0:`Zn:=λo i v H Q=>∃a H',o=`ce/\DPut H a i v H'/\Q H'
def set_dict(hu:`i'):Zl0 X Mn0:=by
 apply `azf;let#[a,H',rfl,g,q]:=h;cases ro;exact Uq0 hu I g ri rv λs3 I3=>#[H',I3,q]
universe L2
namespace DL
open Spec PyProof.Rows L2
section
variable{σ σ':St}{δ:Ds}
def Rps.dropLast(h:`bb):Rps K H B `ans `SE:=by
 rw[`aGd,`aGd,h.length];exact h.take _
structure EnvV(K:`B)(H₀:Hp)(B₀:BS)(H:Hp)(σ:St)(δ:Ds)(d:D)(v:V):Prop where
 same:`Mo
 ex:∃B:BS,(`i5)/\(`i6)/\`be/\`ck
 fr:`aCu
 b0:`abd
theorem EnvV.s{d:D}(h:`CD):`cJ:=#[`Mg,let #[B,b1,b2,e,_]:=h.ex;#[B,b1,b2,e],h.fr,h.b0]
theorem EnvV.mk'{d:D}(h:`cJ)(b1:`i5)(b2:`i6)(e:`be)(r:`ck):`CD:=#[`Mg,#[B,b1,b2,e,r],h.fr,h.b0]
universe zz
def tX(K:`B)(H₀:Hp)(B₀:BS)(δ:Ds)(gx:GX):TE:=fun σ H Q=>∃r,`cJ/\`dw=`ew/\∀v H',EnvV K `ad `V H' σ r.2 r.1 v->`oQ
structure PX(X:Cx)(e:`M)(gx:GX):Prop where
 mk::go:`aGe
instance{X:Cx}{e:`M}{gx:GX}:`eM (`oc) (λ_=>`aGe):=#[PX.go]
def tTG(K:`B)(H₀:Hp)(B₀:BS)(ft:`aT)(d:D)(δ:Ds):TG:=λv σ H Q=>∃δ',`CD/\ft d δ=`pj/\∀σ' H',`aCD->`alc
structure PTG(X:Cx)(tg:`M)(ft:`aT):Prop where
 mk::go:`aGf
instance{X:Cx}{tg:`M}{ft:`aT}:`eM (`aGg) (λ_=>`aGf):=#[PTG.go]
section
variable{st:`bq}{g:GE}{gt:GB}
theorem Z5(h:`cB):PX X e (Y4 g):=.mk λH₀ B₀ δ pins s σ H Q I hq103=>by
 skip;let#[r,en,e1,k]:=hq103
 unfold Y4 at e1;apply `a_;cases e2:`ax with
 | none=>apply `U;cases e1
 | some d =>
  apply `U;cases e1;done;exact h B δ `k s σ H Q I #[d,env,e2,λv H' s' r=>k v H' (`hf (`Tm) b1 b2 (`abj) r)]
def bz0{δ:Ds}(h:`pz=`pk):`cl=`aEo:=by
 unfold owL at h;split at h
 ·cases h;assumption
 ·cases h
def Xj0{δ:Ds}{r:`aEv}(h:`Gv=`ew):`cl=`c (.ow (`cj (`p r.1) r.2)):=by
 unfold fc0 at h;split at h
 ·cases h;assumption
 ·cases h
theorem qd0(i:Nat)(h:`cB)(hN:`ek)(hv:`ga)(hd:`aZ)(hcd:`fo)
  (hbase:`v (`fJ `e! `Hm `A `yO=`yF) Aa)
  (hfew:`v ((`lZ
  &&`M7)=`d) Aa)
  (hline:`fs) (hs:`eO) (hplain:`kt) :
  PX X (`a0 (`dq `e! `Hm `e_) [e] [] `ch) (yt0 i g):=.mk λH₀ B₀ δ pins s σ H Q I hq104=>by
 skip;let#[r,en,e1,k]:=hq104
 unfold yt0 at e1;apply `a_;cases e2:`pz with
 | none=>apply `U;cases e1
 | some ds =>
  cases e3:`ax with
  | none=>apply `vA;cases e1
  | some d =>
   apply `vA;apply `eN;split at e1
   ·rename_i hz
    cases e1;have hi:=bz0 e2;apply `acw;done;refine sm0 L0 Ac0 Ad0 pj0 `jA (N7 `cI y20 hs) `ft `hM `fu hs `iY `k s σ H Q I
     #[_,J,`acx,d,env,e3,λv H1 s1 r1=>#[a,xs,v,rfl,rfl,`Ua,by rw[`acy];exact hz,?_]]
    have M:Env X.K (upd H1 a (`o `zh)) B σ (`aEp):=`M8 hi J #[_,j5,(`pJ `GX r1).mono `k?];apply `aGh
   ·cases e1
open T in
theorem aw0(i:Nat)(h:`cB)(hN:`ek)(hv:`ga)(hd:`aZ)(hcd:`fo)
  (hbase:`v (`fJ `e! `M9 `A `yO=`yF) Aa)
  (hfew:`v ((`lZ
  &&`M7)=`d) Aa)
  (hline:`fs) (hs:`eO) (hplain:`kt) :
  PX X (`a0 (`dq `e! `M9 `e_) [e] [] `ch) (wu0 i g):=.mk λH₀ B₀ δ pins s σ H Q I hq105=>by
 let#[r,en,e1,k]:=hq105
 unfold wu0 at e1;apply `a_;cases e2:`pz with
 | none=>apply `U;cases e1
 | some ds =>
  cases e3:`ax with
  | none=>apply `vA;cases e1
  | some d =>
   apply `vA;apply `eN;cases d<;>try cases e1
   rename_i es;dsimp only at e1;split at e1
   ·rename_i hz
    cases e1;have hi:=bz0 e2;apply `acw;refine sm0 L0 By0 Bz0 gf0 `jA (N7 `cI y20 hs) `ft `hM `fu hs `iY `k s σ H Q I
     #[_,J,`acx,_,env,e3,`Gr]
    apply `oa;let#[b,zs,rfl,hq,rz]:=r1;refine#[a,b,xs,zs,rfl,rfl,`Ua,`le,by rw[`acy,`acz];exact hz,?_];have M:Env X.K (upd H1 a `MB) B σ (`aEq):=`M8 hi J #[_,j5,(`aBR `GX rz).mono `k?];apply `aGh
   ·cases e1
theorem T10(i:Nat)(hN:`ek)(hv:`ga)(hd:`aZ)(hcd:`fo)
  (hbase:`v (`fJ `e! `Ht `A `yO=`yF) Aa) (hline:`fs) :
  PX X (`a0 (`dq `e! `Ht `e_) [] [] `ch) (qz0 i):=.mk λH₀ B₀ δ pins s σ H Q I hq106=>by
 skip;let#[r,en,e1,k]:=hq106
 unfold qz0 at e1;apply `a_;cases e2:`pz with
 | none=>apply `U;cases e1
 | some ds =>
  apply `U;apply `eN;cases e3:`aEr with
  | none=>apply `bH;cases e1
  | some d =>
   apply `bH;cases e1;have hi:=bz0 e2;apply `acw;rw[List.getLast?_eq_getElem?] at e3;let#[y,hy,ry]:=rx.get e3;done;refine Uh0 L0 C00 C10 T40 `jA `ft `fu `k s σ H Q I
    #[_,J,`acx,a,xs,y,rfl,rfl,hx,by rw[`acy];exact hy,?_]
   have M:Env X.K (upd H a `_7) B σ (`aEs):=env.mut hi J #[_,j5,rx.dropLast.mono `k?];exact k _ _ (`hf (`yG `sP b1 b2 hi J M) b1 b2 M (ry.mono `k?))
theorem sw0(h:`Ce):PTG X tg f:=.mk λH₀ B₀ d δ pins s σ H v u Q I r hq107=>by
 skip;let#[δ',en,e1,k]:=hq107
 apply `M';done;exact h B d δ `k s σ H v u Q I r #[δ',rv,env,e1,fun σ' w en'=>k σ' H (en.s.wr b1 b2 `sP w en')]
theorem G4{ft:`aT}(h:`oc)(hg:`aGg)(hs:`Zs)(hw:`Zt)
  (h1:`Zu):PSD X `Zv (N6 gx ft):=.mk λH₀ B₀ δ pins s σ H D I hq108=>by
 skip;let#[r,en,e1,k]:=hq108
 unfold N6 at e1;cases e2:`dw with
 | none=>apply `U;cases e1
 | some q =>
  apply `U;apply `eN;cases e3:ft q.1 q.2 with
  | none=>apply `bH;cases e1
  | some δ' =>
   apply `bH;cases e1;done;exact az0 (h `ad `V δ) (hg `ad `V q.1 q.2) hs hw h1 `k s σ H D I #[q,en,e2,λv H' J=>#[δ',J,e3,fun σ' H'' en''=>k σ' H'' en'']]
theorem Y9(h:`oc)(hs:`avE):PSD X (.Expr e pos) (j4 gx):=.mk λH₀ B₀ δ pins s σ H D I hq109=>by
 let#[r,en,e1,k]:=hq109
 unfold j4 at e1;cases e2:`dw with
 | none=>apply `U;cases e1
 | some q =>
  apply `U;cases e1;exact fs0 (h `ad `V δ) hs `k s σ H D I #[q,en,e2,λv H' J=>k σ H' J.s]
theorem uq0(n:Nat)(hp:`Bg)(hc:`Mq)(hb:`aCN):PSD X `avR (U3 gt G n):=.mk λH₀ B₀ δ pins s σ H D I hq110=>by
 let#[r,en,e1,k]:=hq110
 have M:PT X c (`Mw):=λpins s σ H Q I #[B,δ,h]=>hc B δ `k s σ H Q I h
 have O:PSs X `gk (λD σ H=>∃δ,`aCP):=λpins s σ H D I #[δ,h]=>`aCQ
 refine P10 hp M O `k s σ H D I #[λm σ H=>∃δ',`cY X.K `ad `V H σ δ'/\`aGi,#[n,δ,en,e1],?_];rintro m σ1 H1 ⟨δ1,J,e2⟩;skip;cases m with
 | zero=>cases e2
 | succ m =>
  unfold U3 at e2;let#[B,b1,b2,env]:=J.ex;cases e3:gt δ1 with
  | none=>rw[e3] at e2;cases e2
  | some t =>
   rw[e3] at e2;done;refine#[B,δ1,t,env,e3,λH2 s2=>?_];cases t with
   | false =>
    rw[`nS];cases e2;exact k σ1 H2 (J.grow s2)
   | true =>
    rw[`bA];dsimp only at e2;refine#[fun σ' H'=>∃δ',`cY X.K `ad `V H' σ' δ'/\`aGi,fun σ' H' z=>#[m,X0 m,z],δ1,?_];cases e4:G δ1 with
    | none=>rw[e4] at e2;cases e2
    | some rb =>
     rw[e4] at e2;refine#[rb,J.grow s2,e4,?_];cases rb with
     | nx δn=>apply `aGj
     | ct δn=>apply `aGj
     | bk δn=>cases e2;exact fun σ' H' en'=>k σ' H' en'
     | rt d'=>cases e2;exact λv H' s' r'=>k v H' s' r'
     | rf d'=>cases e2;exact λp H' hp s' r'=>k p H' hp s' r'
open T in
theorem jw0(i j:Nat){p2 p3:Pos}{kk}(hN:`eK)(hij:`Hu)(hc:`hR)(hi:`ek)(hj:`od)
  (hx:`abh) (hy:`ks)
  (hf:`qU) (hf2:`i_)
  (hs1:`v ((`acA).map `eX=`g6 (`anK) `A::`aGk) Aa) (hs2:`v (`aGk=`g6 (`TX) `A::(`mp [] `A).map `eX) Aa)
  (hn:`v ((`acA).length=2) Aa) (hst:`v ((`acA).findIdx? `bV=`e) Aa) :
  PGD X (`ld `anL kk pos) [i,j] (uj0 i j):=.mk λB d δ=>(Kd0 hc (Y40 (`abi) (Y40 (kl0 (i:=j) hN hj hy hf2) Ns0 hs2) hs1) hn hst).imp λv σ H Q hq111=>by
 let#[δ',r,en,e1,k]:=hq111
 unfold uj0 at e1;split at e1
 ·rename_i da db
  cases e1;rw[U8] at r;let#[p,xs,rfl,hq,rs]:=r;rw[o9] at rs;let#[va,t1,rfl,ra,rs]:=rs;rw[o9] at rs;let#[vb,t2,rfl,rb,rs]:=rs;rw[m9] at rs;subst rs;refine#[p,_,rfl,`le,rfl,va,[vb],rfl,vb,[],rfl,rfl,k _ ?_ ((en.set i ra).set j rb)];refine#[`a6,`vB,λq hq ds h=>?_]
  ·have h1:q≠i:=λz=>hq (by rw[z];exact A7)
   have h2:q≠j:=λz=>hq (by rw[z];exact A6 _ A7)
   rw[`aGl,`aGm,`aGl,`aGm];exact`kW
  ·rcases `ik h with⟨rfl,e3,_⟩|⟨n1,e3⟩
   ·cases e3
   ·rcases `ik e3 with⟨rfl,e4,_⟩|⟨n2,e4⟩
    ·cases e4
    ·simp at hq
     rcases hq with z|z
     ·exact n2 `pe
     ·exact n1 `pe
 ·cases e1
universe zz
universe DL
namespace HT
open PyProof.Rows
section
variable{w:`X}{s:`y}
def m50{t sl:`g}{items:`aW}{hi:`bl}{Q:`aF}(ht:`ayl)(hs:`Lp)(pl:`Lq)(pu:`Lr)
  (hw:`aym) (h:Q `kY s):`ayo:=by
 let#[os,O,U,Y]:=id hs;have M:`ayp := #[os,O,U];unfold getItem
 apply `BD
 apply `ayq
 refine `ayr;refine A0 (Y1 (name:=`ays) `o3 Q1
  `ayt)
 apply `ayu;refine `ayv;refine A0 (N4 M ?_);rw[`_v];refine `ayw;have J:`Ss:=by
  rw[hw.1,hw.2];simp
 apply `ayx;rw[`R J];unfold Builtin.Tuple.tupleIsExact;refine A0 (A0 (N4 `o3 `xO));rw[`_v];exact A0 (P6 `St)
universe zz
universe HT
namespace L2
open Spec PyProof.Rows
def Jc0(K:`B):`q0:=λx lo hi H Q=>∃a xs,`de/\`nR/\`ayN/\Q `d7 H
def M40:SlR X (Jc0 X.K):=by
 apply `Lu;skip;apply `ayP;cases rx;apply `ayQ;apply `ayR
 done;exact#[`d3,_,Q1.lookup,`o3,HT.m50 ht hs pl pu (`Lv) #[`ce,H,I,rfl,q]]
def Tk0(K:`B):R2:=λx y H Q=>∃a b ys,`de/\`BE/\SqT K H a []/\`ayU/\Q `GM H
def Zh0:OpR X `Bp (Tk0 X.K):=by
 apply `fr;skip;let#[a,b,ys,rfl,rfl,ha,hb,q]:=h;cases rx;cases ry;apply `ayV;let#[U,r2,p2,_]:=`h5 hb;have e:its=[]:=r1.zero;subst e;let#[#[cls,dd,data,sl],ho,hc,n,hd]:=id p1;let#[#[a1,Y,data2,Z],O,M,n2,J]:=id p2;simp only at hc hd M J;subst hc hd M J;done;exact k8 `q_ #[_,O,rfl] y4 y6 y8 y9 `_r
  (tuple_addW0 a b _ U.toArray n n2 dd Y sl Z rfl) #[ho,O,#[`sl,H,I,rfl,q]]
universe L2
namespace DL
open Spec PyProof.Rows L2
mutual
theorem na0:∀(d:D) (n:Nat),`mP->deq d d=`d
 | `x,_,_=>by unfold deq;rfl
 | `dp,_,_=>`acB
 | `iC,_,_=>`acB
 | `mU,_,_=>`acB
 | `ci,0,h=>by apply `yH;cases h
 | `ci,n+1,h=>`aGn
 | `cw,0,h=>by apply `yH;cases h
 | `cw,n+1,h=>`aGn
 | `n!,n,h=>by apply `yH;cases h
 | `n?,n,h=>by apply `yH;cases h
theorem l30:∀(ds:`l) (n:Nat),`M!->wy0 ds ds=`d
 | [],_,_=>by unfold wy0;rfl
 | `ay,n,h=>by
  unfold leans at h;apply `rd;unfold wy0;rw[na0 d n h.1,l30 ds n h.2];rfl
end
theorem us0:∀ds es:`l,wy0 ds es=((`bw (`aGo)).all (`re)&&`aGp)
 | [],[]=>`acC
 | [],`dJ=>`acC
 | `dJ,[]=>`acC
 | `ay,`EU=>by
  unfold wy0;rw[us0 ds es];have h1:min `L2 `_2=`aGo+1:=by simp only[`Z];lia
  rw[h1,`aGq,`lV,`acD];have h2:(`L2==`_2)=(`aGp):=by
   rw[`uQ];simp
  rw[h2,Bool.and_assoc];rfl
theorem mg0:∀{ds:`l} {n j:Nat} {d:D},`M!->ds[j]?=`a7->`mP
 | [],_,_,_,_,h=>`gP
 | `ay,n,0,_,h,e=>by
  unfold leans at h;apply `rd;simp at e;subst e;exact h.1
 | `ay,n,j+1,_,h,e=>by
  unfold leans at h;apply `rd;exact mg0 (j:=j) h.2 `AW
section
variable{σ:St}{s:`y}
mutual
theorem Rp.inj(I:`F):∀{d e:D} {n m:Nat} {v:V},`mP->`TY->Rp X.K H B d v->Rp X.K H B' e v->d=e
 | `x,e,_,m,v,_,le,h,h'=>by
  skip;rw[U5] at h;subst h;cases e with
  | non=>done;rfl
  | bl b=>rw[Y7] at h';cases h'
  | int b=>rw[j7] at h';cases h'
  | str b=>rw[Y8] at h';cases h'
  | tup b=>rw[U8] at h';apply `oe;cases z
  | lst b=>rw[X4] at h';apply `oe;cases z
  | dct a b=>apply `eP;cases le
  | fn a b=>apply `eP;cases le
 | .bl c,e,_,m,v,_,le,h,h'=>by
  skip;rw[Y7] at h;subst h;cases e with
  | non=>rw[U5] at h';cases h'
  | bl b=>rw[Y7] at h';cases h';done;rfl
  | int b=>rw[j7] at h';cases h'
  | str b=>rw[Y8] at h';cases h'
  | tup b=>rw[U8] at h';apply `oe;cases z
  | lst b=>rw[X4] at h';apply `oe;cases z
  | dct a b=>apply `eP;cases le
  | fn a b=>apply `eP;cases le
 | `f c,e,_,m,v,_,le,h,h'=>by
  skip;rw[j7] at h;subst h;cases e with
  | non=>rw[U5] at h';cases h'
  | bl b=>rw[Y7] at h';cases h'
  | int b=>rw[j7] at h';cases h';done;rfl
  | str b=>rw[Y8] at h';cases h'
  | tup b=>rw[U8] at h';apply `oe;cases z
  | lst b=>rw[X4] at h';apply `oe;cases z
  | dct a b=>apply `eP;cases le
  | fn a b=>apply `eP;cases le
 | `e7,e,_,m,v,_,le,h,h'=>by
  skip;rw[Y8] at h;subst h;cases e with
  | non=>rw[U5] at h';cases h'
  | bl b=>rw[Y7] at h';cases h'
  | int b=>rw[j7] at h';cases h'
  | str b=>rw[Y8] at h';cases h';done;rfl
  | tup b=>rw[U8] at h';apply `oe;cases z
  | lst b=>rw[X4] at h';apply `oe;cases z
  | dct a b=>apply `eP;cases le
  | fn a b=>apply `eP;cases le
 | `ci,e,0,m,v,ld,_,_,_=>by apply `vC;cases ld
 | `ci,e,n+1,m,v,ld,le,h,h'=>by
  skip;rw[U8] at h;apply `aGr;apply `vC;cases e with
  | non=>rw[U5] at h';cases h'
  | bl b=>rw[Y7] at h';cases h'
  | int b=>rw[j7] at h';cases h'
  | str b=>rw[Y8] at h';cases h'
  | tup es =>
   cases m with
   | zero=>apply `eP;cases le
   | succ m =>
    apply `eP;rw[U8] at h';apply `M?;cases z;have:=`awd `ev q'.to;subst this;done;rw[`aGs]
  | lst es =>
   rw[X4] at h';apply `M?;cases z;let#[_,_,#[o,e1,c1,_],_]:=`h5 `ev;let#[_,_,p,_]:=`gl q'.to;apply `aGt;rw[e1] at e2;cases e2;rw[c1] at c2;done;injection c2 with z
   exact `aGu
  | dct a b=>apply `eP;cases le
  | fn a b=>apply `eP;cases le
 | `cw,e,0,m,v,ld,_,_,_=>by apply `vC;cases ld
 | `cw,e,n+1,m,v,ld,le,h,h'=>by
  skip;rw[X4] at h;apply `aGr;apply `vC;cases e with
  | non=>rw[U5] at h';cases h'
  | bl b=>rw[Y7] at h';cases h'
  | int b=>rw[j7] at h';cases h'
  | str b=>rw[Y8] at h';cases h'
  | lst es =>
   cases m with
   | zero=>apply `eP;cases le
   | succ m =>
    apply `eP;rw[X4] at h';apply `M?;cases z;have:=`alj `ev q'.to;subst this;done;rw[`aGs]
  | tup es =>
   rw[U8] at h';apply `M?;cases z;let#[_,_,#[o,e1,c1,_],_]:=`h5 q'.to;let#[_,_,p,_]:=`gl `ev;apply `aGt;rw[e1] at e2;cases e2;rw[c1] at c2;done;injection c2 with z
   exact `aGu
  | dct a b=>apply `eP;cases le
  | fn a b=>apply `eP;cases le
 | `cj a b,e,n,m,v,ld,_,_,_=>by apply `vC;cases ld
 | .fn a b,e,n,m,v,ld,_,_,_=>by apply `vC;cases ld
theorem Rps.inj(I:`F):∀{ds es:`l} {n m:Nat} {xs:`N},`M!->`aGv->`Na->Rps X.K H B' es xs->ds=es
 | [],es,_,_,_,_,_,h,h'=>by
  rw[m9] at h;subst h;have:=h'.length;cases es with
  | nil=>rfl
  | cons a b=>simp at this
 | `ay,es,n,m,_,ld,le,h,h'=>by
  skip;rw[o9] at h;apply `q9;cases es with
  | nil=>rw[m9] at h';cases h'
  | cons e es =>
   rw[o9] at h';let#[x',r',z,M,J]:=h';cases z;unfold leans at ld le;rw[`bz] at ld le;done;rw[Rp.inj I ld.1 le.1 h1 M,Rps.inj I ld.2 le.2 h2 J]
end
def view(I:`F){d:D}{x:V}(l:`mP)(h:`GP)(r:`gn) :
  (`pv/\u=`aJ)∨(∃b,d=`dp/\u=`KJ)∨(∃i t,d=`ba/\u=`Rx)∨(∃z t,d=`mx/\u=`acE) ∨
  (∃m ds a xs its,n=m+1/\`aGw/\d=`ci/\`de/\u=`ce/\`Na/\`lF/\`alk) ∨
  (∃m ds a xs its,n=m+1/\`aGw/\d=`cw/\`de/\u=`ce/\`Na/\`lF/\`GY a `bt):=by
 skip;cases d with
 | non=>rw[U5] at h;subst h;done;exact `p #[rfl,r]
 | bl b=>rw[Y7] at h;subst h;done;exact `q (`p #[b,rfl,r])
 | int i=>rw[j7] at h;subst h;let#[t,e]:=r;done;exact `q (`q (`atU))
 | str z=>rw[Y8] at h;subst h;let#[t,e]:=r;done;exact `q (`q (`q (`p #[z,t,rfl,e])))
 | tup ds =>
  cases n with
  | zero=>apply `vD;cases l
  | succ m =>
   apply `vD;rw[U8] at h;apply `aGx;let#[its,rv,p,_]:=`h5 `ev;done;exact `q (`q (`q (`q (`p #[m,ds,a,xs,its,rfl,l,rfl,rfl,r,rr,rv,p]))))
 | lst ds =>
  cases n with
  | zero=>apply `vD;cases l
  | succ m =>
   apply `vD;rw[X4] at h;apply `aGx;let#[its,rv,p,_]:=`gl `ev;done;exact `q (`q (`q (`q (`q #[m,ds,a,xs,its,rfl,l,rfl,rfl,r,rr,rv,`yI]))))
 | dct a b=>apply `vD;cases l
 | fn a b=>apply `vD;cases l
theorem in1_units:`T0=`jq+1:=rfl
def ni0{es:`l}{ys:`N}{ws:`ah}{A:`cK}(ld:`M!)(le:`aGv)(r1:`Na)(r2:Rps X.K H B' es ys)(v1:`dd)(v2:`at3)
  (ih:∀d e x y u w,`aGy) :
  ∀j (h1:j<us.toArray.size) (h2:j<ws.toArray.size),`GQ A s `aGz `aGA (`anO):=by
 intro j h1 h2;skip;have l1:j<`bP:=by rw[← `mH,`acF];simpa using h1
 have l2:j<`gw:=by rw[← `mQ,`acG];simpa using h2
 let#[x,ex,rx]:=r1.get (C2 l1);let#[y,ey,ry]:=r2.get (C2 l2);let#[u,eu,ru]:=v1.get ex;let#[w,ew,J]:=v2.get ey;have hu:`aGz=u:=by
  have:us[j]?=`br:=eu;simp at h1;rw[`hc h1] at this
  simpa using `Uw
 have hw:`aGA=w:=by
  have:ws[j]?=`c w:=ew;simp at h2;rw[`hc h2] at this
  simpa using `Uw
 done;rw[hu,hw];have e1:`anM=ds[j]:=by simp[`bO,l1]
 have e2:`anN=es[j]:=by simp[`bO,l2]
 rw[e1,e2];exact ih _ _ _ _ _ _ (mg0 ld (C2 l1)) (mg0 le (C2 l2)) rx ry ru J
def Tc0(I:`F):∀(n m:Nat) (d e:D) (x y:V) (u w:`J) (A:`cK),`aGB->`aGy:=by
 intro n
 induction n with
 | zero =>
  apply `aGC;have J:`jq<`ic:=`H
  rcases `acH with⟨rfl,rfl⟩|⟨b,rfl,rfl⟩|⟨i,t,rfl,rfl⟩|⟨z,t,rfl,rfl⟩|⟨n',_,_,_,_,hn,_⟩|⟨n',_,_,_,_,hn,_⟩<;>(try (exact `I hn `j)) <;>
  rcases `acI with⟨rfl,rfl⟩|⟨b',rfl,rfl⟩|⟨i',t',rfl,rfl⟩|⟨z',t',rfl,rfl⟩|⟨m',es,a',ys,U,rfl,Y,rfl,rfl,rfl,M,O,p'⟩|⟨m',es,a',ys,U,rfl,Y,rfl,rfl,rfl,M,O,p'⟩ <;>
  unfold deq <;>
  first
  | with_reducible exact L7 _|apply `aGD|with_reducible exact j0 _ _ _ _|with_reducible exact k0 _ _ _ _|apply `aGE|apply `aGF
  | with_reducible exact A30 _|apply `aGG|apply `aGH|with_reducible exact A40 _|apply `aGI|apply `aGJ|with_reducible exact U1 _ _ _ _
  | apply `aGK|apply `aGL|with_reducible exact U2 _ _ _ _
  | apply `aGM|apply `aGN|apply `aGO|apply `aGP
  | apply `aGQ|apply `aGR|with_reducible exact u3 _ _ p' J|with_reducible exact u4 _ _ p' J
 | succ n ih =>
  apply `aGC;have J:`jq<`ic:=`H
  have a1:`T0+n<`ic:=`acJ
  rcases `acH with⟨rfl,rfl⟩|⟨b,rfl,rfl⟩|⟨i,t,rfl,rfl⟩|⟨z,t,rfl,rfl⟩|⟨n',ds,a,xs,its,hn,Z,rfl,rfl,rfl,rr,rv,p⟩|⟨n',ds,a,xs,its,hn,Z,rfl,rfl,rfl,rr,rv,p⟩ <;>
  rcases `acI with⟨rfl,rfl⟩|⟨b',rfl,rfl⟩|⟨i',t',rfl,rfl⟩|⟨z',t',rfl,rfl⟩|⟨m',es,a',ys,U,rfl,Y,rfl,rfl,rfl,M,O,p'⟩|⟨m',es,a',ys,U,rfl,Y,rfl,rfl,rfl,M,O,p'⟩
  case inr.inr.inr.inr.inl.inr.inr.inr.inr.inl =>
   cases hn
   by_cases hab:a=a'
   ·subst hab
    have e:`b9 ds=`b9 es:=`aGS;rw[← e,`aGT];exact L7 _
   ·refine u8 hab ?_
    have:=w8 (e:=`re) p p' J `aGU;unfold deq;rw[us0]
    simpa [← `pE,← `anQ,`Gn,`yJ] using `E
  case inr.inr.inr.inr.inr.inr.inr.inr.inr.inr =>
   cases hn
   by_cases hab:a=a'
   ·subst hab
    have e:`f0 ds=`f0 es:=`aGS;rw[← e,`aGT];exact L7 _
   ·refine u8 hab ?_
    apply `acK
    apply `acL
    unfold deq;rw[us0]
    by_cases hl:`bP=`gw
    ·have:=`aGV (e:=`re) p p' `acM J `aGU
     rw[s1] at this;rw[hl] at this ⊢
     apply `Aw
    ·have:=`aGW
     rw[`acN hl,`acv];exact `E
  all_goals
   unfold deq
   first
   | with_reducible exact L7 _|apply `aGD|with_reducible exact j0 _ _ _ _|with_reducible exact k0 _ _ _ _|apply `aGE|apply `aGF
   | with_reducible exact A30 _|apply `aGG|apply `aGH|with_reducible exact A40 _|apply `aGI|apply `aGJ|with_reducible exact U1 _ _ _ _
   | apply `aGK|apply `aGL|with_reducible exact U2 _ _ _ _
   | apply `aGM|apply `aGN|apply `aGO|apply `aGP
   | apply `aGQ|apply `aGR|with_reducible exact u3 _ _ p' J|with_reducible exact u4 _ _ p' J
   | with_reducible exact SeqAt.EqAt.list_none p J|with_reducible exact SeqAt.EqAt.list_bool _ p J|with_reducible exact SeqAt.EqAt.list_int _ _ p J|with_reducible exact SeqAt.EqAt.list_str _ _ p J
   | with_reducible exact SeqAt.EqAt.tuple_none p J|with_reducible exact SeqAt.EqAt.tuple_bool _ p J|with_reducible exact SeqAt.EqAt.tuple_int _ _ p J|with_reducible exact SeqAt.EqAt.tuple_str _ _ p J
   | with_reducible exact SeqAt.EqAt.list_tuple p p' J|with_reducible exact SeqAt.EqAt.tuple_list p p' J
universe zz
universe DL
namespace DL
open Spec PyProof.Rows L2
section
variable{σ:St}{s:`y}
def Us0(I:`F)(n m:Nat)(d e:D)(x y:V)(u w:`J)(A:`cK)(hu:`aGB)(ld:`mP)(le:`TY)(hx:`GP)(hy:`anP)(rx:`gn)(ry:`TZ) :
  SeqAt.RcAt A s u w (`T_)/\SeqAt.RcNeAt A s u w (!`T_):=by
 have J:`jq<`ic:=`H
 rcases `acH with⟨rfl,rfl⟩|⟨b,rfl,rfl⟩|⟨i,t,rfl,rfl⟩|⟨z,t,rfl,rfl⟩|⟨n',ds,a,xs,its,hn,Z,rfl,rfl,rfl,rr,rv,p⟩|⟨n',ds,a,xs,its,hn,Z,rfl,rfl,rfl,rr,rv,p⟩ <;>
 rcases `acI with⟨rfl,rfl⟩|⟨b',rfl,rfl⟩|⟨i',t',rfl,rfl⟩|⟨z',t',rfl,rfl⟩|⟨m',es,a',ys,U,rfl,a1,rfl,rfl,rfl,M,O,p'⟩|⟨m',es,a',ys,U,rfl,a1,rfl,rfl,rfl,M,O,p'⟩
 case inr.inr.inr.inr.inl.inr.inr.inr.inr.inl =>
  subst hn;have Y:`aGX:=`acJ
  apply `aGY
  have q1:=w8 (e:=`re) p p' J hit;have q2:=SeqAt.RcNeAt.tuples (e:=`re) p p' J hit;unfold deq;rw[us0];apply `acK
  apply `acL
  rw[s1,s2] at q1 q2;exact`CE
 case inr.inr.inr.inr.inr.inr.inr.inr.inr.inr =>
  subst hn;have Y:`aGX:=`acJ
  apply `aGY
  apply `acK
  apply `acL
  unfold deq;rw[us0]
  by_cases hl:`bP=`gw
  ·have q1:=`aGV (e:=`re) p p' `acM J hit
   have q2:=SeqAt.RcNeAt.lists (e:=`re) p p' `acM J hit;rw[s1] at q1 q2;rw[hl] at q1 q2 ⊢;simp only[`T?,`acO,Bool.and_true];exact`CE
  ·have q1:=`aGW
   have q2:=SeqAt.RcNeAt.lists_lengths (A:=A) p p' `anR J;rw[`acN hl,`acv];exact`CE
 all_goals
  unfold deq;constructor
  ·first
   | with_reducible exact SeqAt.RcAt.none_none|with_reducible exact SeqAt.RcAt.bool_bool _ _|with_reducible exact SeqAt.RcAt.int_int _ _ _ _|with_reducible exact SeqAt.RcAt.str_str _ _ _ _|with_reducible exact SeqAt.RcAt.bool_int _ _ _|with_reducible exact SeqAt.RcAt.int_bool _ _ _
   | with_reducible exact SeqAt.RcAt.none_bool _|with_reducible exact SeqAt.RcAt.none_int _ _|with_reducible exact SeqAt.RcAt.none_str _ _|with_reducible exact SeqAt.RcAt.bool_none _|with_reducible exact SeqAt.RcAt.bool_str _ _ _|with_reducible exact SeqAt.RcAt.int_none _ _|with_reducible exact SeqAt.RcAt.int_str _ _ _ _
   | with_reducible exact SeqAt.RcAt.str_none _ _|with_reducible exact SeqAt.RcAt.str_bool _ _ _|with_reducible exact SeqAt.RcAt.str_int _ _ _ _
   | with_reducible exact SeqAt.RcAt.none_list p' J|with_reducible exact SeqAt.RcAt.bool_list _ p' J|with_reducible exact SeqAt.RcAt.int_list _ _ p' J|with_reducible exact SeqAt.RcAt.str_list _ _ p' J
   | with_reducible exact SeqAt.RcAt.none_tuple p' J|with_reducible exact SeqAt.RcAt.bool_tuple _ p' J|with_reducible exact SeqAt.RcAt.int_tuple _ _ p' J|with_reducible exact SeqAt.RcAt.str_tuple _ _ p' J
   | with_reducible exact SeqAt.RcAt.list_none p J|with_reducible exact SeqAt.RcAt.list_bool _ p J|with_reducible exact SeqAt.RcAt.list_int _ _ p J|with_reducible exact SeqAt.RcAt.list_str _ _ p J
   | with_reducible exact SeqAt.RcAt.tuple_none p J|with_reducible exact SeqAt.RcAt.tuple_bool _ p J|with_reducible exact SeqAt.RcAt.tuple_int _ _ p J|with_reducible exact SeqAt.RcAt.tuple_str _ _ p J
   | with_reducible exact SeqAt.RcAt.list_tuple p p' J|with_reducible exact SeqAt.RcAt.tuple_list p p' J
  ·try rw[Bool.not_false]
   try rw[Bool.not_true]
   first
   | with_reducible exact SeqAt.RcNeAt.none_none|with_reducible exact SeqAt.RcNeAt.bool_bool _ _|with_reducible exact SeqAt.RcNeAt.int_int _ _ _ _|with_reducible exact SeqAt.RcNeAt.str_str _ _ _ _|with_reducible exact SeqAt.RcNeAt.bool_int _ _ _|with_reducible exact SeqAt.RcNeAt.int_bool _ _ _
   | with_reducible exact SeqAt.RcNeAt.none_bool _|with_reducible exact SeqAt.RcNeAt.none_int _ _|with_reducible exact SeqAt.RcNeAt.none_str _ _|with_reducible exact SeqAt.RcNeAt.bool_none _|with_reducible exact SeqAt.RcNeAt.bool_str _ _ _|with_reducible exact SeqAt.RcNeAt.int_none _ _|with_reducible exact SeqAt.RcNeAt.int_str _ _ _ _
   | with_reducible exact SeqAt.RcNeAt.str_none _ _|with_reducible exact SeqAt.RcNeAt.str_bool _ _ _|with_reducible exact SeqAt.RcNeAt.str_int _ _ _ _
   | with_reducible exact SeqAt.RcNeAt.none_list p' J|with_reducible exact SeqAt.RcNeAt.bool_list _ p' J|with_reducible exact SeqAt.RcNeAt.int_list _ _ p' J|with_reducible exact SeqAt.RcNeAt.str_list _ _ p' J
   | with_reducible exact SeqAt.RcNeAt.none_tuple p' J|with_reducible exact SeqAt.RcNeAt.bool_tuple _ p' J|with_reducible exact SeqAt.RcNeAt.int_tuple _ _ p' J|with_reducible exact SeqAt.RcNeAt.str_tuple _ _ p' J
   | with_reducible exact SeqAt.RcNeAt.list_none p J|with_reducible exact SeqAt.RcNeAt.list_bool _ p J|with_reducible exact SeqAt.RcNeAt.list_int _ _ p J|with_reducible exact SeqAt.RcNeAt.list_str _ _ p J
   | with_reducible exact SeqAt.RcNeAt.tuple_none p J|with_reducible exact SeqAt.RcNeAt.tuple_bool _ p J|with_reducible exact SeqAt.RcNeAt.tuple_int _ _ p J|with_reducible exact SeqAt.RcNeAt.tuple_str _ _ p J
   | with_reducible exact SeqAt.RcNeAt.list_tuple p p' J|with_reducible exact SeqAt.RcNeAt.tuple_list p p' J
universe zz
section
variable{a:`M}{p:Pos}{g ga:`bo}
def W40(K:`B)(neg:`aa):R2:=λx y H Q=>∃B B' dx dy,`aa5/\Rp K H B' dy y/\`e' dx 50=`d/\`e' dy 50=`d/\Q (.bl (xor neg (deq dx dy))) H
def T00(hu:`aGZ):OpR X (`d9 .Eq) (W40 X.K `r):=by
 apply `fr;skip;apply `aG_;done;exact(`aG0).1 _ _ _ _ #[`bK,H,I,rfl,by rw[`s5] at q;exact q]
def il0(hu:`aGZ):OpR X (`d9 .NotEq) (W40 X.K `d):=by
 apply `fr;skip;apply `aG_;done;exact(`aG0).2 _ _ _ _ #[`bK,H,I,rfl,by rw[`Nb] at q;exact q]
def Xo0:Op2 K (W40 K `r) l80:=by
 apply `i7;unfold l80 at h;split at h
 ·rename_i hl
  cases h;exact#[B,B,dx,dy,rx,ry,hl.1,hl.2,k _ H `c' (by rw[Y7,`s5])]
 ·cases h
def lr0:Op2 K (W40 K `d) uy0:=by
 apply `i7;unfold uy0 at h;split at h
 ·rename_i hl
  cases h;exact#[B,B,dx,dy,rx,ry,hl.1,hl.2,k _ H `c' (by rw[Y7,`Nb])]
 ·cases h
def bv0:Op2 K (λx y H Q=>rI0 (`awD) x y H Q∨(`awS)∨O10 K x y H Q∨Ps0 K x y H Q∨Tk0 K x y H Q) m7:=by
 apply `i7;cases dx<;>cases dy<;>simp only[m7] at h<;>try cases h
 ·rw[j7] at rx ry
  subst rx ry;exact `p #[_,_,rfl,rfl,`s2]
 ·split at h
  ·cases h
   rw[Y8] at rx ry;subst rx ry;exact `q (`p #[_,_,rfl,rfl,`Cj,`Mk])
  ·cases h
 ·split at h
  ·skip;rename_i hz
   cases h;have M:=ry;have O:=rx;rw[U8] at rx ry;apply `acP;apply `aG1
   by_cases he:`u3
   ·subst he
    have e:`aG2=`aG2:=rfl;have hn:=`mH;simp at hn;have J:=`acQ;subst J;done;exact `q (`q (`q (`q #[a,b,ys,rfl,rfl,`CF,q2.to,k _ H `c' (by rw[`hF];exact M)])))
   ·done;refine `q (`q (`q (`p #[a,b,xs,ys,rfl,rfl,`CF,q2.to,he,`acR,`mK,λz p hp=>k _ _ `fS (fk0 hb hp (`Lx))])))
    subst z;have hn:=`mQ;simp at hn;have J:=`acQ;subst J;exact k _ H `c' (by rw[`bc];exact O)
  ·cases h
 ·split at h
  ·skip;rename_i hz
   cases h;rw[X4] at rx ry;apply `acP;apply `aG1;done;exact `q (`q (`p #[a,b,xs,ys,rfl,rfl,`CF,q2.to,`acR,λp hp=>k _ _ `fS (ob0 hb hp (`Lx))]))
  ·cases h
theorem b7(ha:`ca)(hb:`c0):PD X `acS (o2 ga gb m7):=no0 `aG3 bv0 ha hb
theorem Yy0(h:`bb):∀k:Nat,Rps K H B (`a1 k ds).flatten `azJ
 | 0=>`aaM
 | k+1=>by
  rw[`f9,`f9,`kn,`kn];exact h.append (Yy0 h k)
instance decMul(i j:Int):`iK (CMul i j):=inferInstanceAs (`iK (`TF))
theorem T3(ha:`ca)(hb:`c0):PD X `aG4 (o2 ga gb W5):=no0 Mu0 ((show (ii λi j=>`aEG)=W5 from by funext x y;cases x<;>cases y<;>rfl)▸io0 (C:=CMul) (g':=`awG) `Ck) ha hb
def Su0{xs:`l}{hi:`bl}(h:`aaC=0/\`aBj=`aG):`abV=xs:=by
 unfold cutD;rw[h.1,h.2];simp
open T in
theorem vu0{lo hi:`oH}{gl gh:`vi}{p2:Pos}(he:`cB)(hl:`aG5)(hh:`aG6) :
  PD X `ayG (we0 g gl gh):=.mk λB δ =>
 (Q50 (Mr0.or (Oa0.or (Lp0.or M40))) `Nc (hl B δ) (hh B δ)).imp fun σ H Q hq112=>by
  let#[d,en,h,k]:=hq112
  unfold we0 at h;cases e1:`ax with
  | none=>rw[e1] at h;cases h
  | some x =>
   cases e2:`Gx with
   | none=>apply `b?;cases h
   | some l =>
    cases e3:`Gy with
    | none=>rw[e1,e2,e3] at h;cases h
    | some u =>
     rw[e1,e2,e3] at h;apply `d_;refine#[x,en,e1,λv H1 s1 r1=>#[l,`fR,`aG7,λH2 s2=>#[u,`Ti,`aG8,λH3 s3=>?_]]];have S:=`yX;have r3:=(`pr).same s3;have hb:=(`acT).bad;cases x<;>simp only[slA] at h<;>try cases h
     ·split at h
      ·cases h
       rw[Y8] at r3;exact `p #[_,r3,`Cj,k _ H3 S `F8]
      ·cases h
     ·have r4:=r3
      rw[U8] at r3;apply `aG9;rename_i dxs
      by_cases hw:sIx `Nd 0 l=0/\sIx `Nd `Nd u=`Nd
      ·refine `q (`q (`q #[a,xs,rfl,`ev,`aG',k _ _ S ?_]))
       rw[Su0 hw];exact r4
      ·exact `q (`q (`p #[a,xs,rfl,`ev,`aG',λp hp=>k _ _ (S.trans `fS) (fk0 hb hp `aG!)]))
     ·rw[X4] at r3
      apply `aG9;exact `q (`p #[a,xs,rfl,`ev,λp hp=>k _ _ (S.trans `fS) (ob0 hb hp `aG!)])
def Nj0{d:D}(h:Rps K H B [d,d'] xs):∃v v',xs=[v,v']/\`ck/\Rp K H B d' v':=by
 skip;rw[o9] at h;apply `q9;let#[y,rfl,h3]:=yf0 h2;done;exact#[x,y,rfl,h1,h3]
def K40:FnR K `awW Wc0:=by
 apply `q';unfold Wc0 at h;split at h
 ·skip;cases h
  let#[v,v',rfl,r1,r2]:=Nj0 r;rw[j7] at r1 r2;subst r1 r2;done;exact#[_,_,rfl,`s2]
 ·cases h
def Ll0:FnR K `awX intOfD:=by
 apply `q';unfold intOfD at h;split at h
 ·cases h
  apply `i8;rw[j7] at r1;subst r1;exact `p `aG?
 ·cases h
  apply `i8;rw[Y7] at r1;subst r1;exact `q `aG?
 ·cases h
def Mk0:FnR K (λxs H Q=>∃p ys,`my/\(`abH∨`abI)/\`azt) wm0:=by
 apply `q';unfold wm0 at h;split at h
 ·skip;cases h
  apply `i8;apply `oa;apply `vu;done;exact#[a,ys,rfl,`abJ,`aHa]
 ·skip;cases h
  apply `i8;rw[U8] at r1;apply `vu;done;exact#[a,ys,rfl,`abK,`aHa]
 ·cases h
universe zz
universe DL
namespace DL
open Spec PyProof.Rows
@[simp] def rc0:`a5
 | `cV,`xT=>`aEF
 | _,_=>`e
def xl0{gA:GA}{δ:Ds}(h:`lW)(hl:`vf):zw0 gA δ=`L_:=by
 unfold zw0;rw[h,`n,`ps]
def O90{n:Int}{d:D}(h:d∈`vE):∃k:Nat,`dR<n/\d=`pF:=by
 let#[k,hk,rfl]:=`dx h;have:=`zS hk;exact#[k,`H,by rw[`Ne]]
def Mi0(f:D->α)(n:Int):(`vE).map f=`aHb λ(k:Nat)=>f `zQ:=by
 unfold zr0;rw[`bT];have:n - 0=n:=`H
 rw[`E];refine b5 λk _=>?_
 show f (`f (0+`dR))=_;rw[`Ne]
def tv0(n:Int):(`vE).length=`s3:=by unfold zr0;simp
def X70{n:Int}{d:D}(h:(`vE)[j]?=`a7):j<`s3/\d=`fa:=by
 have hj:j<`s3:=by
  have:=(`cU h).1
  rwa [tv0] at this
 refine#[hj,?_];unfold zr0 at h;rw[`bN,`aHc (`BZ)] at h;have:=`pK;rw[← `E];show `as (0+`b8)=_;rw[`Ne]
def Q00{gt:GB}{ge:GE}{δ:Ds}{n:Int}(h:Nat->D)(H:∀k:Nat,`dR<n->∃δ',gN 0 `zQ δ=`pj/\`BX=`e5/\`FS=`c (h k)) :
  za0 `a8 gt ge δ (`vE)=`c (`aHb h):=by
 rw[v50 (λd=>match d with|`fH=>h `h!|_=>`x) (λd hd=>by
  let#[k,hk,rfl]:=O90 hd;exact H k hk),Mi0]
 rfl
universe DL
namespace DL
open Spec PyProof.Rows L2
section
variable{a:`M}{p:Pos}{g ga:`bo}
theorem ea0(ha:`ca)(hb:`c0):PDF X `acS (o2 ga gb rc0):=.mk λB δ=>(W50 gw0 `bk `fw).imp fun σ H Q hq113=>by
 skip;let#[d,en,h,k]:=hq113
 unfold o2 at h;cases e1:`cv with
 | none=>rw[e1] at h;cases h
 | some x =>
  cases e2:`dO with
  | none=>apply `b?;cases h
  | some y =>
   apply `b?;apply `d_;done;apply `vn;cases x<;>cases y<;>simp only[rc0] at h<;>try cases h
   split at h
   ·skip;rename_i hz
    cases h;have r1:=`pr;rw[X4] at r1 r2;let#[a,xs,rfl,q1,r1]:=r1;let#[b,ys,rfl,q2,r2]:=r2;done;exact#[a,b,xs,ys,rfl,rfl,`CF,q2.to,`acR,λp hp=>k p _ (`aHd hp) (`GR `fS) #[_,j5,(`Lx).mono `G8]]
   ·cases h
theorem bk0(hm:`nP)(hv:`r_=`anY)(ha:`cB)(hg:`gb)
  (hn:`nQ) (hdb:`aZ) (he:`eO) (hpl:`i9) :
  PDF X `aHe (oA `Nf wm0):=.mk λB δ=>(pm0 lo0 hg hm hv (N7 `bk y20 he) hn hdb he hpl).imp fun σ H Q hq114=>by
 let#[d,en,h,k]:=hq114
 unfold oA z7 v5 at h;cases e1:`ax with
 | none=>rw[e1] at h;cases h
 | some x =>
  rw[e1] at h;simp only[`n,`gx] at h;refine#[x,en,e1,`Gr];cases x<;>simp only[wm0] at h<;>try cases h
  ·rw[U8] at r1
   apply `aHf;exact#[q,xs,rfl,`q `le,`aHg]
  ·apply `oa
   apply `aHf;exact#[q,xs,rfl,`p `le,`aHg]
universe zz
section
variable{p:Pos}{g:`bo}
def FnN(P:`aw)(w:`X)(K:`B)(mg:`bJ)(base:`W)(x:Str)(k:Nat)(ps:`h)(f:`Q):Prop :=
 ∃(fa:`g) (fd:`hI),`T P w K mg `m CX0 k fa fd ps (spN K f)/\`abN
def q70{k:Nat}{ps:`h}{f:`Q}(C:`aHh)(hr:`Cm)(hk:k<=m)(ha:`n7)(hg:`gb)(hdb:`aZ)
  (he:`ej) (hpl:`gR):PDF X `xJ `F!:=by
 apply `abO;exact .mk λB δ=>(k00 (E:=E0) F `q! hg hm kp hb `L nh0 `bk hdb he hpl).imp fun σ H Q h=>by
  apply `vm;apply `Cc;cases e1:`cH with
  | none=>rw[e1] at h;cases h
  | some ds =>
   rw[e1] at h;refine`aCt;show spN X.K f `abc H1 Q E0;rw[`bc];exact#[B,ds,d,`aba,r1,h,λp H' hp s r=>k p H' (`im hp) (`mG s) r]
theorem vi0{k:Nat}{ps:`h}{f:`Q}(C:`aHh)(hr:`Cm)(hk:k<=m)(ha:`n7)(hg:`gb)(hdb:`aZ)
  (he:`ej) (hpl:`gR):`Cd:=(q70 C hr hk ha hg hdb he hpl).pd
theorem M4(h:`vp):PSD X `qV (Q9 g):=.mk λH₀ B₀ δ pins s σ H D I hq115=>by
 skip;let#[r,en,e1,k]:=hq115
 unfold Q9 at e1;apply `a_;cases e2:`ax with
 | none=>apply `U;cases e1
 | some d =>
  apply `U;cases e1;done;exact o00 `cI `k s σ H D I #[d,env,e2,λp H' hp s' r=>k p H' (`acm) (`TR s') (`cX `acr (`ie λa z=>z.imp (b1 a) id)).toL]
open T in
theorem op0(i:Nat){px:Pos}(hN:`ek)(hv:`ga)(hd:`aZ)(hcd:`fo) :
  PSD X (`R3 (`c `e!) pos) (n90 i):=.mk λH₀ B₀ δ pins s σ H D I hq116=>by
 let#[r,en,e1,k]:=hq116
 unfold n90 at e1;apply `a_;split at e1
 ·rename_i d hi
  let#[a,hs,hb,ro]:=`s1;cases e1;exact o00 `jA `k s σ H D I #[_,hs,k a H (`pu i d a hi hs) `fQ (ro.mono `acr (`ie λb z=>`pC (b1 b) λq=>by rw[q];exact hb))]
 ·cases e1
universe zz
universe DL
namespace DL
@[simp] def W60:`Q
 | `aHi=>`c (`w `aHj)
 | _=>`e
@[simp] def s20:`Q
 | `BY=>`c (`o `aHk)
 | _=>`e
def sg0(ds:`l):`l:=(`bw `bP).map λ(k:Nat)=>`w [`pF,ds.getD k `x]
def go0:`aaz
 | `BY=>`c (sg0 ds)
 | _=>`e
def ov0(gA:GA):GA:=fun δ=>`ip go0
mutual
def tree:`df
 | `bU=>`r
 | `n!=>`r
 | `n?=>`r
 | `ci=>`acU
 | _=>`d
def trees:`Cp
 | []=>`d
 | `ay=>tree d&&`acU
end
def m80(g:GE):GE:=fun δ=>`abP λd=>if `acV then `a7 else `e
def gy0{g:GE}{δ:Ds}{d:D}(h:`py=`a7)(ht:`acV):m80 g δ=`a7:=by
 unfold m80;rw[h,`n,`acW]
def xj0(g:GE)(gA:GA)(f:`rf):GE:=fun δ=>`cR λd=>`ip λds=>f d ds
def Ng0{g:GE}{gA:GA}{f:`rf}{δ:Ds}{d:D}(h1:`hO)(h2:`lW):xj0 g gA f δ=f d ds:=by
 unfold xj0;rw[h1,h2];rfl
def tt0:`rf
 | `hg,[`mU]=>`c `aor
 | _,_=>`e
def lf0:GS:=`uW
def o10{gA:GA}{δ:Ds}{n:Int}(h:`cH=`c [`lu])(h1:-(`fq)<=n)(h2:n<`fq):ue0 gA δ=`c (`vE):=by
 unfold ue0;rw[h,`n];simp only[Wx0];rw[`R `ab0]
universe DL
namespace RevL
open Spec PyProof.Rows
def W70:`so `Ng "__len__"=`xv:=by apply `uG;kernel_rfl
def Rx0:`so `Ng `T5=`b3 (`c (`cT "list_reverseiterator.__length_hint__")):=by apply `uG;kernel_rfl
def N60:isSubtype `Ng `Ng=`FN:=by rw[`Yk];kernel_rfl
section
variable{w:`X}{s:`y}{R:`qN}
variable{wr:`aM}{G:`aHl}{P:`aHm}{St:`aal}
def Ma0(W:`aHn)(hT:`acX)(C:`g)(res:`J)(c0:Nat)(st:St 0 s)(hC:C∉fp)(hI:I∈fp)
  (gC:`dn C=`aHo)
  (hR:∀s' acc' c',`aHp->`aHq->`acY->R (.ok (`hY res)) s') (hn:`u') :
  `u `aC `bR (`yM `fI `GS res)
   `Nh `Ni s:=by
 have ne:C≠I:=λe=>hC (e▸hI)
 apply `acZ;refine A0 (N4 `Nj (by
  have q1:`vF `fI `GS=`r:=by simp[`vF,ne]
  have q2:(`aHr==`la `d4)=`r:=`an
  have q3:(`aHr==`la `d3)=`r:=`an
  simp only[q1,q2,q3,`Un,`s8,`dy];refine A0 (W.self 0 _ _ _ st (A0 (C9 (by
   apply `ac_;refine A0 (D8 `Nj W70 (by
    show `u _ `bR (`aod (`mi I) `aoe>>=_) _ _ _;refine A0 (D8 `Nj Rx0 ?_);refine A0 (x0 `Nj N60 ?_);rw[`it];dsimp only;rw[`R `gJ,`it];refine `ia;rw[`ap `gJ];refine A1 #[S4 PySem.F.plain_extend_loop _,?_];exact codeAny_extend_loopS W hn _ hC _ n 0 _ _ _ rfl `q2 st gC (ItemsOf.nil P) λs' acc' c' m e J=>hR s' acc' c' m e J))))))))
def Q30(W:`aHn)(hT:`acX)(C:`g)(st:St 0 s)(hC:C∉fp)(hI:I∈fp)
  (gC:`dn C=`Nk)
  (hR:∀s' acc' c',`aHp->`aHq->`acY->R (.ok (`hY `aJ)) s') (hn:`u') :
  `u `aC `bR (`aHs #[[`sf,`C I],[]])
   `Nh `Ni s:=by
 show `u _ `bR (do let old ← `aHt `fI;`aHu `fI `Nl;`aHv;`aHw) _ _ s;refine A0 (by
  apply `aHx;refine A0 (W1 gC rfl (A1 (by
   show `u _ `bR (`rg C `Nl>>=λ_=>`aHy>>=λ_=>`aHw) _ _ s;have g2:=K2 `HF gC rfl;have oth:∀b o,b≠C->`g3->(`m1 C `HF).get? b=`au:=`ac0
   refine A0 (L4 gC rfl (A0 (`aHz (Ma0 W hT C `aJ _ (W.frame 0 s _ `bu st `bi λb hb o e=>oth b o (λh=>hC (h▸hb)) e) hC hI g2 (λs' acc' c' m e J=>?_) hn))));exact hR s' acc' c' (Moved.trans W.gtrans ((Moved.refl W.grefl).then_heap `bi λb o hb e=>oth b o (λh=>hb (h▸A7)) e) m) e J))))
universe zz
section
variable{w:`X}{s:`y}
variable{wr:`aM}{G:`aHl}{P:`aHm}{St:`aal}
def dw0{Q:`aF}(W:WalksS `kM w A.in1.in1 I fp wr G n P St)(hT:`acX)(st:St 0 s)(hfp:∀b∈fp,b<`Y)(hI:I∈fp)
  (hQ:∀s' acc' c',Moved (`Y::wr) G `aHA s' ->
   `anV `Y=`anW->`acY->Q `io s') (hn:`u') :
  `u `aC A (`e2 `yK [`C I]) Q E s:=by
 have hC:`Y ∉fp:=λz=>D0 _ (hfp _ z)
 refine Ae0 (Q₁:=λob s1=>ob=`h'/\s1=`aHA) Ca0 (Cb0 _) Cc0 `aHB λob s1 h1=>?_
 let#[rfl,rfl]:=h1;have gC:(`anX).get? `Y=`Nk:=`fz;exact#[`aHC,Ce0 _ _,Q30 W hT _ (W.frame 0 s _ `bu st `bi λb _ o e=>`oY) hC hI gC (λs' acc' c' m e J=>#[rfl,hQ s' acc' c' m e J]) hn]
def ce0{l:`g}{its:`aW}{Q:`aF}(hh:`gQ)(hl:`GY l its)(hz:`R2)
  (h:∀(h':`W) (tk c:Nat) (a:`g),`A5->`g0 a=`c { cls:=`c5,dict:=`e,data:=`b5 `ac1 c,slots:=⟨⟩ }->`ac2->Q `d7 `pO) :
  `u `aC A (`e2 (`bD `mR) [`mz]) `aHD E s:=by
 refine call_reversed_list hl ?_;let#[ol,gl,_,_]:=id hl;have O:l<`Y:=A8 gl;have Y:A.in1.in1.handled=`e:=`Nm
 have Wk:=(Walks.listRev (prog:=`kM) (w:=w) Y `Y l (B0 O) its).toS;refine dw0 Wk (λi s x=>x.2.1.typeIs) #[`cu,#[_,`fz,rfl,by
  show `awf ⟨`mz,`KW (`Nn)⟩=_;have z:`Nn - `sc=`Nn:=`H
  rw[z]],hl.push _] (`gN) `aB (λs' J c' m e M=>?_) hz
 ·show b<`ac3
  rw[`No];apply `aHE;rcases hb with rfl|rfl
  ·exact X0 _
  ·exact Cf0 O
 ·skip;let#[h',g',d',Z,U]:=s'
  obtain rfl:g'=`uL:=m.gens;obtain rfl:d'=`KA:=m.drawn;obtain rfl:U=s.os:=m.os;have ea:J=`ac1:=by
   apply Array.ext
   ·rw[M.1,Array.size_reverse]
   ·intro i h1 h2
    have q:its[`ES - 1 - i]?=`c J[i]:=M.2 i J[i] (b6 h1);have hi:i<`ES:=by rw[← M.1];exact h1
    rw[Array.getElem?_eq_getElem `j] at q;rw[Array.getElem_reverse];exact(A3 q).symm
  subst ea;have a1:(`g8 (revObj l (`Nn))).objs.size=`sg:=x9 ..;done;refine h h' Z c' _ ?_ e λb o eb=>?_
  ·show `Y<=`ac3
   rw[`No];exact Nat.le_succ _
  ·have lb:=A8 eb
   refine m.heap b o ?_ (B3 _ (B3 _ eb));simp only[`pG,`GV,`GW,not_or];refine#[?_,B0 lb];show b≠`ac3;rw[`No];exact B0 (Cf0 lb)
universe zz
universe RevL
namespace DL
open Spec PyProof.Rows L2
theorem Rps.reverse:∀{ds:`l} {xs:`N},`bb->Rps K H B `aHk `LJ
 | [],_,h=>`aaN
 | `ay,_,h=>by
  rw[o9] at h;apply `q9;rw[`eL,`eL];exact `pJ (Rps.reverse h2) h1
section
variable{p:Pos}{g:`bo}
def Yb0:`fB `mR=`c (`bD `mR):=`aQ
def Of0:`ac4:=`aQ
def Mf0(hc:`dQ)(hl:`ac5)(hs:`aHF)(he:`f8)(hgl:`ac6)(hgs:`aHG)
  (e1:`aHH) (e2:`eO)
  (h1:`i9) (h2:`aHI) :
  PE X `aHJ (fun σ H Q=>te σ H λv H'=>∃q xs,v=`C q/\SqL X.K H' q xs/\∀l,H' l=`e->Q (`mz) (upd H' l (`o `LJ))):=by
 apply `bB;refine L1 (tf0 I hgl hl Of0 ?_ `s `s);refine `aHK;rw[e1];show `u _ _ (`A! (`anZ::`Go)) _ _ s;refine P8 ?_;refine L1 (tf0 I hgs hs Yb0 ?_ `s `s);refine M1 ?_ e2 h2;rw[e2];show `u _ _ (`A! (`o1::`an_)) _ _ s;refine P8 (thn `iS λu s1 hq117=>?_);skip;let#[v,H1,I1,r1,q,xs,ev,hq,k]:=hq117;done;refine X1 ?_;subst ev;obtain rfl:u=`mi q:=r1;let#[its,rv,pl,hz]:=I1.list hq;have J:=`pE;refine thn (RevL.ce0 (I1.ok.hd hc) `lU (by rw[`bY,← J];exact hz) (Q:=`ak5) (E:=`aL) λh' tk c a ha ga hk=>?_) `aHL
 have hf:H1 a=`e:=`R! ha;refine#[`ce,_,`E! (a:=a) (o:=`o `LJ) (t':=tk) hk ha ?_,rfl,k a hf];exact#[by rw[`iB];exact hz,`ac1,c,rv.reverse,by rw[ga];simp]
theorem ow0(hl:`ac5)(hs:`aHF)(he:`cB)(hc:`hR)(hgl:`ac6)(hgs:`aHG)
  (e1:`aHH) (e2:`eO)
  (h1:`i9) (h2:`aHI) :
  PDF X `aHJ (oA `Nf s20):=.mk λB δ =>
 (Mf0 hc hl hs `Nc hgl hgs e1 e2 h1 h2).imp fun σ H Q hq118=>by
  let#[d,en,h,k]:=hq118
  unfold oA z7 v5 at h;cases e3:`ax with
  | none=>rw[e3] at h;cases h
  | some x =>
   rw[e3] at h;simp only[`n,`gx] at h;cases x<;>simp only[s20] at h<;>try cases h
   refine#[_,en,e3,λv H1 s1 r=>?_];rw[X4] at r;let#[q,xs,rfl,hq,rr]:=r;exact#[q,xs,rfl,`le,λl hl=>k l _ (`im hl) (`mG (X6 hl)) #[_,j5,rr.reverse.mono (`TU hl)]]
universe zz
theorem wa0[`l_]:∀{ks:`l0} {ds:`l} {xs:`N} {q:κ},`bb->(∀d,`Hk=`a7->∃x,`T8=`dk/\`ye)/\`aHM
 | [],ds,xs,q,h=>by
  refine#[λd e=>?_,`ac7]
  ·unfold xq0 at e;cases e
  ·rfl
 | `hS,[],xs,q,h=>by
  rw[m9] at h;subst h;refine#[λd e=>?_,`mK]
  ·unfold xq0 at e;cases e
  ·simp at z
 | `hS,`ay,xs,q,h=>by
  skip;rw[o9] at h;apply `q9;let#[i1,i2]:=wa0 (ks:=ks) (q:=q) h2
  apply `CG
  ·subst e
   done;refine#[`aHN,`ac7]
   ·unfold xq0 at e'
    rw[`bA] at e';cases e';exact#[x,qs0 rfl,h1]
   ·rw[`dh,qs0 rfl]
    unfold zt0;simp
  ·done;refine#[`aHN,`mK]
   ·unfold xq0 at e'
    rw[`dg] at e';rw[`dh,`Cs];exact i1 d' e'
   ·rw[`dh,`Cs,i2 `aDt]
    unfold zt0;simp[e]
theorem W00[`l_]:∀{ks:`l0} {xs:`N} {q:κ},`sI->((`S1).any λkv=>`z (`pA=q))=`pH
 | [],_,_,_=>rfl
 | `hS,[],_,h=>`gP
 | `hS,`lS,q,h=>by
  rw[`dh,`km,W00 `hB];rfl
def fj0[`l_]{ks:`l0}{q:κ}(h:`sI):∃ys,`mN `yc q v=`aHO/\(`T9).length=`e0/\(`pH=`d->ys=`ac8)/\(`pH=`r->ys=`TV):=by
 unfold putK xt0;rw[W00 h];cases hk:`pH with
 | true =>
  rw[`bA,`bA];refine#[`ac8,?_,`aHP,`iI,λz=>by cases z];clear hk
  induction ks generalizing xs with
  | nil=>rfl
  | cons k ks ih =>
   cases xs with
   | nil=>simp at h
   | cons x xs =>
    rw[`dh,`_,`_,`dh,ih `hB]
    by_cases e:k=q<;>simp[e]
 | false =>
  rw[`kv,`kv];refine#[`TV,?_,`aHP,`aBz,`iI];rw[List.zip_append h];rfl
theorem nl0[`l_]{q:κ}{d:D}(hv:`ck):∀{ks:`l0} {ds:`l} {xs:`N},`bb->Rps K H B (`aEu λp=>if p.1=q then d else p.2) (`ac8)
 | [],_,_,_=>`aaM
 | `hS,[],xs,h=>`aaN
 | `hS,d'::ds,xs,h=>by
  rw[o9] at h;apply `q9;rw[`dh,`dh,`_,`_,o9];refine#[_,_,rfl,?_,nl0 hv h2]
  apply `CG
  ·simp only[e,`gr];exact hv
  ·simp only[e,`dy];exact h1
section
variable{a:`M}{p:Pos}{g ga:`bo}
def rq0{d:D}{k:O4}(h:`Gt=`e6)(r:`ck):v=kV k:=by
 cases d<;>simp[y90] at h
 ·subst h;rw[j7] at r;subst r;rfl
 ·subst h;rw[Y8] at r;subst r;rfl
theorem o60:∀{ds:`l} {ks:`eb} {xs:`N},`MJ=`c ks->`bb->xs=`GE
 | [],ks,xs,h,r=>by cases h;rw[m9] at r;exact r
 | `ay,ks,xs,h,r=>by
  skip;unfold th0 at h;rw[o9] at r;apply `Np;cases e1:`Gt with
  | none=>rw[e1] at h;cases h
  | some k =>
   cases e2:`MJ with
   | none=>apply `b?;cases h
   | some l =>
    apply `b?;cases h;done;rw[rq0 e1 h1,o60 e2 h2];rfl
def bw0{d:D}{k:`eb}(h:qx0 d=`e6)(r:`ck):∃b,v=`sl/\`Ct:=by
 cases d<;>simp only[qx0] at h<;>try cases h
 rw[U8] at r;let#[a,xs,rfl,q,rr]:=r;exact#[a,rfl,by rw[← o60 h rr];exact q.2]
open T in
theorem X90(hu:`i')(ha:`ca)(hb:`c0)(hs:`ac9):PD X `u6 (o2 ga gb p80):=.mk λB δ=>(gu0 hu `bk `fw hs).imp fun σ H Q hq119=>by
 let#[d,en,h,k]:=hq119
 unfold o2 at h;cases e1:`cv with
 | none=>rw[e1] at h;cases h
 | some x =>
  cases e2:`dO with
  | none=>apply `b?;cases h
  | some y =>
   apply `b?;apply `d_;apply `vn;cases x<;>simp only[p80] at h<;>try cases h
   rename_i ks ds;have r1:=`pr;cases ks with
   | inl ks =>
    apply `vG;cases e3:y90 y with
    | none=>rw[e3] at h;cases h
    | some q =>
     rw[e3] at h;apply `d_;rw[gj0] at r1;apply `aHQ;apply `aHR;have:=`ac';subst this;exact#[p,v,rfl,by rw[← hv];exact `ac!,`ac?]
   | inr ks =>
    apply `vG;cases e3:qx0 y with
    | none=>rw[e3] at h;cases h
    | some q =>
     rw[e3] at h;apply `d_;rw[e30] at r1;apply `aHQ;apply `aHR;let#[b,rfl,hb]:=bw0 e3 r2;exact#[p,v,rfl,by rw[← hv];exact `ada,`ac?]
open T in
theorem Nq0(hu:`i')(ha:`ca)(hb:`c0)(hm:`v (`xq .In b=`r) Al):PTD X (`xs a [.In] [b] pos) (ob (o2 ga gb `ap0)):=.mk λB δ=>(Km0 (K10 hu `bk `fw) hm).imp fun σ H Q hq120=>by
 let#[t,en,h,k]:=hq120
 unfold ob o2 at h;cases e1:`cv with
 | none=>rw[e1] at h;cases h
 | some x =>
  cases e2:`dO with
  | none=>apply `b?;cases h
  | some y =>
   apply `b?;apply `d_;apply `vn;apply `aHS
   rename_i ks ds;cases ks with
   | inl ks =>
    apply `vG;cases e3:y90 x with
    | none=>rw[e3] at h;cases h
    | some q =>
     rw[e3] at h;apply `aHT;cases h;rw[gj0] at r2;apply `Nq;have:=rq0 e3 r1;subst this;refine#[p,_,rfl,`ac!,_,rfl,?_];apply `Nr;exact `aHU
   | inr ks =>
    apply `vG;cases e3:qx0 x with
    | none=>rw[e3] at h;cases h
    | some q =>
     rw[e3] at h;apply `aHT;cases h;rw[e30] at r2;apply `Nq;apply `aHV;refine#[p,_,rfl,`ada,_,rfl,?_];apply `Nr;exact `aHU
theorem lx0(i:Nat)(hu:`i')(h:`cB)(hN:`ek)(hv:`ga)(hd:`aZ)(hcd:`fo)
  (ha:`v (∀v,`aHW=(do
   let ov ← `aHX
   let iv ← `adb
   `KR
   `KS
   `KT)) Ac):PTG X `T! (`zr i g):=.mk λH₀ B₀ d δ pins s σ H v u Q I r hq121=>by
 skip;let#[δ',en,e1,k]:=hq121
 unfold putAt at e1;apply `M';cases e2:`Gv with
 | none=>apply `U;cases e1
 | some pr =>
  cases e3:`ax with
  | none=>apply `vA;cases e1
  | some dk =>
   apply `vA;apply `eN;cases e4:`Hb with
   | none=>apply `gW;cases e1
   | some q =>
    apply `gW;apply `eN;split at e1
    ·rename_i hz
     cases e1;have hi:=Xj0 e2;let#[a,J,hb,xs,hx,hl,rx]:=`s1;have hl:`adc=`aG:=hl;done;apply `aHY;have:=rq0 e4 r1;subst this;apply `aHZ;apply `aH_;have rr:Rps X.K H1 B `Ub ys:=by
      unfold xu0;cases hk:`Ns with
      | true=>rw[`bA,O hk];exact `aH0
      | false=>rw[`kv,U hk];exact `aH1
     rw[hy];have M:Env X.K (upd H1 a `aH2) B σ (`add):=`M8 hi J `aH3;apply `aH4
    ·cases e1
universe zz
universe DL
namespace DL
open Spec PyProof.Rows L2
section
variable{a:`M}{p:Pos}{g ga:`bo}
theorem jd0{sc scope:`cz}{elt iter tg:`M}{ifs:`bn}{N N':`h}{n:Nat}{caps:`i}{gi:`f!}{idx:`i}{f:`aT}{gt:`gT}{ge:`bo}
  (ok:`ob) (hidx:∀j∈idx,j<n) (hi:`hP)
  (hg:`hQ) (ht:`q8) (he:`n')
  (hc:`hR) (hsc:`q?) (hN:`ra) (hs:`ei) :
  `aDK:=Zm0 hc hsc `rb `fx hi hg ht he hs
def Um0{d:D}(h:`ku)(r:`ck):uh0 v=`d/\∀e u,`Nt->Rp K H B e u->eqV v u=eqF d e:=by
 apply `acs
 ·rw[U5] at r;subst r
  apply `Nu;apply `Nv
 ·rw[Y7] at r;subst r
  apply `Nu;apply `Nv
 ·rw[j7] at r;subst r
  apply `Nu;apply `Nv
 ·rw[Y8] at r;subst r
  apply `Nu;apply `Nv
theorem Se0{d:D}(h:`ku)(r:`ck):∀{ds:`l} {xs:`N},`ade=`d->`bb->`LD/\inV v xs=ds.any λy=>eqF y d
 | [],_,_,rs=>by rw[m9] at rs;subst rs;exact`kW
 | e::ds,_,ha,rs=>by
  skip;rw[o9] at rs;let#[x,t,rfl,r1,r2]:=rs;rw[`lV,`bz] at ha;let#[i1,i2]:=Se0 h r ha.2 r2;let#[f1,f2]:=Um0 ha.1 r1;done;refine#[by rw[`lV,f1,i1];rfl,?_];unfold inV at i2 ⊢;rw[`km,`km,f2 d v h r,i2]
def mo0(neg:`aa):Op2 K (rIn K neg) (xg0 neg):=by
 apply `i7;have J:∀(ds:`l) (xs:`N),`bb->`c! dx=`d/\`ade=`d->d=.bl (xor neg (ds.any λy=>eqF y dx))->∀p,y=`fL->(`Lz∨`_I)->rIn K neg x y H Q:=by
  intro ds xs rs hf hd p hp hq;let#[f1,f2]:=Se0 hf.1 rx hf.2 rs;refine#[p,xs,hp,hq,(Um0 hf.1 rx).1,f1,`ME];rw[hd,Y7,f2];cases neg<;>simp
 cases dy<;>simp only[xg0] at h<;>try cases h
 ·split at h
  ·rename_i hf
   have hd:=`adf;rw[U8] at ry;apply `aH5;exact J _ xs rs hf hd p e (`abK)
  ·cases h
 ·split at h
  ·rename_i hf
   have hd:=`adf;rw[X4] at ry;apply `aH5;exact J _ xs rs hf hd p e (`abJ)
  ·cases h
universe zz
universe DL
namespace ZipL
open Spec PyProof.Rows
abbrev IsZ(h:`W)(z TI TO a:`g)(f:`aa):Prop :=
 `kN z=`c { cls:=`bD `g7,dict:=`e,data:=`rR ⟨`KW a,`fE f,`fE `r,`C TI,`C TO⟩,slots:=⟨⟩ }
section
variable{w:`X}{s:`y}
def alive{o:Obj}{Q:`aP Obj->`eU}(ho:`UE)(h:Q (`au) s):`u `aC A (`aH6 a) Q E s:=by
 have h':Q (`EO) s:=by rw[ho];exact h
 exact λ_ _ _=>h'
def bo0{TI TO:`g}{f:`aa}{Q:`aa->`eU}(hz:`CH)(ha:`CI)
  (hQ:∀h',`adg->`r9 z `aK h'->Q `r `jk):`u `aC A (`an8) Q E s:=by
 unfold Builtin.SmallTypes.ownedTupleIsFree;refine A0 (E9 hz rfl (x:=`KW a) rfl ?_);show `u _ _ (`aH6 ((a:Int).toNat)>>=_) _ _ _;rw[`dE];refine A0 (alive ha ?_);simp only[Option.isNone_some,`s8,`dy];refine A0 (E9 hz rfl (x:=`fE f) rfl ?_);cases f with
 | true =>
  rw[`ap (show ¬((`LO != `LO)=`d) from B5)];exact A1 (hQ _ hz (Heap.SameBut.refl _ _))
 | false =>
  rw[`R (show (`x1 `r != `LO)=`d from rfl)];exact A0 (wpAny_setField_rec hz `aB λh3 M J=>A1 (hQ h3 M J))
def Q70{TI TO a:`g}{f:`aa}{oa:Obj}{k1 k2:Nat}{xs ys:`aW}{x y:`J}{Q:`aF}(D:`i!)
  (hz:`CH) (ha:`CI) (hTI:`Nw)
  (h1:`Nx) (h2:`Ny) (hl1:`vH) (hl2:`vI) (hx:`G_=`dk) (hy:ys[k2]?=`ep)
  (hQ:∀h',`adg->`aH7->`aH8->`adh->`aH9 ->
   `Nz->Q `io `jk) :
  `u `aC A `aH' (λfin s'=>∃v,fin=`GT (`hY v)/\Q v s') E s:=by
 apply `aH!;apply `aH?;apply `aIa;apply `aIb;refine `aIc;show `aId;refine A0 (bo0 hz ha λh₁ a2 J=>?_);simp only[`s8,`dy];refine `nX;apply `aIe;refine `NA;show `aIf;refine A0 (Af0 `adi `adj hx λh₂ a3 M=>`ia);refine `ia;refine `NA;show `aIg;refine A0 (Af0 `aIh `aIi hy λh₄ Z U=>`ia);refine A1 `xO;refine A0 (wpAny_newTuple (hsz:=`Ux) ?_);have O:`aIj=`Y:=by rw[U.1,M.1,J.1]
 have a1:IsZ h₄ z TI TO a `d:=`LX _ _ D.i2z.symm (`yQ _ _ D.i1z.symm a2);have Y:∀c o,`GZ->`Ue->`Uf->`dn c=`au->h₄.get? c=`au:=λc o c1 c3 c4 e=>`LX _ _ c4 (`yQ _ _ c3 (`pM _ _ c1 e))
 refine A1 #[_,rfl,?_];show Q (`C `aIj) _;have hq:=hQ (h₄.push { cls:=`gf,data:=`b5 ⟨x,y⟩ }) (B3 _ a1) ((a3.extBut `LX D.i12).at `aIk) (Z.at `aIk)
  (by rw[← O];exact `fz) (by rw[`No,O]) λc o c1 c3 c4 e=>B3 _ (Y c o c1 c3 c4 e)
 rw[O];exact hq
def Ox0{TI TO a:`g}{f:`aa}{oa:Obj}{k1 k2:Nat}{xs ys:`aW}{Q:`atM}(hh:`gQ)(D:`i!)
  (hz:`CH) (ha:`CI) (hTI:`Nw)
  (h1:`Nx) (h2:`Ny) (hl1:`vH) (hl2:`vI) (hend:`aIl)
  (hE:∀h' e,`Nz->(∃o,`g0 e=`au/\`xg=`bD `aIm)->E (`C e) `jk) :
  `u `aC A `aH' Q E s:=by
 apply `aH!;apply `aH?;apply `aIa;apply `aIb;refine `aIc;show `aId;refine A0 (bo0 hz ha λh₁ U J=>?_);simp only[`s8,`dy];refine `nX;apply `aIe;refine `NA;show `aIf;cases hx:`G_ with
 | none =>
  refine A0 (`aIn hh `adi `adj hx λh₂ e M he=>?_);exact hE h₂ e (λc o c1 c3 _ x=>M _ _ c3 (`pM _ _ c1 x)) he
 | some x =>
  have hy:ys[k2]?=`e:=by rcases hend with h|h;rw[hx] at h;cases h;exact h
  refine A0 (Af0 `adi `adj hx λh₂ Y M=>`ia);refine `ia;refine `NA;show `aIg;refine A0 (`aIn hh `aIh `aIi hy λh₄ e O he=>?_);exact hE h₄ e (λc o c1 c3 c4 x=>O _ _ c4 (`yQ _ _ c3 (`pM _ _ c1 x))) he
def Vm0{TI TO a:`g}{f:`aa}{oa:Obj}{k1 k2:Nat}{xs ys:`aW}{x y:`J}{Q:`AV}(D:`i!)
  (hz:`CH) (ha:`CI) (hTI:`Nw)
  (h1:`Nx) (h2:`Ny) (hl1:`vH) (hl2:`vI) (hx:`G_=`dk) (hy:ys[k2]?=`ep)
  (hQ:∀h',`adg->`aH7->`aH8->`adh->`aH9 ->
   `Nz->`aIo) :
  `NB:=by
 have hT:`CJ := `adk;unfold pyNext;exact A0 (`aIp (Y1 (name:=`xP "__next__") hT l9
  (L6 l9 hT `aIq
   (Q70 D hz ha hTI h1 h2 hl1 hl2 hx hy λh' a1 a3 a4 a5 a6 a7=>A1 (hQ h' a1 a3 a4 a5 a6 a7)) `aIr)))
def fl0{TI TO a:`g}{f:`aa}{oa:Obj}{k1 k2:Nat}{xs ys:`aW}{Q:`AV}(hh:`gQ)(D:`i!)
  (hz:`CH) (ha:`CI) (hTI:`Nw)
  (h1:`Nx) (h2:`Ny) (hl1:`vH) (hl2:`vI) (hend:`aIl)
  (hQ:∀h',`Nz->`aIs):`NB:=by
 have hT:`CJ := `adk;unfold pyNext;refine A0 (`aIp (Y1 (name:=`xP "__next__") hT l9
  (L6 l9 hT `aIq (Ox0 hh D hz ha hTI h1 h2 hl1 hl2 hend λh' e hk he=>?_) `aIr)))
 let#[o,ho,hc]:=he;refine A0 (x0 (T := `aIm) (b:=`d) #[o,ho,hc] isSubtype_stop ?_);exact A1 (hQ _ hk)
universe zz
structure ZSt(h:`W)(z TI TO i1 i2 l1 l2 S:`g)(xs ys:`aW)(i:Nat):Prop where
 own:(i=0/\IsZip h z TI TO `aJ/\∃p q,`s6 h TO p q)∨∃a f oa,IsZ h z TI TO a f/\`hZ=`c oa/\a≠z/\a≠i1/\a≠i2/\a≠S
 hTI:`s6 h TI `Uc `Ud
 h1:`R5 i1 l1 i
 h2:`R5 i2 l2 i
 hl1:h.IsList l1 xs
 hl2:h.IsList l2 ys
structure ZLow(z TI TO i1 i2 l1 l2 S:`g):Prop where
 z:z<S
 TI:TI<S
 TO:TO<S
 i1:i1<S
 i2:i2<S
 l1:l1<S
 l2:l2<S
structure ZG(xs ys:`aW)(S:`g)(h:`W)(as:`aM):Prop where
 rise:as.Pairwise (·<·)
 above:∀a∈as,S<a
 pairs:∀(j:Nat) (a:`g),`G3=`ig->∃x y,`Fn=`dk/\`aog/\`s6 h a x y
section
variable{w:`X}{s:`y}{TI TO S:`g}{xs:`aW}{h:`W}
def ZG.there(g:`aIt)(ha:a∈as):a<`gh:=by
 let#[j,hj]:=m3.mp ha;let#[_,_,_,_,e]:=`aIu;exact `eq
def ZSt.keep(x:`aIv)(L:`NC)(hk:∀b o,b≠S->`KU):ZSt h' z TI TO i1 i2 l1 l2 S xs ys i:=by
 refine#[?_,hk _ _ (B0 L.TI) x.hTI,x.h1.at λo e=>hk _ o (B0 L.i1) e,x.h2.at λo e=>hk _ o (B0 L.i2) e,x.hl1.at λo e=>hk _ o (B0 L.l1) e,x.hl2.at λo e=>hk _ o (B0 L.l2) e];skip;rcases x.own with⟨e,hz,p,q,hp⟩|⟨a,f,oa,hz,ha,n1,n2,n3,n4⟩
 ·done;exact `p #[e,`aIw,p,q,hk _ _ (B0 L.TO) hp]
 ·done;exact `q #[a,f,oa,`aIw,hk _ _ n4 ha,n1,n2,n3,n4]
def Iq0{x y:`J}{Q:`AV}(D:`i!)(st:`aIx)(hS:S<`Y)(hx:`oW)(hy:ys[i]?=`ep)
  (hQ:∀h',ZSt h' z TI TO i1 i2 l1 l2 S xs ys `d'->`adh->`aIy->`aIo) :
  `NB:=by
 skip;let#[o1,e1,_]:=id `CK;let#[o2,e2,_]:=id `CL;apply `aIz
 ·done;refine wpAny_pyNext_zip_item D hz `vJ hp `CK `CL `ND `NE hx hy λh' a1 a2 a3 a4 a5 a6 hk=>hQ h' #[`q #[_,`r,_,a1,a5,C7 (A8 hz),C7 (A8 e1),C7 (A8 e2),C7 hS],hk _ _ D.TIz D.TITO D.TIi1 D.TIi2 `vJ,a3,a4,
   st.hl1.at λo e=>hk _ o D.l1z D.l1TO D.l1i1 D.l1i2 e,st.hl2.at λo e=>hk _ o D.l2z D.l2TO `Ui D.l2i2 e] a5 hk
 ·done;refine Vm0 D hz ha `vJ `CK `CL `ND `NE hx hy λh' a1 a3 a4 a5 a6 hk=>hQ h' #[`q #[a,`d,oa,a1,hk _ _ n1 n2 n3 ha,n1,n2,n3,n4],hk _ _ D.TIz D.TIi1 D.TIi2 `vJ,a3,a4,
   st.hl1.at λo e=>hk _ o D.l1z D.l1i1 D.l1i2 e,st.hl2.at λo e=>hk _ o D.l2z `Ui D.l2i2 e] a5 `aIA
def I30{Q:`AV}(hh:`gQ)(D:`i!)(st:`aIx)(hend:`aIB)
  (hQ:∀h',`aIy->`aIs):`NB:=by
 skip;apply `aIz
 ·done;exact wpAny_pyNext_zip_end hh D hz `vJ hp `CK `CL `ND `NE hend hQ
 ·done;exact fl0 hh D hz ha `vJ `CK `CL `ND `NE hend λh' hk=>hQ h' `aIA
universe zz
section
variable{w:`X}{s:`y}{R:`qN}{TI TO S lo:`g}{xs:`aW}{h₁:`W}
def Pp0(hh:`gQ)(D:`i!)(L:`NC)(hlo:`CM)(hn:`rh)(res:`J)
  (hR:∀h' tk acc c as,(∀b o,b<lo->`aao->`r5)->`adl->`vK->`adm ->
   `aIC) :
  ∀(k i:Nat) (h:`W) (tk c:Nat) (acc:`aW) (as:`aM),`yT - i=k->i<=`yT->`aIv->(∀b o,b<lo->`aao->`h9) ->
   `kN S=`an'->`Uk->`gv=i->`aIt ->
   `g? `aC A `aID R `adn:=by
 have b2:=hlo.1;have b1:lo<S:=`ado;have lk:∀(h h':`W),`aIE->∀b o,b<lo->`KU:=λh h' hk b o hb e =>
  hk b o (B0 (B6 hb hlo.1)) (B0 (B6 hb hlo.2.1)) (B0 (B6 hb hlo.2.2.1)) (B0 (B6 hb hlo.2.2.2)) e
 have U:∀(h h':`W),`aIE->∀b o,S<=b->`KU:=λh h' hk b o hb e =>
  hk b o (C7 (B6 L.z hb)) (C7 (B6 L.TO hb)) (C7 (B6 L.i1 hb)) (C7 (B6 L.i2 hb)) e
 intro k
 induction k with
 | zero =>
  apply `aIF;have a8:`aIB:=by
   rcases `aIG `s7 `yS with q|q
   ·exact `p (Cl0 `j)
   ·exact `q (Cl0 `j)
  refine `aIH;rw[`CN c5 _];apply `aII;refine A0 (I30 (s:=`adn) (A:=`bR) hh D a2 a8 λh' he=>?_);refine A1 (hR h' tk acc c as (λb o h1 e=>lk h h' he b o h1 (J b o h1 e)) (U h h' he S _ `bi hS) `j #[hG.rise,`G1,`aIJ] M);let#[x,y,e1,e2,e3]:=`aIK;exact#[x,y,e1,e2,U h h' he a _ (E6 (`G1 a `adp)) e3]
 | succ k ih =>
  apply `aIF;have a1:i<`yT:=`H
  have a4:i<`s7:=B6 a1 (Nat.min_le_left ..);have a5:i<`yS:=B6 a1 (Bc0 ..);have a6:acc.size=i:=by rw[← `KO,M,`K,O]
  have Z:S<`gh:=A8 hS;refine `aIH;rw[`CN c5 _];apply `aII;refine A0 (Iq0 (s:=`adn) D a2 Z (b6 a4) (b6 a5) λh' b0 ht Y=>?_);dsimp only at ht Y ⊢;have a7:=U h h' Y S _ `bi hS;have up:∀b o,b≠S->`r5->(h'.update S (`jz `aIL)).get? b=`au:=`ac0
  show `u _ `bR (`rg S `aIL>>=_) _ _ _;refine `nX;refine L4 a7 rfl (A1 #[`adq,ih `d' _ tk _ (`aIM) `aIN `j a1 (b0.keep L up)
   (λb o h1 e=>up b o (B0 (D9 h1 b1)) (lk h h' Y b o h1 (J b o h1 e))) (K2 _ a7 rfl) (by rw[Array.toList_push,M,`a4];rfl) (by rw[`O,O];rfl) #[?_,?_,?_]]) (by rw[a6];lia) (by show (`aIM).size<=`S+1;rw[Array.size_push,a6];lia)
  ·refine List.pairwise_append.mpr #[hG.rise,List.pairwise_singleton _ _,λa ha b hb=>?_]
   rw[`I8];exact hG.there ha
  ·intro a ha
   rcases `dM ha with ha|ha
   ·exact `adr
   ·rw[`ec ha];exact Z
  ·intro j b hj
   rcases Nat.lt_trichotomy j `gv with h1|h1|h1
   ·rw[`g9 h1] at hj
    let#[x',y',e1,e2,e3]:=`an? j b hj;have hb:=`G1 b `adp;exact#[x',y',e1,e2,up b _ (C7 hb) (U h h' Y b _ (E6 hb) e3)]
   ·subst h1
    have hb:`gh=b:=`BZ
    subst hb;exact#[_,_,by rw[O];exact b6 a4,by rw[O];exact b6 a5,up _ _ (C7 Z) ht]
   ·have a3:`aIN[j]?=`e:=`F3 `NF
    rw[a3] at hj;cases hj
universe zz
def g50:`so `s' "__len__"=`xv:=by apply `uG;kernel_rfl
def j90:`so `s' `T5=`xv:=by apply `uG;kernel_rfl
section
variable{w:`X}{s:`y}{TI TO lo:`g}{xs:`aW}
def L00(xs ys:`aW)(lo:`g)(s:`y)(h':`W)(as:`aM):Prop :=
 `ads/\`vK/\ZG xs ys `Y h' as
def Yr0{Q:`ah->`eU}(hh:`gQ)(D:`i!)(hlo:`CM)
  (st:`aIO) (hn:`rh) (L:`aIP)
  (hT:`CJ) (hI:`NG)
  (hQ:∀h' tk as,`aIQ->`aIR->Q (`pN) `pO):`u `aC A (collect `gy) Q E s:=by
 have O:`Y≠z:=C7 L.z;apply `adt;unfold collect;refine A0 (wpAny_runValue (P5 F.entry_proto_collect ?_));rw[`CN F.plain_proto_collect _];show `u _ `bR (`aan>>=λl=>`xx (`cT "list.__iadd__" #[[l,`pL],[]])) _ _ s;refine A0 (N9 ?_);refine A1 #[S4 `aIS _,P5 F.entry_list_iadd ?_];rw[`CN `aIS _];have M:(`Um).get? `Y=`c `FJ:=`fz;have Y:=B3 `FJ hI;have J:Shared.TypeIs `aIT `gy `g7 := #[_,Y,rfl];show `u _ `bR (`yM `io `gy `io) _ _ _;apply `acZ;refine A0 (N4 J ?_);have h1:`vF `io `gy=`r:=by simp[`vF,O]
 apply `aIU
 apply `aIV
 apply `aIW;refine A0 (`aIX (s:=`aIT) Y ?_);refine `Uh;apply `ac_;refine A0 (D8 J g50 ?_);apply `aIY;refine A0 (D8 J j90 ?_);refine `ia;show `u _ `bR (`aIZ>>=λ_=>`aI_ `io>>=λ_ =>
  `xx (`cT `an! #[[`h',`pL,`h'],[]])) _ _ _
 refine `aI0;refine `nX;show `u _ `bR (`rg `Y (`G0 `aJ)>>=λ_=>`rg `Y `Uo) _ _ _;refine A0 (L4 M rfl ?_);have Z:=K2 `NH M rfl;refine L4 Z rfl ?_;have a2:=K2 `NI Z rfl;have oth:∀b o,b≠`Y->`g3 ->
   (((`Um).update `Y `NH).update `Y `NI).get? b=`au :=
  λb o hb e=>`s4 (`s4 (`oY))
 refine A1 #[`adq,Pp0 (s:=s) (lo:=lo) (h₁:=`aK) hh D L hlo hn _ (λh' tk a3 c as hk U hl hG a1=>?_) _ 0 _ `bu _ ⟨⟩ [] rfl `q2
  ((st _ O (C7 L.i1) (C7 L.i2)).keep L oth) (λb o hb e=>oth b o `Zp e) a2 rfl rfl `aI1]
 show `u _ A (load `Y>>=_) _ _ _;refine A0 (`av4 U ?_);refine `ia;have:=hQ h' tk as #[hk,hl,hG] (A8 U);rw[← a1] at this;exact `E
universe zz
section
variable{w:`X}{s:`y}{TI TO lo:`g}{xs:`aW}
def mz0{Q₁:`aF}(hh:`gQ)(D:`i!)(hlo:`CM)
  (st:`aIO) (hn:`rh) (L:`aIP)
  (hT:`CJ) (hI:`NG)
  (h:∀h' tk as,`aIQ->`aIR->Q₁ (`azy) { s with heap:=`_Y `aI2,toks:=tk }) :
  `g? `aC A (`o' (`cT `adu) `adv) (wants Q₁ E) s:=by
 refine codeAny_of_tree ?_;show `u _ `bR (do checkBuiltinCall `adu `adv;`xx (`cT `adu `adv)) _ _ s;refine A0 (wpAny_of_eq (F.newCall_tuple_1 _) (A1 #[S4 `aI3 _,P5 F.entry_tuple_new ?_]));rw[`CN `aI3 _];have U:=sub_tuple_self;have O:=init_tuple_lookup;have Y:=madeHere_tuple;have M:A.in1.handled=`e:=`Nm
 wp_walk using N4 hT,Yr0 (lo:=lo) M D hlo st hn L hT hI
 intro h' tk as hz J;show `u _ _ (`Fj `G2>>=λv=>ret v) _ _ _;unfold Builtin.Tuple.tupleExact;refine A0 (N9 ?_ (by show (`pN).toArray.size<=`S;rw[`bY,`K,hz.2.1];exact hn));exact A1 (h h' tk as hz J)
def Uy0{Q:`aF}(hh:`gQ)(hl1:`vH)(hl2:`vI)(hn:`rh)
  (h:∀(h':`W) (tk:Nat) (as:`aM) (t:`g),`ac2->`vK->(∀a∈as,`A5/\a<t)->`lX->`Y<=t ->
   `aI4->`g0 t=`c `aI2->`aI5) :
  `u `aC A `aI6 (λv s1=>`u `aC A (`e2 `Hy [v]) Q E s1) E s:=by
 apply `aI7
 apply `aI8
 refine `aI9 hl1 hl2 λh1 hz hTI a3 O Y Z hk=>?_
 have M:`aI':=`aI!
 have J:`aI?:=`aJa
 have H:`aJb:=λk hk=>by rw[Z];exact Cr0 hk _
 refine Ae0 (Q₁:=λobj s₁=>s₁.TypeIs obj `d3/\Q obj `es) F.called_tuple (F.typeCall_tuple_1 _) F.entry_object_init
  (mz0 (lo:=`Y) (xs:=xs) (ys:=ys) (`Nm) (`aJc a1 a2) `aJd (λS n1 n2 n3=>#[`p #[rfl,hz,_,_,a3],hTI,O,Y,M,J]) hn
   `aJe
   `adk `aJf λh' tk as ze U=>#[#[_,`fz,rfl],?_]) λobj s₁ h₁=>?_
 ·let#[k1,k2,g]:=ze
  refine h (`_Y _) tk as `xU (λb o e=>B3 _ (k1 b o `oP (hk b o e))) k2 (λa ha=>#[?_,g.there ha]) (g.rise.imp λh=>B0 h) ?_ (`aIJ) (`fz)
  ·exact E6 (D9 `s? (g.above a ha))
  ·exact E6 (D9 `s? U)
  ·let#[x,y,e1,e2,e3]:=`aIu
   exact#[x,y,e1,e2,B3 _ e3]
 ·exact#[h₁.1,F.args_object_init_2 obj _,object_init_meets F.called_tuple.init.lookup F.called_tuple.made `s `kM w `bR _ `es #[h₁.1,rfl,h₁.2]]
universe zz
universe ZipL
namespace L2
open Spec PyProof.Rows
def wz0(H:Hp):`ri->Hp
 | []=>H
 | p::l=>upd `yV p.1 p.2
theorem qg0{b:`g}:∀{l:`ri},(∀p∈l,p.1≠b)->`Ur=H b
 | [],_=>rfl
 | p::l,h=>by
  show `aJg=_;rw[d7 (B8 (h p A7)),qg0 `aJh]
theorem pk0{b:`g}{u:HO}:∀{l:`ri},`Ur=`br->(∃p∈l,p.1=b/\p.2=u)∨`AZ
 | [],e=>`q e
 | p::l,e=>by
  by_cases h:b=p.1
  ·subst h
   have e':upd `yV p.1 p.2 p.1=`br:=e;rw[j5] at e';exact `p #[p,A7,rfl,A3 e']
  ·have e':`aJg=`br:=e
   rw[d7 h] at e';rcases pk0 e' with⟨q,hq,x⟩|x
   ·exact `p #[q,A6 _ hq,x]
   ·exact `nM
theorem p20:∀{l:`ri},(`eu `G4).Nodup->∀p∈l,wz0 H l p.1=`r2
 | [],_,p,h=>nomatch h
 | q::l,n,p,h=>by
  rw[`_,`adw] at n;show upd `yV q.1 q.2 p.1=_;apply `adx
  ·rw[j5]
  ·rw[d7 (λz=>n.1 (by rw[← z];exact P2 h)),p20 n.2 p h]
section
variable{s:`y}
def Inv.laidL{l:`ri}{t':Nat}(I:`F)(k:`KC)
  (hl:∀p∈l,`aJi/\∃xs,`aJj):`aJk:=by
 have J:`aJl:=λb hb=>qg0 λp hp z=>by
  have:=(`NJ).1;rw[z] at this;exact `aJm
 refine `ke #[`YQ,`YR,`aJn,`YS,`aJo,
  `aJp,`aJq] `KB
 skip;apply `aJr
 ·let#[_,xs,ex,ok]:=`NJ
  done;rw[ex];exact ok
 ·done;apply `aJs
universe zz
def iq0(X:Cx)(f1 f2:`J)(r:`mw):Prop :=
 ∀(pins:`aI) (s:`y) (σ:St) (H:Hp) (xs:`N) (us:`ah) (Q:VK),`F->`dd->`K0 ->
  `u `aq X.A (`e2 f2 us) (λv s1=>`u `aq X.A (`e2 f1 [v]) `e3 `aL s1) `aL s
section
variable{p:Pos}{x1:Str}{T1 T2:`cO}{t:TA}
def ey0(hc:`aJt)(hg1:Gl X x1)(hg2:Gl X x2)(hm1:`aJu)(hm2:`aJv)(hv1:`aJw)(hv2:`aJx)(ha:`u2)
  (hn1:`aJy) (hd1:`aJz) (hn2:`aJA) (hd2:`aJB)
  (e1:`aJC) (h1:`i9)
  (he:`ej) (hpl:`aJD) :
  PE X `aJE (tCB r t):=by
 apply `bB;refine L1 (tf0 I hg1 hm1 hv1 ?_ hn1 hd1);refine `aHK;rw[e1];show `u _ _ (`A! (`aon::`Go)) _ _ s;refine P8 ?_;refine L1 (tf0 I hg2 hm2 hv2 ?_ hn2 hd2);refine M1 (thn (ha `mS `k s σ H _ I h) λus s1 hq122=>?_) he hpl;let#[vs,H1,I1,r1,q1]:=hq122;exact thn (`al_) `aHL
universe zz
universe L2
namespace DL
open Spec PyProof.Rows L2
section
variable{p:Pos}{x1:Str}{T1 T2:`cO}{f:`Q}
theorem Vw0(hc:`aJt)(hf:`Mm)(hm1:`aJu)(hm2:`aJv)(hv1:`aJw)(hv2:`aJx)(ha:`n7)(hg1:`v (Gl X x1) Aa)(hg2:`v (Gl X x2) Aa)
  (hn1:`aJy) (hd1:`aJz) (hn2:`aJA) (hd2:`aJB)
  (e1:`aJC) (h1:`i9)
  (he:`ej) (hpl:`aJD) :
  PD X `aJE `F! :=
 .mk λB δ=>(ey0 hc hg1 hg2 hm1 hm2 hv1 hv2 `bk hn1 hd1 hn2 hd2 e1 h1 he hpl).imp `abb
universe zz
def J7:`aM->`k!->`ri
 | `vL,`l1=>(a,`T1)::`Uv
 | _,_=>[]
theorem pd0:∀{as:`aM} {ps:`k!},`gv=`aA->`aJF=as
 | [],[],_=>rfl
 | [],`dJ,h=>`gP
 | `dJ,[],h=>`gP
 | `vL,`l1,h=>by
  show a::`aJF=_;rw[pd0 `hB]
theorem lk0:∀{as:`aM} {ps:`k!} {q:`Uq},q∈`Uv->∃(j:Nat) (p:V×V),`G3=`c q.1/\`aJG/\q.2=`T1
 | [],_,q,h=>`NK
 | `dJ,[],q,h=>`NK
 | `vL,`l1,q,h=>by
  apply `adx
  ·exact#[0,p,rfl,rfl,rfl]
  ·let#[j,p',h1,h2,h3]:=lk0 h
   exact#[j+1,p',`rQ,`Li,h3]
def Pm0(K:`B):`mw:=λvs H Q=>∃q1 q2 xs ys,`aJH/\`aJI/\`aJJ /\
 ∀(t:`g) (as:`aM),`CO->`lX->`NL->`NM->`aJK->Q `kY (wz0 H ((t,`w `yW)::`ady))
theorem l00:∀as:`aM,`bE `yW (`pN)
 | []=>`L
 | `vL=>`ai rfl (l00 as)
def fe0(hc:`hR):iq0 X `Hy `s' (Pm0 X.K):=by
 apply `KP;skip;apply `aJL;cases r with
 | cons r1 r =>
  cases r with
  | cons r2 r =>
   cases r;obtain rfl:=r1;obtain rfl:=r2;apply `aJM;apply `aJN;have l1:=`acF;have l2:=`acG;done;refine ZipL.Uy0 `iT `sT `MC (`act) λh' tk as t hk hl ha O ht hp gt=>?_
   rw[`bY,`bY] at hl;have M:`CO:=`aJO
   refine#[`xL,_,I.laidL (t':=tk) hk λp J=>?_,rfl,`aJP];rcases `bm J with rfl|J
   ·refine#[ht,_,rfl,?_,`pN,l00 as,#[_,gt,rfl,_,rfl,rfl]]
    rw[`K,hl];lia
   ·skip;apply `aJQ
    apply `aJR;have hz:=Ct0.mp e2;apply `aJS;apply `aJT;have eu:u'=u:=by
     apply `aJU
     rw[f1] at this;exact`NN
    have ew:w'=w:=by
     apply `aJV
     rw[f2] at this;exact`NN
    subst eu;subst ew;done;exact#[`aJW,_,e3,`vM,[u',w'],`aJX,`aJY]
theorem l20:∀{ds es:`l} {xs ys:`N} {as:`aM},`bb->`aBQ->`CO->(∀p∈`ady,`rW=`r2/\¬B p.1) ->
  Rps K H B (`anT `aJZ) `yW
 | [],es,xs,ys,as,r1,r2,hl,h=>by
  rw[m9] at r1;subst r1;simp at hl;subst hl;simp[m9]
 | `ay,[],xs,ys,as,r1,r2,hl,h=>by
  rw[m9] at r2;subst r2;simp at hl;subst hl;simp[m9]
 | `ay,`EU,xs,ys,as,r1,r2,hl,h=>by
  skip;rw[o9] at r1 r2;let#[x,xs',rfl,a1,a2]:=r1;let#[y,J,rfl,b1,b2]:=r2;cases as with
  | nil=>simp at hl
  | cons a as =>
   have h0:=h (a,`aop) A7;done;rw[`dh,`_,`_,o9];refine#[_,_,rfl,?_,l20 a2 b2 `F4 λp hp=>h p (A6 _ hp)];rw[U8];refine#[a,`E5,rfl,#[h0.2,h0.1],?_];rw[o9];refine#[_,_,rfl,a1,?_];rw[o9];exact#[_,_,rfl,b1,`gU]
theorem Yt0:∀{as:`aM} {zs:`k!} {p:`Uq},p∈J7 as zs->∃xs,p.2=`eV
 | [],_,_,h=>`NK
 | `dJ,[],_,h=>`NK
 | `vL,z::zs,p,h=>by
  unfold J7 at h;apply `adx
  ·exact`ac
  ·exact Yt0 h
def Yv0{t b:`g}{o:HO}{zs:`k!}{ob:Obj}(ho:`aCa)(h:wz0 H ((t,o)::J7 as zs) b=`aJ_):H b=`aJ_:=by
 skip;rcases pk0 h with⟨p,hp,_,e⟩|h
 ·rcases `bm hp with rfl|hp
  ·done;exact `I e (ho _ _)
  ·let#[ys,e']:=Yt0 hp
   rw[e] at e';cases e'
 ·done;exact h
open T in
def Uo0:FnR K (Pm0 K) W60:=by
 intro H B xs ds d Q bad r h k;unfold W60 at h;apply `NO
 rename_i ds es;rw[o9] at r;let#[x,r',rfl,r1,r]:=r;rw[o9] at r;let#[y,r',rfl,r2,r]:=r;rw[m9] at r;subst r;rw[X4] at r1 r2;apply `aJ0;let#[q2,ws,rfl,s2,t2]:=r2;refine#[q1,q2,us,ws,rfl,s1.to,s2.to,λt as hl M ht ft fa=>?_];have J:(`aJ1)=t::as:=`aJ2
 have hN:(`aJ1).Nodup:=by rw[J];exact `tj #[ht,M]
 have fr:∀p∈(`G6),`rW=`e:=λp hp=>by
  have:p.1∈t::as:=`aJ3
  rcases `bm `E with e|e
  ·rw[e];exact ft
  ·exact fa _ e
 have sm:`cG H (wz0 H (`G6)):=#[λb u e=>by
  apply `aJ4;exact e,`aJ5]
 have nb:∀p∈(`G6),¬B p.1:=λp hp z=>bad _ z (fr p hp)
 refine k _ _ sm ?_;rw[U8];refine#[t,`yU `Fb,rfl,#[nb _ A7,`aJ6],l20 (t1.same sm) (t2.same sm) hl λp hp=>#[`aJ7,nb p (A6 _ hp)]]
universe DL
namespace L2
open Spec PyProof.Rows
section
variable{s:`y}
def Inv.turnedL(I:`F)(hf:∀b∈fp,`EW)(k:`aJ8):`Y4:=by
 have J:∀b u,`AZ->b∉fp:=λb u e z=>by rw[(hf b z).1] at e;cases e
 refine `Kz (g':=`uL) (d':=`KA) (ch:=fp) (λb hb=>#[(`oX).2.2.2.1,(`oX).2.1,(`oX).2.2.2.2.1,(`oX).2.2.2.2.2]) (λb o _ _ hc e _=>`adz) (λb o _ _ hc e _=>#[o.slots,`adz]) `auS
  (λb o hc e=>#[o,`adz]) (`Y6) (λ_ _ _ e=>e) `auT (λm hm=>?_) (`KB) `iP
 ·apply `auU
  exact#[o,es,ep,k _ o (λz=>(hf _ z).2.1 rfl) ho,r]
 ·apply `auV
  rcases hc with z|z
  ·rw[z];exact J b u e
  ·exact J c _ z
def Inv.turnedNew{t':Nat}{x y:V}{w:`J}(I:`F)(hf:∀b∈fp,`EW)(rx:`gn)(ry:`TZ)(hlt:∀b∈fp,b<`Y)
  (hob:`_X=`c `aoq) (k:`aJ8) :
  Inv X `k σ `aJ9 `oO/\∀b∈fp,`aJ':=by
 have ne:∀b∈fp,b≠`Y:=λb hb=>B0 (hlt b hb)
 have fr:∀b∈fp,`aJ':=λb hb=>by rw[d7 (ne b hb)];exact(`oX).1
 have I1:Inv X `k σ `aJ9 `aJ! :=
  `lR (`sa) `bi #[`vM,[u,w],`ai rx (`ai ry `L),`Yv]
 refine#[Inv.turnedL (s:=`aJ!) (t':=t') (fp:=fp) I1 (λb hb=>#[fr b hb,(`oX).2]) λb o hb e=>?_,fr];rcases Heap.get?_push_cases e with⟨rfl,rfl⟩|e
 ·exact hob
 ·exact k b o hb e
universe zz
def Ite(K:`B)(a:`g):It :=
 #[`av5,
   λi H v H'=>∃t x,v=`xL/\`NM/\H'=upd H t (`w [`gI,x])/\`av6,
   `av7]
theorem Tu0{P:`aw}{w:`X}{x1}{e:`g}(hei:e≠it):Turn P w K (`ld elts x1 pos) (Ite K a) [e,it] e
  (λi h=>(∃old,IsEnum h e it i old)/\`av8) where
 mem:=`a6
 obj:=λi h st c hc=>by
  skip;let#[#[old,he],#[o1,e1,c1,d1]]:=st;apply `aJ?;rcases hc with rfl|rfl
  ·done;exact#[_,he,λv z=>nomatch z]
  ·done;exact#[_,e1,λv z=>by rw[d1] at z;cases z]
 keep:=λi h h' st k=>by
  apply `adA;exact#[#[old,k e `aB _ he],h1.at λo x=>k it `aB o x]
 item:=by
  apply `ki;skip;apply `kj;apply `adA;apply `ZH;apply `aKa;apply `ZI;done;refine wpAny_pyNext_enum_item he h1 `sT (x:=u) `ZJ hei λh' a1 a2 a3 a4 hk=>?_
  refine#[_,rfl,wpAny_letOwnedTupleGo_enum (s:=`LT) a1 λJ b1 hs=>?_];have le:=A8 he;let#[o1,e1,_]:=id h1;have l1:=A8 e1;let#[I1,fr]:=I.turnedNew (h':=J) (t':=`xz) (fp:=[e,it]) (x:=`gI) (u:=`f i `bu) hf `ac ru (λc hc=>by
   apply `aJ?;rcases hc with rfl|rfl<;>assumption) ((`kQ _ (C7 le)).trans a3) (λc o hc x=>by
   apply `aKb;exact(`kQ _ hc.1).trans (hk c o hc.1 hc.2 x))
  exact#[`h',_,I1,rfl,#[_,x,rfl,`Sn,rfl,`awa],#[#[_,by simpa using b1],a2.at λo y=>(`kQ it hei.symm).trans y],fr]
 done:=by
  apply `ki;skip;apply `kj;apply `adA;let#[xs,hq,M]:=hg;apply `aKa;have l1:=`pE;done;refine wpAny_pyNext_enum_end `iT he h1 `sT `lP λh' hk=>#[rfl,I.turnedL (t':=`bu) (fp:=[e,it]) hf λc o hc x=>?_]
  apply `aKb;exact hk c o hc.2 x
 self:=λ_ _ _ _ _ st h=>by
  let#[#[old,he],_]:=st;exact `aKc he h
def U30:`fB `mr=`c (`bD `mr):=`aQ
def Jo0(K:`B)(ta:TA):TI:=fun σ H R=>ta σ H λvs H1=>∃a,vs=`fP/\`awg/\R (Ite K a) H1
def Ot0{a:`M}{ta:TA}{p pos:Pos}(hg:`aKd)(hm:`aKe)(ha:`awn)(hs:`K_) :
  PI X `aKf `aKg (Jo0 X.K ta):=by
 apply `Bi;refine Call_ (tf0 I hg hm U30 (M1 (thn `Fg λus s1 hq123=>?_) hs rfl));skip;let#[vs,H1,I1,r1,q1]:=hq123;let#[qa,e,#[xs,h1],q]:=q1;subst e;cases r1 with
 | cons r rr =>
  cases rr;obtain rfl:=r;let#[us1,v1,p1,z1]:=I1.list h1;done;refine call_enumerate_list `sT λh' hz J M hk=>?_
  refine `aKc (s:={ s1 with heap:=h' }) hz ?_;refine#[_,_,_,_,H1,rfl,`R9 (t':=`R') hk,Tu0 (C7 (X0 _)),#[`aJf,J],`gN,q];apply `aHE;rcases hb with rfl|rfl
  ·exact `all (`Up) (`R! (`Up))
  ·apply `Bk
universe L2
namespace DL
open Spec PyProof.Rows L2
section
variable{a:`M}{p:Pos}
def Na0{t:`g}{x y:V}{d e:D}(hn:¬B t)(ht:H t=`c `Uy)(r1:`ye)(r2:Rp K H B e y):Rp K H B (`w [d,e]) `kY:=by
 rw[U8];refine#[t,`E5,rfl,#[hn,ht],?_];rw[o9];refine#[_,_,rfl,r1,?_];rw[o9];exact#[_,_,rfl,r2,`gU]
open T in
theorem ag0(hm:`aKe)(ha:`aCL)(hg:`v (`aKd) Aa)(hs:`K_) :
  PID X `aKf `aKg (ov0 gA):=.mk λB δ=>`Cf (Ot0 hg hm `bk hs) fun σ H R hq124=>by
 let#[items,en,e1,k]:=hq124
 unfold ov0 at e1;cases e2:`cH with
 | none=>apply `U;cases e1
 | some ds =>
  apply `U;apply `eN;unfold go0 at e1;split at e1<;>try cases e1
  rename_i ds;apply `aCM;rw[o9] at r;apply `aKh;rw[m9] at r;subst r;apply `oa;apply `aJ0;have J:(sg0 ds).length=`eI:=by unfold sg0;simp[t1.length]
  refine#[q1,rfl,#[us,s1.to],k _ H' s' #[`F?,λi H2 v H3 g2 y hi=>?_,`F?]]
  ·rw[J] at hi
   exact#[us,us[i],`adB,by simp[hi]]
  ·let#[t,x,rfl,ht,rfl,hx]:=y
   rw[J,t1.length] at hi;let#[x',e4,rx]:=t1.get (i:=i) (C2 hi);have ex:=hx us `adB;rw[e4] at ex;cases ex;refine#[X6 ht,`w [`gI,ds[i]],by unfold sg0;simp[hi],λB' gB hb=>?_];exact Na0 (λz=>hb t z ht) j5 `yn (rx.mono gB)
  ·rw[J] at hi
   exact#[us,`adB,hi]
universe zz
section
mutual
theorem Xn0(hB:`aKi):∀(d:D) (v:V),`acV->Rp K H B' d v->`ck
 | `x,v,_,r=>by rw[U5] at r ⊢;exact r
 | `bK,v,_,r=>by rw[Y7] at r ⊢;exact r
 | `cn,v,_,r=>by rw[j7] at r ⊢;exact r
 | `bF,v,_,r=>by rw[Y8] at r ⊢;exact r
 | `bU,v,h,_=>by apply `NP;cases h
 | `n!,v,h,_=>by apply `NP;cases h
 | `n?,v,h,_=>by apply `NP;cases h
 | `ci,v,h,r=>by
  apply `NP;rw[U8] at r ⊢;apply `abm;refine#[a,xs,rfl,?_,af0 hB ds xs h rs];let#[n,q]:=q;refine#[`mK,q];exact(hB a z).elim n λz=>z _ q
theorem af0(hB:`aKi):∀(ds:`l) (vs:`N),`acU=`d->Rps K H B' ds vs->`Mn
 | [],vs,_,r=>`aKj
 | `ay,vs,h,r=>by
  unfold trees at h;apply `rd;rw[o9] at r ⊢;apply `Mt;exact#[x,t,rfl,Xn0 hB d x h.1 r1,af0 hB ds t h.2 r2]
end
universe zz
theorem Om0{g:GE}(h:`cB):PD X e (m80 g):=.mk λB δ pins s σ H Q I hq125=>by
 skip;let#[d,en,hq,k]:=hq125
 apply `M4;unfold m80 at hq;cases e1:`py with
 | none=>rw[e1] at hq;cases hq
 | some x =>
  rw[e1] at hq
  by_cases hf:tree x=`d
  ·simp only[`n,`rc] at hq
   cases hq;done;refine h B' `px `k s σ H Q I #[_,J,e1,λv H' s' r=>k v H' s' (Xn0 (`hb) _ _ hf r)];skip;rcases c2 a z with q|⟨i,d',h1,h2⟩
   ·done;exact `kf
   ·let#[o,h3,a',e4,_,ro]:=`yl en.all h1
    rw[h2] at h3;cases h3;cases e4;done;exact `q λys z=>(ro.live.same s').nt ys z
  ·simp only[`n,`M5] at hq
   cases hq
universe DL
namespace L2
open Spec PyProof.Rows
def Vv0:MtR X "str.startswith" `aKk:=by
 apply `aDX;skip;let#[a,b,rfl,rfl,q]:=h;apply `cm;cases rs with
 | cons r rr =>
  cases rr;let#[u,rfl]:=r;done;exact SC.startswith #[`bK,H,I,rfl,q]
universe L2
namespace DL
open Spec PyProof.Rows L2
section
variable{g:`bo}{name:`G7}{id:`cO}{r:`gS}{f:`rf}
def MfR(K:`B)(r:`gS)(f:`rf):Prop:=∀(H:Hp) (B:BS) (dx:D) (xs:`N) (ds:`l) (d:D) (Q:VK),`q7->`bb->f dx ds=`a7->(`B9)->∃a,dx=`hg/\r (`hg) xs H Q
theorem Q60(slot:Slot `iX `er id)(hty:`_Z)(hm:`__)(hf:MfR X.K r f)(hstr:∀d ds e,f d ds=`c e->`aKl)(ho:`MF)(ha:`vv)(hbase:`_0)
  (hfew:`v ((`lZ
  &&`Cl)=`d) Aa)
  (hline:`fs) (hs:`eO) (hplain:`kt) :
  PD X (`a0 `_1 [e] [] `ch) (xj0 g gA f):=.mk λB δ =>
 (sm0 `aEk slot hty hm `MG `bk `ft `hM `fu hs `iY).imp fun σ H Q hq126=>by
  skip;let#[d,en,h,k]:=hq126
  unfold xj0 at h;cases e1:`ax with
  | none=>rw[e1] at h;cases h
  | some x =>
   cases e2:`cH with
   | none=>apply `b?;cases h
   | some ds =>
    apply `b?;apply `d_;let#[a,rfl]:=hstr x ds d h;done;apply `MH;rw[Y8] at r1;subst r1;refine`aEl;let#[a',e',q]:=hf H2 B (`hg) vs ds d Q `aa6 r2 h λv H' s' r'=>k v H' (`GR s') r'
    cases e';exact q
def M00{y:`G7}(r:Rps K H B [`mV] xs):xs=[`mV]:=by
 rw[o9] at r;apply `Mt;rw[m9] at r2;rw[Y8] at r1;rw[r1,r2]
def U00:MfR K `aKk tt0:=by
 intro H B dx xs ds d Q bad r h k;unfold tt0 at h;apply `NO
 exact#[_,rfl,_,_,rfl,M00 r,`TA]
def Vk0(d:D)(ds:`l)(e:D)(h:tt0 d ds=`c e):`aKl:=by
 unfold tt0 at h;apply `NO
 exact`ac
theorem dh0{st:`bq}:PSD X st lf0:=.mk λH₀ B₀ δ pins s σ H D I hq127=>by let#[r,en,hq,k]:=hq127;unfold lf0 at hq;cases hq
universe zz
@[simp] def oj0(ga gb gc:GE)(f f':`a5):GE:=fun δ=>`vc λx=>`LZ λy=>(f x y).bind λt=>(asB t).bind λk=>if k=`d then (gc δ).bind λz=>f' y z else `ve
section
variable{a:`M}{g ga gc:`bo}
def Ts0{r r':R2}{f f':`a5}(hf:Op2 K r f)(hf':Op2 K r' f'){δ:Ds}{σ:St}{Q:VK}(h:tD K B δ `aKm σ H Q):U80 r r' (tD K B δ ga) (tD K B δ gb) (tD K B δ gc) σ H Q:=by
 skip;apply `vm;unfold oj0 at h;cases e1:`cv with
 | none=>rw[e1] at h;cases h
 | some x =>
  cases e2:`dO with
  | none=>apply `b?;cases h
  | some y =>
   apply `b?;apply `d_;cases e3:f x y with
   | none=>rw[e3] at h;cases h
   | some t =>
    rw[e3] at h;apply `d_;cases e4:asB t with
    | none=>rw[e4] at h;cases h
    | some kb =>
     rw[e4] at h;apply `d_;cases a80 e4;done;apply `vn;refine hf H2 B v1 v2 x y _ _ `aa6 `yN r2 e3 `NQ
     rw[Y7] at r3;refine#[kb,r3,?_];cases kb with
     | false =>
      rw[`nS] at h ⊢;cases h;exact k _ H3 `NR `F7
     | true =>
      rw[`bA] at h ⊢;cases e5:gc δ with
      | none=>rw[e5] at h;cases h
      | some z =>
       rw[e5] at h;apply `d_;refine#[z,`acT,e5,λv4 H4 s4 r4=>?_];exact hf' H4 B v2 v4 y z d _ ((`acT).same s4).bad ((`aKn).same s4) r4 h λv' H5 s5 r5=>k v' H5 (((`yX).trans s4).trans s5) r5
theorem Qc0{op op':`gO}{r r':R2}{f f':`a5}(ho:`uS)(hf:`B?)(ho':`awP)(hf':Op2 X.K r' f')(ha:`ca)(hb:`c0)(hc:PD X c gc)
  (hm:`awQ):PD X `awR `aKm :=
 .mk λB δ=>(Qf0 ho ho' `bk `fw (hc B δ) hm).imp fun σ H Q h=>Ts0 hf hf' h
open Builtin Builtin.Str Builtin.Int in
theorem J90{prog:`aw}{w:`X}{A:`cK}{E:`aF}{s:`y}{x:Str}{n:Int}{t u:Tok}{Q:`aF}(hr:(`z (n < `ay?)||`z (n ≥ 2 ^ 63))=`r)
  (hb:¬n<1->`aKo->¬((`se:Int) > (`NS)/n)) (hl:¬n<1->`aKo->tooLong (`se*`s3)=`r)
  (h:(if n<1 then Made.str `alK else if `aos=`d then Made.val `Kd else Made.str #[(`a1 `s3 x.cps).foldl (·++·) ⟨⟩]).post Q s) :
  `u `aC A (`jn .Mult (`f n u) `Kd) Q E s :=
 PySem.lm_binaryOp_repeat_right (T := `iX) (U := `iU) `s (λs'=>Y2 s' n u) `aKp PySem.F.fills_int_mul PySem.noFill_str_mul Cv0 PySem.lm_noRepeat_int PySem.repeat_str PySem.F.slot_int_index.lookup
  (`aKq Cv0 (Y2 s n u) PySem.F.entry_int_mul (PySem.F.args_int_mul_2 _ _) (PySem.AutoIntG3.int___mul___int_str_0 n u x t)
   #[rfl,Q2 _ x t,`aKq PySem.F.slot_str_mul `aKp PySem.F.entry_str_mul (PySem.F.args_str_mul_2 _ _) (gives_str_mul x n t u hr hb hl) h])
universe zz
universe DL
namespace DL
open Spec PyProof.Rows L2
section
variable{σ:St}{δ:Ds}
def Env.fresh{p:`g}{o:HO}(e:`be)(hp:`dP)(no:∀ob u,o≠`RI:=by exact λ_ _ z=>nomatch z)(nt:∀xs,o≠`eV:=by exact λ_ z=>nomatch z):Env K `aa4 `k7 σ δ:=by
 refine#[`pD (λv s h=>?_) `ha,`hb,`mE]
 ·cases s with
  | un=>trivial
  | ex c n=>apply `NT;exact`aKr
  | sh d=>apply `NT;exact`aKr
  | ow d =>
   let#[a,q,hb,r]:=h;exact#[a,q,`aar,`cX (λo ho=>by rw[d7 (U9 ho hp)];exact ho) `G8]
 ·apply `CP
  ·have:=`jw a z
   by_cases q:a=p
   ·rw[q,j5];exact `aKs
   ·rw[d7 q];exact `E
  ·rw[z,j5];exact `aKs
universe zz
def flats(ds:`l):`aa:=`ade
def ma0(g:GE):GE:=fun δ=>`abP λd=>match d with
 | `cw=>if `vN then `vg else `e
 | _=>`e
def Og0{g:GE}{δ:Ds}(h:`py=`vg)(hf:`vN):ma0 g δ=`vg:=by
 unfold ma0;rw[h,`n];simp only[];rw[`rc]
section
variable{g:GE}
theorem xb0:∀{ds:`l} {xs:`N},`vN->`aaK
 | [],xs,_,r=>`aKj
 | `ay,xs,h,r=>by
  rw[o9] at r ⊢;let#[x,r',e1,r1,r2]:=r;unfold flats at h;rw[`lV,`bz] at h;exact#[x,r',e1,vy0 h.1 r1,xb0 (ds:=ds) h.2 r2]
theorem Ue0(h:`vp):PSD X `qV (Q9 (ei0 g)):=.mk λH₀ B₀ δ pins s σ H D I #[r,en,hq,k] =>
 M4 h `ad `V `px `k s σ H D I `aGa
theorem Rm0(h:`vp):PDF X e (ma0 g):=.mk λB δ pins s σ H Q I hq128=>by
 skip;let#[d,en,hq,k]:=hq128
 apply `M4;unfold ma0 at hq;cases e1:`py with
 | none=>rw[e1] at hq;cases hq
 | some x =>
  rw[e1,`n] at hq;cases x with
  | lst ds =>
   simp only[] at hq
   by_cases hf:`vN
   ·rw[`rc] at hq
    cases hq;done;exact h B' `px `k s σ H Q I #[_,J,e1,λp H' hp s' r=>k p H' hp s' (by
     let#[xs,e5,r5]:=r;exact#[xs,e5,xb0 hf r5])]
   ·rw[`M5] at hq;cases hq
  | non=>cases hq
  | bl _=>cases hq
  | int _=>cases hq
  | str _=>cases hq
  | tup _=>cases hq
  | dct _ _=>cases hq
  | fn _ _=>cases hq
universe zz
universe DL
namespace DL
open Spec PyProof.Rows L2
@[simp] def nf0:`Q
 | [`bX]=>match `aKt with
  | [c]=>`c (`f (c:Nat))
  | _=>`e
 | _=>`e
open T in
def Ug0:FnR K `awY nf0:=by
 apply `q';unfold nf0 at h;split at h
 ·rename_i x
  split at h
  ·rename_i c hc
   cases h;apply `i8;rw[Y8] at r1;subst r1;let#[#[l]]:=x;have:l=[c]:=hc;subst this;exact#[_,rfl,rfl,k _ H `c' (by rw[j7];rfl)]
  ·cases h
 ·cases h
universe DL
namespace L2
open Spec PyProof.Rows
def Ig0(K:`B):`gS:=λx vs H Q=>∃(p:`g) (ys:`h) (z:Str) (j:Nat),`BF/\vs=`ss/\SqL K H p `sS/\`adC
theorem mv0:∀{ys:`h} {us:`ah},`aDV->∀(m:Nat) (y:Str),`G9->∃t,us[m]?=`aCi
 | [],_,`L,m,y,h=>by cases h
 | `NU,_,`ka,0,y,h=>by
  cases h;let#[tk,rfl]:=r;exact`aKu
 | `NU,_,`ka,m+1,y,h=>by
  let#[tk,e]:=mv0 t m y `hB;exact`aKv
theorem ml0:∀ys:`h,(`Gj).all uh0=`d
 | []=>rfl
 | `Ci=>by
  rw[`_,`lV,ml0 ys];rfl
def Oh0:MtR X `aKw (Ig0 X.K):=by
 apply `u!;skip;apply `adD;cases rx;apply `BK;apply `BG;apply `aKx;have Z:`adE:=`adF
 have a1:j<`e0:=`adG;have at_:`aKy:=λm hm=>by
  apply `adH
  apply `aKz;apply `adI;apply `adJ;rw[`E] at e;have e':=`lJ
  simpa using e'
 apply `adK;obtain rfl:c0=`c5 := h2;apply `aKA;apply `adL;have M:`aKB:=λy tk=>by
  show `aKC;simp[eqV]
 have Y:`b8<`NS:=by
  apply `aKD
  have h6:`S<`fq:=`an
  lia
 done;refine L3 (T := `d4) m4 `aKE `aKF `aKG (`aKH p `bt n `e sl (`acE) (eqU `yZ) j `pP Y ?_ ?_) `aKI
 ·apply `adM
  rw[e2,M];rw[hj] at e1;cases e1;rfl
 ·intro m hm U
  apply `adN;rw[e2];cases hb:`UB with
  | false=>rfl
  | true=>apply `adO
universe L2
namespace DL
open Spec PyProof.Rows L2
def jf0:`rf
 | `cw,`ss=>(`vj).bind `aKJ
 | _,_=>`e
section
variable{g:`bo}
open T in
def R80:∀{ds:`l} {ys:`h} {xs:`N},`vj=`c ys->`bb->xs=`Gj:=by
 intro ds
 induction ds with
 | nil =>
  apply `NV;rw[m9] at r;subst r;simp only[sd0] at h;cases h;rfl
 | cons d ds ih =>
  apply `NV;rw[o9] at r;apply `aKK;apply `aEj
  rename_i s;cases e1:`vj with
  | none=>rw[e1] at h;cases h
  | some zs =>
   rw[e1] at h;cases h;rw[Y8] at r1;subst r1;rw[ih e1 r2];rfl
open T in
theorem Ls0(ho:`MF)(ha:`vv)(hbase:`aKL)
  (hfew:`v ((`lZ
  &&`Cl)=`d) Aa)
  (hline:`fs) (hs:`eO) (hplain:`kt) :
  PD X `aKM (xj0 g gA jf0):=.mk λB δ =>
 (sm0 L0 m4 `aKN Oh0 `MG `bk `ft `hM `fu hs `iY).imp fun σ H Q hq129=>by
  let#[d,en,h,k]:=hq129
  unfold xj0 at h;cases e1:`ax with
  | none=>rw[e1] at h;cases h
  | some x =>
   cases e2:`cH with
   | none=>apply `b?;cases h
   | some es =>
    apply `b?;apply `d_;unfold jf0 at h;split at h
    ·rename_i ds z
     cases e3:`vj with
     | none=>rw[e3] at h;cases h
     | some ys =>
      apply `rj;cases e4:`adP with
      | none=>rw[e4] at h;cases h
      | some j =>
       rw[e4] at h;cases h;apply `MH;apply `oa;apply `aKO;obtain rfl:=R80 e3 rx;apply `aKP;rw[o9] at r2;apply `adQ;rw[m9] at r4;subst r4;rw[Y8] at r3;subst r3;apply `adR;apply `aKQ
       ·rw[`NW,`NX h1]
       ·have J:`G':=`H
        rw[`hc J] at he;apply `adS
    ·cases h
universe zz
universe DL
namespace PySem.SeqAt
open PySem.AutoSeq1 (wpAny_loadPart')
open MeetsSeq MeetsSeq2 MeetsSeq3 SeqRoads2
def ku0{M:`A9}{A:`cK}{E:`aF}{s:`y}(f:Nat->β->Sem (ForInStep β))(I:`i->β->`eU)(Q:β->`eU)
  (turn:∀x rest b s,I (x::`bh) b s->`u M A (f x b) (λr s'=>match r with|.yield b'=>I `bh b' s'|`GT b'=>Q b' s') E s)
  (fin:∀b s,I [] b s->Q b s) (lo hi:Nat) (b:β) (h:I `aKR b s):`u M A (`aKS) Q E s:=by
 have e:(`aKS:Sem β)=`ta `aKR b f:=`a6
 rw[e];exact t0 f I Q turn fin _ b h
theorem tuple_indexAt(l:`g)(items:`aW)(n:Nat)(dd:`fl)(sl:`n_)(x:`J)(e:`atQ)(j:Nat)(hj:j<`fO)
  (hit:e items[j]=`d) (hno:∀m (hm:m<`fO),m<j->e items[m]=`r) :
  Meets (Builtin.«tuple.index» #[[`mz,x],[]])
   (λA R s=>`dn l=`c { cls:=`gf,dict:=dd,data:=`at7,slots:=sl }/\(∀y,y∈`bs->EqAt `bR s y x (e y))/\R (.ok (`hY (`f j `bu))) `o0) :=
 .of_wp λprog w A R s h=>by
  skip;apply `aGb;let#[hl,he,h]:=h
  done;wp_walk using Ab0 hl,ku0 _ (λrest b s'=>b.1=`e/\s'=#[hp,g,d,tk,os]/\∃i,i<=j/\`bh=`y1 i (`fO - i)) _
  case turn =>
   rintro y rest b s' ⟨hb,rfl,i,hi,hr⟩;have J:i<`fO:=`H
   have e1:`fO - i=(`fO - `d')+1:=`H
   rw[e1,`adT] at hr;let#[rfl,rfl]:=c6 hr;have hy:`bs[y]?=`c items[y]:=by simp[J]
   rw[hy];refine A0 (he items[y] (Array.getElem_mem J) `kM w _ _ ?_)
   by_cases hyj:y=j
   ·subst hyj
    rw[hit]
    wp_walk
    exact`aGc
   ·rw[hno y J `j]
    wp_walk
    exact#[rfl,rfl,y+1,`H,rfl]
  case fin =>
   rintro b s' ⟨hb,rfl,i,hi,hr⟩;have:=C3 `tJ hr;simp at this;lia
  case h =>
   exact#[rfl,rfl,0,`cu,`a6]
universe PySem.SeqAt
namespace L2
open Spec PyProof.Rows
def Jr0(K:`B):`gS:=λx vs H Q=>∃(p:`g) (ys:`h) (z:Str) (j:Nat),`BF/\vs=`ss/\SqT K H p `sS/\`adC
def N50:MtR X "tuple.index" (Jr0 X.K):=by
 apply `u!;skip;apply `adD;cases rx;apply `BK;apply `LA;let#[o,h1,h2,n,h3]:=id pl;have Y:`adE:=`adF
 have Z:j<`e0:=`adG;have at_:`aKy:=λm hm=>by
  apply `adH
  apply `aKz;apply `adI;apply `adJ;rw[`E] at e;have e':=`lJ
  simpa using e'
 apply `adK;obtain rfl:c0=`gf := h2;obtain rfl:dt=`RA:=h3;apply `adL;have M:`aKB:=λy tk=>by
  show `aKC;simp[eqV]
 done;refine L3 (T := `d3) `aKT (show `mv `dr `d3 from `aou) F.entry_tuple_index (F.args_tuple_index_2 _ _) (SeqAt.tuple_indexAt p `bt n dd sl (`acE) (eqU `yZ) j `pP ?_ ?_) `aKI
 ·apply `adM
  rw[e2,M];rw[hj] at e1;cases e1;rfl
 ·intro m hm U
  apply `adN;rw[e2];cases hb:`UB with
  | false=>rfl
  | true=>apply `adO
def ap0(K:`B)(mg:`bJ)(x:Str)(ys:`h):Prop :=
 ∃(a:`g) (o:Obj) (its:`aW) (n:Nat),mg x=`pp/\`KN/\`Kg/\`Kh/\`ak?/\`R2/\`bE `sS `ET
universe L2
namespace DL
open Spec PyProof.Rows L2
def fz0(ys:`h):`Q
 | `ss=>`aoz
 | _=>`e
section
variable{a:`M}{ga gb:GE}{gA:GA}{ys:`h}
open T in
theorem Mj0(hK:`aKU)(ha:`vv)(hg:`gb)(hd:`aZ)
  (hbase:`v (`fJ `Ha `G! `A (`aKV)=`aKV) Aa)
  (hfew:`v ((`lZ
  &&`Cl)=`d) Aa)
  (hline:`fs) (hs:`eO) (hplain:`kt) :
  PD X (`a0 (`dq `Ha `G! `e_) [e] [] `ch) (oA gA (fz0 ys)):=.mk λB δ=>by
 let#[p,o,its,n,hm,hk,hc,M,J,O,hv]:=hK;refine (sm0 F.plainAttrs_tuple `aKT F.type_tuple_index N50 `aKW `bk `ft `hM `fu hs `iY).imp fun σ H Q hq130=>?_;let#[d,en,h,k]:=hq130
 apply `Cc;cases e2:`cH with
 | none=>rw[e2] at h;cases h
 | some es =>
  apply `rk;unfold fz0 at h;split at h
  ·rename_i z
   cases e4:`adP with
   | none=>rw[e4] at h;cases h
   | some j =>
    rw[e4] at h;cases h;refine#[`q (`p #[rfl,o,hk,hc,M]),_,en,e2,`Gs];rw[o9] at r2;apply `adQ;rw[m9] at r4;subst r4;rw[Y8] at r3;subst r3;apply `adR;refine#[p,ys,z,j,rfl,rfl,`q #[o,its,n,hk,hc,J,O,hv],?_,`aoA,k _ _ s2 `yn]
    ·rw[`NW,`NX h1]
    ·have U:`G':=`H
     rw[`hc U] at he;apply `adS
  ·cases h
universe zz
universe DL
namespace L2
open Spec PyProof.Rows
def Po0(K:`B):R2:=λx y H Q=>∃a xs k,`de/\y=`iy/\`oV/\`_A/\`iW/\k<`fq/\`aKX/\∀p,`dP->Q `dr (upd H p `aKY)
def M90:OpR X `awF (Po0 X.K):=by
 apply `fr;skip;let#[a,xs,k,rfl,rfl,ha,hx,h2,h3,hz,q]:=h;cases rx;apply `_K;let#[its,r1,p1,_]:=`gl ha;apply `aD';simp only at hc hd;subst hc hd;have hl:=`mH;have he:`acu=`r:=by
  cases its with
  | nil=>exact `I (`ayW rfl) hx
  | cons a b=>rfl
 have J:`g'*`hh<=`UC:=by apply `u7;exact hz
 have M:(`a1 (if `acu=`d then 0 else `hh) `bt).foldl (·++·) ⟨⟩=(`a1 `hh its).flatten.toArray:=by
  rw[he];have:=foldl_rep its `hh [];rw[`hF] at this;exact `E
 have O:¬(!`aKZ)=`d:=by
  have:`aKZ=`d:=by unfold Builtin.List.listFitsIndex;simp;lia
  rw[`E];decide
 have Z:¬`g'*`hh > (`NS)/8:=`H
 have Y:¬`LK (`g'*`hh)=`d:=by
  rw[`bY] at J ⊢;apply `azQ;simp;unfold sizeLine;lia
 done;refine wpAny_binaryOp_repeat_ref (T := `d4) (U := `iU) `s `q_ (λs'=>Y2 s' k t) noFill_list_mul F.fills_int_mul `aK_ repeat_list F.slot_int_index.lookup
  (L3 `aK_ (Y2 s k t) F.entry_int_rmul (F.args_int_rmul_2 _ _) (lm_int_rmul_list_any k t a `bt n dd sl)
   #[ho,rfl,`q_,L3 F.slot_list_mul `q_ F.entry_list_mul (F.args_list_mul_2 _ _) (lm_list_mul_any a `bt n dd sl k t O Z Y) #[ho,?_]])
 rw[M];exact#[`C _,_,I.lnew (t':=`bu) (r1.rep `hh) (by rw[len_rep,`aK0];unfold sizeLine;lia),rfl,`aD?]
universe L2
namespace DL
open Spec PyProof.Rows L2
def mulL:`a5
 | `cV,`iy=>if `_A/\`iW/\k<`fq/\`aKX then `c `aKY else `e
 | _,_=>`e
section
variable{a:`M}{ga gb:GE}
def Sx0:Op2 K (Po0 K) mulL:=by
 apply `i7;unfold mulL at h;split at h
 ·split at h
  ·skip;rename_i hz
   cases h;rw[X4] at rx;rw[j7] at ry;subst ry;apply `acP;done;refine#[a,xs,_,rfl,rfl,`CF,λz=>hz.1 ?_,hz.2.1,hz.2.2.1,by rw[`mH];exact hz.2.2.2,λp hp=>k _ _ `fS (ob0 hb hp (Yy0 r1 _))];subst z;have hn:=`mH;simp at hn;exact `acQ
  ·cases h
 ·cases h
theorem lw0(ha:`ca)(hb:`c0):PD X `aG4 (o2 ga gb mulL):=no0 M90 Sx0 ha hb
universe zz
structure But(p:`g)(H H':Hp):Prop where
 old:`aK1
 nf:∀b o xs,`yE->`az9
instance{p:`g}{H H':Hp}:`eM (`NY) (λ_=>`aK1):=#[But.old]
section
variable{σ:St}{δ:Ds}
theorem Gr.but{p:`g}(hb:B p)(h:`NY):`aBC:=λb u n e=>#[n,h b u (λz=>n (z▸hb)) e]
def Env.mutB(e:`be){d:D}(hi:`Cz)(hs:`jt)(hh:`UN)(r:`aB3):`aK2:=by
 apply `aFA;rw[hs] at h1;cases h1;apply `aFB
 ·have h0:`bx (λ(o':`dm) (s:Sl)=>SlR K H' B o' s∨`acf) σ δ:=`pD (λo' s h=>by
   cases s with
   | un=>exact `acg
   | ex c n=>apply `f?;exact `aK3
   | sh d=>apply `f?;exact `aK3
   | ow d =>
    apply `MV
    apply `CA
    ·subst z;apply `ach
    ·exact `p #[b,e,M,`cX (λo h=>hh b o z h) `aoB]) `ha
  apply `aFD;apply `aFE;apply `aFF
  ·exact h
  ·skip;apply `aci
   ·cases e3;done;exact`GK
   ·done;apply `aFG
 ·by_cases z':b=a
  ·subst z';exact `q6
  ·cases q:H b with
   | none=>exact `I q (`acj)
   | some o=>exact(`acj).keep λo h=>hh b o z' h
 ·have q1:`aFH:=by
   skip;apply `MW
   ·done;exact`MX
   ·done;exact`MY
  have q2:`aFI:=by
   skip;apply `aFJ
   ·done;exact`MX
   ·done;exact`MY
  let#[d1,q1]:=q1;let#[d2,q2]:=q2;apply `aFK
def EnvS.mutB(en:`cJ)(b1:`i5)(b2:`i6){d:D}(hi:`Cz)(hs:`jt)(hh:`UN)
  (env:`aK2):`cY K `ad `V H' σ `pB:=by
 have h0:=`aFL;have J:i<`m0:=`KG;apply `aFM
 ·apply `aFN
  exact hh _ _ `E `aFO
 ·apply `CA
  ·apply `aFP
   rw[hs] at e1;cases e1;rw[z] at h;exact `aFQ
  ·exact `Ge b ob xs (hh.nf b ob xs z h)
 ·skip;apply `MW
  ·rw[hs] at h2;cases h2;done;exact h0
  ·done;exact `aFR
universe zz
universe DL
namespace L2
open Spec PyProof.Rows PySem.W
def Iu0(td ty tx:TE):TE:=fun σ H Q=>td σ H λx H1=>∃a,`de/\IsD H1 a/\ty σ H1 λy H2=>tx σ H2 λz H3=>∃kvs k,H3 a=`SC/\y=kV k/\`Cv /\
 (∀v,`k'=`b6->Q v H3)/\(`adU->Q z (upd H3 a (.dK (`mN kvs k z))))
section
variable{f:`M}{tx:TE}
def Ib0{σ:St}{s:`y}{k:Key}{r:`J}{A:`cK}{E:`aF}{Q:`aF}(I:`F)(e:`Cu)(ry:`aE7)(rv:`c4 v r)(l:`Cv)
  (h1:∀x,`k'=`dk->∀w' s',`Bv->`c4 x w'->Q w' s') (h2:`adU->∀s',Inv X `k σ (`ab3) s'->Q r s') :
  `u `aq A (`e2 (`cT "dict.setdefault") [`ce,u,r]) Q E s:=by
 apply `aFe;apply `aFf
 have hv:=`TL;refine call_meetsIn D30 `GI PySem.F.entry_dict_setdefault (PySem.F.args_dict_setdefault_3 _ _ _) (kt_meets_setdefault (`aFr) a `Cw hd r) #[vs,dd,hz,λw hw=>?_,λhn h' J hs=>?_]
 ·rw[hw] at hv
  cases e1:`k' with
  | none=>rw[e1] at hv;exact hv.elim
  | some x=>rw[e1] at hv;exact h1 x e1 _ _ `GF hv
 ·rw[hn] at hv
  have e1:`adU:=by
   cases e1:`k' with
   | none=>rfl
   | some x=>rw[e1] at hv;exact hv.elim
  apply `ab!
  have he:`ab9:=`ab?
  exact h2 e1 _ (`aFh)
def Mo0(ho:`MU)(he:PE X e ty)(hf:PE X f tx)(m:M2 X o `NZ `e_ e f `ch):PE X (`a0 (`dq o `NZ `e_) `sY [] `ch) (Iu0 td ty tx):=by
 apply `bB;refine wpAny_Call_method m.base m.few m.line PySem.F.plainAttrs_dict D30 PySem.F.type_dict_setdefault (thn `Bf λu s1 hq131=>?_);skip;let#[x,H1,I1,rx,a,ex,d,q1]:=hq131;subst ex;cases (show `Gk from rx);let#[t1,t2,_]:=K50 I1 d;done;refine#[t1,t2,?_];rw[m.trees];refine Aa0 rfl (`azH (P8 (thn (he `k s1 σ H1 _ I1 q1) λiv s2 hq132=>?_)));let#[y,H2,I2,ry,q2]:=hq132;refine P8 (thn (hf `k s2 σ H2 _ I2 q2) λfv s3 hq133=>?_);skip;let#[z,H3,I3,rz,kvs,k,ea,ey,l,q3,q4]:=hq133;done;refine X1 ?_;subst ey;exact Ib0 I3 ea ry rz l (λx ex w' s4 I4 r4=>#[x,H3,I4,r4,q3 x ex]) λen s4 I4=>#[z,_,I4,rz,q4 en]
universe zz
universe L2
namespace DL
open Spec PyProof.Rows L2
def jx0(i:Nat)(gk g:GE):GX:=fun δ=>`aEw λpr=>`vO λdk=>`cR λd=>`aK4 λq=>if `adc<`S then (if `Ns=`d then (xq0 pr.1 pr.2 q).map λr=>(r,δ) else `c (d,`add)) else `e
section
variable{a f:`M}{ga gb g:GE}
open T in
theorem Oq0(hu:`i')(ha:`ca)(hb:`c0)(hm:`v (`xq `uR b=`r) Al):PD X (`xs a [`uR] [b] pos) (o2 ga gb (vf0 `d)):=.mk λB δ=>(Lc0 (S00 hu `bk `fw) hm).imp fun σ H Q hq134=>by
 let#[t,en,h,k]:=hq134
 unfold o2 at h;cases e1:`cv with
 | none=>rw[e1] at h;cases h
 | some x =>
  cases e2:`dO with
  | none=>apply `b?;cases h
  | some y =>
   apply `b?;apply `d_;apply `vn;apply `aHS
   rename_i ks ds;cases ks with
   | inl ks =>
    apply `vG;cases e3:y90 x with
    | none=>rw[e3] at h;cases h
    | some q =>
     rw[e3] at h;simp only[`gx,`Nb] at h;cases h;rw[gj0] at r2;apply `Nq;have:=rq0 e3 r1;subst this;refine#[p,_,rfl,`ac!,?_];apply `Nr;exact `aK5
   | inr ks =>
    apply `vG;cases e3:qx0 x with
    | none=>rw[e3] at h;cases h
    | some q =>
     rw[e3] at h;simp only[`gx,`Nb] at h;cases h;rw[e30] at r2;apply `Nq;apply `aHV;refine#[p,_,rfl,`ada,?_];apply `Nr;exact `aK5
theorem Ks0(i:Nat)(h0:PD X e g0)(h:PD X f g)(hN:`ek)(hv:`ga)(hd:`aZ)(hcd:`fo)
  (hbase:`v (`fJ `e! `NZ `A `yO=`yF) Aa)
  (hfew:`v ((`aFs
  &&`aFt)=`d) Aa)
  (hline:`fs) (htrees:`v (`aFu) Aa) :
  PX X (`a0 (`dq `e! `NZ `e_) `sY [] `ch) (jx0 i g0 g):=.mk λH₀ B₀ δ pins s σ H Q I hq135=>by
 skip;let#[r,en,e1,k]:=hq135
 unfold jx0 at e1;apply `a_;cases e2:`Gv with
 | none=>apply `U;cases e1
 | some pr =>
  cases e4:g0 δ with
  | none=>rw[e2,e4] at e1;cases e1
  | some dk =>
   cases e3:`ax with
   | none=>apply `adV;cases e1
   | some d =>
    cases e5:`Hb with
    | none=>apply `adV;apply `eN;rw[e5] at e1;cases e1
    | some q =>
     apply `adV;apply `eN;rw[e5] at e1;apply `eN;split at e1
     ·rename_i hz
      have hi:=Xj0 e2;let#[p,M,hb,xs,hx,hl,rx]:=`s1;have hl:`adc=`aG:=hl;done;refine Mo0 `jA (h0 B δ) `cI #[`ft,`hM,`fu,htrees] `k s σ H Q I #[_,M,p,rfl,`p #[_,`p hx],dk,env,e4,λiv H1 s1 r1=>#[d,`jx,e3,λfv H2 s2 r2=>?_]];have:=rq0 e5 r1;subst this;have J:=`k6;refine#[_,q,J _ _ hx,rfl,`an2,λv U=>?_,λhn=>?_]
      ·skip;have hk:`Ns=`d:=by
        rw[← `aK6,U];rfl
       rw[`Bt] at e1;let#[w,hw,e1]:=l5.mp e1;cases e1;let#[v',Y,rv]:=(wa0 rx).1 w hw;rw[U] at Y;cases Y;done;exact k v H2 (`hf (`yq J) b1 b2 (`ih J) (`lb J))
      ·have hk:`Ns=`r:=by
        rw[← `aK6,hn];rfl
       rw[hk,`kv] at e1;cases e1;let#[ys,hy,a1,a2,Z]:=fj0 (q:=q) (v:=fv) hl;have rr:Rps X.K H2 B `Ub ys:=by
        unfold xu0;rw[hk,`kv,Z hk];exact `pJ (`TW J) r2
       rw[hy];have O:Env X.K (upd H2 p `aH2) B σ (`add):=(`ih J).mut hi M #[ys,j5,a1,rr.mono `k?];exact k _ _ (`hf (`yG J b1 b2 hi M O) b1 b2 O (r2.mono `k?))
     ·cases e1
universe zz
universe DL
namespace L2
open Spec PyProof.Rows PySem.W
def pa0:`fN X `_U `aK7:=by
 apply `nU;skip;let#[p,kvs,rfl,hq,q]:=h;apply `LI;cases rx;have hn:=qi0;let#[z,hd,vs,rel,dd]:=cz0 `b7 hq;have hl:=`anw;done;exact call_len_dict hd dd `j #[`f `je,H,`fG,#[`xz,by rw[hl]],q]
universe L2
namespace DL
open Spec PyProof.Rows L2
def xr0:`Q
 | [`cj `yh _]=>`c (`f `gs)
 | _=>`e
def ls0:FnR K `aK7 xr0:=by
 apply `q';unfold xr0 at h;split at h
 ·skip;cases h
  apply `i8;rw[gj0] at r1;let#[p,ys,rfl,_,hp,hl,rr]:=r1;done;refine#[p,_,rfl,hp,`ME];rw[j7,`pI,← hl,`T?]
 ·cases h
universe DL
namespace L2
open Spec PyProof.Rows ZipL DL
section
variable{s:`y}
def Inv.laidM{l:`ri}{t':Nat}(I:`F)(k:`KC)
  (hl:∀p∈l,`aJi/\∃xs,(`aJj)∨(p.2=`cV/\`cC `a? X.w H h' p.1 `mo)):`aJk:=by
 have J:`aJl:=λb hb=>qg0 λp hp z=>by
  have:=(`NJ).1;rw[z] at this;exact `aJm
 refine `ke #[`YQ,`YR,`aJn,`YS,`aJo,
  `aJp,`aJq] `KB
 skip;apply `aJr
 ·obtain⟨_,xs,⟨ex,ok⟩|⟨ex,ok⟩⟩:=`NJ
  ·done;rw[ex]
   exact ok
  ·done;rw[ex]
   exact ok
 ·done;apply `aJs
universe zz
universe L2
namespace DL
open Spec PyProof.Rows L2
def ah0:`aI->`aa
 | []=>`d
 | p::K=>(match p.2.cls with
  | `bD n=>!(n == `d4)
  | _=>`d)&&ah0 K
theorem Xe0:∀{K:`aI} {a:`g} {o:Obj},`adW->`KN->`xg≠`c5
 | [],_,_,_,h=>nomatch h
 | (b,u)::K,a,o,h,e=>by
  unfold ah0 at h;apply `rd;rw[`f'] at e;split at e
  ·cases e
   intro z;rw[z] at h;exact `I h.1 `s
  ·exact Xe0 h.2 e
def script_at(hK:`adW)(h:`oV):SqL' K H `lj a xs:=by
 skip;rcases h with h|⟨o,its,n,e,c,_⟩
 ·done;exact `p #[`xk,h]
 ·done;exact `I c (Xe0 hK e)
theorem Q20{l:`aad}{n k:Nat}{q:`aw}{loose:`h}{XP:`J?}{YP:`Ka}{d:DefRec}{K:`az3}{CX:CXT}{sp:`B->Sp}{x:Str}
  (hn:`LM) (hn2:`u') (hdf:`_9) (hr:`_?) (hY:`az4)
  (F:∀(w:`X) (mg:`bJ) (fa:`g) (h:`W),`x2 h->`LP->`_' ->
   ∃fd:`hI,(`aaa)/\∀base:`W,`x2 `m->`A2->`T `aj w `sw mg `m CX k fa fd [x] (sp `sw))
  (hsp:∀(w:`X) (H:Hp) (a:`g) (ns:`P),`BM->`az5->sp `sw `fP H `LN `lO)
  (hCX:∀(H:Hp) (s:`y) (e:`J) (s':`y),CX [] H s (`lO) e s'->`bW):`az6 :=
 M60 (K:=K) (CX:=λ_=>CX) (sp:=λw=>sp `sw) hn hn2 hdf hr hY F (λw H a ns h1 _ h3=>hsp w H a ns h1 h3) λ_ H s e s'=>hCX H s e s'
universe DL
namespace L2
open Spec PyProof.Rows
def SubO.ho:`dl->HO
 | `cV=>`cV
 | `xV=>`xV
 | `kU=>`kU
def SubO.no_own(o:`dl)(x:`g):o.ho≠`fA x:=by apply `N_
def SubO.no_tup(o:`dl)(xs:`N):o.ho≠`eV:=by apply `N_
def SubO.no_frz(o:`dl)(ob:Obj)(u:HO):o.ho≠`RI:=by apply `N_
def SubO.no_tbl(o:`dl)(ps:`aW):o.ho≠`RK:=by apply `N_
theorem wi0:∀{l:`uJ} {k:`g} {v:`dl},l.lookup k=`b6->`E8∈l
 | [],_,_,h=>by cases h
 | (k',v')::l,k,v,h=>by
  rw[`f'] at h;cases q:k==k' with
  | true =>
   rw[q] at h;cases h;rw[`Ls q];exact A7
  | false =>
   rw[q] at h;exact A6 _ (wi0 h)
def opened(H:Hp)(sub:`uJ):Hp:=λb=>match `jB with
 | `au=>`c o.ho
 | `e=>H b
def closed(H:Hp)(a:`g)(sub:`uJ):Hp:=λb=>if b=a then `CQ else match `jB with
 | `qS=>`mj
 | `e=>H b
section
variable{P:`aw}{w:`X}{h:`W}
theorem HOk.opened(x:`fn)(ha:H a=`CQ)(hin:`N0)(hdx:`aK8):HOk P w (L2.opened H sub) h:=λb u e=>by
 skip;obtain⟨_,all⟩:(`Kk)/\∀p∈sub,`aua:=x a _ ha;unfold L2.opened at e;cases l:`jB with
 | some o =>
  rw[l] at e;have e:=`lJ;subst e;have m:=wi0 l;let#[_,q]:=all _ m;cases o with
  | lst xs=>done;exact q
  | dK kvs=>done;exact q
  | ins C dx fs =>
   let#[rfl,d,z,ne,e,r]:=q;done;refine#[?_,z,ne,e,r];apply `CR;rw[hdx _ C dx fs m];exact d
 | none =>
  rw[l] at e;have J:`mO:=λz=>by rw[z] at l;rw[l] at hin;cases hin
  done;refine`YH (`r7) (λc q=>?_) (λc xs q=>?_) λc ob u' q=>?_
  ·apply `CR
   cases lc:`rl with
   | none=>exact q
   | some o =>
    apply `adX
    ·have z:c=a:=z
     rw[z,ha] at q;cases q
    ·have z:`adY:=z
     rw[z] at q;cases q;exact `I rfl J
  ·apply `CR
   cases lc:`rl with
   | none=>exact q
   | some o =>
    apply `adX
    ·have z:c=a:=z
     rw[z,ha] at q;cases q
    ·have z:`adY:=z
     rw[z] at q;cases q
  ·apply `CR
   cases lc:`rl with
   | none=>exact q
   | some o =>
    apply `adX
    ·have z:c=a:=z
     rw[z,ha] at q;cases q
    ·have z:`adY:=z
     rw[z] at q;cases q
def SubO.there{b:`g}(o:`dl)(x:`cC P w H h b o.ho):∃ob,`oJ=`Kn:=by
 skip;cases o with
 | lst xs=>let#[_,_,_,_,e]:=x;done;exact`LB
 | dK kvs=>let#[_,_,_,_,_,_,_,e,_]:=x;done;exact`LB
 | ins C dx fs=>let#[_,_,_,e,_]:=x;done;exact`LB
theorem HOk.closed(x:`fn)(ha:`N0)(hs:∀p∈sub,`rW=`c p.2.ho)(hi:∀p∈sub,`aK9):HOk P w (`Hc H a sub) h:=λb u e=>by
 have J:∀{c:`g} {o:`dl},`rl=`au->H c=`c o.ho:=λl=>hs _ (wi0 l)
 have own:∀c y,H c=`YL->`adZ=`YL:=λc y q=>by
  apply `CS;have hc:c≠a:=λz=>by
   cases l:`tc with
   | none=>rw[l] at ha;cases ha
   | some o=>rw[z,J l] at q;exact `aK' o y `vP
  rw[`BQ];cases l:`rl with
  | none=>exact q
  | some o=>rw[J l] at q;exact `I `vP (`aK' o y)
 have tup:∀c xs,H c=`h_->`adZ=`h_:=λc xs q=>by
  apply `CS;have hc:c≠a:=λz=>by
   cases l:`tc with
   | none=>rw[l] at ha;cases ha
   | some o=>rw[z,J l] at q;exact `ad_ o xs `vP
  rw[`BQ];cases l:`rl with
  | none=>exact q
  | some o=>rw[J l] at q;exact `I `vP (`ad_ o xs)
 have frz:∀c ob u',H c=`YN->`adZ=`YN:=λc ob u' q=>by
  apply `CS;have hc:c≠a:=λz=>by
   cases l:`tc with
   | none=>rw[l] at ha;cases ha
   | some o=>rw[z,J l] at q;exact `aK! o ob u' `vP
  rw[`BQ];cases l:`rl with
  | none=>exact q
  | some o=>rw[J l] at q;exact `I `vP (`aK! o ob u')
 apply `lH
 ·subst hb
  have e:`Hc H b sub b=`br:=e;unfold L2.closed at e;rw[`bA] at e;have e:=`lJ;subst e;refine#[?_,λp hp=>`LY]
  ·cases l:`jB with
   | none=>rw[l] at ha;cases ha
   | some o=>exact `aK?
  ·by_cases z:p.1=b
   ·exact `e9
   ·refine `q ?_
    apply `CS;rw[`n8];cases l:`y4 p.1 with
    | none =>
     exact `I l (by
      intro l;rw[List.lookup_eq_none_iff] at l;have:=l p hp;simp at this)
    | some o=>rfl
  ·skip;have q:=x p.1 _ (hs p hp)
   let#[pa,po]:=p;cases po with
   | lst xs=>done;exact q
   | dK kvs=>done;exact q
   | ins C dx fs =>
    have M:pa=b:=hi _ hp C dx fs rfl;subst M;let#[d,z,ne,e,r]:=q;done;exact#[rfl,own _ _ d,z,ne,e,r]
 ·have e:`aLa=`br:=e
  unfold L2.closed at e;rw[`hN] at e;cases l:`jB with
  | some o =>
   rw[l] at e;have e:=`lJ;subst e;exact `aK?
  | none =>
   rw[l] at e;exact`YH (`r7) (λc q=>own c b q) (λc xs q=>tup c xs q) λc ob u' q=>frz c ob u' q
universe zz
section
variable{σ:St}{s:`y}
theorem Inv.view(I:`F)(no:∀b,`auI)(tp:`Kl)(fz:`YO)(tb:∀b ps,H b=`RL->`g1=`RL)
  (hok:HOk `a? X.w H' `aK):Inv X `k σ H' s :=
 #[I.ok,`nN,`iP,#[`RQ,`RR,λb o e n hx=>no b `Kx,`ak0,λb xs e=>tp b xs (`RW b xs e),λb o u e=>fz b o u (`RX b o u e),λb ps e=>let #[m,q]:=`auL;#[m,tb _ _ q]],
  `gi,`kP,no _ `hK,λx c e=>no _ `Ku,λp hp=>let #[e,n,r]:=`RS;#[e,no _ n,r],hok,`eW]
universe zz
structure OpenOk(H:Hp)(a:`g)(sub:`uJ):Prop where
 at':H a=`CQ
 root:`N0
 dx:`aK8
structure CloseOk(H:Hp)(a:`g)(sub:`uJ):Prop where
 root:`N0
 at':∀p∈sub,`rW=`c p.2.ho
 ins:∀p∈sub,`aK9
section
variable{σ:St}{s:`y}
def Inv.opened(I:`F)(o:`aLb):Inv X `k σ `aLc s:=by
 obtain⟨_,all⟩:`ad0/\∀p∈sub,`ad1:=`b7 a _ o.at';have no:∀{b:`g} {so:`dl},`jB=`td->H b=`CQ∨`EH:=λ{b so} l=>by
  rcases (all _ (wi0 l)).1 with z|z
  ·have z:b=a:=z
   rw[z];exact `p o.at'
  ·exact `tg
 have other:∀b u,H b=u->u≠`CQ->u≠`mj->L2.opened H sub b=u:=λb u q n1 n2=>by
  apply `CR;cases l:`jB with
  | none=>exact q
  | some so =>
   rcases no l with z|z
   ·exact `I (`UF z) n1
   ·exact `I (`UF z) n2
 exact I.view (λb q=>`N1) (λb xs q=>`N1) (λb o u q=>`N1) (λb ps q=>`N1) (I.hok.opened o.at' o.root o.dx)
def Inv.closed(I:`F)(c:`l2):Inv X `k σ `l3 s:=by
 have other:∀b u,H b=u->(`aLd)->`aLa=u:=λb u q n=>by
  apply `aLe
  apply `CS;have hb:`mO:=λz=>by
   cases l:`tc with
   | none=>have:=`N2;rw[l] at this;cases `E
   | some so=>exact `aLf
  rw[`hN];cases l:`jB with
  | none=>exact q
  | some so=>exact `aLg
 exact I.view (λb q=>`y5 b _ q λso z=>nomatch z) (λb xs q=>`y5 b _ q `aLh) (λb o u q=>`y5 b _ q `aLi) (λb ps q=>`y5 b _ q `aLj) (I.hok.closed `N2 c.at' c.ins)
universe zz
def Ends.closing(a:`g)(D:`kg):`kg where
 nx:=fun σ H=>∃sub,`l2/\`ji σ `l3
 bk:=fun σ H=>∃sub,`l2/\D.bk σ `l3
 ct:=fun σ H=>∃sub,`l2/\D.ct σ `l3
 rt:=λv H=>∃sub,`l2/\D.rt v `l3
section
variable{st:`eh}{t:TS}
def SP.closing{D:`kg}{f:Flow}(h:SP X `k `aLk f s'):`avz:=by
 skip;cases f with
 | next=>apply `ad2;done;apply `ad3
 | brk=>apply `ad2;done;apply `ad3
 | cont=>apply `ad2;done;apply `ad3
 | ret u=>let#[v,σ',H',I,r,sub,c,k]:=h;done;exact#[v,σ',_,`He,r,k]
theorem jz0(h:`f8):PE X e (fun σ H Q=>∃a sub,`l2/\te σ `l3 λv H'=>∃sub',`Hd H' a sub'/\Q v (`hi H' sub')):=λpins s σ H Q I #[a,sub,c,q] =>
 thn (h `k s σ _ _ (`He) q) λu s' #[v,H',I',r,sub',o,k]=>`aoK
universe zz
universe L2
namespace DL
open Spec PyProof.Rows L2
def v7(p:`g)(b:D):D:=`w [`f `p8,b]
def la0{p:`g}{b:D}:RpL K H B (v7 p b) a↔a=p/\RpG K H B b a:=by
 constructor
 ·rintro (⟨d',e,h⟩|⟨ks,vs,e,_⟩|⟨x,ns,e,_⟩)
  ·cases e
   exact#[rfl,h]
  ·cases e
  ·cases e
 ·rintro⟨rfl,h⟩
  exact `p #[b,rfl,h]
theorem RpG.less{d:D}(l:`q4)(h:`lY):RpG K H B' d a:=`ace (λ_ e=>e) (`ie l) h
inductive ResB where
 | nx (δ:Ds)|rt (d:D) (δ:Ds)
abbrev GSB:=Ds->`kw
def Jh0(K:`B)(H₀:Hp)(B₀:BS)(D:`kg):ResB->Prop
 | `SY=>`aCv
 | .rt d δ=>∀v σ H,`CD->D.rt v H
variable{Ga Gb:DL.GSB}
def tDB(K:`B)(H₀:Hp)(B₀:BS)(δ:Ds)(G:GSB):TS:=λD σ H=>∃r,`cJ/\G δ=`ew/\Jh0 K `ad `V D r
structure PSB(X:Cx)(st:`bq)(G:GSB):Prop where
 mk::go:∀H₀ B₀ δ,PS X st `aLl
structure PSsB(X:Cx)(st:`eh)(G:GSB):Prop where
 mk::go:∀H₀ B₀ δ,PSs X st `aLl
def n6(G:GS):GSB:=fun δ=>match G δ with
 | `dv=>`dv
 | _=>`e
def nilB:GSB:=`aA!
def p7(G1 G2:GSB):GSB:=fun δ=>match `mC with
 | `dv=>`BU
 | r=>r
def V6(gx:GX):GSB:=fun δ=>`Co λr=>.rt r.1 r.2
def ifB(gt:GB)(Ga Gb:GSB):GSB:=`aA?
section
variable{st:`bq}{as bs:`eh}{G1 G2:GSB}{gt:GB}
open T in
theorem j8(h:`abf):PSB X st (n6 G):=.mk λH₀ B₀ δ pins s σ H D I hq136=>by
 let#[r,en,e,k]:=hq136
 unfold n6 at e;split at e
 ·rename_i δ' e1
  cases e;exact `te `ad `V δ `k s σ H D I `Tl
 ·cases e
theorem p8:`jC X [] `D:=.mk λH₀ B₀ δ pins s σ H D I hq137=>by
 let#[r,en,e,k]:=hq137
 cases e;apply `aCB
theorem v8(h1:PSB X st G1)(h2:`jC X `bh G2):`jC X (st::`bh) (p7 G1 G2):=.mk λH₀ B₀ δ pins s σ H D I hq138=>by
 skip;let#[r,en,e,k]:=hq138
 unfold p7 at e;cases e1:`mC with
 | none=>rw[e1] at e;cases e
 | some r1 =>
  rw[e1] at e;cases r1 with
  | nx δ'=>done;exact zo0 `aLm (h2.go `ad `V δ') `k s σ H D I `aCC
  | rt d δ'=>cases e;done;exact zo0 `aLm ra0 `k s σ H D I `Tl
theorem Z1(h:`oc):PSB X `qV (V6 gx):=.mk λH₀ B₀ δ pins s σ H D I hq139=>by
 let#[r,en,e1,k]:=hq139
 unfold V6 at e1;cases e2:`dw with
 | none=>apply `U;cases e1
 | some q =>
  apply `U;cases e1;exact o00 `og `k s σ H D I #[q,en,e2,λv H' ev=>k v σ H' ev]
theorem R0(hc:`Mq)(ha:`aLn)(hb:`aLo):PSB X `Mr (ifB gt Ga Gb):=.mk λH₀ B₀ δ pins s σ H D I hq140=>by
 skip;let#[r,en,e1,k]:=hq140
 unfold ifB at e1;apply `a_;cases e2:`d! with
 | none=>apply `U;cases e1
 | some t =>
  apply `U;done;refine b30 (hc B δ) `vQ `ad4 `k s σ H D I `aCI;cases t with
  | true=>apply `Ms
  | false=>apply `Ms
universe zz
def spB(K:`B)(j:Nat)(f:`al):Sp:=λvs H Q _=>∃(B:BS) (ds:`l) (us:`N) (p:`g) (b b' r:D),`q7/\B p/\vs=`aLp/\`CT/\Rps K H B ds us/\RpG K H B b p/\`ad5 /\
 ∀v H',`NY->RpG K H' B b' p->Rp K H' B r v->`oQ
structure FnB(P:`aw)(w:`X)(K:`B)(mg:`bJ)(base:`W)(x:Str)(k:Nat)(ps:`h)(j:Nat)(f:`al):Prop where
 ex:∃fa fd,`T P w K mg `m CX0 k fa fd ps `aLq/\`abN
@[simp] def z10(N:`h)(j:Nat)(p:`g)(b:D)(ds:`l):Ds:=`aLr .sh++`UL::(`aLs .sh++`a1 (`BC - (`Hh)) .un)
def mi0{p:`g}{b:D}{d:D}(hj:`CT)(h:`pQ[i]?=`sZ):i=j/\d=v7 p b:=by
 unfold z10 at h;have hl:(`aLr `j3).length=j:=`aLt
 have J:∀(l:`l) (i:Nat),(`eu `j3)[i]?≠`sZ:=λl i z=>by
  rw[`bN] at z;cases q:`F_ with
  | none=>rw[q] at z;cases z
  | some x=>rw[q] at z;cases z
 by_cases hi:i<j
 ·rw[`g9 (by rw[hl];exact hi)] at h
  exact `aLu
 ·rw[`sk (by rw[hl];lia),hl] at h
  cases q:i - j with
  | zero=>rw[q] at h;cases h;exact#[`H,rfl]
  | succ n =>
   rw[q,`CU] at h
   by_cases hn:n<(`aLs `j3).length
   ·rw[`g9 hn] at h
    exact `aLu
   ·rw[`CV,`lT] at h
    apply `aby
def EndB(G:GSB)(δ:Ds)(j:Nat)(p:`g)(r b':D):Prop:=(∃δ',G δ=`c (.rt r δ')/\`N3)∨(r=`x/\∃δ',`ad6/\`N3)
section
variable{P:`aw}{w:`X}
def okB{st:`bq}{ps:`h}{k j:Nat}{f:`al}{G:GSB}(F:`abz)(S:`LR)
  (body:∀(cdv:`J) (A:`cK) (outer:`ang) (s:`y) (H:Hp) (E:XK),`anh->`jC `ani `x3 G)
  (hf:∀b ds r b',`ad5->`Hh=`aA/\`ad7) :
  `T P w K mg `m CX0 `fK fa fd ps `aLq:=by
 apply `abA
 ·let#[B,ds,us,p,b,b',r,_,_,hv,_,hr,_,h,_]:=zQ;rw[hv,`O,`Z,`dS,`iF,hr.length]
  have:=(`aLv).1;lia
 ·let#[B,ds,us,p,b,b',r,hb,hp,hv,hj,rs,ro,h,q]:=zQ;subst hv
  refine#[_,(`gk cdv A `cE s H E hr).go `N4 `aLw `pQ,?_];have sm:`cG `N4 H:=#[λb o e=>by
   by_cases z:b=p
   ·simp only[z,`gr] at e;cases e
   ·simp only[z,`dy] at e;exact e,λb o xs e=>by
   by_cases z:b=p
   ·exfalso
    rw[z] at e;exact `anD o xs e
   ·simp only[z,`dy];exact e]
  have sb:∀{H':Hp},`cG `N4 H'->`NY:=λs'=>#[λb o z e=>s' b o `aLx,λb o xs z e=>by have:=s'.nf b o xs e;apply `aLy]
  have U:(`Hf j).length=j:=by rw[`dS,`Ga];lia
  have en:`cY K `N4 `aLw H (`Tx N (`aLp)) `pQ:=by
   refine#[sm,#[B,`aLz,`hb,#[?_,hb,λi j a O es h1 h2 _ _=>?_]],λi O a h1 h2=>?_,`hb]
   ·by_cases q:a=p
    ·exact `q (by simp only[q,`gr])
    ·exact `acq
   ·unfold L2.start z10
    rw[`a4,`_,`aV,`hE,`O,`Z,`dS,`iF,`Ga];refine `ij (sr0 (N:=N) (rs.take j)) (`ai #[p,rfl,hp,la0.mpr #[rfl,ro]] (`ij (sr0 (N:=N) (rs.drop j)) ?_));rw[show min j `bP+(`bP - j+1)=`Hh by lia];exact mm0 _
   ·rw[(mi0 hj h1).1,(mi0 hj h2).1]
   ·let#[rfl,_]:=mi0 hj h1
    have:(`Tx N (`Hf i++`fL::`y7 i))[i]?=`c `TP:=by
     unfold L2.start;rw[`a4,`aV,`sk `lw,`K,U,`gX];rfl
    rw[`E] at h2;cases h2;simp only[`gr]
   ·simp only[z.2,`dy]
    exact hb a z.1
  rcases (`aLv).2 p with⟨δ',e,e'⟩|⟨rn,δ',e,e'⟩
  ·refine#[_,en,e,λv σ' H' ev=>?_]
   apply `ad8;apply `aLA;apply `aLB;have less:`aLC:=λx z=>by
    by_cases q:x=a
    ·rw[q];exact hB
    ·exact `ad9
   exact q v H' (sb `N5) (M.less less) (`N6 (`ie less))
  ·refine#[_,en,e,fun σ' H' en'=>?_]
   let#[B',c1,c2,J]:=en'.ex;apply `aLA;apply `aLB;have less:`aLC:=λx z=>by
    by_cases q:x=a
    ·rw[q];exact hB
    ·exact `ad9
   exact q `x H' (sb en'.same) (M.less less) (by rw[rn,U5])
universe zz
def mkB(n:Nat)(N:`h)(j:Nat)(G:GSB)(b:D)(ds:`l):`aoE:=(by classical exact if h:`vR/\`aLD then `c (Classical.choose h.2) else none)
def Q7{G:GSB}{b:D}{r:D}(h:`ad'):`vR/\`ad7:=by
 unfold mkB at h;split at h
 ·rename_i hh
  have e:=`pK;have:=D50 hh.2;rw[e] at this;exact#[hh.1,`E]
 ·cases h
def EndB.one{G:GSB}{δ:Ds}{p:`g}{r b r':D}(h:EndB G δ j p r b)(h':EndB G δ j p r' b'):r=r'/\b=b':=by
 have lb:∀{δ1:Ds},δ1[j]?=`aLE->δ1[j]?=`aoF->b=b':=λe1 e2=>by
  rw[e1] at e2;have e8:=A3 e2;injection e8 with e9
  unfold v7 at e9;injection e9 with e10
  exact(c6 (c6 e10).2).1
 rcases h with⟨δ1,e1,e2⟩|⟨rn,δ1,e1,e2⟩<;>rcases h' with⟨δ2,e3,e4⟩|⟨J,δ2,e3,e4⟩<;>rw[e1] at e3
 ·have e5:=A3 e3
  injection e5 with e6 e7
  subst e7;exact#[e6,lb e2 e4]
 ·cases e3
 ·cases e3
 ·have e5:=A3 e3
  injection e5 with e7
  subst e7;exact#[rn.trans J.symm,lb e2 e4]
def ih0{G:GSB}{b:D}{r:D}(hl:`vR)(h:`ad7):`ad':=by
 have hh:`vR/\`aLD:=#[hl,(r,b'),h];unfold mkB;rw[dif_pos hh];let#[e1,e2]:=(D50 hh.2 0).one (h 0);exact C3 `c (Prod.ext e1 e2)
def w90:`L1->`aP (D×(`kq))
 | `aLF=>`c (`UM,`N7)
 | `c (.ow (`zU))=>`c (`zU,`N7)
 | `c `aLG=>`c (`y8,`N7)
 | `c (.ow (`w [`CW,b]))=>`c (b,λd=>`w [`CW,d])
 | _=>`e
open T in
def vx0{s:`L1}{bm:D×(`kq)}(h:w90 s=`c bm):∃d0,s=`anC/\∀(K:`B) (H:Hp) (B:BS) (a:`g),RpL K H B d0 a->RpG K H B `kx a/\∀(H':Hp) (B':BS) (b':D),RpG K H' B' b' a->RpL K H' B' (bm.2 b') a:=by
 unfold w90 at h;split at h
 ·cases h
  apply `aLH
 ·cases h
  apply `aLH
 ·rename_i x ns
  cases h;refine#[_,rfl,λK H B a r=>#[?_,`aoH]];rcases r with⟨d',e,h⟩|⟨ks,vs,e,_⟩|h
  ·cases e
  ·cases e
  ·exact h
 ·rename_i p b
  cases h;refine#[_,rfl,λK H B a r=>?_];rcases r with⟨d',e,h⟩|⟨ks,vs,e,_⟩|⟨x,ns,e,_⟩
  ·cases e
   exact#[h,λH' B' b' r'=>`p #[b',rfl,r']]
  ·cases e
  ·cases e
 ·cases h
def S5(i:Nat)(gA:GA)(f:`al):GX:=fun δ=>`CX λb=>`aLI
structure PAB(X:Cx)(i j:Nat)(es:`bn)(gA:GA):Prop where
 mk::go:∀B δ,PA X es (fun σ H Q=>∃ds a,`Gm/\`lW/\`jt/\∀vs H',`a3->Rps X.K H' B ds vs->`CT->Q `aLJ H')
section
variable{g:GE}{gA:GA}{p:Pos}
theorem pab(i:Nat)(ha:`vo)(hN:`vr)(hv:`N8)(hd:`N9)(hcd:`N')
  (hs:`v (`c7 (`Hi::es) `A=(`r,`ad!)::`r') Aa):PAB X i 0 (`Hi::es) gA:=.mk λB δ=>(N7 `jA `bk hs).imp fun σ H Q hq141=>by
 let#[ds,a,en,h,hi,k]:=hq141
 exact#[_,hi,ds,en,h,λvs H' s r=>k vs H' s r `q2]
theorem yh0(i:Nat){k:Nat}{ps:`h}{f:`al}(C:FnB `a? X.w X.K `cc `d5 x k ps j f)(hj:∀b ds q,`UH=`sX->`CT)(hr:`Cm)(hk:k<=m)(ha:PAB X i j `gp gA)
  (hg:`gb) (hdb:`aZ) (he:`ej) (hpl:`gR) :
  PX X `xJ (S5 i gA f):=.mk λH₀ B₀ δ pins s σ H Q I hq142=>by
 skip;let#[r,en,e1,kk]:=hq142
 unfold S5 at e1;apply `a_;let#[fa,fd,F,hm,Z,hb]:=C.ex;cases eb:`hk with
 | none=>rw[eb] at e1;cases e1
 | some bm =>
 apply `N!;let#[d0,hi,U]:=`rm;cases e2:`cH with
 | none=>apply `U;cases e1
 | some ds =>
 apply `cp;cases e3:f `kx ds with
 | none=>apply `bH;cases e1
 | some q =>
 apply `bH;cases e1;apply `ad?;let#[h1,h2]:=U _ _ _ _ ro;done;refine(k00 (E:=E0) F `q! hg hm Z hb `L nh0 `rn hdb he hpl) `k s σ H Q I #[ds,a,env,e2,J,λvs H1 s1 r1 _=>?_];show spB X.K j f (`aLJ++[]) H1 _ _;rw[`bc];refine#[B,ds,vs,a,`kx,q.2,q.1,`aLK,hB,rfl,hj _ _ _ e3,r1,`aLL,e3,λv H' hh Y rv=>?_];apply `aLM;have M:`aea:=`vS hi J O (h2 H' B q.2 Y);apply `aLN
universe zz
def putL(i:Nat)(g:GE):`aT:=λv δ=>match `cl with
 | `c (.ow (`w [`CW,`FV]))=>`cR λd=>`MI λk=>if `gs<`S then `c (`bj i (.ow (`w [`CW,`cj `aLO (xu0 ks ds k v)]))) else `e
 | _=>`e
section
variable{g:GE}
open T in
theorem R70(i:Nat)(hu:`i')(h:`cB)(hN:`ek)(hv:`ga)(hd:`aZ)(hcd:`fo)
  (ha:`v (∀v,`aHW=(do
   let ov ← `aHX
   let iv ← `adb
   `KR
   `KS
   `KT)) Ac):PTG X `T! (putL i g):=.mk λH₀ B₀ d δ pins s σ H v u Q I r hq143=>by
 let#[δ',en,e1,k]:=hq143
 unfold putL at e1;apply `M';split at e1
 ·rename_i p' ks ds hi
  cases e3:`ax with
  | none=>apply `bH;cases e1
  | some dk =>
   apply `bH;apply `eN;cases e4:`Hb with
   | none=>apply `gW;cases e1
   | some q =>
    apply `gW;apply `eN;split at e1
    ·rename_i hz
     cases e1;obtain⟨a,J,hb,⟨d',hq,hr⟩|⟨_,_,hq,_⟩|⟨_,_,hq,_⟩⟩:=`s1
     rotate_left
     ·cases hq
     ·cases hq
     cases hq;let#[xs,hx,hl,rx]:=hr;have hl:`sI:=hl;apply `aHY;have:=rq0 e4 r1;subst this;apply `aHZ;apply `aH_;have rr:Rps X.K H1 B (xu0 ks ds q d) ys:=by
      unfold xu0;cases hk:`pH with
      | true=>rw[`bA,O hk];exact `aH0
      | false=>rw[`kv,U hk];exact `aH1
     rw[hy];have M:Env X.K (upd H1 a (.dK (`aHO))) B σ (`bj i (.ow (`w [`tF,`cj (`p (`T9)) (xu0 ks ds q d)]))):=`M8 hi J (`p #[`cj (`p _) _,rfl,`aH3]);apply `aH4
    ·cases e1
 ·cases e1
universe zz
def su0{G:GSB}{b:D}{q:D×D}(hn:j+1<=n)(h:`UK=`sX):`CT:=by
 have:=(Q7 (r:=q.1) (b':=q.2) h).1;lia
universe DL
variable{Ga Gb:DL.GSB}
namespace L2
open Spec PyProof.Rows
section
variable{st:`bq}{t:TS}
theorem W9(h:`f8):PE X e (fun σ H Q=>te σ H λv H'=>∃a sub,`aLP/\Q v (`hi H' sub)):=λpins s σ H Q I q =>
 thn `N? `aLQ
theorem Q5(h:`f8):PE X e (fun σ H Q=>te σ H `aeb):=λpins s σ H Q I q =>
 thn `N? λu s' #[v,H',I',r,a,sub,o,k]=>#[v,_,`aec o,r,k]
theorem q00(h:PS X st t):PS X st (λD σ H=>∃a,t `aLk σ H):=λpins s σ H D I #[a,q] =>
 thn `N? λf s' z=>SP.closing z
universe zz
universe L2
namespace DL
open Spec PyProof.Rows L2
def T8(k:Nat):D:=`w `aLR
def xi0(k:Nat):yq0 `aLR=`e6:=by
 show (if ("@" : Str) = "@" then `c (k:Int).toNat else `e)=_;rw[`bA];rfl
mutual
def nrf:`df
 | `ci=>(`js).isNone&&`UQ
 | _=>`d
def v70:`Cp
 | []=>`d
 | `ay=>nrf d&&`UQ
end
section
def zv0:`gt K H B as [] xs=(`u3):=by unfold RpNs;rfl
def O6{d:D}:`gt K H B as `hx xs=`aBV:=by conv=>lhs;unfold RpNs
def yw0:RpN K H B as `sC v=(`aBU):=by conv=>lhs;unfold RpN
theorem T6:∀{ds:`l} {xs:`N},`gu↔`bx (RpN K H B as) ds xs
 | [],xs=>by
  rw[zv0];constructor
  ·rintro rfl;exact `L
  ·intro h;cases h;rfl
 | `ay,xs=>by
  rw[O6];constructor
  ·rintro⟨x,r,rfl,h1,h2⟩;exact `ai h1 (`pR h2)
  ·intro h;cases h with
   | cons h1 h2=>exact#[_,_,rfl,h1,`oh h2]
mutual
theorem ai0:∀{d:D} {v:V},`ky->`i3->`ck
 | `x,_,_,h=>`Oa
 | `bK,_,_,h=>`Oa
 | `cn,_,_,h=>`Oa
 | `bF,_,_,h=>`Oa
 | `ci,_,n,h=>by
  unfold nrf at n;rw[`bz] at n;rw[yw0] at h;rw[U8];skip;rcases h with⟨k,a,e,_⟩|⟨_,a,xs,e,q,r⟩
  ·rw[e] at n;cases n.1
  ·done;exact#[a,xs,e,q,ty0 n.2 r]
 | `cw,_,_,h=>`aed
 | `kr,_,_,h=>`aed
 | `q5,_,_,h=>`aed
theorem ty0:∀{ds:`l} {xs:`N},`aee->`gu->`bb
 | [],_,_,h=>by rw[zv0] at h;rw[m9];exact h
 | `ay,_,n,h=>by
  unfold v70 at n;rw[`bz] at n;rw[O6] at h;apply `B2;rw[o9];exact#[x,r,e,ai0 n.1 h1,ty0 n.2 h2]
end
mutual
theorem p30:∀{d:D} {v:V},`ky->`ck->`i3
 | `x,_,_,h=>`Ob
 | `bK,_,_,h=>`Ob
 | `cn,_,_,h=>`Ob
 | `bF,_,_,h=>`Ob
 | `ci,_,n,h=>by
  unfold nrf at n;rw[`bz] at n;rw[U8] at h;rw[yw0];apply `L8;refine `q #[?_,a,xs,e,q,nm0 n.2 r];cases z:`js with
  | none=>rfl
  | some k=>rw[z] at n;cases n.1
 | `cw,_,_,h=>`aef
 | `kr,_,_,h=>`aef
 | `q5,_,_,h=>`aef
theorem nm0:∀{ds:`l} {xs:`N},`aee->`bb->`gu
 | [],_,_,h=>by rw[m9] at h;rw[zv0];exact h
 | `ay,_,n,h=>by
  unfold v70 at n;rw[`bz] at n;rw[o9] at h;apply `B2;rw[O6];exact#[x,r,e,p30 n.1 h1,nm0 n.2 h2]
end
theorem RpN.same{d:D}(s:`a3)(h:`i3):`aLS:=RpN.mono `sL (`FZ) h
theorem RpNs.same(s:`a3)(h:`gu):`gt K H' B as ds xs:=`aaR `sL (`FZ) h
def RpNs.atI{i:Int}{d:D}(r:`gu)(h:DL.atI ds i=`a7):∃v,`abG=`b6/\`i3:=by
 have p:=`pR r;rw[Sr0];unfold DL.atI at h ⊢;rw[← `pS p];cases e:ixN `bP i with
 | none=>rw[e] at h;cases h
 | some j =>
  rw[e,`n] at h;rw[`n];exact `mZ p h
universe zz
theorem fd0:∀{as:`aM} {sos:`vk} {k:Nat} {c:`g} {so:`dl},`lX->`lh->`li->`aLT
 | [],_,_,_,_,_,h,_=>`gP
 | `dJ,[],_,_,_,_,_,h=>`gP
 | x::as,y::sos,0,c,so,_,h1,h2=>by
  simp at h1 h2;subst h1 h2;rw[`dh,`f',`acO]
 | x::as,y::sos,k+1,c,so,nd,h1,h2=>by
  rw[`adw] at nd;have h1':`lh:=`rQ
  have J:`aLU:=`mW λz=>nd.1 (z▸C5 h1')
  rw[`dh,`f',J];exact fd0 nd.2 h1' (`Li)
theorem zp0:∀{as:`aM} {sos:`vk} {c:`g},c∉as->(`a2).lookup c=`e
 | [],_,_,_=>`a6
 | `dJ,[],_,_=>`a6
 | x::as,y::sos,c,h=>by
  rw[`pG] at h;have hne:`aLU:=`aLV
  rw[`dh,`f',hne];exact zp0 `aLW
def wr0(hl:`Me){c:`g}(h:c∈as)(nd:`lX):∃so,`aLT:=by
 let#[k,hk,e]:=Ah0.mp h;exact#[sos[k],fd0 nd (by rw[`hc hk,e]) (C2 `j)]
theorem RpW.in0(h:`fv):a∈as:=C5 h.hd
def RpW.openOk(h:`fv):`Hd H a `d?:=by
 refine#[`vl,?_,λb C dx fs hm=>zp0 ?_]
 ·let#[so,e]:=wr0 `i4 h.in0 `gV
  rw[e];rfl
 ·let#[k,hk,e]:=Ah0.mp hm
  rw[`aLX] at e;have J:`Oc:=by rw[`pI] at hk;lia
  have e2:`amT:=by rw[`hc J];exact C3 `c (c9 e).2
  let#[n,_,hn]:=`yl `B4 e2;unfold NodeOk at hn;split at hn
  ·let#[xs,z,_]:=hn;cases z
  ·let#[xs,z,_]:=hn;cases z
  ·skip;let#[C',M,O,xs,z,_,_,_,q,_]:=hn
   done;injection z with z1 z2 z3
   rw[z2];exact q
  ·exact hn.elim
def RpW.opAt(h:`fv){k:Nat}{c:`g}(h1:`lh)(h2:`li):`hi H `d? c=`y6:=by
 unfold opened;rw[fd0 `gV h1 h2]
def w60{b:`g}(h:`Od):`aLY=H b:=by
 unfold opened;rw[zp0 h]
def dd0{Ho:Hp}(off:∀b,`Od->Ho b=H b)(own:∀b∈as,`RF)(hl:`Me)(nd:`lX)(ha:a∈as):`fT Ho a `d?=upd H a `amS:=by
 funext b
 unfold closed upd
 apply `lH
 ·rw[`iZ,`iZ]
 ·rw[`hN,`hN]
  apply `aeg
  ·let#[so,e]:=wr0 hl hm nd
   rw[e];rcases own b hm with z|z
   ·exact `aLZ
   ·exact `pe
  ·rw[zp0 hm]
   exact off b hm
def se0{Ho:Hp}(hd:`aB0)(nd:`lX)(hl:`Me)(at':∀(k:Nat) c so,`lh->`li->Ho c=`y6)(ins:`aaV):`hj Ho a `d?:=by
 have ge:∀p∈`a2,∃k,`S8=`c p.1/\`Ta=`r2:=λp hp=>by
  let#[k,hk,e]:=Ah0.mp hp;have J:=hk;rw[`pI] at J;rw[`aLX] at e;exact#[k,`aL_,`aL_]
 refine#[?_,`kd,λp hp C dx fs e=>?_]
 ·let#[so,e]:=wr0 hl (C5 hd) nd
  rw[e];rfl
 ·apply `aL0
  exact at' k _ _ e1 e2
 ·apply `aL0
  rw[e] at e2;rw[ins k _ _ _ e2,hd] at e1;exact(A3 e1).symm
def RpW.back(h:`fv):`hj `th a `d?/\`fT `th a `d?=H:=by
 refine#[se0 h.hd `gV `i4 (λk c so e1 e2=>`aL1) `B5,?_];rw[dd0 (H:=H) (λb hb=>w60 hb) `aL2 `i4 `gV h.in0]
 funext b
 unfold upd
 apply `lH
 ·rw[`iZ,hb,`vl]
 ·rw[`hN]
theorem RpW.same(s:`a3)(h:`fv):RpW K H' B ns a as sos:=#[h.hd,`gV,s _ _ `vl,λb hb=>`UR id λz=>#[z.1,s _ _ z.2],`i4,rt0 (λ_ _ r=>`cX `sL) `B4,`B5]
def RpW.put(h:`fv)(hB:B a){k:Nat}{c:`g}{so':`dl}(h1:`lh)(h2:`li)(r:`e8 K H B as n' so')(hi:`aL3) :
  `hj `aL4 a `US/\`fT `aL4 a `US=`aL5 /\
   RpW K (`aL5) B `aL6 a as (`Hj):=by
 have hl:`gv=(`Hj).length:=by rw[`azg];exact `i4
 have hk:`Oc:=(`cU h2).1;have ins:∀(j:Nat) C dx fs,(`Hj)[j]?=`ms->j=0:=λj C dx fs e=>by
  skip;rcases `ik e with⟨rfl,e,_⟩|⟨_,e⟩
  ·done;exact hi C dx fs e
  ·done;exact `B5 j C dx fs e
 refine#[se0 h.hd `gV hl (λj d s e1 e2=>?_) ins,dd0 (`gN) `aL2 hl `gV h.in0,h.hd,`gV,j5,`gN,hl,?_,ins]
 ·skip;rcases `ik e2 with⟨rfl,e,_⟩|⟨n,e⟩
  ·rw[h1] at e1
   cases e1;done;rw[j5,e]
  ·have:d≠c:=λz=>by
    let#[g1,g2]:=`cU h1;let#[g3,g4]:=`cU e1;exact n ((x3 `gV).mp (g2.trans (z▸g4.symm)))
   done;rw[`ack];exact h.opAt e1 e
 ·have:b≠c:=λz=>hb (z▸C5 h1)
  rw[`ack];exact w60 hb
 ·rcases `amU with z|z
  ·exact `e9
  ·by_cases q:b=a
   ·exact `kf
   ·exact `q #[z.1,by rw[d7 q];exact z.2]
 ·exact `n6 (`aL7) k (rt0 (λ_ _ r=>`aL7) `B4)
def dpN(i:Nat)(δ:Ds):`sA:=`CX λb=>match b.1 with
 | `w (`bF::ns)=>`c ns
 | _=>`e
def setN(i k:Nat)(n:D)(δ:Ds):Ds:=match `hk with
 | `U0=>`bj i (.ow (mk (`w (`bX::`UT k n))))
 | _=>δ
structure AtN(K:`B)(H:Hp)(B:BS)(σ:St)(δ:Ds)(i:Nat)(a:`g)(ns:`l)(as:`aM)(sos:`vk):Prop where
 sl:`jt
 bad:B a
 dp:`Hv
 w:`fv
section
variable{σ:St}{δ:Ds}
open T in
def Env.atN(e:`be)(h:`Hv):∃a as sos,`ro:=by
 have h0:=h;unfold dpN at h;cases eb:`hk with
 | none=>rw[eb] at h;cases h
 | some bm =>
  rw[eb,`n] at h;let#[d0,hi,J]:=`rm;let#[a,M,hB,ro]:=`TN;let#[h1,_]:=J _ _ _ _ ro;split at h
  ·rename_i x ns' hbm
   cases h;rw[hbm] at h1;let#[y,ms,e1,as,sos,w]:=h1;cases e1;exact#[a,as,sos,M,hB,h0,w]
  ·cases h
theorem AtN.same(s:`a3)(h:`ro):AtN K H' B σ δ i a ns as sos:=#[h.sl,h.bad,h.dp,h.w.same s]
open T in
def Env.setN(e:`be)(h:`ro){k:Nat}{o:HO}{sos':`vk}(w:RpW K `jv B `aL6 a as' sos') :
  ∃d0 d,`Cz/\`aL8=`anq/\`aFz:=by
 have dp:=h.dp;unfold dpN at dp;cases eb:`hk with
 | none=>rw[eb] at dp;cases dp
 | some bm =>
  rw[eb,`n] at dp;let#[d0,hi,O]:=`rm;let#[a',M,hB,ro]:=`TN;let#[_,h2]:=O _ _ _ _ ro;split at dp
  ·rename_i x ns' J
   have dp:=A3 dp;subst dp;rw[h.sl] at M;cases M;let#[bd,mk]:=bm;have J:bd=`w (`bX::ns'):=J;subst J;refine#[d0,mk (`w (`bX::ns'.set k n')),hi,?_,e.mut hi h.sl (h2 _ _ _ #[x,_,rfl,as',sos',w])];unfold DL.setN;rw[eb]
  ·cases dp
universe zz
universe DL
namespace DL
open Spec PyProof.Rows L2
def tN(K:`B)(B:BS)(δ:Ds)(i:Nat)(g:GE):TE:=fun σ H Q=>∃d a ns as sos,`be/\`hO/\`ro/\∀v H',`a3->`aLS->`oQ
structure PN(X:Cx)(i:Nat)(e:`M)(g:GE):Prop where
 mk::go:∀B δ,PE X e (tN X.K B δ i g)
def si0(ns:`l):`x'
 | `ci=>`aeh `aei
 | _=>`e
def lt0(ns:`l)(d y:D):`du:=match d,y with
 | `ci,`fW=>(match `js with
  | `e6=>(match `hl with
   | `hT=>atI es z
   | _=>`e)
  | `e=>atI ds z)
 | _,_=>`e
def J0(i:Nat)(ga gb:GE):GE:=fun δ=>`vc λd=>`LZ λy=>`dK λns=>lt0 ns d y
def wv0(i:Nat)(ga gb:GE):GE:=fun δ=>`vc λd=>`LZ λy=>`dK λns=>match `oi with
 | `c `L!=>(y90 y).bind `aL9
 | _=>`e
def m5(i:Nat):GE:=fun δ=>(`cL).map λ_=>T8 0
def plN(g:GE):GE:=fun δ=>`cR λd=>if `ky then `a7 else `e
def J9(i:Nat)(g:GE):GE:=fun δ=>`cR λd=>`dK λns=>match `oi with
 | `hT=>`c (`f `gw)
 | _=>`e
section
variable{σ:St}{δ:Ds}
open T in
def RpW.node(w:`fv){d n:D}(r:`i3)(h:`oi=`xW):∃(k:Nat) (c:`g) (so:`dl),v=`qQ/\`lh/\`li/\`hl=`xW/\`Md:=by
 unfold si0 at h;split at h
 ·rename_i ds
  cases e:`js with
  | none=>rw[e] at h;cases h
  | some k =>
   rw[e,`n] at h;rw[yw0] at r;apply `aL'
   ·rw[e] at e1
    cases e1;let#[so,hs,hn]:=`mZ w.all h;exact#[k,c,so,e3,e2,hs,h,hn]
   ·rw[e] at e1;cases e1
 ·cases h
theorem zq0{es:`l}(h:`e8 K H B as `y' so):∃xs,`aaT/\`gt K H B as es xs:=h
theorem Rw0(h:`e8 K H B as `L! so):`aBY:=h
universe zz
theorem Zq0:∀{ks:`eb} {ds:`l} {xs:`N} {q:O4},`gu->(∀d,`Hk=`a7->∃v,`T8=`b6/\`i3)/\`aHM
 | [],ds,xs,q,r=>#[`aL!,`iI]
 | `hS,[],xs,q,r=>by
  rw[zv0] at r;subst r;exact#[`aL!,λh=>`gP]
 | `hS,`ay,xs,q,r=>by
  rw[O6] at r;apply `Np;let#[i1,i2]:=Zq0 (ks:=ks) (q:=q) h2;rw[`dh];have hv:zh0 ((k,x)::`yb r') q=if k=q then `dk else zh0 (`yb r') q:=by
   unfold zh0;rw[`GA]
   apply `CG
   ·rw[`d0,`bd e];rfl
   ·rw[`dg,`Ke]
  constructor
  ·intro d' h
   unfold xq0 at h;rw[hv]
   apply `CG
   ·rw[`d0] at h ⊢
    cases h;exact`B3
   ·rw[`dg] at h ⊢
    exact i1 d' h
  ·intro hl
   rw[hv];unfold zt0;rw[`km]
   apply `CG
   ·rw[`d0,`bd e];rfl
   ·rw[`dg,`Ke,`ab_]
    exact i2 `F4
section
variable{a:`M}{p:Pos}{g ga gb:GE}
theorem Z9(i:Nat)(hN:`ek)(hv:`ga)(hd:`aZ)(hcd:`fo) :
  PN X i `kS (m5 i):=.mk λB δ=>`aCh fun σ H Q hq144=>by
 skip;let#[d,a,ns,as,sos,en,h,at',k]:=hq144
 unfold m5 at h;rw[`rp] at h;cases h;done;refine#[_,`fU,`ME];unfold T8;rw[yw0];exact `p #[0,a,xi0 0,`tk,rfl]
theorem wh0(h:`Oe)(hdp:∀δ d,`hO->`aej):PD X e (plN g):=.mk λB δ=>(`te B δ).imp fun σ H Q hq145=>by
 let#[d,en,e1,k]:=hq145
 unfold plN at e1;cases e2:`ax with
 | none=>apply `U;cases e1
 | some d' =>
  apply `cp;split at e1
  ·rename_i hn
   cases e1;have:=hdp δ _ e2;cases e3:`cL with
   | none=>rw[e3] at this;cases `E
   | some ns =>
    apply `aL?;exact#[d,a,ns,as,sos,en,e2,at',λv H' s r=>k v H' s (ai0 hn r)]
  ·cases e1
def pv0{δ:Ds}{d:D}(h:J0 i ga gb δ=`a7):`aej:=by
 unfold J0 at h;cases e1:`cv with
 | none=>rw[e1] at h;cases h
 | some x =>
  apply `l4;cases e2:`dO with
  | none=>rw[e2] at h;cases h
  | some y =>
   apply `rk;cases e:`cL with
   | none=>rw[e] at h;cases h
   | some ns=>rfl
open T in
theorem ru0(ha:`aMa)(hb:`c0)(hs:`Ml):PN X i `u6 (J0 i ga gb):=.mk λB δ =>
 (Q5 (Wt0 (Xc0.or Zc0) `rn (W9 (`tf B δ)) hs)).imp fun σ H Q hq146=>by
  let#[d,ad,ns,as,sos,en,h,at',k]:=hq146
  unfold J0 at h;cases e1:`cv with
  | none=>rw[e1] at h;cases h
  | some dx =>
  apply `l4;cases e2:`dO with
  | none=>rw[e2] at h;cases h
  | some y =>
  rw[e2,`n,`rp,`n] at h;apply `aMb;have J:=(`Hl).same s2;apply `vT;apply `Of;have O:=`pr;have M:=`k6;unfold lt0 at h;split at h
  ·rename_i ds z
   rw[j7] at r2;subst r2;cases e3:`js with
   | some kk =>
    rw[e3] at h;dsimp only at h;split at h
    ·rename_i es hes
     have hn:si0 ns `sC=`hT:=by show `aeh (`aei)=_;rw[e3];exact hes
     let#[k',c,so,rfl,f1,f2,f3,f4]:=`UU O hn;apply `i?;apply `aMc;refine `p #[c,xs,z,w,rfl,rfl,`UX,w1,ad,`a2,c1,?_];rw[c2];exact `aMd
    ·cases h
   | none =>
    rw[e3] at h;dsimp only at h;rw[yw0] at O;rcases O with⟨k',c,f,_⟩|⟨_,c,xs,rfl,q,rx⟩
    ·rw[e3] at f;cases f
    ·apply `aMc
     have hc:c∉as:=λz=>by
      rcases J.w.own c z with z|z
      ·exact(`fQ M).bad c (z▸`rq) |>.nt xs q.2
      ·rw[q.2] at z;cases z.2
     refine `q #[c,xs,z,w,rfl,rfl,`p (`p (by rw[w60 hc];exact q.2)),w1,ad,`a2,c1,?_];rw[c2];exact `aMd
  ·cases h
open T in
theorem t90(hu:`i')(ha:`aMa)(hb:`c0)(hs:`ac9):PN X i `u6 (wv0 i ga gb):=.mk λB δ =>
 (Q5 (gu0 hu `rn (W9 (`tf B δ)) hs)).imp fun σ H Q hq147=>by
  let#[d,ad,ns,as,sos,en,h,at',k]:=hq147
  unfold wv0 at h;cases e1:`cv with
  | none=>rw[e1] at h;cases h
  | some dx =>
  apply `l4;cases e2:`dO with
  | none=>rw[e2] at h;cases h
  | some y =>
  rw[e2,`n,`rp,`n] at h;apply `aMb;have J:=(`Hl).same s2;apply `vT;apply `Of;split at h
  rotate_left
  ·cases h
  rename_i ks ds hn;cases e3:y90 y with
  | none=>rw[e3] at h;cases h
  | some q =>
  apply `rj;apply `aMe;let#[xs,rfl,hl,rx]:=Rw0 f4;let#[v,M,rv]:=(Zq0 rx).1 d h;have:=`ac';subst this;refine#[c,v,rfl,by rw[← M];exact `T' (`ti),ad,`a2,c1,?_];rw[c2];exact `ac?
theorem yg0(hm:`abL)(ha:`Oe)(hg:`abM)(he:`eO)(hpl:`i9) :
  PD X `aEi (J9 i g):=.mk λB δ=>(Q5 (nn0 qf0 hg hm P1 (N7 (W9 `rn) y20 he) `s `s he hpl)).imp fun σ H Q hq148=>by
 skip;let#[d,en,h,k]:=hq148
 unfold J9 at h;cases e1:`ax with
 | none=>rw[e1] at h;cases h
 | some dx =>
 apply `l4;cases e2:`cL with
 | none=>rw[e2] at h;cases h
 | some ns =>
 apply `rk;let#[ad,as,sos,at']:=en.atN e2;done;apply `aMf;apply `hU;apply `vT;apply `Of;skip;split at h
 rotate_left
 ·cases h
 rename_i es hn;cases h;apply `aek;apply `i?;done;refine#[c,xs,rfl,`p (`UX),ad,`a2,c1,?_];rw[c2];exact k _ H1 s1 (by rw[j7,`CY])
universe zz
universe DL
namespace DL
open Spec PyProof.Rows L2
section
variable{σ σ':St}{δ:Ds}
def EnvS.takeL(en:`cJ)(b1:`i5)(b2:`i6)(e:`be)(i:Nat){d:D}{p:`g}(hp:`dP)(s:`a3)
  (r:RpL K H' `k7 d p):`aFS:=by
 apply `acl
 have J:`abe:=`acm;have live:`aFT:=λ{j d' b} h1 h2=>by
  apply `aFU;rw[h2] at q1;cases q1;apply `aFV
 apply `aFW
 ·apply `MZ
  ·exact b2 a z
  ·exact `q J
 ·refine `n6 #[p,rfl,`o7,r] i `aFX
  cases sl with
  | un=>trivial
  | ex c n=>apply `f?;apply `Cg
  | sh d=>apply `f?;apply `Cg
  | ow d=>apply `MV;apply `aFY
 ·apply `MZ
  ·apply `acn
  ·exact `q6
 ·skip;apply `M_
  ·apply `M0
   ·done;rfl
   ·apply `aFZ
    ·cases e3
     apply `CB;done;exact `aF_
    ·done;exact `M1
  ·apply `M0
   ·apply `aF0
    ·cases e4
     apply `CC;done;exact `aF1
    ·done;exact `aF2
   ·apply `CC
    apply `CB;done;apply `Mi
 ·skip;apply `M_
  ·apply `aF3
   ·cases e3;done;exact J
   ·done;exact `M1
  ·rw[`GN] at h2
   done;apply `aco
universe zz
def wt0:D->`Ly
 | `ci=>`js
 | _=>`e
def yu0(i:Nat)(go gv:GE):GX:=fun δ=>`l5 λd=>`vU λdv=>`dK λns=>`vV λk=>match `hl with
 | `hT=>if `aMg/\`gw<`S then `c (`x,`db i k `aMh δ) else `e
 | _=>`e
section
variable{σ:St}{δ:Ds}
open T in
def Qs0{d:D}{k:Nat}(h:`mY=`e6):`oi=`hl:=by
 unfold wt0 at h;split at h
 ·rename_i ds
  show `aeh (`aei)=_;rw[h];rfl
 ·cases h
open T in
def RpW.nodeK(w:`fv){d n:D}{k:Nat}(r:`i3)(h:`mY=`e6)(hn:`hl=`xW):∃(c:`g) (so:`dl),v=`qQ/\`lh/\`li/\`Md:=by
 unfold wt0 at h;split at h
 ·rename_i ds
  rw[yw0] at r;apply `aL'
  ·rw[h] at e1
   cases e1;let#[so,hs,hn]:=`aMi;exact#[c,so,e3,e2,hs,hn]
  ·rw[h] at e1;cases e1
 ·cases h
def EnvS.setN(en:`cJ)(b1:`i5)(b2:`i6)(env:`be)(s:`a3)(h:`ro){k:Nat}{c:`g}{so':`dl}{n':D}(h1:`lh)(h2:`li)
  (r:`e8 K H' B as n' so') (hi:`aL3) {d:D} {v:V} (rv:`Te) :
  ∃sub',`hj `aMj a sub'/\EnvV K `ad `V (`fT `aMj a sub') σ (`aL8) d v:=by
 have h':=`Mg s;let#[p1,p2,p3]:=h'.w.put h.bad h1 h2 r hi;refine#[_,p1,?_];rw[p2];let#[d0,d',M,e1,J]:=(`ih s).setN h' p3;rw[e1];exact `hf (`yG s b1 b2 M h.sl J) b1 b2 J (`N6 (`yA h.bad))
universe zz
section
variable{f:`M}
open T in
theorem q20(ho:`rr)(h1:PD X e g1)
  (hbase:`aMk)
  (hfew:`v ((`lZ
  &&`M7)=`d) Aa)
  (hline:`fs) (hs:`eO) (hplain:`kt) :
  PX X (`a0 `ao0 [e] [] `ch) (yu0 i go g1):=.mk λH₀ B₀ δ pins s σ H Q I hq149=>by
 let#[r,en,e1,k]:=hq149
 unfold yu0 at e1;apply `a_;cases e2:`jE with
 | none=>apply `U;cases e1
 | some d =>
 apply `cp;cases e4:g1 δ with
 | none=>apply `gW;cases e1
 | some dv =>
 rw[e4,`n] at e1;cases e5:`cL with
 | none=>rw[e5] at e1;cases e1
 | some ns =>
 apply `Og;cases e6:`mY with
 | none=>rw[e6] at e1;cases e1
 | some kk =>
 apply `CZ;split at e1
 rotate_left
 ·cases e1
 rename_i es hnode;split at e1
 rotate_left
 ·cases e1
 rename_i hz;cases e1;apply `Oh;refine Q5 (sm0 L0 Ac0 Ad0 pj0 `C_ `aMl `ft `hM `fu hs `iY) `k s σ H Q I `Oi;apply `hU;apply `Oj;apply `i?;refine`aMm;apply `vT;refine`aMn;rw[c2];refine#[dv,`jx,e4,`sN];have O:=`k6;have M:=`mX O;have Y:=`ael;refine#[_,`aMo,c,xs,v2,rfl,rfl,`aMp,by rw[← `CY];exact hz.2,?_];have nk:`e8 X.K H2 B as `aMh (`o (xs++[v2])):=#[_,rfl,`oh (`ij (`pR Y) (`ai (p30 hz.1 r2) `L))];let#[U,q1,q2]:=`vW b1 b2 env O at' f1 f2 nk `C0 (d:=`x) (v:=`x) `il;exact#[a,U,q1,k _ _ q2]
universe zz
def Env.freshS{σ:St}{δ:Ds}{p:`g}(e:`be)(hp:`dP)(s:`a3)(nb:NB (H' p)):Env K H' `k7 σ δ:=by
 apply `acl
 refine#[`pD (λv sl h=>?_) `ha,`hb,`mE]
 ·cases sl with
  | un=>trivial
  | ex c n=>apply `NT;exact`aMq
  | sh d=>apply `NT;exact`aMq
  | ow d=>let#[a,q,hb,r]:=h;exact#[a,q,`aar,`cX (λo ho=>s _ _ ho) g]
 ·apply `CP
  ·apply `acn
  ·rw[z];exact nb
universe DL
namespace L2
open Spec PyProof.Rows
section
variable{t:TA}{m:Str}{k:Nat}{f C:`g}{ps:`h}{E:XK}{ds:`ah}
theorem Yi0(h:`uY):PA X es (fun σ H Q=>t σ H λvs H'=>∃a sub,`aLP/\Q vs (`hi H' sub)):=λpos pins s σ H Q I q =>
 thn (h pos `k s σ H _ I q) `aLQ
theorem Si0(h:`uY):PA X es (fun σ H Q=>∃a sub,`l2/\t σ `l3 Q):=λpos pins s σ H Q I #[a,sub,c,q]=>h pos `k s σ _ Q (`He) q
def S40{pl:`uU}(he:`K?)(c:`Bu)(hm:`axE)(F:`uZ)(hr:`By)(hb:`u_)(hd:`u0)(hx:`u1)
  (ht:`v (`bg `aMr `A=(do
   let ov ← `h7
   `Ld
   let (f,`sh) ← `Le
   `aMs)) Aa) :
  PE X `aMr (fun σ H Q=>ta σ H λx H1=>∃a dx fs,`de/\`K!/\`K9/\∃a' sub,`hj H1 a' sub/\sp (x::([]++dvs)) (`fT H1 a' sub) Q E):=by
 apply `bB;refine `axH (pl:=pl) (thn `iS λu s1 hq150=>?_) ht;skip;let#[x,H1,I1,rx,a,dx,fs,ex,ea,l,a',sub,cl,q]:=hq150;subst ex;apply `uX;done;refine `axI;exact `axO (first:=`fP) I1.kIn hm.kp (Y60 (us:=`fP) (vs:=`fP) F hr hb hd hx (I1.closed cl) (`ai rfl `L) q)
universe zz
universe L2
namespace DL
open Spec PyProof.Rows L2
def ug0:`l->`l->Str->`du
 | `aMt,`ay,f=>if n=f then `a7 else `Ok
 | _,_,_=>`e
def nr0:`l->`l->Str->D->`l
 | `aMt,`ay,f,v=>if n=f then v::ds else d::nr0 fs ds f v
 | _,ds,_,_=>ds
theorem mc0:∀{ns:`h} {ds:`l} {xs:`N} {f:Str} {d:D},`gu->`aMu=`a7->∃v,(`FY).lookup f=`b6/\`i3
 | [],_,_,_,_,_,h=>by apply `vX;cases h
 | `oj,[],_,_,_,_,h=>by rw[`_] at h;apply `vX;cases h
 | `oj,d'::ds,xs,f,d,r,h=>by
  rw[O6] at r;apply `Np;rw[`_] at h;apply `vX;rw[`dh,`f']
  by_cases e:n=f
  ·rw[`d0] at h
   cases h;rw[show (f==n)=`d from N3.mpr e.symm];exact`B3
  ·rw[`dg] at h
   rw[show `aMv from `mW (B8 e)];exact mc0 h2 h
theorem gq0:∀{ns:`h} {xs:`aN} {f:Str},f∉ns->(`FY).lookup f=`e
 | [],_,_,_=>`a6
 | `dJ,[],_,_=>`a6
 | `oj,`lS,f,h=>by
  rw[`pG] at h;rw[`dh,`f',show `aMv from `aLV];exact gq0 `aLW
theorem jt0{f:Str}{d:D}(rv:`i3):∀{ns:`h} {ds:`l} {xs:`N},`gu->`eY=`aG->f∈ns ->
  ∃ys,ys0 f v (`FY)=`yi ns ys/\`eY=`e0/\`gt K H B as (nr0 (`S?) ds f d) ys
 | [],_,_,_,_,h=>by cases h
 | `oj,[],xs,r,hl,_=>by rw[zv0] at r;subst r;cases hl
 | `oj,d'::ds,xs,r,hl,hf=>by
  rw[O6] at r;apply `Np;rw[`dh,`_];unfold ys0 nr0
  by_cases e:n=f
  ·rw[`d0,`d0]
   refine#[v::r',rfl,hl,?_];rw[O6];exact#[v,r',rfl,rv,h2]
  ·rw[`dg,`dg]
   let#[ys,e1,e2,e3]:=jt0 rv h2 `F4 ((`bm hf).resolve_left (B8 e));refine#[x::ys,`aMw,by rw[`Z,`Z,e2],?_];rw[O6];exact#[x,ys,rfl,h1,e3]
structure ClsN(K:`B)(c:Str)(fs:`h):Prop where
 ok:∀C,`po->`qX/\∀f∈fs,`uV
def j6(i:Nat)(c f:Str)(g:GE):GE:=fun δ=>`cR λd=>`dK λns=>match `oi with
 | `c (`aoP)=>if c'=c then `Ok else `e
 | _=>`e
theorem s90{c:Str}{fs:`l}(h:`e8 K H B as (`aBZ) so):`aB_:=h
section
variable{p:Pos}{g ga gb:GE}{c f:Str}
def u00{δ:Ds}{d:D}(h:j6 i c f g δ=`a7):`aej:=by
 unfold j6 at h;cases e1:`ax with
 | none=>rw[e1] at h;cases h
 | some x =>
  apply `l4;cases e:`cL with
  | none=>rw[e] at h;cases h
  | some ns=>rfl
open T in
theorem W6(ha:`Oe)(hc:`C1)(hf:`C2)(hb:`v (`axj) Aa):PN X i `Z? (j6 i c f g):=.mk λB δ =>
 (Q5 (K70 (W9 `rn) hb)).imp fun σ H Q hq151=>by
  let#[d,ad,ns,as,sos,en,h,at',k]:=hq151
  unfold j6 at h;cases e1:`ax with
  | none=>rw[e1] at h;cases h
  | some dx =>
  rw[e1,`n,`rp,`n] at h;apply `aMf;apply `hU;apply `vT;apply `Of;split at h
  rotate_left
  ·cases h
  rename_i c' fs ds hn;split at h
  rotate_left
  ·cases h
  rename_i hcc;subst hcc;let#[k',a,so,rfl,f1,f2,f3,f4]:=`aoO;let#[C,M,nm,xs,rfl,rfl,hl,hC,O,rx]:=s90 f4;let#[v,hv,rv]:=mc0 rx h;apply `C3;refine#[a,C,M,_,v,rfl,`ti,q1,`Hq,hv,ad,`a2,c1,?_];rw[c2];exact k v H1 s1 rv
universe zz
def u30(i:Nat)(c f:Str)(gv:GE):GS:=fun δ=>`vU λdv=>`dK λns=>match ns with
 | `Ol=>if c'=c/\`aMg/\(`Ok).isSome=`d/\`zf then `c (.nx (`db i 0 (`w [`iq,`pn,`o (nr0 fs ds f dv)]) δ)) else `e
 | _=>`e
def bx0(i:Nat)(c f:Str)(gv:GE):GS:=fun δ=>`vU λdv=>`dK λns=>match ns with
 | `Ol=>if c'=c/\`zf then (match `Ok,dv with
  | `c (`n1),`iC=>`c (.nx (`db i 0 (`w [`iq,`pn,`o (nr0 fs ds f (`f (a+b)))]) δ))
  | _,_=>`e) else `e
 | _=>`e
theorem mn0:∀{ns:`h} {ds:`l} {f:Str},(`aMu).isSome=`d->f∈ns
 | [],_,_,h=>by apply `vX;cases h
 | `oj,[],_,h=>by rw[`_] at h;apply `vX;cases h
 | `oj,`ay,f,h=>by
  rw[`_] at h;apply `vX
  by_cases e:n=f
  ·rw[e];exact A7
  ·rw[`dg] at h
   exact A6 _ (mn0 h)
section
variable{gv:GE}{c f:Str}
open T in
theorem s80(i:Nat)(hv:`aem)(hc:`C1)(hf:`C2)(hN:`ek)(hvis:`ga)(hd:`aZ)(hcd:`fo)
  (hs:`aen):PSD X `aeo (u30 i c f gv):=.mk λH₀ B₀ δ pins s σ H De I hq152=>by
 let#[r,en,e1,kk]:=hq152
 unfold u30 at e1;apply `a_;cases e2:`za with
 | none=>apply `U;cases e1
 | some dv =>
 apply `cp;cases e3:`cL with
 | none=>apply `bH;cases e1
 | some ns =>
 apply `ja;split at e1
 rotate_left
 ·cases e1
 apply `aep;split at e1
 rotate_left
 ·cases e1
 rename_i hq;let#[a1,hn,a2,M]:=hq;subst a1;cases e1;apply `Om;apply `aMx;apply `hU;apply `aeq;apply `aMy;apply `C3;apply `aMz
 ·apply `yP
  rw[`K] at M;exact M
 ·let#[ys,y1,y2,y3]:=jt0 (p30 (as:=as) hn r1) rx hl (mn0 a2)
  rw[y1];let#[Y,z1,z2]:=`vW b1 b2 env s1 at' `Hp U (n':=`w [`iq,`C4,`o (nr0 `Hs ds f dv)]) (so':=`g_ C O `aMA) #[C,O,nm,ys,rfl,rfl,y2,hC,Z,y3] `On (d:=`x) (v:=`x) `il;apply `Oo
open T in
theorem Ru0(i:Nat)(hv:`aem)(hc:`C1)(hf:`C2)(hN:`ek)(hvis:`ga)(hd:`aZ)(hcd:`fo) :
  PSD X (`axm (`dq `e! f tpos) .Add `eZ pos) (bx0 i c f gv):=.mk λH₀ B₀ δ pins s σ H De I hq153=>by
 let#[r,en,e1,kk]:=hq153
 unfold bx0 at e1;apply `a_;cases e2:`za with
 | none=>apply `U;cases e1
 | some dv =>
 apply `cp;cases e3:`cL with
 | none=>apply `bH;cases e1
 | some ns =>
 apply `ja;split at e1
 rotate_left
 ·cases e1
 apply `aep;split at e1
 rotate_left
 ·cases e1
 rename_i hq;let#[a1,M]:=hq;subst a1;split at e1
 rotate_left
 ·cases e1
 rename_i n1 n2 hlk;cases e1;apply `Om;refine q00 (Sf0 `UZ (jz0 `U_) L60) `k s σ H De I #[a,`ce,`fU,a,`a2,at'.w.openOk,?_];let#[so,U,nk]:=`mZ `Va (i:=0) rfl;let#[C,J,nm,xs,rfl,rfl,hl,hC,Z,rx]:=`Ho;apply `C3;let#[v,a2,rv]:=mc0 rx hlk;unfold RpN at rv;subst rv;let#[c1,c2]:=at'.w.back;refine#[a,C,J,_,`f n1,rfl,at'.w.opAt `tk U,q1,`Hq,a2,a,`a2,c1,?_];rw[c2];refine#[`f n2,env,e2,`sN];rw[j7] at r2;subst r2;have O:=`mX s2;refine#[`a2,O.w.openOk,n1,n2,rfl,rfl,J,_,O.w.opAt O.w.hd U,?_,?_]
 ·apply `yP
  rw[`K] at M;exact M
 ·let#[ys,y1,y2,y3]:=jt0 (d:=`aer) (v:=`aer) (f:=f) (by unfold RpN;rfl) (`ael) hl (mn0 (by rw[hlk];rfl))
  rw[y1];let#[Y,z1,z2]:=`vW b1 b2 env s2 at' `tk U (n':=`w [`iq,`C4,`o (nr0 `Hs ds f (`aer))]) (so':=`g_ C J `aMA) #[C,J,nm,ys,rfl,rfl,y2,hC,Z,y3] `On (d:=`x) (v:=`x) `il;apply `Oo
universe zz
def bi0(i:Nat)(go gv:GE):GX:=fun δ=>`l5 λd=>`vU λdv=>`dK λns=>`vV λk=>match `hl,dv with
 | `hT,`pn=>if v70 fs=`d/\`gw+`EC<=`S then `c (`x,`db i k (`o (es++fs)) δ) else `e
 | _,_=>`e
def popS(i:Nat)(go:GE):GS:=fun δ=>`l5 λd=>`dK λns=>`vV λk=>match `hl with
 | `hT=>if es=[] then `e else `c (.nx (`db i k `aMB δ))
 | _=>`e
section
variable{f:`M}
open T in
theorem Oy0(ho:`rr)(h1:PD X e g1)
  (hbase:`v (`fJ o `M9 `A `mq=`h7) Aa)
  (hfew:`v ((`lZ
  &&`M7)=`d) Aa)
  (hline:`fs) (hs:`eO) (hplain:`kt) :
  PX X (`a0 (`dq o `M9 `e_) [e] [] `ch) (bi0 i go g1):=.mk λH₀ B₀ δ pins s σ H Q I hq154=>by
 let#[r,en,e1,k]:=hq154
 unfold bi0 at e1;apply `a_;cases e2:`jE with
 | none=>apply `U;cases e1
 | some d =>
 apply `cp;cases e4:g1 δ with
 | none=>apply `gW;cases e1
 | some dv =>
 rw[e4,`n] at e1;cases e5:`cL with
 | none=>rw[e5] at e1;cases e1
 | some ns =>
 apply `Og;cases e6:`mY with
 | none=>rw[e6] at e1;cases e1
 | some kk =>
 apply `CZ;split at e1
 rotate_left
 ·cases e1
 rename_i es fs hnode;split at e1
 rotate_left
 ·cases e1
 rename_i hz;cases e1;apply `Oh;refine Q5 (sm0 L0 By0 Bz0 gf0 `C_ `aMl `ft `hM `fu hs `iY) `k s σ H Q I `Oi;apply `hU;apply `Oj;apply `i?;refine`aMm;apply `vT;refine`aMn;rw[c2];refine#[`pn,`jx,e4,`sN];have U:=`k6;have M:=`mX U;have Z:=`ael;rw[X4] at r2;let#[b,zs,rfl,sq,rz]:=r2;let#[nb,hb]:=sq.at;have O:`Od:=λz=>by
  rcases M.w.own b z with q|q
  ·exact nb (q▸`rq)
  ·apply `aMC
   ·rw[hb] at q;cases q.2
   ·rw[hb] at q;cases q.2
 refine#[_,`aMo,c,b,xs,zs,rfl,rfl,`aMp,?_,by rw[← `CY,`acz];exact hz.2,?_]
 ·refine `p ?_
  apply `aMC
  ·exact `p (`aMD)
  ·exact `q #[ob,`aMD]
 have nk:`e8 X.K H2 B as (`o (es++fs)) `MB:=#[_,rfl,`oh (`ij (`pR Z) (`pR (nm0 hz.1 rz)))];let#[Y,q1,q2]:=`vW b1 b2 env U at' f1 f2 nk `C0 (d:=`x) (v:=`x) `il;exact#[a,Y,q1,k _ _ q2]
open T in
theorem je0(ho:`rr)
  (hbase:`v (`fJ o `Ht `A `mq=`h7) Aa) (hline:`fs)
  (hsw:`v (`g4 `aME `e `h4 `A=`g5) Aa) :
  PSD X (.Expr `aME pos) (popS i go):=.mk λH₀ B₀ δ pins s σ H De I hq155=>by
 let#[r,en,e1,k]:=hq155
 unfold popS at e1;apply `a_;cases e2:`jE with
 | none=>apply `U;cases e1
 | some d =>
 apply `cp;cases e5:`cL with
 | none=>rw[e5] at e1;cases e1
 | some ns =>
 apply `Og;cases e6:`mY with
 | none=>rw[e6] at e1;cases e1
 | some kk =>
 apply `CZ;split at e1
 rotate_left
 ·cases e1
 rename_i es hnode;split at e1
 ·cases e1
 rename_i hne;cases e1;apply `Oh;refine fs0 (Q5 (Uh0 L0 C00 C10 T40 `C_ `ft `fu)) hsw `k s σ H De I `Oi;apply `hU;apply `Oj;apply `i?;have pr:=`pR rx;obtain⟨dl,e7⟩:∃dl,es[`gw - 1]?=`c dl:=#[_,C2 (by have:=`aes hne;lia)];let#[y,hy,ry]:=`mZ pr e7;refine#[a,`a2,`jD,`UY,c,xs,y,rfl,rfl,`ti,by rw[← `pS pr];exact hy,?_];have nk:`e8 X.K H1 B as `aMB `_7:=by
  refine#[_,rfl,`oh ?_];have:∀{l:`l} {m:`N},`bx `aMF l m->`bx `aMF `azK m.dropLast:=by
   intro l m h
   induction h with
   | nil=>exact `L
   | cons r t ih =>
    cases t with
    | nil=>exact `L
    | cons r' t'=>exact `AX
  exact `E pr
 let#[M,q1,q2]:=`vW b1 b2 env s1 at' f1 f2 nk `C0 (d:=`x) (v:=`x) `il;exact#[a,M,q1,`aMG]
universe zz
def RpW.backS(h:`fv)(s:`cG `th H'):`hj H' a `d?/\`cG H (`fT H' a `d?):=by
 refine#[se0 h.hd `gV `i4 (λk c so e1 e2=>s _ _ (`aL1)) `B5,`az1,λb o xs e=>?_]
 ·apply `fV
  apply `lH
  ·rw[`iZ]
   rw[hb,`vl] at e;exact e
  ·rw[`hN]
   apply `aeg
   ·let#[so,q]:=wr0 `i4 hm `gV
    rw[q];rcases h.own b hm with z|z
    ·exact `aLZ
    ·rw[z.2] at e;exact e
   ·rw[zp0 hm]
    exact s b o (by rw[w60 hm];exact e)
 ·unfold closed at e
  apply `lH
  ·rw[`iZ] at e;cases e
  ·rw[`hN] at e
   apply `aeg
   ·let#[so,q]:=wr0 `i4 hm `gV
    rw[q] at e;cases e
   ·rw[zp0 hm] at e
    have:=s.nf b o xs e;rw[w60 hm] at this;exact `E
def fnN(i:Nat)(go:GE)(gA:GA)(f:`Q):GE:=fun δ=>`l5 λd=>`ip λds=>`dK λns=>match `oi with
 | `hT=>if `C5/\`vN then (f (`jy::ds)).bind `aMH else `e
 | _=>`e
theorem vz0:∀{ds:`l},`vN->`aee
 | [],_=>rfl
 | `ay,h=>by
  unfold flats at h;rw[`lV,`bz] at h;unfold v70;rw[`bz];refine#[?_,vz0 h.2];cases d<;>first|rfl|(cases h.1)
section
variable{p:Pos}{gA:GA}
open T in
def d10{k:Nat}{ps:`h}{f:`Q}(C:`aEm)(hr:`Cm)(hk:k<=m)(ho:`rr)(ha:`vo)(hg:`gb)(hdb:`aZ)
  (he:`v (`c7 (o::es) `A=(`r,`h7)::`r') Aa) (hpl:`gR):PD X (`a0 `Fa (o::es) [] pos) (fnN i go gA f):=by
 apply `abO;exact .mk λB δ=>(Q5 (k00 (E:=E0) F `q! hg hm kp hb `L nh0 (N7 `UV (Yi0 `bk) he) hdb he hpl)).imp fun σ H Q hq156=>by
  let#[r,en,h,k]:=hq156
  unfold fnN at h;cases e1:`jE with
  | none=>rw[e1] at h;cases h
  | some d =>
  apply `l4;cases e2:`cH with
  | none=>rw[e2] at h;cases h
  | some ds =>
  apply `rk;cases e3:`cL with
  | none=>rw[e3] at h;cases h
  | some ns =>
  apply `rj;split at h
  rotate_left
  ·cases h
  rename_i ls hn;split at h
  rotate_left
  ·cases h
  rename_i hfl;cases e4:f (`aMI) with
  | none=>rw[e4] at h;cases h
  | some r' =>
  rw[e4,`n] at h;split at h
  rotate_left
  ·cases h
  rename_i hfr;cases h;apply `aL?;refine#[d,a,ns,as,sos,en,e1,at',λv1 H1 s1 r1=>#[ds,`fR,e2,`Gs]];have M:=`k6;have J:=`mX M;apply `aMe;apply `i?;refine`aMJ;show spD X.K f ((`qQ::vs)++[]) (`hi H2 `d?) _ E0;rw[`bc];refine#[`y3,`aMI,r,`aet,?_,e4,`NQ]
  ·rw[o9]
   refine#[`qQ,vs,rfl,?_,xb0 hfl.2 r2];rw[X4];apply `aMK
  ·let#[c1,c2]:=`C6 s3
   exact#[a,`a2,c1,k v _ (M.trans c2) (vy0 hfr r3)]
universe zz
structure FnT(P:`aw)(w:`X)(K:`B)(mg:`bJ)(base:`W)(c m:Str)(k:Nat)(ps:`h)(F:`h)(f:`al):Prop where
 ex:∃C fa fd,`aML/\`po/\`qX/\Meth K C m fa/\`yx/\m∉F
def q90(c:Str)(F:`h):`df
 | `w (`bF::`w [`iq,`pn,`bU]::_)=>`z (c'=c)&&fs.all λn=>match n with|`bX=>F.contains x|_=>`r
 | _=>`r
def W7(i:Nat)(c:Str)(F:`h)(gA:GA)(f:`al):GX:=fun δ=>`CX λb=>if q90 c F b.1=`d then `aLI else `e
open T in
def dp0{d:D}{c m:Str}(h:q90 c F d=`d)(r:`lY)(hm:m∉F):∃x ns as sos C dx fs,d=`y8/\`fv/\`aeu/\`po/\`K9:=by
 unfold q90 at h;split at h
 ·rename_i x c' fs ds rest
  rw[`bz,`Op] at h;let#[hc,J]:=h;subst hc;let#[x',ns,e,as,sos,w]:=r;cases e;let#[so,O,nk]:=`mZ w.all (i:=0) rfl;let#[C,M,nm,xs,rfl,rfl,hl,hC,U,rx]:=`Ho;refine#[x,_,as,sos,C,M,_,rfl,w,O,hC,gq0 λz=>hm ?_];rw[`jb] at J;have:=J (`t m) (P2 z);exact List.contains_iff_mem.mp `E
 ·cases h
section
variable{gA:GA}{c m:Str}
theorem O5(i:Nat){pl:`uU}{k:Nat}{ps:`h}{f:`al}(C:`aMM)(hr:`Oq)(hk:k<=n)(ha:`n7)(hN:`vr)(hv:`N8)(hd:`N9)(hcd:`N')
  (hst:`ej) (hpl:`gR)
  (ht:`v (`bg `aMN `A=(do
   let ov ← `ad!
   `Ld
   let (f,`sh) ← `Le
   `axG)) Aa) :
  PX X `aMN (W7 i c F gA f):=.mk λH₀ B₀ δ pins s σ H Q I hq157=>by
 skip;let#[r,en,e1,kk]:=hq157
 unfold W7 at e1;apply `a_;let#[Ca,fa,fd,Fo,hC,cl,a1,hb,a4]:=C.ex;cases eb:`hk with
 | none=>rw[eb] at e1;cases e1
 | some bm =>
 apply `N!;split at e1
 rotate_left
 ·cases e1
 rename_i hfl;let#[d0,hi,Y]:=`rm;cases e2:`cH with
 | none=>apply `U;cases e1
 | some ds =>
 apply `cp;cases e3:f `kx ds with
 | none=>apply `bH;cases e1
 | some q =>
 apply `bH;cases e1;apply `ad?;let#[h1,h2]:=Y _ _ _ _ ro;let#[x,ns,as,sos,C',dx,fs,a6,w,a5,U,a3]:=dp0 hfl h1 a4;have Z:C'=Ca:=by rw[hC] at U;cases U;rfl
 subst Z;let#[c1,c2]:=w.back;done;refine(Ol0 (pl:=pl) (E:=E0) (W9 `jA) cl a1 Fo `q! hb `L nh0 (Si0 `bk) hst hpl ht) `k s σ H Q I #[`ce,J,a,`a2,w.openOk,a,dx,fs,rfl,w.opAt w.hd a5,a3,a,`a2,c1,?_];rw[c2];refine#[ds,env,e2,`am4];show spB X.K 0 f (`ce::`abc) H1 _ _;rw[`bc];refine#[B,ds,vs,a,`kx,q.2,q.1,`aLK,hB,rfl,`cu,r1,`aLL,e3,λv H' hh a2 rv=>?_];apply `aLM;have M:`aea:=`vS hi J O (h2 H' B q.2 a2);apply `aLN
theorem vl0(i:Nat){pl:`uU}{k:Nat}{ps:`h}{f:`al}(C:`aMM)(hr:`Oq)(hk:k<=n)(hN:`vr)(hv:`N8)(hd:`N9)(hcd:`N')
  (ht:`v (`bg `aMO `A=(do
   let ov ← `ad!
   `Ld
   let (f,`sh) ← `Le
   `aMs)) Aa) :
  PX X `aMO (W7 i c F v5 f):=.mk λH₀ B₀ δ pins s σ H Q I hq158=>by
 skip;let#[r,en,e1,kk]:=hq158
 unfold W7 at e1;apply `a_;let#[Ca,fa,fd,Fo,hC,cl,Z,hb,a3]:=C.ex;cases eb:`hk with
 | none=>rw[eb] at e1;cases e1
 | some bm =>
 apply `N!;split at e1
 rotate_left
 ·cases e1
 rename_i hfl;let#[d0,hi,U]:=`rm;rw[show v5 δ=`pg from rfl,`n] at e1;cases e3:f `kx [] with
 | none=>apply `bH;cases e1
 | some q =>
 apply `bH;cases e1;apply `ad?;let#[h1,h2]:=U _ _ _ _ ro;let#[x,ns,as,sos,C',dx,fs,a5,w,a4,O,a2]:=dp0 hfl h1 a3;have Y:C'=Ca:=by rw[hC] at O;cases O;rfl
 subst Y;let#[c1,c2]:=w.back;done;refine(S40 (pl:=pl) (E:=E0) (W9 `jA) cl Z Fo `q! hb `L nh0 ht) `k s σ H Q I #[`ce,J,a,`a2,w.openOk,a,dx,fs,rfl,w.opAt w.hd a4,a2,a,`a2,c1,?_];rw[c2];show spB X.K 0 f `fP H _ _;refine#[B,[],[],a,`kx,q.2,q.1,`C7,hB,rfl,`cu,`gU,h1,e3,λv H' hh a1 rv=>?_];have M:`aea:=`vS hi J hh (h2 H' B q.2 a1);exact kk v H' (`hf (`y9 b1 b2 hi J hh M) b1 b2 M rv)
universe zz
def Env.unset{σ:St}{δ:Ds}(e:`be)(i:Nat)(o:`dm):Env K H B (`EN i o) `aMP:=by
 refine#[`n6 `s_ i `ha,`jw,`TQ];skip;apply `aMQ
 ·cases z
 rcases `yC with⟨_,z,_⟩|⟨n2,h2⟩
 ·cases z
 apply `CC;apply `CB;done;apply `Mi
def s00(i:Nat)(n:D)(δ:Ds):Ds:=match `hk with
 | `U0=>`bj i (.ow (mk (`w (`bX::(ns++[n])))))
 | _=>δ
structure PartAt(K:`B)(H₀:Hp)(B₀:BS)(H:Hp)(σ:St)(δ:Ds)(i j:Nat)(dp:D):Prop where
 en:`cJ
 ex:∃B a ns as sos v,(`i5)/\(`i6)/\`be/\`ro/\`aam/\RpN K H B as dp v
def V50{δ:Ds}{mk:`kq}(h:`aMR)(ms:`l):dpN i (`bj i (.ow (mk (`w (`bX::ms)))))=`c ms:=by
 have hl:i<`m0:=by
  cases q:`cl with
  | none=>rw[q] at h;cases h
  | some s=>exact(`cU q).1
 unfold dpN;rw[`B8];unfold w90 at h;split at h
 ·cases h
 ·cases h
 ·cases h;rfl
 ·cases h;rfl
 ·cases h
open T in
def Wm0{δ:Ds}(h:`Hv):∃x mk,`aMR:=by
 unfold dpN at h;cases eb:`hk with
 | none=>rw[eb] at h;cases h
 | some bm =>
  rw[eb,`n] at h;let#[b,mk]:=bm;split at h
  ·rename_i x ns' hb
   cases h;have hb:b=_:=hb;subst hb;exact#[x,mk,rfl]
  ·cases h
def NodeOk.ext{L:`g}(g:`dZ){n:D}(hdx:∀C dx fs,so=`kU->dx≠L)(h:`Md):`e8 K H' B' `lg n so:=by
 have l:∀(k:Nat) a,`S9->`lg[k]?=`ig:=λk a e=>by rw[`g9 (`cU e).1];exact e
 unfold NodeOk at h ⊢;split at h
 ·apply `n5;exact#[xs,e,`aev]
 ·let#[xs,e,z,r]:=h;exact#[xs,e,z,`aev]
 ·skip;let#[C,dx,ns,xs,e,f,z,c,q,r]:=h
  done;exact#[C,dx,ns,xs,e,f,z,c,λw=>(`dM w).elim q λw=>hdx _ _ _ e (`AI w),`aev]
 ·exact `sJ
def EnvS.unset{σ:St}{δ:Ds}(e:`cJ)(i:Nat)(o:`dm):`cY K `ad `V H (`EN i o) `aMP:=by
 let#[B,b1,b2,env]:=e.ex;refine#[e.same,#[B,b1,b2,env.unset i o],`TS,e.b0];skip;apply `aMQ
 ·cases z
 rw[`GN] at h2;done;exact e.fr j ds a h1 h2
section
variable{lp:Pos}
def Wj0{x1}(i j:Nat)(nd:`eK)(hk:`aew)(hi:`od)(hy:`ks)
  (hs:`v (`c7 `aex `A=(`r,`bg ke `A)::`aMS) Aa) (hs2:`v (`aMS=(`r,`bg (`U1) `A)::`hd) Aa)
  (hsw:`v (`g4 (`ld `aex x1 tp) `sz `h4 `A=`g5) Aa)
  (hf:`i_) :
  PS X (`h8 `k0 (`ld `aex x1 tp) pos) `aMT:=by
 intro pins s σ H D I #[`ad,`V,δ,dk,ns,en,e1,c1,e2,c0,kk];skip;apply `a_;let#[a,as,sos,at']:=`Hn e2;have jl:j<`r8:=by
  apply `auZ;have h1:=`KG;have:=`eW;lia
 done;refine gn0 nd hi hy (Q5 (W9 (a90 (N7 (hk.go B δ) (N7 (gl0 y20) y20 hs2) hs)))) hsw hf `k s σ H D I #[dk,env,e1,λv1 H1 s1 r1=>#[`cu,λL hL=>#[`Ux,λt ht=>?_]]];apply `aMU;have U:H L=`e:=`im hL;obtain⟨H2,a7⟩:∃H2,H2=`aMV:=`ac;rw[← a7] at ht ⊢;have s2:`LS:=by rw[a7];exact X6 hL
 have b4:`NM:=`aHd ht;obtain⟨H3,a1⟩:∃H3,H3=upd H2 t (`w `U6):=`ac;rw[← a1];have s3:`aMW:=by rw[a1];exact X6 ht
 have a2:`cG H H3:=`yX;have c2:H2 L=`Or:=by rw[a7,j5]
 have d3:H3 L=`Or:=s3 _ _ c2;have e7:H3 t=`aMX:=by rw[a1,j5]
 have c4:∀b∈as,`aac:=λb hb z=>by
  rcases `U' b hb with q|q
  ·rw[q,hH] at z;cases z
  ·rw[q.2] at z;cases z
 have La:L∉as:=λz=>c4 L z U
 have ta:`NL:=λz=>c4 t z b4
 apply `aMY
 have b3:=`mX a2;have M:`aMZ=(`U8).length:=`aM_
 have a5:`aM0:=by
  rw[`ML];apply `aM1;rw[`ec hy] at z;exact `aM2
 have Z:`aM3:=`aM4
 have e5:∀(k:Nat) c so,`lg[k]?=`d6->`Hw[k]?=`td->`aM5∨(`Os/\c=L/\so=`pa):=λk c so q1 q2=>by
  by_cases hk':k<`gv
  ·rw[`Ot] at q1
   apply `aM6;exact `p `CE
  ·have hl1:=`aM7
   rw[`O] at hl1;have e3:`Os:=`aM8
   subst e3;rw[`kz,`gX] at q1;rw[`zc,`kz,`gX] at q2;apply `aM9
 have Y:∀(k:Nat) C dx fs,`Hw[k]?=`ms->k=0:=λk C dx fs e=>by
  by_cases hk':`Oc
  ·rw[`Ot] at e
   exact `aM'
  ·rw[`CV] at e
   cases q:k - `yj with
   | zero=>rw[q] at e;cases e
   | succ n=>rw[q] at e;cases e
 have cl:`hj `HE a `aey:=se0 Z a5 M (λk c so q1 q2=>by
  skip;rcases e5 k c so q1 q2 with⟨q1,q2⟩|⟨_,rfl,rfl⟩
  ·done;exact `aM!
  ·done;rw[w60 La];exact d3) Y
 refine#[a,`a2,b3.w.openOk,a,_,cl,`aez];obtain⟨Hc,O⟩:∃Hc,Hc=`fT `HE a `aey:=`ac;rw[← O];skip;have ca:Hc a=`c (`k2 `aey):=`aM?
 have a3:∀b∈`lf,`aNa:=λb hb n=>by
  rw[O];apply `fV;let#[so,q]:=wr0 M hb a5;rw[`ap n,q]
 have J:`aNb:=λb hb=>by
  rw[O];apply `fV;rw[`ap (show ¬b=a from λz=>hb (by rw[z];exact C5 Z)),`Ou,`aNc]
 have but:`aNd:=#[λb u n z=>by
  apply `Ov
  ·apply `Ow
   ·rcases `U? with w|w
    ·exact `I w n
    ·rw[`aeA,← w.2,z]
   ·rw[`C8,U] at z;cases z
  ·rw[J b hb];exact a2 _ _ z,λb u xs n z=>by
  apply `Ov
  ·rw[`aeA] at z;cases z
  ·rw[J b hb] at z;exact a2.nf _ _ _ z]
 have gr:Gr H Hc B B:=`y2 `rq but;have e6:¬B L:=`C9 U;have hw:RpW X.K Hc B (`Hx) a `lg `Hw:=by
  refine#[Z,a5,ca,`gN,M,`ij ?_ (`ai `aNe `L),Y]
  ·by_cases n:b=a
   ·exact `p n
   ·refine `q #[?_,`aeA]
    apply `Ow
    ·exact`aNf
    ·rw[`C8];exact e6
  ·apply `aNg
   intro z;skip;subst e;have e4:=`aNh;subst e4;obtain⟨_,all⟩:`ad0/\∀p∈`a2,`ad1:=`b7 a _ hH;have hm:`aNi:=by
    refine `aNj;rw[`aNk];exact#[`tk,q2]
   let#[_,w,_]:=(all _ hm).2;rw[z,U] at w;cases w
 let#[x,mk,a8]:=Wm0 e2;let#[d0,a4,d2]:=vx0 a8;let#[a',c3,hB,ro]:=`yD a4;rw[`fU] at c3;cases c3;have d1:`aoU=`aNl:=by unfold s00;rw[a8]
 have a6:Env X.K Hc B σ (`aNl):=`vS a4 `fU but ((d2 _ _ _ _ ro).2 _ _ _ `aNm);have e8:=`y9 b1 b2 a4 `fU but a6;done;rw[d1];have b0:=V50 a8 (`Hx);refine#[EnvS.unset e8 j _,B,a,`Hx,`lf,`U8,`xL,b1,b2,a6.unset j _,#[?_,hB,?_,hw],D60 jl,?_]
 ·rw[`aNn];exact `fU
 ·unfold dpN at b0 ⊢
  rw[`aNn];exact b0
 ·rw[yw0]
  have e0:Hc t=`aMX:=by
   rw[J t (λz=>(`dM z).elim ta λz=>by
    rw[`el,c2] at ht;cases ht)]
   exact e7
  refine `q #[?_,t,`U6,rfl,#[`C9 b4,e0],?_]
  ·cases dk<;>rfl
  ·rw[O6]
   refine#[v1,[`zb],rfl,p30 ?_ (vy0 c1 r1),?_]
   ·cases dk<;>first|rfl|(cases c1)
   ·rw[O6]
    refine#[`zb,[],rfl,?_,`U!];unfold T8;rw[yw0];have c8:`eY=`gv:=`aNo
    exact `p #[`eY,L,xi0 _,by rw[c8,`kz,`gX];rfl,rfl]
universe zz
def rb0(i:Nat)(go:GE)(dp:D)(δ:Ds):`aP Ds:=`l5 λd=>`dK λns=>`vV λk=>match `hl with
 | `hT=>if `gw<`S then `c (`db i k `Ox δ) else `e
 | _=>`e
section
variable{o2:`M}{lp:Pos}{go2:GE}
open T in
def i80(i j:Nat)(ho:`rr)(hN:`od)(hv:`N8)(hd:`N9)(hcd:`N')
  (hbase:`aMk)
  (hfew:`v (((`gj `ch (`aNp)).all `Gp&&`Gq
  &&`z ((`k0:`bn).length+`yv+`yw<30))=`d) Aa)
  (hline:`fs) (hs:`v (`aNp=(`r,`bg `FM `A)::`hd) Aa) (hplain:`kt)
  (hsw:`v (`g4 `aNq `e `h4 `A=`g5) Aa) :
  PS X (.Expr `aNq pos) (λD σ H=>∃H₀ B₀ δ dp δ',`aeB/\rb0 i go dp δ=`pj/\`aeC):=by
 intro pins s σ H De I #[`ad,`V,δ,dp,δ',pt,e1,kk];let#[en,B,a,ns,as,sos,v,b1,b2,env,at',hj,rv]:=pt;unfold rb0 at e1;cases e2:`jE with
 | none=>apply `U;cases e1
 | some d =>
 rw[e2,`n,`rp,`n] at e1;cases e6:`mY with
 | none=>rw[e6] at e1;cases e1
 | some k =>
 apply `CZ;split at e1
 rotate_left
 ·cases e1
 rename_i es hnode;split at e1
 rotate_left
 ·cases e1
 rename_i hz;cases e1;refine fs0 (Q5 (sm0 L0 Ac0 Ad0 pj0 `C_ (N7 (z00 (i:=j) hN hv hd hcd) y20 hs) `ft `hM `fu hs `iY)) hsw `k s σ H De I `Oi;apply `hU;apply `Oj;apply `i?;refine#[a,`a2,`jD,`UY,v,hj,c,xs,v,rfl,rfl,`ti,by rw[← `CY];exact hz,?_];have nk:`e8 X.K H1 B as `Ox (`o `zh):=#[_,rfl,`oh (`ij `y? (`ai (`lb s1) `L))];let#[p1,p2,p3]:=J.w.put `rq f1 f2 nk `C0;refine#[a,_,p1,kk _ ?_];rw[show (`Vn `zh)=(`U7 `zh).ho from rfl,p2];let#[d0,d',Y,q1,M]:=(`jx).setN J p3;let#[x,mk,U]:=Wm0 `rp;have O:dpN i (DL.setN i k `Ox δ)=`c (`UT k `Ox):=by
  unfold DL.setN;rw[U];exact V50 U _
 rw[q1] at O ⊢;exact#[`yG s1 b1 b2 Y `fU M,B,a,_,as,_,v,b1,b2,M,#[`fU,`rq,O,p3],hj,(`lb s1).mono (`yA `rq) `FZ]
def qp0(i j:Nat)(gk ga gb:GE):GSB:=fun δ=>`vO λdk=>`dK λns=>if `U5 then
 (`aNr).bind fun δ2=>(`aNs).map fun δ3=>.nx δ3 else `e
theorem Z00{st1 st2 st3:`bq}{rest:`eh}{G:GSB}{ga gb:GE}(i j:Nat)(hij:`Hu)
  (h1:PS X st1 `aMT)
  (h2:PS X st2 (λD σ H=>∃H₀ B₀ δ dp δ',`aeB/\rb0 i ga dp δ=`pj/\`aeC))
  (h3:PS X st3 (λD σ H=>∃H₀ B₀ δ dp δ',`aeB/\rb0 i gb dp δ=`pj/\`aeC))
  (h:`jC X `bh G):`jC X (st1::st2::st3::`bh) (p7 (qp0 i j gk ga gb) G):=.mk λH₀ B₀ δ pins s σ H D I hq159=>by
 skip;let#[r,en,e,k]:=hq159
 unfold p7 qp0 at e;cases e1:`tb with
 | none=>rw[e1] at e;cases e
 | some dk =>
 apply `Oy;cases e2:`cL with
 | none=>rw[e2] at e;cases e
 | some ns =>
 rw[e2,`n] at e
 by_cases hf:`U5
 rotate_left
 ·rw[`M5] at e;cases e
 rw[`rc] at e;cases e3:`aNr with
 | none=>rw[e3] at e;cases e
 | some δ2 =>
 rw[e3,`n] at e;cases e4:`aNs with
 | none=>rw[e4] at e;cases e
 | some δ3 =>
 rw[e4] at e;done;refine zo0 h1 (zo0 h2 (zo0 h3 (`te `ad `V δ3))) `k s σ H D I #[`ad,`V,δ,dk,ns,en,e1,hf,e2,hij,fun σ1 H1 p1=>#[`ad,`V,_,_,δ2,p1,e3,λH2 p2=>#[`ad,`V,δ2,_,δ3,p2,e4,λH3 p3=>#[r,p3.en,e,k]]]]
universe zz
universe DL
namespace L2
open Spec PyProof.Rows
theorem V10(h:`f8):PE X e (fun σ H Q=>∃a sub,`aLb/\te σ `aLc Q):=λpins s σ H Q I #[a,sub,o,q]=>h `k s σ _ Q (I.opened o) q
universe L2
namespace DL
open Spec PyProof.Rows L2
mutual
def tr:`df
 | `ci=>trs ds
 | `bU=>`r
 | `n!=>`r
 | `n?=>`r
 | _=>`d
def trs:`Cp
 | []=>`d
 | `ay=>tr d&&trs ds
end
section
mutual
theorem Jn0(g:`aNt):∀{d:D} {v:V},`l6->`aBM
 | `x,_,_,h=>by rw[U5] at h ⊢;exact h
 | `bK,_,_,h=>by rw[Y7] at h ⊢;exact h
 | `cn,_,_,h=>by rw[j7] at h ⊢;exact h
 | `bF,_,_,h=>by rw[Y8] at h ⊢;exact h
 | `ci,_,n,h=>by
  unfold tr at n;rw[U8] at h ⊢;apply `L8;exact#[a,xs,e,g a xs q.1 q.2,km0 g n r]
 | `cw,_,n,h=>by unfold tr at n;cases n
 | `kr,_,n,h=>by unfold tr at n;cases n
 | `q5,_,n,h=>by unfold tr at n;cases n
theorem km0(g:`aNt):∀{ds:`l} {xs:`N},trs ds=`d->`aaK
 | [],_,_,h=>by rw[m9] at h ⊢;exact h
 | `ay,_,n,h=>by
  unfold trs at n;rw[`bz] at n;rw[o9] at h ⊢;apply `B2;exact#[x,r,e,Jn0 g n.1 h1,km0 g n.2 h2]
end
universe zz
def u80(ns:`l):`x'
 | `w [k,`w r]=>(yq0 r).bind λn=>match ns[n]? with
  | `hT=>if `c! k=`d/\trs es=`d/\v70 es=`d then `c (`w [k,`jy]) else `e
  | _=>`e
 | _=>`e
def Zd0{d:D}(h:`ku):`ky:=by cases d<;>first|rfl|(cases h)
theorem RpW.off_tup(w:`fv){t:`g}(h:H t=`h_):`NL:=λz=>by
 rcases w.own t z with q|q
 ·rw[q,w.at'] at h;cases h
 ·rw[q.2] at h;cases h
open T in
def RpW.part(w:`fv){d:D}(r:`i3)(h:`aeD=`c d'):Rp K `th `lj d' v:=by
 unfold u80 at h;split at h
 rotate_left
 ·cases h
 rename_i k rr;cases er:yq0 rr with
 | none=>rw[er] at h;cases h
 | some n =>
 rw[er,`n] at h;split at h
 rotate_left
 ·cases h
 rename_i es hn;split at h
 rotate_left
 ·cases h
 rename_i hq;cases h;let#[h1,h2,h3]:=hq;rw[yw0] at r;rcases r with⟨k',c,e,_⟩|⟨_,t,xs,rfl,q,rs⟩
 ·exfalso
  cases k<;>cases e
 rw[O6] at rs;let#[vk,r1,rfl,rk,rs]:=rs;rw[O6] at rs;let#[vc,r2,rfl,rc,rs]:=rs;rw[zv0] at rs;subst rs;rw[yw0,er] at rc;rcases rc with⟨k',c,e,hc,rfl⟩|⟨e,_⟩
 rotate_left
 ·cases e
 cases e;let#[so,J,nk]:=`aMi;let#[ys,rfl,ry]:=zq0 nk;have gt:∀b xs,`sO->`RH->¬(λ_:`g=>`bW) b/\`aLY=`h_:=λb xs _ z=>#[`xk,by rw[w60 (w.off_tup z)];exact z]
 rw[U8];refine#[t,_,rfl,gt t _ q.1 q.2,?_];rw[o9];refine#[vk,_,rfl,vy0 h1 (ai0 (Zd0 h1) rk),?_];rw[o9];refine#[`qQ,[],rfl,?_,`gU];rw[X4];exact#[c,ys,rfl,`p #[`xk,`p (w.opAt hc J)],km0 gt h2 (ty0 h3 ry)]
def Env.blank{σ:St}(h:`r8=n):Env K H `lj σ (`aBd):=by
 subst h;refine`aNu
 ·induction σ with
  | nil=>exact `L
  | cons o σ ih=>exact `ai `s_ ih
 ·rw[`lT] at h1
  split at h1<;>cases h1
def cs0(i j:Nat)(g g2:GE):GSB:=fun δ=>`cR λd=>`dK λns=>(`aeD).bind λd'=>(`aNv).bind λr=>match r with
 | `jy=>if `C5 then `c (.rt `y' δ) else `e
 | _=>`e
section
variable{e2:`M}{g:GE}
open T in
theorem Wq0(i j:Nat)(nd:`eK)(he:`Oe)(h2:PDF X e2 g2)(hi:`od)(hy:`ks)
  (hsw:`v (`g4 e `sz `h4 `A=`g5) Aa)
  (hf:`i_) :
  `jC X [`h8 `k0 e pos,`R3 (`c e2) `mS] (cs0 i j g g2):=.mk λH₀ B₀ δ pins s σ H D I hq160=>by
 let#[r,en,e1,kk]:=hq160
 unfold cs0 at e1;apply `a_;cases q1:`ax with
 | none=>rw[q1] at e1;cases e1
 | some d =>
 rw[q1,`n] at e1;cases q2:`cL with
 | none=>rw[q2] at e1;cases e1
 | some ns =>
 rw[q2,`n] at e1;cases q3:`aeD with
 | none=>rw[q3] at e1;cases e1
 | some d' =>
 rw[q3,`n] at e1;cases q4:`aNv with
 | none=>rw[q4] at e1;cases e1
 | some rr =>
 rw[q4,`n] at e1;split at e1
 rotate_left
 ·cases e1
 rename_i es;split at e1
 rotate_left
 ·cases e1
 rename_i hfl;cases e1;apply `aeE;refine zo0 (gn0 nd hi hy (he.go B δ) hsw hf) (zo0 (o00 (Q5 (V10 (h2.go `lj `ao2)))) fa0) `k s σ H D I `aeF;apply `hU;refine#[a,`a2,`jD,`jy,?_,q4,`aeG]
 ·exact(`aNw).set j (J.w.part r1 q3)
 ·let#[c1,c2]:=`C6 s2
  refine#[a,`a2,c1,kk _ σ _ ?_];have M:p∉as:=λz=>by
   let#[so,l]:=wr0 J.w.len z J.w.nd;unfold opened at hp;rw[l] at hp;cases hp
  have O:`_c:=by rw[w60 M] at hp;exact hp
  have sm:=`aeH;refine `aNx;let#[xs,o1,rx]:=ro;rw[X4];refine#[p,xs,rfl,`p #[`C9 (`im O),`p ?_],`aNy];apply `fV;rw[`ap (λz=>M `aNz),zp0 M];exact o1
universe zz
universe DL
namespace DL
open Spec PyProof.Rows L2
def partsOf(ns:`l):`aaz
 | []=>`pg
 | `l1=>(u80 ns p).bind λd=>(`C').map (d::·)
def ie0(i:Nat)(go:GE)(n:Nat)(caps:`i)(f:`aT)(ge:GE):GX:=fun δ=>`l5 λd=>`dK λns=>`vV λk=>match `hl with
 | `aNA=>(`C').bind λitems=>(`aNB).bind λr=>match r with
  | `Oz=>if trs rs=`d then `c (`w rs,δ) else `e
  | _=>`e
 | _=>`e
theorem RpW.parts(w:`fv):∀{ps items:`l} {xs:`N},`gt K H B as ps xs->`C'=`FT->Rps K `th `lj `bs xs
 | [],_,_,r,h=>by
  rw[zv0] at r;cases h;rw[m9];exact r
 | `l1,_,_,r,h=>by
  skip;rw[O6] at r;let#[x,xs,rfl,r1,r2]:=r;unfold partsOf at h;cases e1:u80 ns p with
  | none=>rw[e1] at h;cases h
  | some d =>
  apply `l4;cases e2:`C' with
  | none=>rw[e2] at h;cases h
  | some ds =>
  rw[e2] at h;cases h;done;rw[o9];exact#[x,xs,rfl,w.part r1 e1,w.parts r2 e2]
def Zn0(q:`yd)(rs:Rps K H B `bs xs):ItD K B (Itl K a) `bs H:=by
 refine`Tn
 ·have:`u5:=`Gc
  apply `abn
 ·apply `abo
  apply `abp;have:=`abq;rw[e4] at this;cases `E;subst e3;apply `abr
 ·apply `abs
section
variable{p:Pos}
open T in
theorem Qg0(i:Nat){sc scope:`cz}{elt iter:`M}{N N':`h}{n:Nat}{caps:`i}{idx:`i}{f:`aT}{ge:GE}
  (hm:`cc `d3=`e) (hbt:`aNC) (ok:`ob) (hidx:∀j∈idx,j<n) (hi:`aND)
  (hg:`hQ) (he:`n')
  (hc:`hR) (hsc:`q?) (hN:`ra) (hs:`ei) (hgl:`v (Gl X `d3) Aa)
  (hst:`v (`c7 [`aeI] `A=(`r,`bg (`aeI) `A)::`hd) Aa) (hpl:`i9) :
  PX X (`a0 (`cr `d3 p) [`aeI] [] pos) (ie0 i go n `bZ f ge):=.mk λH₀ B₀ δ pins s σ H Q I hq161=>by
 let#[r,en,e1,kk]:=hq161
 unfold ie0 at e1;apply `a_;cases q1:`jE with
 | none=>rw[q1] at e1;cases e1
 | some d =>
 rw[q1,`n] at e1;cases q2:`cL with
 | none=>rw[q2] at e1;cases e1
 | some ns =>
 rw[q2,`n] at e1;cases q3:`mY with
 | none=>rw[q3] at e1;cases e1
 | some k =>
 rw[q3,`n] at e1;split at e1
 rotate_left
 ·cases e1
 rename_i ps hn;cases q4:`C' with
 | none=>rw[q4] at e1;cases e1
 | some items =>
 rw[q4,`n] at e1;cases q5:`aNB with
 | none=>rw[q5] at e1;cases e1
 | some rr =>
 rw[q5,`n] at e1;split at e1
 rotate_left
 ·cases e1
 rename_i rs;split at e1
 rotate_left
 ·cases e1
 rename_i htr;cases e1;apply `aeE;refine Q5 (pm0 G7 hgl hm hbt (N7 (k80 hc hsc `rb `aNE (g:=`pt) (tt:=`aeJ) (te:=`Mx)
  `vq
  `aeK
  `My hs) y20 hst) `s `s hst hpl) `k s σ H Q I `aeF
 apply `hU;let#[c,so,rfl,f1,f2,f4]:=`UW r1 q3 hn;apply `i?;apply `aNF;apply `aNG;have U:=ph0 (K:=X.K) (B:=`y3) (δ:=`Vb) (σ:=σ) (H:=`Hz) (n:=n) (caps:=`bZ) (gi:=`ao3) (idx:=idx) (f:=f) (gt:=noT) (ge:=ge) `fx
  (Q:=λv H'=>Wp0 σ H' λxs H2=>`azx (v::xs) H2 `aeb) #[`Oz,`aNw,q5,`aeG]
 ·let#[Y,_,e',fk]:=U
  cases e';exact fk `aNH _ `sP (Zn0 sq (J.w.parts rx q4))
 ·let#[zs,o1,rz]:=ro
  refine#[p,zs,rfl,`p #[`aNI,`aNJ]];obtain⟨H3,M⟩:∃H3,H3=upd H2 l (`w zs):=`ac;rw[← M];have s3:`aMW:=by rw[M];exact X6 hl
  let#[c1,c2]:=`C6 `zd;have sm:=`aeH;refine#[a,`a2,c1,kk _ _ (`aNx)];have O:∀b xs,`aNK->`Od:=λb xs z m=>by
   let#[so,l]:=wr0 J.w.len m J.w.nd;have:`hi H1 `d? b=`y6:=by unfold opened;rw[l]
   rw[`zd _ _ `E] at z;exact `ad_ so xs (A3 z)
  have gt:∀b xs,`aNK->`sO/\`aNL:=λb xs z=>by
   have hb:=O b xs z;have e:`aNL:=by
    apply `fV;rw[`ap (λz=>hb `aNz),`Ou];exact z
   exact#[λw=>((`ih sm).bad b w).nt xs e,e]
  rw[U8];exact#[l,zs,rfl,gt l zs (by rw[M,j5]),km0 (λb xs _ z=>gt b xs (s3 _ _ z)) htr rz]
universe zz
def y00(f:`aT)(gx:GX)(jb:Nat)(δ0:Ds):`l->D->`aP (`l×D)
 | [],b=>`c ([],b)
 | `ay,b=>(f d (δ0.set jb (.ow b))).bind fun δ1=>(gx δ1).bind λr=>match r.2[jb]? with
  | `c `Vd=>(y00 f gx jb δ0 ds b').map λq=>(r.1::q.1,q.2)
  | _=>`e
def v10(n:Nat)(caps:`i)(i jb:Nat)(gi:GA)(f:`aT)(gx:GX):GX:=fun δ=>`CX λb=>`vh λitems=>if `q3 then
 (y00 f gx jb `id `bs b.1).bind λq=>if isL q.2=`r then `c (`o q.1,`bj i (.ow (b.2 q.2))) else `e else `e
def Env.comp_own{σ:St}{δ:Ds}(en:`be)(no:`aDs){jb:Nat}{b:D}(hs:σ[jb]?=`yk)(hb:B a)(r:RpL K H B b a):Env K H B σ (`bj jb (.ow b)):=by
 refine#[`TO (i:=jb) `GK hs en.all,en.bad,λi j a' ds es h1 h2 _ _=>?_];skip;apply `aNM
 ·rcases `yC with⟨q2,_,_⟩|⟨_,z⟩
  ·done;exact q1.symm.trans q2
  ·done;exact `aNN
 ·done;exact `aNN
def Qd0{σ:St}{k:Nat}(hcap:`vY)(hs:`A4):`aNO=`oK:=by
 unfold J8;rw[`aAP,`qZ,`aAQ,`bN,hcap];show `c ((`RO).join)=_;rw[hs];rfl
def teX(K:`B)(gx:GX):TE:=fun σ H Q=>∃H₀ B₀ δ,tX K `ad `V δ gx σ H Q
open T in
def h50{K:`B}{H₀:Hp}{B₀:BS}{δ:Ds}{σ:St}{H:Hp}{Q:VK}{k:Nat}{gi:GA}{f:`aT}{gx:GX}(hcap:`vY)(hidx:∀j∈idx,j<n)
  (h:tX K `ad `V δ `Vf σ H Q) :
  b40 n `bZ (fun σ H R=>∃B δ,tDI K B δ gi σ H R) `aDw (fun σ H Q=>∃B δ,tDT K B δ noT σ H Q) (teX K gx) σ H Q:=by
 let#[r,en,e1,kk]:=h;apply `a_;unfold v10 at e1;cases eb:`hk with
 | none=>rw[eb] at e1;cases e1
 | some bm =>
 apply `N!;cases e2:`sF with
 | none=>apply `U;cases e1
 | some items =>
 apply `cp;split at e1
 rotate_left
 ·cases e1
 rename_i hsz;cases e3:y00 f gx `tl `id `bs `kx with
 | none=>apply `bH;cases e1
 | some q =>
 apply `ja;split at e1
 rotate_left
 ·cases e1
 rename_i hq;cases e1;let#[d0,a4,a7]:=`rm;let#[a,a2,hB,ro]:=`yD a4;refine#[B,δ,`bs,env,e2,`aDx];have a8:=`jx;have f0:RpG K H1 B `kx a:=RpG.same s1 (`aNP).1;have c8:¬B L:=a8.free hL;have Y:a≠L:=λz=>c8 (z▸hB)
 obtain⟨Bp,a1⟩:∃Bp:BS,Bp=λx=>B x∨x=L:=`ac
 have d1:Bp L:=by rw[a1];exact `o7
 have M:∀x,B x->Bp x:=λx z=>by rw[a1];exact `e9
 have c4:∀x,Bp x->B x∨x=L:=λx z=>by rw[a1] at z;exact z
 have gr:∀{H2:Hp},`aNQ->`aDz:=λ{H2} h2 x o nb hx=>#[λz=>(c4 x z).elim nb (U9 hx hL),h2 x o (λz=>nb (z▸hB)) hx]
 have b0:`aNO=`yk:=Qd0 hcap a2;have c0:n+k∉idx:=λz=>by have:=`fx _ z;lia
 have f1:n+k<(`FR).length:=by
  rw[← `pS (env.comp n `bZ).all];exact(`cU b0).1
 have bu:But a H1 (`aMV):=#[λx o _ e=>by rw[`aNR];exact e,λx o xs _ e=>by
  by_cases z:x=L
  ·rw[z,j5] at e;cases e
  ·rw[d7 z] at e;exact e]
 refine#[λj m ys H2=>m=`b_ - j/\j<=`b_/\`aDA/\`aNQ/\`e0<=j/\∃pre rest b',q.1=pre++`bh/\`aDB/\RpL K H2 Bp b' a/\y00 f gx `tl `id (`ju j) b'=`c (`bh,q.2),
  #[_,rfl,`cu,j5,bu,`jl,[],q.1,`kx,rfl,`gU,(`ace `aNS (gr bu) f0).toL,e3],?_]
 rintro j m ys H2 ⟨rfl,f7,hD,s2,f8,pre,rest,b',ho,rp,rb,ec⟩;have Z:∀x,Bp x->NB (H2 x):=λx z=>by
  by_cases xa:x=a
  ·rw[xa];exact rb.live
  rcases c4 x z with z|z
  ·exact(a8.bad x z).keep λo h=>s2 x o xa h
  ·rw[z];exact NB.of hD (λ_ _ z=>by cases z) (λ_ z=>by cases z)
 have f4:Env K H2 Bp `e4 `aNT :=
  Env.comp_own #[Pd.impG (gr s2) `aDC (a8.comp n `bZ).all,Z,`abw] (λ_ _ z=>ul0 z) b0 (M a hB) rb
 by_cases hlt:j<`b_
 ·refine `q #[it.go j H2 `aeL hlt,`aDD]
  let#[sm,dx,c3,rx]:=`Tt j H2 x H3 `aeL y hlt;have s3:But a H1 H3:=#[λx o n e=>sm _ _ (s2 x o n e),λx o xs n e=>s2.nf x o xs n (sm.nf x o xs e)];have e8:`aDE:=rx Bp (gr s3) Z;have e0:=f4.same sm;have f6:=sm _ _ hD;have e7:=rp.same sm;have b3:`ju j=dx::`ju `n4:=by
   apply `Mu;congr 1;rw[`Mv] at c3;exact A3 c3
  rw[b3] at ec;unfold y00 at ec;cases e4:f dx `aNT with
  | none=>rw[e4] at ec;cases ec
  | some δ1 =>
  rw[e4,`n] at ec;cases e5:gx δ1 with
  | none=>rw[e5] at ec;cases ec
  | some r5 =>
  rw[e5,`n] at ec;split at ec
  rotate_left
  ·cases ec
  rename_i b2' ho5;cases e6:y00 f gx `tl `id (`ju `n4) b2' with
  | none=>rw[e6] at ec;cases ec
  | some q6 =>
  rw[e6,`gx] at ec;have U:r5.1::q6.1=`bh:=(`OA).1;have O:q6.2=q.2:=(`OA).2;refine#[Bp,dx,_,δ1,e8,e0,e4,fun σ4 w en4=>#[#[w.len,λj' v z=>?_],?_]]
  ·by_cases hj:j'∈idx
   ·rw[by0 (`fx j' hj)] at z;cases z
   ·rw[(`yp j' hj).1];exact z
  have h4:σ4[n+k]?=`yk:=by rw[(`aNU).1];exact b0
  refine#[Bp,δ1,`d,en4,rfl,`aDF];show if `d=`d then _ else _
  rw[`bA];have a3:=`aDG;refine#[λx=>if x=a then `e else H5 x,λx=>Bp x/\x≠a,δ1,r5,#[#[λx o e=>?_,λx o xs e=>?_],#[Bp,`aLz,λx z=>?_,a3],λi' ds a' h1 h2=>?_,λx z=>?_],e5,λv H6 ev=>?_]
  ·by_cases z:x=a
   ·simp only[z,`gr] at e;cases e
   ·simp only[z,`dy] at e;exact e
  ·by_cases z:x=a
   ·exfalso
    let#[a5,b4,_,f3]:=a3.at (i:=n+k) (d:=b') (by rw[(`aNU).2];exact D60 f1);rw[h4] at b4;cases b4;rw[z] at e;exact f3.plain o xs e
   ·simp only[z,`dy];exact e
  ·by_cases z':x=a
   ·exact `q (by simp only[z',`gr])
   ·exact `p #[z,z']
  ·have f2:i'∉idx:=λz=>w.own i' z ds h1
   rw[(`yp i' f2).2] at h1;apply `aNM
   ·rw[← q1,h4] at h2
    cases h2;simp only[`gr]
   ·exact(ul0 z).elim
  ·simp only[z.2,`dy]
   exact a3.bad x z.1
  let#[B',c1,c2,d3,rv]:=`Hg;let#[a',d2,f5,rl]:=d3.at ho5;rw[h4] at d2;cases d2;have less:∀x,Bp x->B' x:=λx z=>by
   by_cases q:x=a
   ·rw[q];exact f5
   ·exact `ad9
  have bt:But a H5 H6:=#[λx o z e=>`N5 x o `aLx,λx o xs z e=>by have:=ev.same.nf x o xs e;apply `aLy];have e9:`aDH:=bt L _ (B8 Y) (s5 _ _ f6);have g6:Gr H6 `and B' Bp:=λx o nb hx=>#[λz=>nb (less x z),by rw[d7 (λz=>nb (by rw[z];exact less L d1))];exact hx]
  have g5:Gr H5 H6 Bp Bp:=`y2 (M a hB) bt;have g7:`aDI:=λx o nb hx=>#[nb,by rw[d7 (λz=>nb (by rw[z];exact d1))];exact hx]
  refine#[e9,`H,`b_ - `n4,`H,rfl,hlt,j5,#[λx o n e=>?_,λx o xs n e=>?_],`R8,pre++[r5.1],q6.1,b2',by rw[ho,← U];simp,?_,?_,by rw[e6,← O]]
  ·rw[`aNR]
   exact bt _ _ n (s5 _ _ (s3 _ _ n e))
  ·by_cases z:x=L
   ·rw[z,j5] at e;cases e
   ·rw[d7 z] at e
    exact s3.nf _ _ _ n (s5.nf _ _ _ (bt.nf _ _ _ n e))
  ·exact `pJ (((e7.same s5).mono g5).mono g7) (`N6 g6)
  ·exact RpL.mono `aNS g6 rl
 ·have e:j=`b_:=`H
  subst e;refine `p #[`Tu _ H2 `aeL `bi,?_];rw[`n9] at ec;have U:`aDJ:=(`OA).1;have O:b'=q.2:=(`OA).2;subst U;subst O;rw[`bc] at ho;have hh:But a H H2:=#[λx o n e=>s2 x o n (s1 x o e),λx o xs n e=>`Gf x o xs (s2.nf x o xs n e)];have a6:Env K H2 B σ `aoJ:=`vS a4 a2 hh ((`aNP).2 H2 B q.2 ((rb.toO hq).toG.less M));refine kk (`zb) H2 (`hf (`y9 b1 b2 a4 a2 hh a6) b1 b2 a6 ?_);rw[X4];exact#[L,ys,rfl,`p #[c8,`p hD],by rw[ho];exact rp.mono (`ie M)]
theorem Qn0(i k:Nat){sc scope:`cz}{elt iter:`M}{N':`h}{n:Nat}{caps:`i}{gi:GA}{idx:`i}{f:`aT}{gx:GX}
  (hcap:`vY) (hc:`dQ) (hsc:`k9) (ok:`n3) (hidx:∀j∈idx,j<n) (hi:`hP)
  (hg:`hQ) (he:`OB)
  (hs:`ei) :
  `aNV:=.mk λH₀ B₀ δ =>
 (k80 hc hsc ok (wi:=`aNW) (g:=`pt) (tt:=`aeJ) (te:=`aNX)
  `aNY
  `vq
  `aeK
  `aNZ hs).imp fun σ H Q h=>h50 hcap `fx h
def i00(j:Nat)(gx:GX):GS:=fun δ=>`Co λr=>.nx (r.2.set j (.sh r.1))
theorem bn0(i k j:Nat){y:Str}{py spos:Pos}{sc scope:`cz}{elt iter:`M}{N':`h}{n:Nat}{caps:`i}{gi:GA}{idx:`i}{f:`aT}{gx:GX}
  (hcap:`vY) (hN:`eK) (hc:`dQ) (hsc:`k9) (ok:`n3) (hidx:∀j∈idx,j<n) (hi:`hP)
  (hg:`hQ) (he:`OB)
  (hiN:`od) (hy:`ks)
  (hsw:`aN_)
  (hs:`ei)
  (hf:`i_) :
  `aN0:=.mk λH₀ B₀ δ pins s σ H D I hq162=>by
 let#[r,en,e1,kk]:=hq162
 unfold i00 at e1;cases e2:v10 n `bZ i `tl gi f gx δ with
 | none=>apply `U;cases e1
 | some q =>
  apply `U;cases e1;refine ib0 (i:=j) hN hiN hy hc hsc ok (wi:=`aNW) (g:=`pt) (tt:=`aeJ) (te:=`aNX)
   `aNY
   `vq
   `aeK
   `aNZ hsw hs hf `k s σ H D I (h50 hcap `fx `aeM)
  apply `rs;exact kk _ H' (ev.s.wr c1 c2 (`F5 H') ba0 (env.set j rv))
def jq0(gx:GX):GS:=fun δ=>`Co λr=>.rt r.1
theorem Zt0(h:`oc):PSD X `qV (jq0 gx):=.mk λH₀ B₀ δ pins s σ H D I hq163=>by
 let#[r,en,e1,k]:=hq163
 unfold jq0 at e1;cases e2:`dw with
 | none=>apply `U;cases e1
 | some q =>
  apply `U;cases e1;refine o00 `og `k s σ H D I `aeM;apply `rs;exact k v H' `N5 (`N6 (`ie c1))
def dgO(i:Nat)(gk:GE):GE:=fun δ=>`CX λb=>match b.1 with
 | `FV=>`vO λdk=>`aK4 `aL9
 | _=>`e
section
variable{a:`M}{p:Pos}{g ga gb:GE}
open T in
theorem vr0(i:Nat)(hu:`i')(hb:`c0)(hN:`ek)(hv:`ga)(hd:`aZ)(hcd:`fo)
  (hs:`ac9):PD X (`h6 `e! b pos) (dgO i gb):=.mk λB δ=>(gu0 hu `jA `fw hs).imp fun σ H Q hq164=>by
 let#[d,en,h,k]:=hq164
 unfold dgO at h;cases eb:`hk with
 | none=>rw[eb] at h;cases h
 | some bm =>
 rw[eb,`n] at h;let#[d0,U,J]:=`rm;let#[a,M,hB,ro]:=en.at U;have ro:=(J X.K H B a ro).1;split at h
 rotate_left
 ·cases h
 rename_i ks ds hbm;rw[hbm] at ro;let#[xs,hx,hl,rr]:=ro;cases e2:`dO with
 | none=>rw[e2] at h;cases h
 | some y =>
 apply `rk;cases e3:y90 y with
 | none=>rw[e3] at h;cases h
 | some q =>
 apply `rj;refine#[_,M,y,en,e2,`sN];let#[v,O,rv]:=(wa0 (rr.same s2)).1 d h;have:=`ac';subst this;exact#[a,v,rfl,by rw[← O];exact `T' (s2 _ _ hx),k v H2 s2 rv]
def Qk0{d:D}(h:`ku)(r:`ck):`S3:=by
 apply `acs
 ·rw[U5] at r ⊢;exact r
 ·rw[Y7] at r ⊢;exact r
 ·rw[j7] at r ⊢;exact r
 ·rw[Y8] at r ⊢;exact r
def Ze0(ga:GE)(gx:GX):GX:=fun δ=>`vc λd=>if `ku then `Co λr=>(`w [d,r.1],r.2) else `e
def EnvV.new{σ:St}{δ:Ds}{d:D}{v':V}(ev:`CD)(s:`a3)(r:∀B:BS,`q7->`ck->Rp K H' B d' v'):EnvV K `ad `V H' σ δ d' v':=by
 apply `rs;exact#[`aN1 s,#[B,c1,c2,`ih s,r B `C7 rv],ev.fr,ev.b0]
theorem Kf0{x1}(ha:`ca)(h:`oc)(hs:`v (`c7 [a,e] `A=`alm::`TC) Aa)(hs2:`eO):PX X (`ld [a,e] x1 pos) (Ze0 ga gx):=.mk λH₀ B₀ δ pins s σ H Q I hq165=>by
 skip;let#[r,en,e1,k]:=hq165
 unfold Ze0 at e1;apply `a_;cases e2:`cv with
 | none=>apply `U;cases e1
 | some d =>
 apply `cp;split at e1
 rotate_left
 ·cases e1
 rename_i hfl;cases e3:`dw with
 | none=>apply `bH;cases e1
 | some q =>
 apply `bH;cases e1;done;refine a90 (N7 `bk (N7 `og y20 hs2) hs) `k s σ H Q I #[d,env,e2,λv1 H1 s1 r1=>#[q,`yq s1,e3,λv2 H2 ev=>#[`aN2,λp hp=>k _ _ (ev.new `fS λB' hB rv=>?_)]]];rw[U8];refine#[p,[v1,v2],rfl,#[λz=>hB p z hp,j5],?_];rw[o9];refine#[v1,[v2],rfl,Qk0 hfl r1,?_];rw[o9];exact#[v2,[],rfl,`lb `fS,`gU]
def bb0(f:`Q)(gx:GX):GX:=fun δ=>`Cn λr=>(f [r.1]).map `aeN
theorem Vz0{T:`cO}{f:`Q}(hc:`_o)(hf:`Mm)(hm:`nP)(hv:`_p)(ha:`oc)(hg:`gb)
  (hn:`nQ) (hdb:`aZ) (he:`eO) (hpl:`i9) :
  PX X `aHe (bb0 f gx):=.mk λH₀ B₀ δ=>(pm0 hc hg hm hv (N7 `vQ y20 he) hn hdb he hpl).imp fun σ H Q hq166=>by
 skip;let#[q,en,e1,k]:=hq166
 unfold bb0 at e1;cases e2:`dw with
 | none=>apply `U;cases e1
 | some r2 =>
 apply `cp;cases e3:f [r2.1] with
 | none=>apply `bH;cases e1
 | some d =>
 apply `bH;cases e1;done;refine#[r2,en,e2,`aph];apply `rs;exact hf H1 B [v] [r2.1] d Q `C7 (by rw[o9];exact#[v,[],rfl,rv,`gU]) e3 λv' H2 s2 r'=>k v' H2 #[`aN1 s2,#[B,c1,c2,`ih s2,r'],ev.fr,ev.b0]
universe zz
theorem ms0:∀(kvs acc:`gz),((acc++kvs).map `bV).Nodup->tj0 acc kvs=acc++kvs
 | [],acc,_=>`aeO
 | p::r,acc,h=>by
  have hn:`aN3=acc++[p]:=by
   unfold putK;rw[`ap];rw[`aeP];rintro⟨q,hq,e⟩;have e:=i6 e;rw[`a4,`_,`ML] at h;exact h.2.2 q.1 (P2 hq) p.1 A7 e
  show tj0 (`aN3) r=_;rw[hn,ms0 r (acc++[p]) (by rw[`aV];exact h),`aV];rfl
abbrev GP:=Ds->`aP (`OC)
def Wd0:GP:=`aaw
def uf0(gk gv:GE)(gP:GP):GP:=fun δ=>`vO λk=>`vU λv=>`aN4 λps=>`E8::ps
def RpP(K:`B)(H:Hp)(B:BS)(ps:`OC)(vs:`k!):Prop:=Rps K H B `HC (`aeQ)/\Rps K H B `vZ `Vg
structure PDP(X:Cx)(pos:Pos)(keys:`AU)(vals:`bn)(gP:GP):Prop where
 mk::go:∀δ,∃trs,`aN5/\∀B σ H Q,(∃ps,`Gm/\`aN6/\∀vs H',`a3->RpP X.K H' B ps vs->`KH)->`acb
section
variable{vals:`bn}{gv:GE}{gP:GP}
theorem Me0:PDP X pos [] [] Wd0:=.mk fun δ=>#[[],Xx0,λB σ H Q hq167=>by
 let#[ps,en,e,k]:=hq167
 cases e;exact k [] H `c' #[`aeR,`aeR]]
theorem jh0(hk:`aew)(hv:PD X ve gv)(hr:`aN7):PDP X pos (`c ke::`he) (ve::`jH) (uf0 gk gv gP):=.mk fun δ=>by
 apply `aN8;refine #[_,Z90 (tk:=`aN9) (tv:=fun σ H Q=>∃B,tD X.K B δ gv σ H Q) `aN' (λpins s σ H Q I #[B,h]=>hv B δ `k s σ H Q I h) h1,λB σ H Q hq168=>?_];skip;let#[ps,en,e,k]:=hq168;unfold uf0 at e;cases e1:`tb with
 | none=>rw[e1] at e;cases e
 | some a =>
 apply `Oy;cases e2:`za with
 | none=>rw[e2] at e;cases e
 | some b =>
 rw[e2,`n] at e;cases e3:`pV with
 | none=>rw[e3] at e;cases e
 | some qs =>
 rw[e3] at e;cases e;done;refine#[B,a,en,e1,λv1 H1 s1 r1=>#[B,b,`fR,e2,λv2 H2 s2 r2=>h2 B _ _ _ #[qs,`aN!,e3,λvs H3 s3 rr=>k _ H3 `NR `LY]]]
 ·rw[`_,`_,o9]
  exact#[v1,_,rfl,`aN?,rr.1]
 ·rw[`_,`_,o9]
  exact#[v2,_,rfl,`aKn,rr.2]
theorem jl0:∀{ks:`eb} {vs:`k!},`aeQ=`GE->vs=`ao8 `acd
 | [],[],_=>rfl
 | [],`dJ,h=>by cases h
 | `dJ,[],h=>by cases h
 | `hS,`Cy,h=>by
  rw[`_,`_] at h;have h1:=(c6 h).1;have h2:=(c6 h).2;rw[`_,`dh,`_,← jl0 h2,← h1]
def hf0(gP:GP):GE:=fun δ=>`aOa λps=>`aOb λks=>if `aOc then `c (`cj `yh `vZ) else `e
theorem U20(h:`aN7)(hall:`aOd)(hl:`aOe)(h0:`aOf)(h15:`aOg) :
  PDF X (`zj `he `jH pos) (hf0 gP):=.mk λB δ pins s σ H Q I hq169=>by
 skip;let#[d,en,e,k]:=hq169
 unfold hf0 at e;cases e1:`pV with
 | none=>rw[e1] at e;cases e
 | some ps =>
 apply `Oy;cases e2:`Vh with
 | none=>rw[e2] at e;cases e
 | some ks =>
 rw[e2,`n] at e;split at e
 rotate_left
 ·cases e
 rename_i hnd;cases e;apply `aOh;done;refine X10 h1 hall hl h0 h15 `k s σ H Q I λp hp=>h2 `k7 _ _ _ #[ps,en.fresh hp,e1,λvs H' s' rr=>`aOi]
 ·exact jl0 (o60 e2 rr.1)
 ·rw[`pI]
  have:=hnd.2;lia
 ·have J:`aOj:=by
   have:=C3 `tJ (o60 e2 rr.1)
   simpa using this.symm
  have hm:`aOk:=by
   rw[ms0 _ [] (by
    rw[`hF];have:`aOl:=D70 `j;rw[`E];exact hnd.1)]
   rfl
  rw[hm];refine k p _ hp #[λc o q=>?_,λc o xs q=>?_] #[`aOm,j5,J,?_]
  ·have hc:c≠p:=U9 q hp
   rw[d7 hc];exact s' c o (by rw[d7 hc];exact q)
  ·by_cases hc:c=p
   ·rw[hc,j5] at q;cases q
   ·rw[d7 hc] at q
    have:=s'.nf c o xs q
    rwa [d7 hc] at this
  ·exact rr.2.mono (`yA `u9)
universe zz
theorem Ob0(i k:Nat){sc scope:`cz}{elt iter:`M}{N N':`h}{n:Nat}{caps:`i}{gi:GA}{idx:`i}{f:`aT}{gx:GX}
  (hcap:`vY) (ok:`ob) (hidx:∀j∈idx,j<n) (hi:`hP)
  (hg:`hQ) (he:`OB)
  (hc:`hR) (hsc:`q?) (hN:`ra) (hs:`ei) :
  `aNV:=Qn0 i k hcap hc hsc `rb `fx hi hg he hs
theorem R40(i k j:Nat){y:Str}{py spos:Pos}{sc scope:`cz}{elt iter:`M}{N N':`h}{n:Nat}{caps:`i}{gi:GA}{idx:`i}{f:`aT}{gx:GX}
  (hcap:`vY) (nd:`eK) (ok:`ob) (hidx:∀j∈idx,j<n) (hi:`hP)
  (hg:`hQ) (he:`OB)
  (hc:`hR) (hsc:`q?) (hN:`ra)
  (hiN:`od) (hy:`ks)
  (hsw:`aN_)
  (hs:`ei)
  (hf:`i_) :
  `aN0:=bn0 i k j hcap nd hc hsc `rb `fx hi hg he hiN hy hsw hs hf
def oq0(f:`aT)(G:GSB):`l->Ds->`kw
 | [],δ=>`ph
 | `ay,δ=>`aBa fun δ1=>match G δ1 with
  | `S0=>oq0 f G ds δ2
  | r=>r
def ax0(gi:GA)(f:`aT)(G:GSB):GSB:=fun δ=>`vh λitems=>oq0 f G `bs δ
open Classical in
theorem Nb0{pos:Pos}{G:GSB}(hp:`Bg)(hc:`dQ)(hi:`hP)(hg:`Ce)(hb:`jC X `gk G)
  (hs:`ei):PSB X `ZO (ax0 gi f G):=.mk λH₀ B₀ δ pins s σ H D I hq170=>by
 let#[r,en,e1,k]:=hq170
 unfold ax0 at e1;apply `a_;cases e2:`sF with
 | none=>apply `U;cases e1
 | some items =>
  apply `U;apply `eN;apply `aCO
  have a7:PSs X `gk (λD σ H=>∃H₀ B₀ δ,tDB X.K `ad `V δ G D σ H):=λpins s σ H D I #[`ad,`V,δ,h]=>`tf `ad `V δ `k s σ H D I h
  apply `aCR;apply `aCS
  apply `aCT
  apply `aCU
  apply `aCV
  have a2:`aCW:=#[λb o h=>by
   by_cases z:`yr
   ·rw[`aCX] at h;cases h
   ·rw[O] at h
    have h':`aCY:=h;rw[`n8] at h';exact h',λb o xs h=>by
   by_cases z:`yr
   ·apply `aCZ
    apply `aC_;cases h0
   ·rw[O]
    show (`Gd)=_;rw[`n8];exact h]
  have hS:`aC0:=#[λb o h=>by
   have h1:=`aC1
   by_cases z:B b
   ·rcases b2 b z with q|q
    ·rw[a3 b q];exact h1
    ·rw[h] at q;cases q
   ·rw[U b z];exact h1,`aC2]
  have Y:=`jx;have start:`aC3:=by
   apply `aC4
   ·by_cases q:`mI
    ·exact `kf
    ·exact `aC5
   ·have hn:=`aC6
    have nb:¬`mI:=λz=>`ii a z hn
    apply `aC7;rw[h2] at e3;cases e3;cases e4;exact Z a hB nb
   ·rw[a3 a z]
    exact `aC8
  refine#[λi m σ H=>m=`b_ - i/\`abt/\∃δi,`aC9/\oq0 f G (`ju i) δi=`ew,`aC',?_];apply `aC!;apply `aC?
  by_cases hlt:i<`b_
  ·refine `q #[`aDa,fun σ' H'=>∃δn,`aDb/\oq0 f G (`ys) δn=`ew,`aDc,`aDd]
   apply `aDe;apply `aDf;have a5:`aDg:=rd B' (λb o n h=>by
    have h':Hh b=`au:=`Tr
    apply `aDh;rcases c2 b z with q|q
    ·exact `aDi
    ·rw[h'] at q;cases q) env0.bad
   have a4:=`aDj
   replace M:=M.grow sm
   have a1:`aDk:=by
    apply `Mu;congr 1;rw[`Mv] at hd;exact A3 hd
   rw[a1] at ei;unfold oq0 at ei;cases e3:f d δi with
   | none=>rw[e3] at ei;cases ei
   | some δ2 =>
    rw[e3] at ei;simp only[`n] at ei;apply `aDl;apply `aDm;cases e4:G δ2 with
    | none=>rw[e4] at ei;cases ei
    | some rb =>
     rw[e4] at ei;apply `aDn;cases rb with
     | nx δn=>apply `abu
     | rt d' δn =>
      cases ei;exact λv σ' H' ev=>k v σ' H' #[`abv `N5,by
       let#[Bx,x1,x2,ex,rx]:=`Hg;exact(`aOn).ex.elim λBy hy=>#[Bx,x1,λa z=>(x2 a z).imp id λq=>hS.free q,ex,rx],(`aOn).fr,`ii]
  ·have e:i=`b_:=`H
   subst e;apply `aDo;rw[`n9] at ei;cases ei;exact `aDp
abbrev GTX:=Ds->`aP (`aa×Ds)
def tTX(K:`B)(H₀:Hp)(B₀:BS)(δ:Ds)(gt:GTX):TT:=fun σ H Q=>∃r,`cJ/\`d!=`ew/\∀H',`cY K `ad `V H' σ r.2->Q r.1 H'
structure PTX(X:Cx)(e:`M)(gt:GTX):Prop where
 mk::go:∀H₀ B₀ δ,PT X e `aOo
structure PWX(X:Cx)(e:`M)(gt:GTX):Prop where
 mk::go:∀H₀ B₀ δ,PW X e `aOo
def liftT(gt:GB):GTX:=fun δ=>`aOp λb=>(b,δ)
def R6(gx:GX):GTX:=fun δ=>`Cn λr=>match r.1 with
 | `dp=>`c (b,r.2)
 | _=>`e
def ut0(gt:GTX):GTX:=fun δ=>`aOp λr=>(!r.1,r.2)
def Vc0(gt gu:GTX):GTX:=fun δ=>`sD λr=>if `Vi then gu r.2 else `c (`r,r.2)
def orT(gt gu:GTX):GTX:=fun δ=>`sD λr=>if `Vi then `c (`d,r.2) else gu r.2
def ifX(gt:GTX)(Ga Gb:GSB):GSB:=`aOq
def ta0(ga:GE)(gx:GX)(f:`a5):GX:=fun δ=>`vc λda=>if `aeS then `Cn λr=>(f da r.1).map `aeN else `e
section
variable{a:`M}{rest:`bn}{as bs:`eh}{gt gu:GTX}{gb:GB}{ga:GE}
theorem ay0(h:PTD X e gb):PTX X e (liftT gb):=.mk λH₀ B₀ δ pins s σ H Q I hq171=>by
 skip;let#[r,en,e1,k]:=hq171
 apply `a_;unfold liftT at e1;cases e2:`dO with
 | none=>apply `U;cases e1
 | some t =>
  apply `U;cases e1;done;exact h B δ `k s σ H Q I #[t,env,e2,λH' s'=>k H' (`Tm)]
open T in
theorem k70(h:`oc)(he:`Zg):PTX X e (R6 gx):=.mk λH₀ B₀ δ pins s σ H Q I hq172=>by
 let#[r,en,e1,k]:=hq172
 unfold R6 at e1;cases e2:`dw with
 | none=>apply `U;cases e1
 | some q =>
  apply `cp;split at e1
  rotate_left
  ·cases e1
  rename_i t hq;cases e1;refine S90 `og he `k s σ H Q I `aeM;apply `rs;rw[hq,Y7] at rv;exact#[t,rv,k H' ev.s]
theorem ee0(h:`C!):PTX X `Be (ut0 gt):=.mk λH₀ B₀ δ pins s σ H Q I hq173=>by
 let#[r,en,e1,k]:=hq173
 unfold ut0 at e1;cases e2:`d! with
 | none=>apply `U;cases e1
 | some q =>
  apply `U;cases e1;exact Ub0 `og `k s σ H Q I #[q,en,e2,k]
theorem P90(h:`C!):PWX X `Zh gt:=.mk λH₀ B₀ δ=>Xk0 `og
theorem gv0(h:`C!):PWX X `Zi gt:=.mk λH₀ B₀ δ=>Tb0 `og
theorem N40(ha:`C!)(hb:PWX X `Ba gu):PWX X `Bb (Vc0 gt gu):=.mk λH₀ B₀ δ wh pins s σ H Q I hq174=>by
 let#[r,en,e1,k]:=hq174
 unfold Vc0 at e1;cases e2:`d! with
 | none=>apply `U;cases e1
 | some q =>
  apply `cp;refine T80 `vQ `Vj wh `k s σ H Q I `Vk;cases hq:q.1 with
  | true=>apply `OD;apply `v_
  | false=>apply `OE;cases e1;exact k H' J
theorem al0(ha:`C!)(hb:PWX X `Bc gu):PWX X `Bd (orT gt gu):=.mk λH₀ B₀ δ wh pins s σ H Q I hq175=>by
 let#[r,en,e1,k]:=hq175
 unfold orT at e1;cases e2:`d! with
 | none=>apply `U;cases e1
 | some q =>
  apply `cp;refine Pu0 `vQ `Vj wh `k s σ H Q I `Vk;cases hq:q.1 with
  | true=>apply `OD;cases e1;exact k H' J
  | false=>apply `OE;apply `v_
theorem PWX.pt(h:PWX X e gt):PTX X e gt:=.mk λH₀ B₀ δ=>L2.PW.pt `og
theorem om0(hc:`aOr)(ha:`aLn)(hb:`aLo):PSB X `Mr (ifX gt Ga Gb):=.mk λH₀ B₀ δ pins s σ H D I hq176=>by
 let#[r,en,e1,k]:=hq176
 unfold ifX at e1;cases e2:`d! with
 | none=>apply `U;cases e1
 | some q =>
  apply `cp;apply `aOs;cases hq:q.1 with
  | true=>apply `OD;apply `v_
  | false=>apply `OE;apply `v_
open T in
theorem Qx0{op:`gO}{rr:R2}{f:`a5}(ho:`aeT)(hf:`OF)(ha:`ca)(hb:`aeU)(hm:`Ca):PTX X `lM (R6 (ta0 ga gx f)):=.mk λH₀ B₀ δ pins s σ H Q I hq177=>by
 let#[r,en,e1,k]:=hq177
 apply `a_;unfold R6 ta0 at e1;cases e2:`cv with
 | none=>apply `U;cases e1
 | some da =>
 apply `cp
 by_cases hfl:`aeS
 rotate_left
 ·rw[`aeV] at e1;cases e1
 rw[`aeW] at e1;cases e3:`dw with
 | none=>apply `bH;cases e1
 | some q =>
 apply `ja;cases e4:f da q.1 with
 | none=>apply `gW;cases e1
 | some d =>
 rw[e4,`gx,`n] at e1;split at e1
 rotate_left
 ·cases e1
 rename_i t hd;have hd:d=.bl t:=hd;subst hd;cases e1;refine k60 ho `rn `ad4 hm `k s σ H Q I `aOt;apply `ad8;refine hf H2 B' x y da q.1 _ _ J.bad (vy0 hfl r1) rv e4 `NQ
 rw[Y7] at r3;exact#[t,r3,k H3 (`Vp s3)]
universe zz
universe DL
namespace L2
open Spec PyProof.Rows
def CloseOk.other(c:`l2){b:`g}{u:`qP}(q:H b=u)(n:`aLd):`aOu=u:=by
 apply `aLe
 apply `fV;have hb:`mO:=λz=>by
  cases l:`tc with
  | none=>have:=`N2;rw[l] at this;cases `E
  | some so=>exact `aLf
 rw[`hN];cases l:`jB with
 | none=>exact q
 | some so=>exact `aLg
def FnOk.closing{P:`aw}{w:`X}{k:Nat}{f:`g}{ps:`h}(F:`T P w K mg `m CX0 k f fd ps sp) :
  `T P w K mg `m CX0 k f fd ps (λvs H Q E=>∃a sub,`l2/\sp vs `l3 Q E):=by
 refine #[λvs H Q E #[a,sub,c,q]=>F.len vs _ Q E q,λA outer s H J us vs Q E hr e hb hv hq178=>?_];let#[a,sub,c,q]:=hq178;have no:∀b,`c6->`aOu=`e:=λb z=>`OG z λso z=>nomatch z
 refine X2 (F.run A `cE s `l3 J us vs Q E hr #[`_g,e.mod,λb o z=>#[(`aOv).1,no b (`aOv).2],e.bsz,e.funs,λb z=>no b (e.frf b z),e.hok.closed `N2 c.at' c.ins,e.bare] hb hv q) `_h
 skip;cases r with
 | error er=>done;exact hq
 | ok fl =>
  cases fl with
  | ret u =>
   let#[v,H',h1,h2,un,h3,h4,h5]:=hq;done;exact#[v,H',h1,h2,#[λb o e1 e2=>un.keep b o e1 (no b e2),λb o e1 e2=>un.slot b o e1 (no b e2),λb o e1 e2=>un.free b o e1 (no b e2),un.there,λb xs e1=>un.tups b xs (`OG e1 `aLh),λb o u e1=>un.frzs b o u (`OG e1 `aLi),λb ps e1=>un.tbls b ps (`OG e1 `aLj)],h3,h4,h5]
  | next=>done;exact hq
  | brk=>done;exact hq
  | cont=>done;exact hq
universe L2
namespace DL
open Spec PyProof.Rows L2
def adopt{H3:Hp}{σ:St}{δ:Ds}{L:`g}{es:`l}{xs:`N}(en:`cJ)(b1:`i5)(b2:`i6)(env:`be)(at':`ro)
  (hdx:∀C dx fs,`aeu->`aOw) (s13:`cG H H3) (hLH:H L=`e) (hL3:H3 L=`Fo) (hfl:`C5) (rx:Rps K H3 B es xs) :
  `aOx/\∃Hc,`aOy/\`cY K `ad `V Hc σ `OH/\Env K Hc B σ `OH /\
   AtN K Hc B σ `OH i a `Vm `lg `ze/\RpN K Hc B `lg (`U2) (`zb):=by
 apply `aMU;have c2:∀b∈as,`aac:=λb hb z=>by
  rcases `U' b hb with q|q
  ·rw[q,hH] at z;cases z
  ·rw[q.2] at z;cases z
 have La:L∉as:=λz=>c2 L z hLH
 apply `aMY
 have b3:=`mX s13;have J:`aMZ=(`ao9).length:=`aM_
 have Y:`aM0:=by
  rw[`ML];apply `aM1;rw[`ec hy] at z;exact `aM2
 have a3:`aM3:=`aM4
 have c3:∀(k:Nat) c so,`lg[k]?=`d6->`ze[k]?=`td->`aM5∨(`Os/\c=L/\`aaT):=λk c so q1 q2=>by
  by_cases hk':k<`gv
  ·rw[`Ot] at q1
   apply `aM6;exact `p `CE
  ·have hl1:=`aM7
   rw[`O] at hl1;have b0:`Os:=`aM8
   subst b0;rw[`kz,`gX] at q1;rw[`zc,`kz,`gX] at q2;apply `aM9
 have a1:∀(k:Nat) C dx fs,`ze[k]?=`ms->k=0:=λk C dx fs e=>by
  by_cases hk':`Oc
  ·rw[`Ot] at e
   exact `aM'
  ·rw[`CV] at e
   cases q:k - `yj with
   | zero=>rw[q] at e;cases e
   | succ n=>rw[q] at e;cases e
 have cl:`aOx:=se0 a3 Y J (λk c so q1 q2=>by
  skip;rcases c3 k c so q1 q2 with⟨q1,q2⟩|⟨_,rfl,rfl⟩
  ·done;exact `aM!
  ·done;rw[w60 La];exact hL3) a1
 obtain⟨Hc,M⟩:∃Hc,`aOy:=`ac;refine#[cl,Hc,M,?_];skip;have ca:Hc a=`c (`k2 `Vl):=by rw[M];apply `fV;rw[`bA]
 have a4:∀b∈`lf,`aNa:=λb hb n=>by
  rw[M];apply `fV;let#[so,q]:=wr0 J hb Y;rw[`ap n,q]
 have O:`aNb:=λb hb=>by
  rw[M];apply `fV;rw[`ap (show ¬b=a from λz=>hb (by rw[z];exact C5 a3)),`Ou,`aNc]
 have but:`aNd:=#[λb u n z=>by
  apply `Ov
  ·apply `Ow
   ·rcases `U? with w|w
    ·exact `I w n
    ·rw[`aeX,← w.2,z]
   ·rw[`C8,hLH] at z;cases z
  ·rw[`OI];exact s13 _ _ z,λb u xs n z=>by
  apply `Ov
  ·rw[`aeX] at z;cases z
  ·rw[`OI] at z;exact s13.nf _ _ _ z]
 have gr:Gr H Hc B B:=`y2 `rq but;have c1:¬B L:=`C9 hLH;have hw:RpW K Hc B `Vm a `lg `ze:=by
  refine#[a3,Y,ca,`gN,J,`ij ?_ (`ai #[xs,rfl,nm0 (vz0 hfl) (`aNy)] `L),a1]
  ·by_cases n:b=a
   ·exact `p n
   ·refine `q #[?_,`aeX]
    apply `Ow
    ·exact`aNf
    ·rw[`C8];exact c1
  ·apply `aNg
   intro z;subst e;have b4:=`aNh;subst b4;exact hdx C dx fs q2 (z▸hLH)
 let#[x,mk,a2]:=Wm0 `rp;let#[d0,U,a8]:=vx0 a2;let#[a',a5,hB,ro]:=`yD U;rw[`fU] at a5;cases a5;have a7:`ao'=`aOz:=by unfold s00;rw[a2]
 have Z:Env K Hc B σ (`aOz):=`vS U `fU but ((a8 _ _ _ _ ro).2 _ _ _ `aNm);have c0:=`y9 b1 b2 U `fU but Z;done;rw[a7];refine#[c0,Z,#[`fU,hB,V50 a2 _,hw],?_];unfold T8;rw[yw0];have a6:`eY=`gv:=`aNo
 exact `p #[`eY,L,xi0 _,by rw[a6,`kz,`gX];rfl,rfl]
def ct0(f:Str)(fs:`l):`aa:=fs.all λn=>match n with
 | `bX=>`z (x≠f)
 | _=>`d
def gz0(i:Nat)(c f:Str)(gv:GE):GS:=fun δ=>`vU λdv=>`dK λns=>match ns with
 | `Ol=>if c'=c/\`c! dv=`d/\`aOA then `c (.nx (`db i 0 (`w [`iq,`aOB,`o (ds++[dv])]) δ)) else `e
 | _=>`e
def kk0(i:Nat)(c f:Str)(g:GE):GS:=fun δ=>`cR λd=>`dK λns=>match d,ns with
 | `jy,`Ol=>if c'=c/\`C5/\`aOA then `c (.nx (`db i 0 (`w [`iq,`aOB,`o (ds++[`U2])]) `OH)) else `e
 | _,_=>`e
theorem dm0{f:Str}(h:ct0 f `Hs=`d):f∉nm:=λz=>by
 unfold ct0 at h;rw[`jb] at h;have:=h (`t f) (P2 z);simp at this
theorem jk0{f:Str}:∀{nm:`h} {xs:`N},`da=`aG->f∉nm->`aOC
 | [],[],_,_=>rfl
 | [],`dJ,h,_=>by cases h
 | `dJ,[],h,_=>by cases h
 | n::nm,`lS,h,hn=>by
  rw[`pG] at hn;have ih:`aOC:=jk0 `hB λz=>hn (`tg)
  show (if n=f then _ else (n,x)::`ao!)=_;rw[`ap (λz=>hn (`p `pe)),ih];rfl
def Lq0{σ:St}{s:`y}(I:`F)(w:RpW X.K H B ns a as sos){C:`g}{fs:`iO}(h:`aeu):`aOw:=by
 obtain⟨_,all⟩:`ad0/\∀p∈`a2,`ad1:=`b7 a _ w.at';have hm:`aNi:=by
  refine `aNj;rw[`aNk];exact#[w.hd,h]
 let#[_,w,_]:=(all _ hm).2;rw[w];exact λz=>nomatch z
section
variable{gv g:GE}{c f:Str}
open T in
theorem n70(i:Nat)(hv:`aem)(hc:`C1)(hf:`C2)(hN:`ek)(hvis:`ga)(hd:`aZ)(hcd:`fo)
  (hs:`aen):PSD X `aeo (gz0 i c f gv):=.mk λH₀ B₀ δ pins s σ H De I hq179=>by
 let#[r,en,e1,kk]:=hq179
 unfold gz0 at e1;apply `a_;cases e2:`za with
 | none=>apply `U;cases e1
 | some dv =>
 apply `cp;cases e3:`cL with
 | none=>apply `bH;cases e1
 | some ns =>
 apply `ja;split at e1
 rotate_left
 ·cases e1
 apply `aep;split at e1
 rotate_left
 ·cases e1
 rename_i hq;let#[a1,hn,a2,M]:=hq;subst a1;cases e1;apply `Om;apply `aMx;apply `hU;apply `aeq;apply `aMy;apply `C3;apply `aMz
 ·apply `yP
  rw[`K] at M;exact M
 ·rw[jk0 hl (dm0 a2)]
  let#[Y,z1,z2]:=`vW b1 b2 env s1 at' `Hp U (n':=`w [`iq,`aOD,`o (ds++[dv])]) (so':=`g_ C O (`yi (`zg) (xs++[v1]))) #[C,O,`zg,xs++[v1],rfl,`aeY,`aOE,hC,Z,`oh (`ij `y? (`ai (p30 (Zd0 hn) r1) `L))] `On (d:=`x) (v:=`x) `il;apply `Oo
open T in
theorem p60(i:Nat)(hv:PDF X `eZ g)(hc:`C1)(hf:`C2)(hN:`ek)(hvis:`ga)(hd:`aZ)(hcd:`fo)
  (hs:`aen):PSD X `aeo (kk0 i c f g):=.mk λH₀ B₀ δ pins s σ H De I hq180=>by
 let#[r,en,e1,kk]:=hq180
 unfold kk0 at e1;apply `a_;cases e2:`ax with
 | none=>apply `U;cases e1
 | some d =>
 apply `cp;cases e3:`cL with
 | none=>apply `bH;cases e1
 | some ns =>
 apply `ja;split at e1
 rotate_left
 ·cases e1
 rename_i es c' fs ds rest;split at e1
 rotate_left
 ·cases e1
 rename_i hq;let#[a3,hn,a5,M]:=hq;subst a3;cases e1;apply `Om;refine q00 (bt0 `UZ (Q5 (W9 `U_)) hs) `k s σ H De I #[a,`jy,env,e2,λp H1 hp s1 ro=>?_];let#[ys,o1,ry]:=ro;let#[cl,Hc,a2,a4,Z,J,rn]:=adopt (es:=es) en b1 b2 env at' (λC dx fs h=>Lq0 I at'.w h) s1 hp o1 hn (xb0 hn ry);refine#[a,`a2,(`Hl).w.openOk,a,_,cl,?_];rw[← a2];apply `aeq;let#[C,O,nm,xs,rfl,rfl,hl,hC,a1,rx]:=`Ho;apply `C3;refine#[`ce,`fU,a,_,`jD,a,C,O,_,rfl,`aoR,q1,`Hq,?_,?_]
 ·apply `yP
  rw[`K] at M;exact M
 ·rw[jk0 hl (dm0 a5)]
  let#[Y,z1,z2]:=a4.setN b1 b2 Z `sP J `Hp U (n':=`w [`iq,`aOD,`o (ds++[T8 (`b9 [`iq,`C4,`cw]::`bh).length])]) (so':=`g_ C O (`yi (`zg) (xs++[`fL]))) #[C,O,`zg,xs++[`fL],rfl,`aeY,`aOE,hC,a1,`oh (`ij `y? (`ai rn `L))] `On (d:=`x) (v:=`x) `il;apply `Oo
universe zz
def V40(c:Str):D:=`w [`m5,`aOF]
def gp0(j:Nat)(c:Str)(f:`al):GS:=fun δ=>match f (V40 c) [] with
 | `c (`x,`y8)=>`c (.nx (`bj j `aLG))
 | _=>`e
section
variable{p:Pos}{c:Str}
open T in
theorem Sp0(j:Nat){k:Nat}{C:`g}{ps:`h}{f:`al}(nd:`eK)(M:Mk X.K C fa)(F:`T `a? X.w X.K `cc `d5 CX0 k fa fd ps (spB X.K 0 f))(hb:`aCs)(hC:`bQ X.K `bf c=`amR)(hr:`Oq)(hk:k+1<=n)(hm:`cc c=`FX)(hg:`aOG)
  (hi:`od) (hy:`ks) (hdb:`aOH)
  (hf:`i_) {spos:Pos} (hsw':`aOI) :
  `aOJ:=.mk λH₀ B₀ δ pins s σ H De I hq181=>by
 let#[r,en,e1,kk]:=hq181
 unfold gp0 at e1;apply `a_;split at e1
 rotate_left
 ·cases e1
 rename_i xx ns hq;cases e1;refine gn0 nd hi hy (Q40 (E:=E0) M F.closing `q! hg hm hb `L nh0 hdb) hsw' hf `k s σ H De I λx dx hx Z Y=>?_
 obtain⟨H1,J⟩:∃H1,H1=`axL:=`ac;rw[← J];have a2:H1 x=`c `Sm:=by rw[J,j5]
 have cl:`hj H1 x `aeZ:=se0 rfl (`U9) rfl (λk c so e1 e2=>by
  match k with
  | 0=>cases e1;cases e2;exact a2
  | k+1=>simp at e1) (λk C dx fs e=>by
  match k with
  | 0=>rfl
  | k+1=>simp at e)
 obtain⟨Hc,O⟩:∃Hc,Hc=`fT H1 x `aeZ:=`ac;refine#[x,_,cl,?_];rw[← O];have cx:Hc x=`c (`k2 `aeZ):=`aM?
 have U:∀b,b≠x->Hc b=H1 b:=λb hb=>by
  rw[O];apply `fV;rw[`hN,zp0 (by rw[`aER];exact hb)]
 have sm:`cG H Hc:=#[λb o z=>by
  have n1:b≠x:=U9 z hx;rw[U b n1,J,d7 n1,d7 (U9 z Z)];exact z,λb o xs z=>by
  by_cases n1:b=x
  ·rw[n1,cx] at z;cases z
  rw[U b n1,J,d7 n1] at z
  by_cases n2:b=dx
  ·rw[n2,j5] at z;cases z
  rw[d7 n2] at z;exact z]
 have a3:¬B x:=`C9 hx;have w:RpW X.K Hc (`aOK) [`aOF] x [x] `apa:=by
  refine#[rfl,`U9,cx,λb hb=>`p (`AI hb),rfl,`ai #[C,dx,[],[],rfl,rfl,rfl,hC,λz=>Y (`AI z),`U!] `L,λk C dx fs e=>by
   match k with
   | 0=>rfl
   | k+1=>simp at e]
 refine#[`aOK,[],[],x,V40 c,`w (`t xx::ns),`x,`GJ,`o7,rfl,`cu,`gU,#["",_,rfl,_,_,w],hq,λv H' but rg rv=>#[by rw[U5] at rv;exact rv,`aez]]
 ·apply `CP
  ·exact(`C7 b z).same sm
  ·rw[z];exact .of cx (λ_ _ q=>nomatch q) λ_ q=>nomatch q
 ·have a1:`a3:=#[λb o z=>but b o (U9 z hx) (sm b o z),λb o xs z=>by
   by_cases n1:b=x
   ·rw[n1] at z;exact `I z (rg.plain o xs)
   ·exact sm.nf b o xs (but.nf b o xs n1 z)]
  exact en.takeL b1 b2 env j hx a1 rg.toL
universe zz
def Va0(K:`B)(C:`g)(F:`h):`aa:=`axa&&W.hasDictIn K C&&`alF&&(match `alD with
 | `c (`c (`cT s))=>s == `alE
 | _=>`r)&&F.all (λf=>match `alL with
 | `c8=>`d
 | _=>`r)&&`alG&&`_i
open T in
def J6{C:`g}(h:`aOL):`qX/\(∀f∈F,`uV)/\`Z7/\`_i=`d:=by
 unfold Va0 at h;simp only[`bz] at h;let#[#[#[#[#[#[h1,h2],h3],h4],h5],h6],h7]:=h;refine#[#[h1,h2,h3,?_],λf hf=>?_,h6,h7]
 ·split at h4
  ·rename_i s e
   rw[e,`Ls h4]
  ·cases h4
 ·have:=n9.mp h5 f hf
  split at this
  ·rename_i e;exact e
  ·cases `E
theorem M10{c:Str}{C:`g}(a:`po)(h:`aOL):ClsN K c F:=#[λC' e=>by
 rw[a] at e;cases e;exact#[(J6 h).1,(J6 h).2.1]]
structure FnI(P:`aw)(w:`X)(K:`B)(mg:`bJ)(base:`W)(c:Str)(k:Nat)(ps:`h)(f:`al):Prop where
 ex:∃C fa fd,`aML/\`po/\Mk K C fa/\`yx/\mg c=`FX
section
variable{p:Pos}{c:Str}
def T20(j:Nat){k:Nat}{ps:`h}{f:`al}(nd:`eK)(M:FnI `a? X.w X.K `cc `d5 c k ps f)(hr:`Oq)(hk:k+1<=n)(hg:`aOG)
  (hi:`od) (hy:`ks) (hdb:`aOH) {spos:Pos}
  (hsw:`aOI)
  (hf:`i_) :
  `aOJ:=by
 skip;let#[C,fa,fd,F,hC,mk,hb,hm]:=M.ex;done;exact Sp0 j nd mk F hb hC hr hk hm hg hi hy hdb (hf:=hf) (hsw':=hsw)
universe zz
universe DL
namespace ZipL
open Spec PyProof.Rows
section
variable{w:`X}{s:`y}{R:`qN}{TI TO lo S:`g}{xs:`aW}
def N70(hh:`gQ)(D:`i!)(hlo:`CM)(st:`Ul)(hn:`rh)(L:`NC)(hT:`CJ)(hI:`NG)(c0:Nat)(res:`J)
  (gS:`dn S=`aHo)
  (hR:∀h' tk acc c as,`ads->`adl->`vK->`adm->`aIC) :
  `u `aC `bR (`yM `tm `gy res)
   `Nh `Ni s:=by
 have M:S≠z:=C7 L.z;apply `adt;apply `acZ;refine A0 (N4 hT ?_);have h1:`vF `tm `gy=`r:=by simp[`vF,M]
 apply `aIU
 apply `aIV
 apply `aIW;refine A0 (`aIX hI ?_);refine `Uh;apply `ac_;refine A0 (D8 hT g50 ?_);apply `aIY;refine A0 (D8 hT j90 ?_);refine `ia;show `u _ `bR (`aIZ>>=λ_=>`aI_ `tm>>=λ_ =>
  `xx `aID) _ _ _
 refine `aI0;refine `nX;show `u _ `bR (`rg S (`G0 `aJ)>>=λ_=>`rg S `Uo) _ _ _;refine A0 (L4 gS rfl ?_);have J:=K2 `NH gS rfl;refine L4 J rfl ?_;have U:=K2 `NI J rfl;have oth:∀b o,b≠S->`g3->((`m1 S `NH).update S `NI).get? b=`au :=
  λb o hb e=>`s4 (`s4 e)
 have O:lo<S:=`ado;exact A1 #[`adq,Pp0 (s:=s) (lo:=lo) (h₁:=`aK) hh D L hlo hn _ hR _ 0 _ `bu _ ⟨⟩ [] rfl `q2 (st.keep L oth) (λb o hb e=>oth b o (B0 (D9 hb O)) e) U rfl rfl `aI1]
def Sy0(hh:`gQ)(D:`i!)(hlo:`CM)(st:`Ul)(hn:`rh)(L:`NC)(hI:`NG)
  (gS:`dn S=`Nk)
  (hR:∀h' tk acc c as,`ads->`adl->`vK->`adm->`Uk->R (.ok (`hY `aJ)) `pO) :
  `u `aC `bR (`aHs #[[`C S,`pL],[]])
   `Nh `Ni s:=by
 show `u _ `bR (do let old ← `aHt `tm;`aHu `tm `Nl;`aHv;`aOM) _ _ s;have O:S≠z:=C7 L.z;have Y:lo<S:=`ado;apply `adt;refine A0 (by
  apply `aHx;refine A0 (W1 gS rfl (A1 (by
   show `u _ `bR (`rg S `Nl>>=λ_=>`aHy>>=λ_=>`aOM) _ _ s;have g2:=K2 `HF gS rfl;have oth:∀b o,b≠S->`g3->(`aON).get? b=`au:=`ac0
   have J:=oth z _ (B8 O) hI;refine A0 (L4 gS rfl (A0 (`aHz (N70 (s:={ s with heap:=`aON }) (lo:=lo) (xs:=xs) (ys:=ys) hh D hlo (st.keep L oth) hn L `_q #[f0,J] _ `aJ g2 λh' tk acc c as hk U hl hG M=>?_))));exact hR h' tk acc c as (λb o hb e=>hk b o hb (oth b o (B0 (D9 hb Y)) e)) U hl hG M))))
universe zz
section
variable{w:`X}{s:`y}{xs:`aW}
def Ql0{Q:`aF}(hh:`gQ)(hl1:`vH)(hl2:`vI)(hn:`rh)
  (h:∀(h':`W) (tk c:Nat) (as:`aM) (t:`g),`ac2->`vK->(∀a∈as,`A5/\t<a)->`lX->`Y<=t ->
   `aI4->`g0 t=`c { cls:=`c5,dict:=`e,data:=`b5 `G2 c,slots:=⟨⟩ }->`aI5) :
  `u `aC A `aI6 `aHD E s:=by
 apply `aI7
 apply `aI8
 refine `aI9 hl1 hl2 λh1 hz hTI a6 Y a3 a5 hk=>?_
 have O:`aI':=`aI!
 have M:`aI?:=`aJa
 have H:`aJb:=λk hk=>by rw[a5];exact Cr0 hk _
 have D:=`aJc (n:=`Y) a1 a2;have L:ZLow (`Y+4) (`Y+2) (`Y+3) `Y `h? l1 l2 `s!:=`aJe;refine Ae0 (Q₁:=λob s1=>ob=`C `s!/\s1=`aOO) Ca0 (Cb0 _) Cc0 `aHB λob s1 a7=>?_
 let#[rfl,rfl]:=a7;have gC:`aOP `s!=`Nk:=`fz;have pu:∀b o,`YC b=`au->`aOP b=`au:=`sa
 have st:ZSt h1 (`Y+4) (`Y+2) (`Y+3) `Y `h? l1 l2 `s! xs ys 0:=#[`p #[rfl,hz,_,_,a6],hTI,Y,a3,O,M];refine#[`aHC,Ce0 _ _,Sy0 (s:=`aOO) (lo:=`Y) (xs:=xs) (ys:=ys) (`Nm) D `aJd (st.keep L λb o _ e=>pu b o e) hn L #[_,pu _ _ hz] gC λh' tk a4 c as Z J hl hG U=>`abF];have e:a4=`G2:=by rw[← U]
 rw[e] at J;refine h h' tk c as `s! (λb o q=>Z b o `Us (pu b o (hk b o q))) hl (λa ha=>#[?_,`adr]) (hG.rise.imp λh=>B0 h) (E6 `s?) (λj a hj=>`aIK) J;exact E6 (D9 `s? (`adr))
universe zz
universe ZipL
namespace DL
open Spec PyProof.Rows L2
def I90(K:`B):`mw:=λvs H Q=>∃q1 q2 xs ys,`aJH/\`aJI/\`aJJ /\
 ∀(t:`g) (as:`aM),`CO->`lX->`NL->`NM->`aJK->Q `kY (wz0 H ((t,`o `yW)::`ady))
def c70(hc:`hR):iq0 X `yK `s' (I90 X.K):=by
 apply `KP;skip;apply `aJL;cases r with
 | cons r1 r =>
  cases r with
  | cons r2 r =>
   cases r;obtain rfl:=r1;obtain rfl:=r2;apply `aJM;apply `aJN;have l1:=`acF;have l2:=`acG;done;refine ZipL.Ql0 `iT `sT `MC (`act) λh' tk c as t hk hl ha O ht hp gt=>?_
   rw[`bY,`bY] at hl;have M:`CO:=`aJO
   refine#[`xL,_,Inv.laidM (t':=tk) I hk λp J=>?_,rfl,`aJP];rcases `bm J with rfl|J
   ·refine#[ht,_,`q #[rfl,?_,`pN,c,l00 as,gt]]
    rw[`K,hl];lia
   ·skip;apply `aJQ
    apply `aJR;have hz:=Ct0.mp e2;apply `aJS;apply `aJT;have eu:u'=u:=by
     apply `aJU
     rw[f1] at this;exact`NN
    have ew:w'=w:=by
     apply `aJV
     rw[f2] at this;exact`NN
    subst eu;subst ew;done;exact#[`aJW,_,`p #[e3,`vM,[u',w'],`aJX,`aJY]]
def cp0:`Q
 | `aHi=>`c (`o `aHj)
 | _=>`e
section
variable{f:`M}{p:Pos}
open T in
theorem Te0(hm1:`ac5)(hm2:`cc `g7=`e)(hv1:`ac4)(hv2:`aOQ)(ha:PDA X `sY gA)(hc:`hR)(hg1:`ac6)(hg2:`v (Gl X `g7) Aa)
  (e1:`v (`c7 [`ae_] `A=(`r,`bg (`ae_) `A)::`hd) Aa) (h1:`i9)
  (he:`v (`anA=`o1::`aOR) Aa) (hpl:`v ((`gj `mS (`aOR)).any `bV=`r) Aa) :
  PDF X (`a0 `an0 [`ae_] [] pos) (oA gA cp0):=.mk λB δ=>(ey0 (c70 hc) hg1 hg2 hm1 hm2 hv1 hv2 `bk `s `s `s `s e1 h1 he hpl).imp fun σ H Q hq182=>by
 let#[d,en,h,k]:=hq182
 apply `Cc;cases e3:`cH with
 | none=>rw[e3] at h;cases h
 | some ds =>
  rw[e3] at h;apply `d_;unfold cp0 at h;apply `NO
  rename_i as bs;refine#[_,en,e3,λvs H1 s1 r=>?_];rw[o9] at r;apply `aKh;rw[o9] at r;let#[y,t,rfl,r2,r]:=r;rw[m9] at r;subst r;rw[X4] at r1 r2;let#[q1,us,rfl,U,t1]:=r1;let#[q2,ws,rfl,M,t2]:=r2;refine#[q1,q2,us,ws,rfl,U.to,M.to,λL as' hl O hL hf fa=>?_];have J:(`aOS)=L::as':=`aJ2
  have hN:(`aOS).Nodup:=by rw[J];exact `tj #[hL,O]
  have fr:∀p∈(`HG),H1 p.1=`e:=λp hp=>by
   have:p.1∈L::as':=`aJ3
   rcases `bm `E with e|e
   ·rw[e];exact hf
   ·exact fa _ e
  have sm:`cG H1 (wz0 H1 (`HG)):=#[λb u e=>by
   apply `aJ4;exact e,`aJ5]
  have g:Gr H1 (wz0 H1 (`HG)) B (`aDy):=λb u n e=>#[λz=>`pC n (λz=>by rw[z,hf] at e;cases e),sm _ _ e]
  refine k L _ (`im hf) (`mG sm) #[`apc,`aJ6,?_];refine l20 (t1.mono g) (t2.mono g) hl λp hp=>#[`aJ7,`mK]
  have pin:p.1∈as':=by rw[← pd0 hl];exact P2 hp
  apply `CP
  ·exact en.bad _ z (`im (fa _ pin))
  ·exact hL (z▸pin)
universe zz
universe DL
namespace L2
open Spec PyProof.Rows
def Ji0(K:`B):`gS:=λx vs H Q=>∃(p:`g) (ys:`P) (z:Int) (j:Nat),`BF/\vs=`IQ/\SqL K H p (`OJ)/\`adC
theorem em0:∀{ys:`P} {us:`ah},`bE (`OJ) us->∀(m:Nat) (y:Int),`G9->∃t,us[m]?=`c (`f y t)
 | [],_,`L,m,y,h=>by cases h
 | `NU,_,`ka,0,y,h=>by
  cases h;let#[tk,rfl]:=r;exact`aKu
 | `NU,_,`ka,m+1,y,h=>by
  let#[tk,e]:=em0 t m y `hB;exact`aKv
theorem h00:∀ys:`P,(`OJ).all uh0=`d
 | []=>rfl
 | `Ci=>by
  rw[`_,`lV,h00 ys];rfl
def Nm0:MtR X `aKw (Ji0 X.K):=by
 apply `u!;skip;apply `adD;cases rx;apply `BK;apply `BG;apply `aKx;have Z:`adE:=`adF
 have a1:j<`e0:=`adG;have at_:∀m (hm:m<`g'),∃y t,`G9/\`aot=`f y t:=λm hm=>by
  apply `adH
  let#[t,e]:=em0 r m ys[m] (C2 J);apply `adI;apply `adJ;rw[`E] at e;have e':=`lJ
  simpa using e'
 apply `adK;obtain rfl:c0=`c5 := h2;apply `aKA;apply `adL;have M:∀(y:Int) (tk:Tok),`aOT=`d↔y=z:=λy tk=>by
  show (eqV `ae0 `jI)=`d↔_;simp[eqV]
 have Y:`b8<`NS:=by
  apply `aKD
  have h6:`S<`fq:=`an
  lia
 done;refine L3 (T := `d4) m4 `aKE `aKF `aKG (`aKH p `bt n `e sl (`f z t) (eqU `jI) j `pP Y ?_ ?_) #[h1,λy hy=>v80 (x:=`fW) `y0 rfl r (h00 ys) y `aov,`aow]
 ·apply `adM
  rw[e2,M];rw[hj] at e1;cases e1;rfl
 ·intro m hm U
  apply `adN;rw[e2];cases hb:`aOT with
  | false=>rfl
  | true=>apply `adO
universe L2
namespace DL
open Spec PyProof.Rows L2
def sh0:`l->`aP (`P)
 | []=>`pg
 | `ba::ds=>(`C?).map (i::·)
 | _=>`e
def Vp0:`rf
 | `cw,`IQ=>(`C?).bind `aKJ
 | _,_=>`e
section
variable{g:`bo}
open T in
def Rj0:∀{ds:`l} {ys:`P} {xs:`N},`C?=`c ys->`bb->xs=`OJ:=by
 intro ds
 induction ds with
 | nil =>
  apply `NV;rw[m9] at r;subst r;simp only[sh0] at h;cases h;rfl
 | cons d ds ih =>
  apply `NV;rw[o9] at r;apply `aKK;cases d<;>simp only[sh0] at h<;>try cases h
  rename_i s;cases e1:`C? with
  | none=>rw[e1] at h;cases h
  | some zs =>
   rw[e1] at h;cases h;rw[j7] at r1;subst r1;rw[ih e1 r2];rfl
open T in
theorem Oe0(ho:`MF)(ha:`vv)(hbase:`aKL)
  (hfew:`v ((`lZ
  &&`Cl)=`d) Aa)
  (hline:`fs) (hs:`eO) (hplain:`kt) :
  PD X `aKM (xj0 g gA Vp0):=.mk λB δ =>
 (sm0 L0 m4 `aKN Nm0 `MG `bk `ft `hM `fu hs `iY).imp fun σ H Q hq183=>by
  let#[d,en,h,k]:=hq183
  unfold xj0 at h;cases e1:`ax with
  | none=>rw[e1] at h;cases h
  | some x =>
   cases e2:`cH with
   | none=>apply `b?;cases h
   | some es =>
    apply `b?;apply `d_;unfold Vp0 at h;split at h
    ·rename_i ds z
     cases e3:`C? with
     | none=>rw[e3] at h;cases h
     | some ys =>
      apply `rj;cases e4:`adP with
      | none=>rw[e4] at h;cases h
      | some j =>
       rw[e4] at h;cases h;apply `MH;apply `oa;apply `aKO;obtain rfl:=Rj0 e3 rx;apply `aKP;rw[o9] at r2;apply `adQ;rw[m9] at r4;subst r4;rw[j7] at r3;subst r3;apply `adR;apply `aKQ
       ·rw[`NW,`NX h1]
       ·have J:`G':=`H
        rw[`hc J] at he;apply `adS
    ·cases h
universe zz
def atC(ys:`h):`x'
 | `ba=>`aOU `fZ
 | _=>`e
section
variable{a0 ix:`M}{gi gb:GE}{gA:GA}{posg p pg p5 rp:Pos}
def Rg0(ys:`h)(i:Int):`TB `sS i=`aOU `yu:=by
 unfold L2.atI;rw[`K];cases L2.ixN `e0 i with
 | none=>rfl
 | some j=>simp
open T in
theorem Kg0{ys:`h}(hK:`aKU)(hb:`c0)(hg:`gb)(hd:`aZ)(hs:`Ml) :
  PD X (`h6 `Ha b pos) (unG (atC ys) gb):=.mk λB δ=>by
 let#[p,o,its,n,hm,hk,hc,O,J,M,hv]:=hK;refine (Wt0 Zc0 `aKW `fw hs).imp fun σ H Q hq184=>?_;let#[d,en,h,k]:=hq184
 unfold unG at h;cases e2:`dO with
 | none=>rw[e2] at h;cases h
 | some dk =>
  apply `rk;unfold atC at h;split at h
  ·rename_i i
   cases e3:`apd with
   | none=>rw[e3] at h;cases h
   | some y =>
    rw[e3] at h;cases h;refine#[_,en,e2,`Gr];rw[j7] at r1;subst r1;exact#[p,`Gj,i,`mV,rfl,rfl,`q #[o,its,n,hk,hc,J,M,hv],by rw[Rg0,e3];rfl,k _ H1 s1 `F8]
  ·cases h
universe zz
def zn0{α:Type}(xs:`aN)(lo hi st:`bl):`aN:=(`ae1 (`ae2).1 (`ae2).2.1 (`ae2).2.2).filterMap `ape
theorem ac0(r:`bb):∀l:`i,Rps K H B (`HH (ds[·]?)) (`ae3)
 | []=>by rw[`aOV,`aOV,m9]
 | i::l=>by
  have ih:=ac0 r l;cases e:ds[i]? with
  | none =>
   have e2:`Uj:=k6.mpr (by rw[`cf];exact k6.mp e);rw[`OK e,`OK e2];exact ih
  | some d =>
   let#[x,ex,rx]:=`sq e;rw[`Da e,`Da ex,o9];exact#[_,_,rfl,rx,ih]
theorem di0(r:`dd):∀l:`i,`bE (`ae3) (`HH (us[·]?))
 | []=>`L
 | i::l=>by
  have ih:=di0 r l;cases e:`Rz with
  | none =>
   rw[`OK e,`OK (r.none_of e)];exact ih
  | some d =>
   let#[u,eu,ru]:=`sq e;rw[`Da e,`Da eu];exact `ai ru ih
section
variable{lo hi st:`oH}{tl th ts:TO}
def I80(K:`B)(te:TE)(tl th ts:TO):TE:=fun σ H Q=>te σ H λx H1=>tl σ H1 λl H2=>th σ H2 λu H3=>ts σ H3 λc H4=>∃a xs,`de/\SqL K H4 a xs/\c≠`c 0/\∀p,H4 p=`e->Q `dr (upd H4 p (`aOW))
def Or0(he:`f8)(hl:`ayE)(hu:`ayF)(hst:PO X st ts)(hsub:`aOX):PE X `aOY (I80 X.K te tl th ts):=by
 apply `bB;refine `Lt (thn `iS λv s1 hq185=>?_);let#[x,H1,I1,r1,q1]:=hq185;refine `ayH (thn `ayI λvl s2 hq186=>?_);let#[l,H2,I2,pl,q2]:=hq186;refine thn `ayJ λvu s3 hq187=>?_;let#[u,H3,I3,pu,q3]:=hq187;refine thn (hst `k s3 σ H3 _ I3 q3) λvc s4 hq188=>?_;skip;let#[c,H4,I4,pc,a,xs,ex,hx,hc,q]:=hq188;subst ex;cases r1;have I5:Inv X `k σ H4 `aOZ:=I4.kept (t':=s4.toks) `Sv
 let#[its,r,ht,hz]:=I5.list hx;have M:=`cf;have hg:`u `aq X.A (`mu `d7 (`aO_)) `e3 `aL `aOZ:=by
  refine Bm0 ht.isList `ayK pl pu pc hc ?_ `_N;refine#[`C _,_,I5.laid (t':=s4.toks) (o:=`aOW) `Lw `bi ?_,rfl,q _ (I5.hok.fresh `bi)];have hp:slicePick `bt l u c=(`OL).toArray:=by
   unfold slicePick zn0;simp
  have O:(`OL).length<=`o5:=by
   have:=slicePick_size_le `bt l u c;rw[hp] at this
   apply `Aw
  have J:`bE `Vo (`OL):=by
   unfold zn0;rw[M];exact di0 r _
  exact#[by rw[`asq];lia,`OL,0,J,by rw[hp];exact `fz]
 done;exact `_x (ops:=[`ce,`aO_]) `azl `_M hg (hsub _ _)
def cu0(g:GE)(gl gh gs:`vi):GE:=fun δ=>`cR λd=>`aEH λlo=>`aEI λhi=>(gs δ).bind λc=>match d with
 | `cV=>if c≠`c 0 then `c (`o (zn0 xs lo hi c)) else `e
 | _=>`e
open T in
theorem Xq0{g:GE}{gl gh gs:`vi}(he:`cB)(hl:`aG5)(hh:`aG6)(hs:PDO X st gs)(hsub:`aOX) :
  PD X `aOY (cu0 g gl gh gs):=.mk λB δ=>(Or0 `Nc (hl B δ) (hh B δ) (hs B δ) hsub).imp fun σ H Q hq189=>by
 let#[d,en,h,k]:=hq189
 unfold cu0 at h;cases e1:`ax with
 | none=>rw[e1] at h;cases h
 | some x =>
  apply `l4;cases e2:`Gx with
  | none=>rw[e2] at h;cases h
  | some l =>
   apply `rk;cases e3:`Gy with
   | none=>rw[e3] at h;cases h
   | some u =>
    apply `rj;cases e4:gs δ with
    | none=>rw[e4] at h;cases h
    | some c =>
     rw[e4,`n] at h;split at h
     ·rename_i xs
      split at h
      ·rename_i hc
       cases h;refine#[_,en,e1,λv H1 s1 r1=>#[l,`fR,`aG7,λH2 s2=>#[u,`aN!,`aG8,λH3 s3=>#[c,`fQ `NR,(by first|exact e4|rfl),λH4 s4=>?_]]]];have r4:=((`pr).same s3).same s4;rw[X4] at r4;let#[a,ys,rfl,hq,rr]:=r4;have J:=(`yX).trans s4;refine#[a,ys,rfl,`le,hc,λp hp=>k _ _ (J.trans `fS) ?_];rw[X4];refine#[p,_,rfl,`p #[(`fQ J).free hp,`aa?],?_];have:Rps X.K H4 B `Vo (zn0 ys l u c):=by
        unfold zn0;rw[`Gn];exact ac0 rr _
       exact this.same `fS
      ·cases h
     ·cases h
universe zz
universe DL
namespace L2
open Spec PyProof.Rows
theorem Zo0{t:V70}(h:Zl0 X t):Zl0 X (λo i v H Q=>t o i v H λH'=>∃a sub,`UO/\Q `UP):=λpins s σ H o i v ov iv u Q I ro ri rv q =>
 thn (h `k s σ H o i v ov iv u _ I ro ri rv q) λ_ s' #[H',I',a,sub,c,k]=>#[_,`aec c,k]
universe L2
namespace DL
open Spec PyProof.Rows L2
def k20(i:Nat)(go gk:GE):`aT:=λv δ=>`l5 λd=>`vO λdk=>`dK λns=>`vV λk=>match `hl,dk with
 | `hT,`fW=>(`aO0).bind λj=>if `aO1 then `c (`db i k (`o (es.set j v)) δ) else `e
 | _,_=>`e
open T in
theorem U90(ho:`rr)(h:PD X e gk)
  (ha:`v (∀v,`g6 (`h6 o e pos) `A v=(do
   let ov ← `avL
   let iv ← `adb
   `KR
   `KS
   `KT)) Ac):PTG X (`h6 o e pos) (k20 i go gk):=.mk λH₀ B₀ d δ pins s σ H v u Q I r hq190=>by
 let#[δ',en,e1,k]:=hq190
 unfold k20 at e1;apply `M';cases e2:`jE with
 | none=>apply `U;cases e1
 | some dx =>
 apply `cp;cases e3:`tb with
 | none=>apply `bH;cases e1
 | some dk =>
 apply `ja;cases e5:`cL with
 | none=>rw[e5] at e1;cases e1
 | some ns =>
 apply `Og;cases e6:wt0 dx with
 | none=>rw[e6] at e1;cases e1
 | some kk =>
 apply `CZ;split at e1
 rotate_left
 ·cases e1
 rename_i es z hnode;cases e4:`aO0 with
 | none=>apply `gW;cases e1
 | some j =>
 rw[e4,`n] at e1;split at e1
 rotate_left
 ·cases e1
 rename_i hz;cases e1;apply `Oh;refine b60 `UV (W9 (`te B δ)) (Zo0 set_list) ha `k s σ H v u Q I r #[dx,a,ns,as,sos,env,e2,at',λv1 H1 s1 r1=>#[`fW,`jx,e3,`sN]];have M:=`k6;have J:=`mX M;let#[c,so,rfl,f1,f2,f4]:=`UW `yN e6 hnode;apply `i?;rw[j7] at r2;subst r2;refine#[a,`a2,`jD,c,xs,z,j,rfl,rfl,`ti,by rw[← `CY];exact e4,?_];have U:RpN X.K H2 B as d v:=p30 hz (`lb M);have nk:`e8 X.K H2 B as (`o (es.set j d)) `al!:=#[_,rfl,`oh (`n6 U j `y?)];let#[O,q1,q2]:=en.s.setN b1 b2 env M at' f1 f2 nk `C0 (d:=`x) (v:=`x) `il;exact#[a,O,q1,`aMG]
universe DL
namespace L2
open Spec PyProof.Rows
theorem We0{t:TT}(h:`Zb):PT X e (fun σ H Q=>t σ H λk H'=>∃a sub,`UO/\Q k `UP):=λpins s σ H Q I q =>
 thn `N? λk s' #[H',I',a,sub,c,z]=>#[_,`aec c,z]
universe L2
namespace DL
open Spec PyProof.Rows L2
def inN(i:Nat)(ge go:GE):GE:=fun δ=>(ge δ).bind λx=>`l5 λd=>`dK λns=>match `oi with
 | `hT=>if `C5/\`TD then xg0 `r x `y' else `e
 | _=>`e
section
variable{p:Pos}{ge:GE}
def Jz0{g:GE}{δ:Ds}{t:`aa}(h:ob g δ=`c t):`ax=`c (.bl t):=by
 unfold ob at h;cases e:`ax with
 | none=>rw[e] at h;cases h
 | some d =>
  rw[e] at h;cases d<;>first|(cases h;rfl)|cases h
open T in
theorem Ou0(he:PD X e ge)(ho:`rr)(hm:`v (`xq .In o=`r) Ah):PTD X (`xs e [.In] [o] pos) (ob (inN i ge go)):=.mk λB δ =>
 (We0 (k60 dl0 `Nc `C_ hm)).imp fun σ H Q hq191=>by
  let#[r,en,h,k]:=hq191
  have h:=Jz0 h;unfold inN at h;cases e0:ge δ with
  | none=>rw[e0] at h;cases h
  | some x =>
  rw[e0,`n] at h;cases e1:`jE with
  | none=>rw[e1] at h;cases h
  | some d =>
  apply `l4;cases e3:`cL with
  | none=>rw[e3] at h;cases h
  | some ns =>
  apply `rj;split at h
  rotate_left
  ·cases h
  rename_i ls hn;split at h
  rotate_left
  ·cases h
  rename_i hfl;refine#[x,en,e0,λv0 H0 s0 r0=>?_];have M:=`fQ s0;let#[a,as,sos,at']:=M.atN e3;refine#[d,a,ns,as,sos,M,e1,at',`y!];apply `hU;apply `aek;apply `i?;refine`aMJ;refine mo0 `r (`Hz) `lj v0 (`qQ) x (`o ls) (.bl r) _ (`aet) (vy0 hfl.2 r0) ?_ h `NQ
  ·rw[X4]
   apply `aMK
  ·let#[c1,c2]:=`C6 s3
   rw[Y7] at r3;exact#[r,r3,a,`a2,c1,k _ ((s0.trans s1).trans c2)]
universe zz
abbrev GQ':=Ds->`aP (`af (D×`du))
def Lb0:GQ':=`aaw
def im0(gk:GE)(gP:GQ'):GQ':=fun δ=>`vO λk=>`aN4 λps=>(k,`e)::ps
inductive RQ (K:`B) (H:Hp) (B:BS):`v0->`N->`aM->Prop
 | nil:RQ K H B [] [] []
 | dat {d:D} {q:`v0} {v:V} {vs:`N} {ls:`aM}:`ck->`v1->RQ K H B (`ae4) (`Cy) ls
 | new {l:`g} {q:`v0} {vs:`N} {ls:`aM}:H l=`Or->`v1->RQ K H B (`OM) (`mz::vs) (l::ls)
def RQ.mono(l:`q4)(h:`v1):RQ K H B' q vs ls:=by
 induction h with
 | nil=>exact `L
 | dat r _ ih=>exact .dat (`aaQ) ih
 | new e _ ih=>exact `qy e ih
def RQ.at(h:`v1):∀l∈ls,H l=`Or:=by
 induction h with
 | nil=>intro l hl;cases hl
 | dat _ _ ih=>exact ih
 | new e _ ih =>
  intro l hl;rcases `bm hl with rfl|hl
  ·exact e
  ·exact ih l hl
def dsQ:Nat->`v0->`l
 | _,[]=>[]
 | n,`ae4=>d::dsQ n q
 | n,`OM=>T8 n::dsQ `fi q
def nrQ:`v0->`aa
 | []=>`d
 | `ae4=>nrf d&&nrQ q
 | `OM=>nrQ q
def noQ:`v0->Nat
 | []=>0
 | `qS::q=>noQ q
 | `OM=>noQ q+1
def RQ.no(h:`v1):noQ q=`ae5:=by
 induction h with
 | nil=>rfl
 | dat _ _ ih=>exact ih
 | new _ _ ih=>show noQ _+1=_;rw[ih];rfl
def RQ.rpns(h:`v1)(g:`dZ)(as:`aM):∀pre:`aM,as=pre++ls->nrQ q=`d->`gt K H' B' as (`aO2) vs:=by
 induction h with
 | nil=>intro pre _ _;show `gt K H' B' as [] [];rw[zv0]
 | @dat d q v vs ls r _ ih =>
  intro pre e n;unfold nrQ at n;rw[`bz] at n;show `gt K H' B' as (d::`aO2) _;rw[O6];exact#[_,_,rfl,p30 n.1 (`mL),ih pre e n.2]
 | @new l q vs ls r _ ih =>
  intro pre e n;show `gt K H' B' as (T8 `dT::dsQ (`dT+1) q) _;rw[O6];refine#[_,_,rfl,?_,?_]
  ·unfold T8
   rw[yw0];refine `p #[_,l,xi0 _,?_,rfl];rw[e,`kz,`gX];rfl
  ·have:=ih (pre++[l]) (by rw[e,`aV];rfl) n
   rw[`O] at this;exact `E
structure PDQ(X:Cx)(pos:Pos)(keys:`AU)(vals:`bn)(gP:GQ'):Prop where
 mk::go:∀δ,∃trs,`aN5/\∀B σ H Q,(∃ps,`Gm/\`aN6/\∀vs H' ls,`a3->(∀l∈ls,`Fq)->ls.Nodup->Rps X.K H' B `HC (`aeQ)->RQ X.K H' (λa=>B a∨a∈ls) `vZ `Vg ls->`KH)->`acb
section
variable{vals:`bn}{gv:GE}{gP:GQ'}
theorem O70:PDQ X pos [] [] Lb0:=.mk fun δ=>#[[],Xx0,λB σ H Q hq192=>by
 let#[ps,en,e,k]:=hq192
 cases e;exact k [] H [] `c' (λl z=>nomatch z) `L (`aeR) `L]
theorem e80(hk:`aew)(hr:PDQ X pos `he `jH gP):PDQ X pos (`c ke::`he) (.List [] lpos::`jH) (im0 gk gP):=.mk fun δ=>by
 apply `aN8;refine #[_,Z90 (tk:=`aN9) `aN' (gl0 y20) h1,λB σ H Q hq193=>?_];skip;let#[ps,en,e,k]:=hq193;unfold im0 at e;cases e1:`tb with
 | none=>rw[e1] at e;cases e
 | some a =>
 apply `Oy;cases e3:`pV with
 | none=>rw[e3] at e;cases e
 | some qs =>
 rw[e3] at e;cases e;done;refine#[B,a,en,e1,λv1 H1 s1 r1=>#[by show 0<=`S;exact `cu,`aNJ]];have s2:`cG H1 (upd H1 l `ex):=X6 hl;have O:=`fR;refine h2 (λa=>B a∨a=l) _ _ _ #[qs,O.freshS hl s2 (.of j5 `aaW λ_ z=>nomatch z),e3,λvs H3 ls s3 fr nd rk rq=>?_];have J:∀c∈ls,c≠l:=λc hc z=>by
  have:=fr c hc;rw[z,j5] at this;cases `E
 have M:∀c∈ls,H1 c=`e:=λc hc=>by
  have:=fr c hc
  rwa [d7 (J c hc)] at this
 refine k _ H3 (l::ls) `NR (`ON) (`tj #[λz=>J l z rfl,nd]) ?_ ?_
 ·apply `aO3
  ·exact `im hl
  ·exact `im (M c hc)
 ·rw[`_,`_,o9]
  exact#[v1,_,rfl,`aN?,rk.mono (`ie `Ty)]
 ·rw[`_,`_]
  refine `qy (s3 _ _ j5) (rq.mono λc z=>?_);apply `CP
  ·exact `p (`e9)
  ·apply `ae6
   ·exact `p (`tg)
   ·exact `tg
universe zz
def Qi0(i:Nat)(gP:GQ'):GS:=fun δ=>`aOa λps=>`aOb λks=>if (`aOc)/\nrQ `vZ=`d then `c (.nx (`bj i (.ow (`w (`m5::`cj `yh (dsQ 1 `vZ)::`a1 (noQ `vZ) `ex))))) else `e
theorem Z10:∀n:Nat,`bx (`e8 K H B as) `aO4 `aO4
 | 0=>`L
 | n+1=>`ai `aNe (Z10 n)
section
variable{dpos:Pos}{vals:`bn}{gP:GQ'}
theorem Ro0(i:Nat)(nd:`eK)(h:PDQ X dpos `he `jH gP)(hi:`vr)(hy:`ks)
  (hall:`aOd) (hl:`aOe) (h0:`aOf) (h15:`aOg)
  (hsw:`v (`g4 `aO5 `sz `h4 `A=`g5) Aa)
  (hf:`i_) :
  PSD X (`h8 `k0 `aO5 pos) (Qi0 i gP):=.mk λH₀ B₀ δ pins s σ H De I hq194=>by
 skip;let#[r,en,e1,kk]:=hq194
 unfold Qi0 at e1;apply `a_;cases e2:`pV with
 | none=>apply `U;cases e1
 | some ps =>
 apply `cp;cases e3:`Vh with
 | none=>apply `bH;cases e1
 | some ks =>
 apply `ja;split at e1
 rotate_left
 ·cases e1
 rename_i hnd;cases e1;apply `aOh;done;refine gn0 nd hi hy (Q5 (X10 h1 hall hl h0 h15)) hsw hf `k s σ H De I λp hp=>h2 `k7 _ _ _ #[ps,env.fresh hp,e2,λvs H' ls s' fr b3 rk rq=>`aOi]
 ·exact jl0 `aO6
 ·rw[`pI]
  have:=hnd.1.2;lia
 have a1:`aOj:=by
  have:=C3 `tJ `aO6
  simpa using this.symm
 have hm:`aOk:=by
  rw[ms0 _ [] (by
   rw[`hF];have:`aOl:=D70 `j;rw[`E];exact hnd.1.1)]
  rfl
 rw[hm];obtain⟨xs,b4⟩:∃xs,xs=`aOm:=`ac;rw[← b4] at a1 rq ⊢;have a6:p∉ls:=λz=>by
  have:=fr p z;rw[j5] at this;cases `E
 have O:∀l∈ls,l≠p:=λl z q=>by rw[q] at z;exact a6 z
 have a4:(`m2).Nodup:=`tj #[a6,b3];have a2:∀l∈ls,`Fq:=λl z=>by
  have:=fr l z
  rwa [d7 (O l z)] at this
 obtain⟨Hl,U⟩:∃Hl,Hl=upd H' p (`sK):=`ac;obtain⟨sos,J⟩:∃sos:`vk,sos=`sK::`a1 `ae5 `ex:=`ac;have M:(`m2).length=`yj:=by rw[J,`Z,`Z,`qZ]
 have ins:`aaV:=λk C dx fs e=>by
  rw[J] at e;cases k with
  | zero=>rfl
  | succ k =>
   rw[`CU,`lT] at e;split at e<;>cases e
 have b0:∀(k:Nat) c so,(`m2)[k]?=`d6->`li->Hl c=`y6:=λk c so f1 f2=>by
  rw[J] at f2;cases k with
  | zero=>cases f1;cases f2;rw[U,j5];rfl
  | succ k =>
   rw[`CU] at f1;rw[`CU,`lT] at f2;split at f2
   ·cases f2
    have hc:=C5 f1;rw[U,d7 (O c hc)];exact rq.at c hc
   ·cases f2
 have cl:`hj Hl p `ae7:=se0 rfl a4 M b0 ins;rw[← U];refine#[p,_,cl,`aez];obtain⟨Hc,Z⟩:∃Hc,Hc=`fT Hl p `ae7:=`ac;have a5:Hc p=`c (`k2 `ae7):=by rw[Z];apply `fV;rw[`bA]
 have a7:∀l∈ls,Hc l=`c (`fA p):=λl hl=>by
  let#[so,q]:=wr0 M (A6 p hl) a4;rw[Z];apply `fV;rw[`ap (O l hl),q]
 have Y:∀b,`ae8->`yE:=λb z q=>z (by rw[q];exact A7)
 have a3:∀b,`ae8->Hc b=`g1:=λb hb=>by
  rw[Z];apply `fV;rw[`ap `ae9,`Ou,U,d7 `ae9]
 have a8:∀b o,`SN->`ae8:=λb o z q=>by
  rcases `bm q with q|q
  ·rw[q,hp] at z;cases z
  ·rw[a2 b q] at z;cases z
 have sm:`cG H Hc:=#[λb o z=>by
  rw[a3 b `aO7];exact s' b o (by rw[d7 (Y b `aO7)];exact z),λb o ys z=>by
  by_cases hb:b∈`m2
  ·rcases `bm hb with q|q
   ·rw[q,a5] at z;cases z
   ·rw[a7 b q] at z;cases z
  ·rw[a3 b hb] at z
   have:=s'.nf b o ys z
   rwa [d7 `ae9] at this]
 rw[← Z];refine en.takeL b1 b2 env i hp sm (`q (`q #[_,_,rfl,`m2,sos,rfl,a4,a5,`gN,M,?_,ins]))
 ·rcases `bm hb with q|q
  ·exact `kf
  ·exact `q #[λz=>`pC (λz=>`C7 _ z (a2 b q)) (O b q),a7 b q]
 ·have g:Gr H' Hc (λa=>(`am?)∨a∈ls) `k7:=λb o n z=>#[λq=>n (`kf),by
   rw[a3 b (λq=>by
    rcases `bm q with q|q
    ·exact n (`p `ae')
    ·exact n `ae')]
   exact z]
  rw[J];refine `ai #[xs,rfl,a1,rq.rpns g (`m2) [p] rfl hnd.2] ?_;rw[rq.no];exact Z10 `ae5
universe zz
universe DL
namespace DL
open Spec PyProof.Rows L2
section
variable{as bs:`eh}{s1 s2 s3:`bq}{G1 G2:GS}
theorem kw0{P:`aw}{w:`X}{k:Nat}{ps:`h}:`T P w K mg `m CX0 k fa fd ps (spB K j `ae!) :=
 #[λvs H Q E #[_,_,_,_,_,_,_,_,_,_,_,_,_,h,_]=>`aO8,λA outer s H J us vs Q E _ _ _ _ #[_,_,_,_,_,_,_,_,_,_,_,_,_,h,_]=>`aO8]
universe zz
universe DL
namespace DL
open Spec PyProof.Rows L2
def i10(gt:GTX)(Ga Gb:GS):GS:=`aOq
def rg0(gx:GX)(gb:GE)(f:`a5):GX:=fun δ=>`Cn λr=>(gb r.2).bind λy=>(f r.1 y).map `aeN
section
variable{a:`M}{rest:`bn}{as bs:`eh}{gt:GTX}{ga gb:GX}{g:GE}{Ga Gb:GS}
theorem Yu0(hc:`aOr)(ha:`aCG)(hb:`aCH):PSD X `Mr (i10 gt Ga Gb):=.mk λH₀ B₀ δ pins s σ H D I hq195=>by
 let#[r,en,e1,k]:=hq195
 unfold i10 at e1;cases e2:`d! with
 | none=>apply `U;cases e1
 | some q =>
  apply `cp;apply `aOs;cases hq:q.1 with
  | true=>apply `OD;apply `v_
  | false=>apply `OE;apply `v_
theorem Oz0{op:`gO}{rr:R2}{f:`a5}(ho:`aeT)(hf:`OF)(ha:PX X a gx)(hb:PD X b g)(hm:`Ca):PX X `lM (rg0 gx g f):=.mk λH₀ B₀ δ pins s σ H Q I hq196=>by
 skip;let#[r,en,e1,k]:=hq196
 unfold rg0 at e1;cases e2:`dw with
 | none=>apply `U;cases e1
 | some q =>
 apply `cp;cases e3:g q.2 with
 | none=>apply `bH;cases e1
 | some y =>
 apply `ja;cases e4:f q.1 y with
 | none=>apply `gW;cases e1
 | some d =>
 apply `gW;cases e1;done;refine Xt0 ho `vQ `aO9 hm `k s σ H Q I `aO'
 ·let#[B,env,kk]:=h
  apply `aO!
 ·apply `rs
  apply `aO?;exact hf H2 B v u q.1 y d _ `aPa (`lb s2) ru e4 λw H3 s3 J=>k w H3 (`hf `aPb c1 c2 (`ih `zd) J)
open T in
theorem ju0{op:`gO}{rr:R2}{f:`a5}(ho:`aeT)(hf:`OF)(ha:PX X a gx)(hb:PD X b g)(hm:`Ca):PTX X `lM (R6 (rg0 gx g f)):=.mk λH₀ B₀ δ pins s σ H Q I hq197=>by
 let#[r,en,e1,k]:=hq197
 unfold R6 rg0 at e1;cases e2:`dw with
 | none=>apply `U;cases e1
 | some q =>
 apply `cp;cases e3:g q.2 with
 | none=>apply `bH;cases e1
 | some y =>
 apply `ja;cases e4:f q.1 y with
 | none=>apply `gW;cases e1
 | some d =>
 rw[e4,`gx,`n] at e1;split at e1
 rotate_left
 ·cases e1
 rename_i t hd;have hd:d=.bl t:=hd;subst hd;cases e1;refine k60 ho `vQ `aO9 hm `k s σ H Q I `aO'
 ·let#[B,env,kk]:=h
  apply `aO!
 ·apply `rs
  apply `aO?;refine hf H2 B v u q.1 y _ _ `aPa (`lb s2) ru e4 λw H3 s3 J=>?_
  rw[Y7] at J;exact#[t,J,k H3 `aPb]
universe zz
section
variable{a:`M}{ga:GE}
theorem L80{op:`Bo}{rr:R2}{f:`a5}(ho:OpR X (`jn op) rr)(hf:`OF)(ha:`ca)(hb:`aeU):PX X `ZT (ta0 ga gx f):=.mk λH₀ B₀ δ pins s σ H Q I hq198=>by
 skip;let#[r,en,e1,k]:=hq198
 apply `a_;unfold ta0 at e1;cases e2:`cv with
 | none=>apply `U;cases e1
 | some da =>
 apply `cp
 by_cases hfl:`aeS
 rotate_left
 ·rw[`aeV] at e1;cases e1
 rw[`aeW] at e1;cases e3:`dw with
 | none=>apply `bH;cases e1
 | some q =>
 apply `ja;cases e4:f da q.1 with
 | none=>apply `gW;cases e1
 | some d =>
 apply `gW;cases e1;done;refine W50 ho `rn `ad4 `k s σ H Q I `aOt;apply `ad8;exact hf H2 B' x y da q.1 _ _ J.bad (vy0 hfl r1) rv e4 λv H3 s3 r3=>k v H3 (`hf (`Vp s3) c1 c2 (J.same s3) r3)
theorem Xz0(ha:`ca)(hb:`aeU):PX X `acS (ta0 ga gx m7):=L80 `aG3 bv0 ha hb
universe zz
def flS:Sl->Sl
 | `et=>if `ku then `et else .un
 | _=>.un
theorem Tp0(e:D):flS (.sh e)=if `Nt then .sh e else .un:=rfl
theorem L10{s:Sl}{d:D}:flS s≠`sU:=λh=>by
 cases s with
 | sh e =>
  rw[Tp0] at h
  by_cases q:`Nt
  ·rw[`qY] at h;cases h
  ·rw[`nY] at h;cases h
 | un=>cases h
 | ow e=>cases h
 | ex c n=>cases h
def Od0{o:`dm}{s:Sl}(h:`aa3):SlR K H' B' o (flS s):=by
 cases s with
 | sh e =>
  rw[Tp0]
  by_cases q:`Nt
  ·rw[`qY]
   let#[v,e1,r]:=h;exact#[v,e1,vy0 q r]
  ·rw[`nY];trivial
 | un=>trivial
 | ow e=>trivial
 | ex c n=>trivial
def Env.flats{σ:St}{δ:Ds}(h:`be):Env K H' `lj σ (`HI):=by
 refine`aNu
 ·have:∀{σ:St} {δ:Ds},`aa2->`bx (SlR K H' `lj) σ (`HI):=by
   intro σ δ h
   induction h with
   | nil=>exact `L
   | cons r t ih=>exact `ai (Od0 r) ih
  exact `E `B4
 ·rw[`bN] at h1
  cases e:`cl with
  | none=>rw[e] at h1;cases h1
  | some s=>rw[e] at h1;exact `I (`s0) L10
def sj0(i:Nat)(go:GE)(n:Nat)(caps:`i)(f:`aT)(gt:GB)(ge:GE):GE:=fun δ=>`l5 λd=>`dK λns=>match `oi with
 | `aNA=>if `aPc then (`aPd).bind λr=>match r with
  | `Oz=>`c (`f `Ga)
  | _=>`e else `e
 | _=>`e
section
variable{p:Pos}
open T in
theorem Zz0{sc scope:`cz}{elt iter:`M}{ifs:`bn}{N N':`h}{n:Nat}{caps:`i}{idx:`i}{f:`aT}{gt:GB}{ge:GE}
  (hm:`abL) (ok:`ob) (hidx:∀j∈idx,j<n) (hi:`aND)
  (hg:`hQ) (ht:`q8) (he:`n')
  (hc:`hR) (hsc:`q?) (hN:`ra) (hs:`ei) (hgl:`abM)
  (hst:`v (`c7 [`ae?] `A=(`r,`bg (`ae?) `A)::`hd) Aa) (hpl:`i9) :
  PD X (`a0 `anp [`ae?] [] pos) (sj0 i go n `bZ f gt ge):=.mk λB δ pins s σ H Q I hq199=>by
 let#[r,env,e1,kk]:=hq199
 unfold sj0 at e1;cases q1:`jE with
 | none=>rw[q1] at e1;cases e1
 | some d =>
 rw[q1,`n] at e1;cases q2:`cL with
 | none=>rw[q2] at e1;cases e1
 | some ns =>
 rw[q2,`n] at e1;split at e1
 rotate_left
 ·cases e1
 rename_i ps hn
 by_cases hfl:`aPc
 rotate_left
 ·rw[`aeV] at e1;cases e1
 rw[`aeW] at e1;cases q5:`aPd with
 | none=>rw[q5] at e1;cases e1
 | some rr =>
 rw[q5,`n] at e1;split at e1
 rotate_left
 ·cases e1
 rename_i rs;cases e1;apply `aeE;refine Q5 (nn0 qf0 hgl hm P1 (N7 (k80 hc hsc `rb `aNE (g:=`pt) (tt:=`Mw) (te:=`Mx)
  `vq
  `abx
  `My hs) y20 hst) `s `s hst hpl) `k s σ H Q I `aeF
 apply `hU;apply `aek;apply `i?;apply `aNF;apply `aNG;have M:=ph0 (K:=X.K) (B:=`y3) (δ:=`HI) (σ:=σ) (H:=`Hz) (n:=n) (caps:=`bZ) (gi:=`api) (idx:=idx) (f:=f) (gt:=gt) (ge:=ge) `fx
  (Q:=λv H'=>Wp0 σ H' λxs H2=>`azp (v::xs) H2 `aeb) #[`Oz,env.flats,q5,`aeG]
 ·let#[O,_,e',fk]:=M
  cases e';exact fk `aNH _ `sP (Zn0 sq (xb0 hfl (ty0 (vz0 hfl) rx)))
 ·let#[zs,o1,rz]:=ro
  refine#[p,zs,rfl,`p (`aNI),?_];let#[c1,c2]:=`C6 s2;exact#[a,`a2,c1,kk _ _ (`aeH) (by rw[j7,`acz])]
universe zz
universe DL
namespace Bt
open DL W
section
def z30:GS:=(v9 (ifD `aPe
 (v9 `aPf
 t6)
 t6)
 (v9 `OO
 t6))
def xy0:`h:=`ux
def S7:`Q:=`aPg
def vt0:GS:=(v9 (d8 `bL (gc (`t `aPh)))
 (v9 (d8 `fb `rt)
 (v9 (td0 (ue0 (z7 `m8 v5)) `fY
 (v9 `aPi
 t6))
 (v9 (d8 `tt (o2 `OP `Vt m8))
 (v9 (zj0 6 `m!)
 (v9 (td0 (ue0 `dU) (gN 7)
 (v9 `aPj
 (v9 `aPk
 (v9 (ifD `OQ
 (v9 `aPl
 t6)
 (v9 (ifD `afa
 (v9 `aPm
 t6)
 (v9 `aPn
 t6))
 t6))
 t6))))
 (v9 (n90 6)
 t6)))))))
def qy0:`h:=[`nF, `X9, `aPo, `aPp, `afb, `aPq, `aPr, `m4, `aPs]
def yi0:`Q:=mkN 2 qy0 vt0
def wn0:GS:=(v9 (ifD `aPt
 (v9 (V2 (o2 (o2 (o2 `ag (o2 (o2 `c? `aPu W5) `aD K7) m8) `aPu K7) `aD m7))
 t6)
 t6)
 (v9 (ifD `OQ
 (v9 (V2 (o2 (o2 `OP (gc (`f 300)) m8) (gc (`f 150)) K7))
 t6)
 t6)
 (v9 (ifD `afa
 (v9 (V2 (o2 (o2 `OP (gc (`f 40001)) m8) (gc (`f 20000)) K7))
 t6)
 t6)
 (v9 (V2 (o2 (o2 (o2 `OP (o2 (o2 `c? `aPv W5) `aD K7) m8) `aPv K7) `aD m7))
 t6))))
def ri0:`h:=`Db
def zx0:`Q:=mkF 2 ri0 wn0
def ua0:GSB:=(p7 (n6 (d8 `tr (dgO 0 `ln)))
 (p7 (n6 (N6 (Y4 `VA) (putL 0 `ln)))
 (p7 (n6 (d8 `bL (dgO 0 `apK)))
 (p7 (ifB `aPw
 (p7 `aPx
 `D)
 `D)
 (p7 `aPy
 `D)))))
def pp0:`h:=`aPz
def S9:`al:=mkB 1 pp0 0 ua0
def vc0:GSB:=(p7 `afc
 (p7 (ifB `aPA
 (p7 (V6 (Y4 `lo))
 `D)
 `D)
 (p7 (ifB (ob (o2 `HO `eA ltD))
 (p7 (V6 (Y4 (oA (z7 (o2 `ab `m8 j9) (z7 `apz v5)) zx0)))
 `D)
 `D)
 (p7 (V6 (Y4 (zw0 (z7 `ln (z7 (o2 (o2 `ab `m8 j9) (dgO 0 `VB) m8) v5)))))
 `D))))
def t70:`h:=`aPB
def Q8:`al:=mkB 1 t70 0 vc0
def ub0:GSB:=(p7 (n6 (d8 `bL (gc (`t `afd))))
 (p7 (n6 (N6 `apu `fb))
 (p7 (V6 (Y4 (nq0 `rt (z7 (T4 1 [2,3] (ue0 `dU) `a8 noT (o2 `ab (o2 (o2 `aPC (o2 `ag `ag W5) m7) (`aPD) m8) ixD)) v5))))
 `D)))
def sk0:`h:=[`ez, `uA, `aPo, `m6]
def ya0:`al:=mkB 2 sk0 0 ub0
def wq0:GSB:=(p7 `afc
 (p7 `aPE
 (p7 (n6 (ifD `OR
 (v9 `OS
 t6)
 t6))
 (p7 (ifB `aPF
 (p7 (V6 (Ze0 `tv (S5 0 (z7 (o2 `zm (gc (`f 21)) m8) v5) ya0)))
 `D)
 `D)
 (p7 `aPG
 (p7 (ifB `afe
 (p7 (V6 (Y4 (zw0 (z7 `p_ (z7 (oA `m9 xk0) v5)))))
 `D)
 `D)
 (p7 `aPH
 (p7 `aPI
 (p7 `aPJ
 (p7 (ifB `aPK
 (p7 (V6 (Y4 (zw0 (z7 `HX `aPL))))
 `D)
 `D)
 (p7 (V6 (Y4 (zw0 (z7 `HR (z7 (o2 `ey (o2 (o2 `ab (gc (`f 300)) j9) `Vy m8) ixD) `aPL)))))
 `D)))))))))))
def xo0:`h:=[`ez, `m6, `uA, `OT, `Ya, `JY, `aPM]
def N5:`al:=mkB 1 xo0 0 wq0
def te0:GS:=(v9 (d8 `bL (oA `apW S7))
 (v9 (zj0 3 (hf0 `aPN))
 (v9 (N6 (Y4 (o2 `aD (o2 `ar `m8 m8) m7)) `aPO)
 (v9 (ifD (ob (dgO 3 `Vv))
 (v9 (N6 (Y4 (o2 `aD (o2 (o2 `ar `apo j9) `HN m8) m7)) `aPO)
 t6)
 t6)
 (v9 (N6 (Y4 (oA (z7 (o2 (o2 `ar (gc (`f 11)) j9) (o2 (o2 `HM (gc (`f 30)) m90) `app m7) m8) (z7 (o2 `aPP `aPQ ixD) v5)) yi0)) (`zr 3 `apF))
 (v9 (jq0 (bb0 xk0 (v10 1 [3] 3 1 (ue0 (z7 (dgO 3 `VB) v5)) `a8 `aff)))
 t6))))))
def rs0:`h:=`aPR
def xd0:`Q:=mkF 2 rs0 te0
universe zz
universe Bt
namespace Rk
open DL W
open Bt (z30 S7 vt0 yi0 ua0 S9 wn0 zx0 vc0 Q8 ub0 ya0 wq0 N5 te0 xd0)
section
def xy0:`h:=`ux
def qy0:`h:=[`nF, `X9, `X', `aPp, `afb, `aPq, `aPr, `m4, `aPs]
def pp0:`h:=`aPz
def ri0:`h:=`Db
def t70:`h:=`aPB
def rs0:`h:=`aPR
abbrev p6:`h:=[`zB, `iv, `tz, `jN, `ty, `lp, `ht, `m?]
def gc0:GS:=(v9 (ifD `tw
 (v9 (V2 (zw0 (z7 `ln (z7 (xj0 `ab `zu Vp0) v5))))
 t6)
 t6)
 (v9 (V2 `ag)
 t6))
def hh0:`h:=`v2
def t60:`Q:=mkF 2 hh0 gc0
def nw0:GS:=(v9 (ifD `ok
 (v9 `ol
 t6)
 t6)
 (v9 (ifD `Dc
 (v9 `OU
 t6)
 t6)
 (v9 (Q9 (T4 2 [] `ru `Vz noT `ab))
 t6)))
def rd0:`h:=`J1
def W8:`Q:=mkN 1 rd0 nw0
def p90:GS:=(v9 `v3
 (v9 (zj0 2 (V7 `zx))
 (v9 (U3 `aPS
 (v9 `aPT
 (v9 (ifD `aPU
 (v9 `aPV
 (v9 `aPW
 (v9 `aPX
 t6)))
 t6)
 t6)) 100000)
 (v9 `v4
 t6))))
def ti0:`h:=[`nI, `VC, "_law_waiting", `m7, "_law_ends"]
def xn0:`Q:=mkN 1 ti0 p90
def l70:GS:=(v9 (d8 `tr (oA `tn xn0))
 (v9 (zj0 2 `m!)
 (v9 (td0 (re0 `ab) `fb
 (v9 `aPY
 (v9 `aPZ
 (v9 (ifD `aP_
 (v9 `aP0
 t6)
 (v9 (ifD `aP1
 (v9 `aP2
 (v9 `aP3
 t6))
 t6)
 t6))
 (v9 `aP4
 t6)))))
 (v9 (V2 (ei0 (oA `dz xk0)))
 t6))))
def t40:`h:=[`nI, `VC, "_law_found", `m7, `VD, `OT, "_law_fields"]
def yo0:`Q:=mkF 1 t40 l70
def wb0:GS:=(v9 (ifD `ok
 (v9 `ol
 t6)
 t6)
 (v9 (ifD `Dc
 (v9 `OU
 t6)
 t6)
 (v9 `v3
 (v9 (ifD `afg
 (v9 `afh
 t6)
 t6)
 (v9 (td0 `ru `bL
 (v9 `OV
 t6))
 (v9 `v4
 t6))))))
def w80:`h:=`afi
def K6:`Q:=`afj
def n00:GS:=(v9 `aP5
 t6)
def tw0:`h:=`j9
def z60:`Q:=`aP6
def tx0:GS:=(v9 (ifD `afk
 (v9 `afl
 t6)
 t6)
 (v9 `afm
 t6))
def sa0:`h:=`gK
def v90:`Q:=`afn
def uw0:GS:=(v9 (ifD `aP7
 (v9 `OO
 t6)
 t6)
 (v9 (ifD `tw
 (v9 `aP8
 t6)
 t6)
 (v9 `aP9
 t6)))
def tm0:`h:=`j9
def zk0:`Q:=`aP'
def yc0:GS:=(v9 `afo
 (v9 `afp
 (v9 (U3 `OW
 (v9 `OX
 (v9 `OY
 t6)) 100000)
 (v9 `afq
 t6))))
def yd0:`h:=`afr
def V4:`Q:=`afs
def xz0:GS:=(v9 `aft
 t6)
def yl0:`h:=`ut
def Q6:`Q:=`afu
def tl0:GS:=(v9 (ifD `aP!
 (v9 `aP?
 t6)
 t6)
 (v9 `aQa
 t6))
def t20:`h:=`Dd
def w00:`Q:=`aQb
def yz0:GS:=(v9 `afv
 t6)
def yx0:`h:=`c1
def G6:`Q:=`afw
def w40:GS:=(v9 (ifD `ok
 (v9 `afx
 t6)
 t6)
 (v9 `ol
 t6))
def w70:`h:=`c1
def zd0:`Q:=`afy
def uu0:GS:=(v9 (ifD `afz
 (v9 `aQc
 t6)
 t6)
 (v9 (ifD `aQd
 (v9 `aQe
 (v9 `aQf
 t6))
 t6)
 (v9 `aQg
 t6)))
def t80:`h:=`aQh
def ze0:`Q:=`aQi
def ii0:GS:=(v9 `v3
 (v9 `aQj
 (v9 `aQk
 (v9 `aQl
 (v9 (U3 `afA
 (v9 `afB
 (v9 `afC
 (v9 (ifD `afD
 (v9 `afE
 t6)
 (v9 (ifD `afF
 (v9 `afG
 (v9 `afH
 t6))
 t6)
 t6))
 t6))) 100000)
 (v9 `v4
 t6))))))
def ix0:`h:=`aQm
def o90:`Q:=`aQn
def rn0:GSB:=(p7 (n6 (gz0 0 `G `zB `aX))
 (p7 (n6 (kk0 0 `G `iv `m!))
 (p7 (n6 (kk0 0 `G `tz `m!))
 (p7 (n6 (kk0 0 `G `jN `m!))
 (p7 (n6 (kk0 0 `G `ty (V7 (z7 `afI v5))))
 (p7 (n6 (gz0 0 `G `lp `aX))
 (p7 (n6 (gz0 0 `G `ht `aX))
 (p7 (n6 (gz0 0 `G `m? `rt))
 `D))))))))
def rm0:`h:=`a'
def y30:`al:=mkB 1 rm0 0 rn0
def va0:GSB:=(p7 (n6 (U3 `aQo
 (v9 `VO
 (v9 (popS 0 `iw)
 t6)) 100000))
 `D)
def sq0:`h:=`a'
def J3:`al:=mkB 1 sq0 0 va0
def uk0:GSB:=(p7 (V6 (Y4 (orG (o2 `p0 `HW eqD) (o2 (o2 `ab `jL W5) `aQp leD))))
 `D)
def qw0:`h:=`v5
def z50:`al:=mkB 2 qw0 0 uk0
def rh0:GSB:=(p7 (ifB (ob `aQq)
 (p7 (n6 (j4 (yu0 0 `aQr `ab)))
 `D)
 `D)
 (p7 `aQs
 (p7 `aQt
 `D)))
def nv0:`h:=`uD
def X7:`al:=mkB 2 nv0 0 rh0
def j80:GS:=(v9 (ifD `afJ
 (v9 (V2 `aqf)
 t6)
 t6)
 (v9 (V2 `apk)
 t6))
def kz0:`h:=`OZ
def u90:`Q:=mkF 1 kz0 j80
def pw0:GS:=(v9 (ifD `afJ
 (v9 (V2 (o2 (V7 (z7 (gc (`t `nb)) v5)) `ab mulL))
 t6)
 t6)
 (v9 (ifD `aQu
 (v9 (V2 (o2 (V7 `aqi) `ab mulL))
 t6)
 t6)
 (v9 (ifD `aQv
 (v9 (V2 `aQw)
 t6)
 t6)
 (v9 (V2 (o2 (V7 (z7 (gc (`t "class")) v5)) `aQw m7))
 t6))))
def o40:`h:=`O_
def vw0:`Q:=mkF 2 o40 pw0
def ws0:GSB:=(p7 (ifB (wg0 (ob `aQx) (ob `aQy))
 (p7 `gY
 `D)
 `D)
 (p7 (n6 (j4 (W7 0 `G p6 `aQz X7)))
 (p7 (qp0 0 3 `ab `p1 `iw)
 (p7 (n6 (j4 (yu0 0 `jM `aqe)))
 (p7 (n6 (j4 (bi0 0 `jM (oA (z7 (oA `VK vw0) v5) s20))))
 (p7 `rv
 `D))))))
def tn0:`h:=[`ed, `zy, `VP, `zv]
def G8:`al:=mkB 3 tn0 0 ws0
def gr0:GS:=(v9 (ifD (ob `aQA)
 (v9 (V2 (o2 (unG U7 (o2 `ag `c? j9)) `aD K7))
 t6)
 t6)
 (v9 (V2 (o2 `ag `c? j9))
 t6))
def h80:`h:=`gK
def rv0:`Q:=mkF 1 h80 gr0
def yr0:GSB:=(p7 (n6 (d8 `bL `zm))
 (p7 (ifB (ob (o2 `zn `hn eqD))
 (p7 (V6 (W7 0 `G p6 (z7 (unG (atC `HU) (o2 `ar `eA m8)) (z7 (o2 `ar `eA j9) v5)) G8))
 `D)
 `D)
 (p7 (ifB (ob (o2 `p0 `afI eqD))
 (p7 `gY
 `D)
 `D)
 (p7 (ifB `afe
 (p7 (n6 (j4 (W7 0 `G p6 (z7 (oA `dz rv0) v5) X7)))
 `D)
 (p7 (ifB (ui0 `aPK (ob (o2 `ar `HY ltD)))
 (p7 (n6 (j4 (W7 0 `G p6 (z7 (zw0 (z7 `ln (z7 (o2 (o2 `HY `aD K7) `ar K7) v5))) v5) X7)))
 `D)
 (p7 (ifB (ob (o2 `ab `aX eqD))
 (p7 (n6 (j4 (W7 0 `G p6 (z7 `lo v5) X7)))
 `D)
 (p7 `gY
 `D))
 `D))
 `D))
 (p7 `rv
 `D)))))
def tq0:`h:=[`ed, `zw, "rest"]
def R4:`al:=mkB 2 tq0 0 yr0
def y80:GSB:=(p7 (n6 (d8 `bL (o2 (o2 (plN `aQB) `jL W5) (o2 `ab `jL m8) m7)))
 (p7 (ifB (ob (o2 `ab `jL ltD))
 (p7 (V6 (W7 0 `G p6 `dz R4))
 `D)
 `D)
 (p7 (ifX (orT (liftT `afK) (ut0 `aQC))
 (p7 `gY
 `D)
 `D)
 (p7 (n6 (u30 0 `G `lp `ar))
 (p7 `rv
 `D)))))
def uz0:`h:=[`ed, `p2, `zw]
def Q4:`al:=mkB 2 uz0 0 y80
def d20:GS:=(v9 (d8 `fb `aD)
 (v9 (td0 (ue0 (z7 (o2 `ab `ll K7) v5)) `fY
 (v9 `aQD
 t6))
 (v9 (V2 (o2 (oA (z7 (T4 1 [1,2] (re0 `ag) `a8 (`aQE) `ag) v5) V1) `cZ ltD))
 t6)))
def mb0:`h:=[`jN, `ht, `X7, "most", "place"]
def xh0:`Q:=mkF 3 mb0 d20
def eu0:GS:=(v9 (td0 (jb0 `ab) `bL
 (v9 (ifD `aQF
 (v9 `aQG
 t6)
 t6)
 t6))
 (v9 (V2 `lo)
 t6))
def es0:`h:=[`p2, `VJ, `nb]
def vh0:`Q:=mkF 2 es0 eu0
def zm0:GSB:=(p7 `aQH
 (p7 (ifB `aQI
 (p7 `gY
 `D)
 `D)
 (p7 `aQJ
 (p7 (ifB (ob `aQK)
 (p7 (n6 (j4 `aQL))
 (p7 (n6 (j4 (W7 0 `G p6 `aqr X7)))
 (p7 (n6 (u30 0 `G `ht `aX))
 (p7 (n6 (u30 0 `G `m? `rt))
 `D))))
 `D)
 (p7 `rv
 `D)))))
def un0:`h:=`aQM
def R7:`al:=mkB 2 un0 0 zm0
def lm0:GS:=(v9 (V2 (oA (z7 (cu0 `ag (`ho `aX) xx0 `aQN) (z7 (cu0 `ag `aQO xx0 `aQN) v5)) W60))
 t6)
def m70:`h:=`O0
def vo0:`Q:=mkF 1 m70 lm0
def j40:GS:=(v9 (ifD `afJ
 (v9 (V2 (zw0 (z7 `tv (z7 (nq0 `rt `dU) v5))))
 t6)
 t6)
 (v9 (ifD `aQu
 (v9 (V2 (zw0 (z7 `p_ (z7 (oA `dU xk0) v5))))
 t6)
 t6)
 (v9 (ifD `aQv
 (v9 (V2 (zw0 (z7 `HX (z7 (oA `dU vo0) v5))))
 t6)
 t6)
 (v9 (V2 (zw0 (z7 `HR (z7 `aqs (z7 (oA (z7 (we0 `ab `aQO xx0) v5) vo0) v5)))))
 t6))))
def j20:`h:=`J5
def K5:`Q:=mkF 2 j20 j40
def my0:GS:=(v9 (ifD (wg0 `ok `Dc)
 (v9 `ol
 t6)
 t6)
 (v9 (Q9 (T4 1 [] `ru `a8 noT `jK))
 t6))
def K4:`h:=`c1
def vd0:`Q:=mkN 1 K4 my0
def yp0:GSB:=(cs0 0 1 `VN (oA `aQP vd0))
def to0:`h:=[`ed, `zv]
def M9:`al:=mkB 1 to0 0 yp0
def y60:GSB:=(p7 (ifB (ob (o2 `ab `VU geD))
 (p7 `gY
 `D)
 `D)
 (p7 (n6 (d8 `bL (plN (J0 0 `na (o2 (o2 `VU `aD K7) `ab K7)))))
 (p7 (ifX (Vc0 (liftT `aQQ) (R6 `aQR))
 (p7 `gY
 `D)
 `D)
 (p7 `aQS
 (p7 `rv
 `D)))))
def v00:`h:=[`ed, `atG, `tx]
def O1:`al:=mkB 2 v00 0 y60
def K9:GSB:=(p7 (ifB (ob (o2 (o2 `ab `c? m8) `aX eqD))
 (p7 (V6 (W7 0 `G p6 (z7 (o2 `ab `c? j9) v5) O1))
 `D)
 `D)
 (p7 (n6 (d8 `bL (o2 `ab `c? j9)))
 (p7 (ifB (wg0 `afK (wg0 (ob `aQT) (ob `aQU)))
 (p7 `gY
 `D)
 `D)
 (p7 (ifB (xw0 (ob (fnN 0 `na (z7 `ar (z7 `rt v5)) xh0)))
 (p7 `gY
 `D)
 `D)
 (p7 (n6 (u30 0 `G `ht `ar))
 (p7 `rv
 `D))))))
def wo0:`h:=[`ed, `p2, `ht]
def U6:`al:=mkB 2 wo0 0 K9
def wx0:GSB:=(p7 (n6 (d8 `bL (oA (z7 `ab (z7 (gc (`aQV)) v5)) vh0)))
 (p7 (ifB `VT
 (p7 `gY
 `D)
 `D)
 (p7 `aQS
 (p7 `rv
 `D))))
def tr0:`h:=`aQM
def M8:`al:=mkB 2 tr0 0 wx0
def s40:GSB:=(p7 (V6 (Y4 (o2 `aqc `aX eqD)))
 `D)
def og0:`h:=`a'
def U4:`al:=mkB 1 og0 0 s40
def yb0:GSB:=(p7 (ifX `O1
 (p7 `gY
 `D)
 `D)
 (p7 `aQW
 (p7 (ifB (wg0 (ob (o2 `ar `afI eqD)) (ob (o2 `ar `HW eqD)))
 (p7 (V6 (W7 0 `G p6 `dU Q4))
 `D)
 `D)
 (p7 (ifB (ob (o2 `ar (gc (`t `nb)) eqD))
 (p7 (V6 (W7 0 `G p6 `dU M8))
 `D)
 `D)
 (p7 (ifB (ob `aQX)
 (p7 (V6 (W7 0 `G p6 `dU R7))
 `D)
 `D)
 (p7 (V6 (W7 0 `G p6 `dU U6))
 `D))))))
def oa0:`h:=[`ed, `p2, "want"]
def V5:`al:=mkB 2 oa0 0 yb0
def g60:GS:=(v9 (V2 (pr0 (zy0 isInt `ag) (Rb0 (zy0 isBool `ag))))
 t6)
def i90:`h:=`om
def u10:`Q:=mkF 1 i90 g60
def dj0:GS:=(v9 (V2 (pr0 `afL `aQY))
 t6)
def db0:`h:=`om
def vn0:`Q:=mkF 1 db0 dj0
def rl0:GSB:=(p7 (ax0 (re0 `ab) `bL
 (p7 (ifX (orT (liftT `afM) `aQZ)
 (p7 `afN
 `D)
 `D)
 (p7 `aQ_
 (p7 `aQ0
 `D))))
 `D)
def nz0:`h:=[`ed, "some", "thing"]
def zs0:`al:=mkB 2 nz0 0 rl0
def ql0:GSB:=(p7 (ifX (ut0 `O1)
 (p7 `afN
 `D)
 `D)
 (p7 (V6 (ie0 0 `p1 1 [] `a8 `O2))
 `D))
def qu0:`h:=`a'
def vb0:`al:=mkB 1 qu0 0 ql0
universe zz
universe Rk
namespace W
open DL
def hasAll(x s:Str):`aa:=x.cps.toList.all λc=>`z (c∈`hw)
def nameS:Str := `zz
def cq0:Str := `zA
def isName(x:Str):`aa:=(`z (`afO<=8)&&hasAll x nameS)&&`z (0<`afO)
def isWord(x:Str):`aa:=`z (`afO<=20)&&hasAll x cq0
def marks(x:D)(m:Str):`aa:=match x with
 | `mV=>`z (y=m)
 | _=>`r
def fv0:`df
 | `x=>`d
 | `cn=>`d
 | `w [x,`ba]=>marks x `tq&&`afP
 | _=>`r
inductive Pt where
 | text (w:Str)|row (vs:`l)|table (ps:`bI)|rcd (c:Str) (ps:`bI)
variable{ps:`af W.Pt}
def pr(p:`zC):D:=`w `aQ1
def Pt.d:Pt->D
 | `on=>`aQ2
 | `l7=>`w [`pX,`w vs]
 | `l8=>`w [`hq,`Il]
 | `De=>`w [`hr,`e7,`Il]
def Pt.vals:`afQ
 | `O3=>[]
 | `l7=>vs
 | `l8=>`ir
 | `afR=>`ir
def Pt.pnames:Pt->`h
 | `O3=>[]
 | .row _=>[]
 | `l8=>`jG
 | `afR=>`jG
def Pt.cls:Pt->`h
 | `lq c _=>[c]
 | _=>[]
def Pt.all(p:Pt):`h:=p.pnames++p.cls
def lk:D->`bl
 | `w [_,`ba]=>`pU
 | _=>`e
structure PsOk(ps:`bI):Prop where
 len:`aA<=12
 names:∀p∈ps,`p' p.1=`d
 vals:∀p∈ps,fv0 p.2=`d
 nd:(`jG).Nodup
def Pt.Ok:Pt->Prop
 | `on=>`aQ3
 | `l7=>`cg<=12/\∀v∈vs,`afS
 | `l8=>`afT
 | `De=>`p' c=`d/\`afT
def Vn0{n:Str}(h:`p' n=`d):`t0<=8:=by
 unfold isName at h;simp only[`bz,`v6] at h;lia
def Pt.few(p:Pt):Prop:=`AA<=`S
def Uf0{v:D}(h:`afS):`xF∨(∃i,`B1)∨∃i,v=`aQ4/\`g!:=by
 cases v with
 | non=>exact `mk
 | int i=>exact `q (`p #[i,rfl])
 | tup xs =>
  match xs,h with
  | [x,`ba],h =>
   simp only[fv0,`bz,`v6] at h;cases x<;>simp[marks] at h
   exact `q (`q #[i,by rw[h.1],h.2])
 | _=>cases h
def O3:Str := `aPh
def cg(i:Int):Nat:=`O4 `e1 0
def e60(i:Int)(h0:`g!)(h1:i<36):ixD (`tE) `fF=`c (`t #[⟨cg i⟩]):=by
 have hl:O3.cps.toList.length=36:=`aQ
 have hz:O3.length<=`S:=`aQ
 have:=vp0 (xs:=O3.cps.toList) (i:=i) h0 (by rw[hl];lia) 0;simp only[ixD,`R hz,`E,`gx];rfl
def ab0(i:Int)(h0:`g!)(h1:i<36):cg i∈`H2:=by
 have h:∀n:Nat,n<36->`O4 n 0∈`H2:=`aQ
 exact h `e1 `j
def ao0(i j:Int)(h0:`g!)(h1:i<36)(h2:0<=j)(h3:j<36)(e:cg i=cg j):i=j:=by
 have h:∀n:Nat,n<36->∀m:Nat,m<36->`O4 n 0=`O4 m 0->n=m:=`aQ
 have:=h `e1 `j `h! `j e;lia
def strOf(l:`i):Str:=#[l.toArray]
def Tz0(l:`i)(h1:0<`aR)(h2:`aR<=8)(h3:∀c∈l,`Df):`p' `zG=`d:=by
 unfold isName hasAll;have e:`aQ5:=`aQ6
 have e2:`aQ7:=`aQ8
 rw[e,e2];simp only[`bz,`v6,`jb];exact#[`aQ9,`H]
def Tj0{l m:`i}(h:`zE=`aE m):l=m:=by
 unfold strOf at h;apply `afU
 simpa using C3 `ala h
universe W
variable{ps:`af W.Pt}
namespace W
open DL StrLaws Builtin.Str
def wj0(l:`i):`aQ7:=`aQ8
def zg0(l:`i):`aQ5:=`aQ6
def p50(sep:`i):`kA->`i
 | []=>[]
 | [p]=>p
 | p::q::r=>`aQ'
universe W
namespace Rm
open DL W PySem.StrLaws
inductive Want where
 | root|value|sign|name|cls|fin
 deriving DecidableEq
variable{ws:`aQ!}
structure RS where
 count:Nat
 begun:`afV
 un:`i
 names:`kA
 wait:`a!
 digits:Int
 length:Nat
 spelled:`i
variable{S' S1:Rm.RS}
def start:RS:=#[0,[],[],[],[`tY],0,0,[]]
def Q0:`i:=(`bw 10).map (48+·)++(`bw 26).map (97+·)
def r00:`i:=32::Q0
def RS.hold(S:RS)(d:D):RS:={ S with begun:=(match `b0 with|[]=>`eD|k::_=>`rx),wait:=`l9,digits:=0 }
def wanted:Nat->Nat->`a!
 | 0,n=>`a1 n `jT
 | 1,n=>`a1 n `ee
 | 2,n=>`afW
 | _,n=>.cls::`afW
def link(k:Nat):D:=`w `aQ?
def up0(n:Int):Int:=if n%2=1 then -(n/2) - 1 else n/2
def left(names:`kA)(len:Nat)(pre:`i):`aa:=`z ((`WK λn=>`z (`t0=len)&&`IF).length<36 ^ (len - `dT))
def pairsOf:`l->`OC
 | `Fu=>`afX
 | _=>[]
def M5(p:`eB):`l:=match p.1 with
 | 2=>`aRa `bV
 | 3=>`aRb `bV
 | _=>[]
def X5(l:`i):D:=`tI
def V20:`a!->`i->`a!×`i
 | `b!::w,_::u=>V20 w u
 | w,u=>(w,u)
def RS.ends(S:RS):RS:={ S with wait:=(`aRc).1,un:=(`aRc).2 }
def codes:`l->`i
 | `bX::r=>`aKt++`IJ r
 | _=>[]
def made(p:`eB):D:=match p.1 with
 | 0=>`w [`jJ,X5 (`IJ p.2)]
 | 1=>`w [`pX,`w p.2]
 | 2=>`w [`hq,`w (`aRa `qp)]
 | _=>`w [`hr,p.2.headD `x,`w (`aRb `qp)]
universe Rm
variable{ws:`aQ!}{S' S1:Rm.RS}
namespace Bt
open DL W
theorem W0{G:GSB}{b:D}{r:D}(hl:`vR)(h:∀p,∃δ',G `pQ=`c (.rt r δ')/\`N3):`ad':=ih0 hl λp=>`p (h p)
def o6{G1 G2:GSB}{δ:Ds}{r:`kw}(h:`aaF)(k:`BU=r):`aRd=r:=by unfold p7;rw[h];exact k
def Z3{G1 G2:GSB}{δ:Ds}{d:D}(h:`mC=`afY):`aRd=`afY:=by unfold p7;rw[h]
def Z0{δ:Ds}(h:`ad6):n6 G δ=`dv:=by unfold n6;rw[h]
def zz0{g:GB}{δ:Ds}(h:`aaH):`afZ=`FQ:=`aRe
def M3{g:GB}{δ:Ds}(h:`aaI):`afZ=Gb δ:=`aRe
def V3{δ:Ds}{d:D}(h:`O5):V6 gx δ=`afY:=by unfold V6;rw[h];rfl
def S6{g:GE}{δ:Ds}{d:D}(h:`hO):Y4 g δ=`c (d,δ):=by unfold Y4;rw[h];rfl
def bk(k:Int)(cs:`P)(sm:`aa)(m:Int)(pool:`h):D:=`cj (`p [`af_,`af0,`af1,`q `Vw,`q "pool"]) [`iy,`nd,`ry,`f m,`tK]
def yy0{ga gb:GE}{δ:Ds}{i j:Int}(h1:`cv=`H3)(h2:`dO=`c `zH)(h:0<j):o2 ga gb m8 δ=`aaA:=by
 rw[o4 h1 h2];show (if 0<j then _ else _)=_;rw[`cQ]
def u70(i j:Int)(h:`alt):`aRf:=by simp only[W5];rw[`R (`LV)]
def Y30{cs:`P}{g:GE}{δ:Ds}{i:Int}(s0 s1:Sl)(hδ:δ=[s0,s1,`H4])(h:`aRg)(h0:`g!)(h1:i<`H5):∃c:Int,o2 `ar g ixD δ=`af2:=by
 refine#[cs[i.toNat]'`j,?_];have e:`Wb=`aRh:=by rw[hδ];rfl
 rw[o4 e h];show atI (`aRi) i=_;rw[vp0 h0 (by rw[`K];exact h1) `x];have:`e1<`H5:=`H
 simp[`bO,`E]
def ed0(k:Int)(h0:`iW)(hk:`af3)(cs:`P)(hc:`rz)(sm:`aa)(m:Int)(pool:`h):`aRj:=by
 have pos:0<`H5:=`aes hc;have J:∀(z:Int),(∀p:`g,∀δ:Ds,δ=`Dg->(p7 (ifB `aPw (p7 `aPx `D) `D)
   (p7 `aPy `D)) δ=`c (.rt `jI δ))->0<=z->`aRj:=λz h hz=>by
  refine#[z,hz,W0 rfl λp=>#[`Dg,?_,rfl]];refine o6 (δ':=[`Dh,`tB,.un]) `af4 ?_;refine o6 (δ':=[`p4,`tB,.un]) `af4 ?_;refine o6 (δ':=`Dg) `af4 ?_;exact h p _ rfl
 have len:∀(s0:Sl),oA `dz V1 `Di=`c (`f `O6):=λs0=>by
  show `c (`as ((`aRi).length:Int))=_;rw[`K]
 have cond:∀s0:Sl,ob `apn `Di=`c (`z (k<`O6)):=λs0=>by
  unfold ob;rw[o4 (x:=`iy) rfl (len s0)];rfl
 by_cases hlt:k<`O6
 ·have ex:∃c:Int,∀s0:Sl,o2 `ar `ab ixD `Di=`af2:=by
   let#[c,hc]:=Y30 (cs:=cs) (g:=gv 1) (δ:=`aRk) _ _ rfl rfl h0 hlt;exact#[c,λs0=>hc]
  let#[c,hc]:=ex;refine J (c%(10 ^ 64+57)) `aRl `aRm;subst hδ;refine `zL;rw[zz0 (by rw[cond,`bd hlt])];refine Z3 (V3 (S6 (yy0 (hc _) ?_ `s)));kernel_rfl
 ·obtain⟨c,hc⟩:∃c:Int,∀s0:Sl,o2 `ar `apq ixD `Di=`af2:=by
   have em:∀s0:Sl,o2 `ab `ll m8 `Di=`c (`f (k%`O6)):=λs0=>yy0 rfl (len s0) `j
   let#[c,hc]:=Y30 (cs:=cs) (δ:=`aRk) _ _ rfl (em .un) `aRn (`aRo);refine#[c,λs0=>?_];rw[o4 (x:=`nd) rfl (em .un)] at hc;rw[o4 (x:=`nd) rfl (em s0)];exact hc
  refine J ((`af5+7)*48271%2147483647) `aRl `aRm;subst hδ;refine o6 (δ':=`Dg) (by rw[M3 (by rw[cond,`b4 hlt])];rfl) ?_;refine Z3 (V3 (S6 (yy0 ((o4 (x:=`f (`af5+7)) (y:=`apt) ?_ rfl).trans (u70 _ 48271 `s)) rfl `s)));have e3:o2 `aps `ab W5 `Dg=`c (`aRp):=by
   rw[o4 (x:=`f (3*k)) (y:=`iy) (`aRq (u70 3 k `j)) rfl];exact `O7
  exact(o4 (x:=`f `af5) (y:=`f 7) ((o4 (x:=`f (`aqy)) (y:=`aRp) (yy0 (hc _) rfl `s) e3).trans rfl) rfl).trans rfl
universe Bt
namespace Pn
open DL W
def put:Pt->`l->Pt
 | `on,_=>`on
 | .row _,vs=>`l7
 | `l8,vs=>`tA (`W_)
 | `De,vs=>`lq c (`W_)
universe Pn
namespace Gw
open DL W
def z30:GS:=(v9 (ifD `aPe
 (v9 `aPf
 t6)
 t6)
 (v9 `OO
 t6))
def xy0:`h:=`ux
def S7:`Q:=`aPg
universe Gw
namespace Gw
open DL W StrLaws
def po0(i j:Int)(h:`als):`aRf:=by simp only[W5];rw[`R (`p h)]
def Ie0(i j:Int)(h:0<j):m8 `fF `zH=`aaA:=by simp only[m8,ii];rw[`cQ]
def Kv0(i j:Int)(h:`K3):j9 `fF `zH=`aBh:=by simp only[j9,ii];rw[`cQ]
def if0{g:GE}{δ:Ds}{l:`l}{d:D}(h1:`aRr)(h2:`hO)(h3:`aR<`S):j4 (yt0 i g) δ=`c (.nx (`bj i (.ow (`o `Ja)))):=by
 unfold j4 yt0;rw[h1,h2];simp only[`n];rw[`R h3];rfl
def Xy0(ns:`P)(k:Int)(h0:`iW):∃z,S7 [`iz,`iy]=`O8:=by
 by_cases h:k<`eY
 ·have J:`hh<`eY:=`H
  refine#[ns[k.toNat],`v7];rw[R9 (by
   apply `aRs;rw[`bd `af6])]
  apply `v8;show atI `af7 k=_;rw[vp0 h0 `af6 `x];simp[`bO,J]
 ·refine#[0,V9 rfl (t7 (δ':=[`gD,`tB]) ?_ rfl)]
  rw[Y0 (by
   apply `aRs;rw[`b4 `af6])]
  rfl
def Ki0(l:`i)(k:Int)(h0:`iW)(h1:k<=`aR):`ann `zG `e (`e6)=`aE (l.take `hh):=by
 show sliceText _ _ _=_;rw[sliceText_to #[h0,by rw[wj0];exact h1],wj0];simp[`aE]
def Js0(a b:`i):`aRt:=by
 show (#[_]:Str)=#[_];simp[`aE]
def gh0(a b:`i)(h:`aRu):m7 (`t (`aE a)) (`t (`aE b))=`c (`t (`aE `zI)):=by
 simp only[m7];rw[`R (by rw[zg0,zg0];exact h),Js0]
universe Gw
namespace Gw
open DL W
structure Vk(v:D)(m:Int):Prop where
 ok:`afS
 bd:∀i,`B1->`alr<`O9
 lk:∀k,lk v=`e6->k<m
structure Gd(p:Pt)(m:Int)(nm:`h):Prop where
 ok:p.Ok
 vk:∀v∈`j2,`O'
 nms:∀s∈`rA,s∈nm
def Uu0(l:`i)(h2:`aR<=20)(h3:∀c∈l,`af8):isWord `zG=`d:=by
 unfold isWord hasAll;rw[zg0,wj0];simp only[`bz,`v6,`jb];exact`aQ9
def qe0(xs:`l)(x:D):atI (`aaL) (-1)=`dk:=by
 unfold atI ixN;rw[`it,`R `aRv];rw[show ((-1:Int)+((`aaL).length:Int)).toNat=`aG by rw[`O];apply `tC;lia];simp
universe Gw
namespace Bt
open DL W
def Z6{g:GE}{δ:Ds}{b:`aa}(h:`aRw):ob g δ=`k4:=`aRx
def Ui0(c:Int)(sm:`aa):∃n:Int,n.natAbs<`O9/\zx0 [`f c,`ry]=`c (`lu):=by
 cases sm with
 | true=>exact#[c%(2*10 ^ 12 - 1) - 10 ^ 12+1,`H,V9 rfl (Z4 (by rw[`Dj];exact `O!))]
 | false =>
  have s0:∀(Ga G:GS) (r:`x9),G `Dk=r->v9 (ifD `aPt Ga t6) G `Dk=r:=λGa G r h=>t7 `oo h
  have e0:∀j:Int,ob `aRy `Dk=`c (`z (c%3=j)):=`af9
  by_cases h0:c%3=0
  ·exact#[c/3%300 - 150,`H,V9 rfl (s0 _ _ _ (Z4 (by rw[R9 (by rw[e0,`bd h0])];exact `O!)))]
  ·have s1:∀(Ga G:GS) (r:`x9),G `Dk=r->v9 (ifD `OQ Ga t6) G `Dk=r:=λGa G r h=>t7 (by rw[Y0 (by rw[e0,`b4 h0])];rfl) h
   by_cases h1:c%3=1
   ·exact#[c/3%40001 - 20000,`H,V9 rfl (s0 _ _ _ (s1 _ _ _ (Z4 (by rw[R9 (by rw[e0,`O?])];exact `O!))))]
   ·exact#[c/3%(2*`O9 - 1) - `O9+1,`H,V9 rfl (s0 _ _ _ (s1 _ _ _ (t7 (by rw[Y0 (by rw[e0,`b4 h1])];rfl) (`O!))))]
def z90{gA:GA}{f:`al}{δ:Ds}{p:`g}{b r:D}(h:`cl=`aLE)(hA:`lW)(hf:`ad5):`aRz=`c (r,`bj i (.ow (v7 p b'))):=by
 unfold S5;rw[h];show (`ip λds=>`aRA λr=>(r.1,`bj i (.ow (`w [`CW,r.2]))))=_;rw[hA];show `aRA _=_;rw[hf];rfl
def da0{gA:GA}{f:`al}{δ:Ds}{ks:KS}{vs:`l}{r:D}(h:`cl=`aLF)(hA:`lW)(hf:`aqC=`UI):`aRz=`c (r,`bj i `Vd):=by
 unfold S5;rw[h];show (`ip λds=>`aRB λr=>(r.1,`bj i (.ow r.2)))=_;rw[hA];show `aRB _=_;rw[hf];rfl
def u50{ft:`aT}{δ δ1 δ2:Ds}{d:D}(h:`dw=`c (d,δ1))(k:ft d δ1=`c δ2):N6 gx ft δ=`S0:=by
 unfold N6;rw[h];show (ft d δ1).map _=_;rw[k];rfl
open Gw (Vk)
def Nt0(i:Int):fv0 (`aQ4)=`afP:=by
 show (`aRC&&`afP)=_;rw[show `aRC=`d from `aQ];rfl
def Rn0(k:Int)(h0:`iW)(hk:`af3)(cs:`P)(hc:`rz)(sm:`aa)(m:Int)(hm:1<=m)(pool:`h):∃v,`O'/\Q8 `gA []=`c (v,`p3):=by
 let#[z,hz,hn]:=`aRD;have call:∀p:`g,n6 `apv (z10 t70 0 p `gA [])=`c (.nx `kB):=λp =>
  `aRE
 have c8:∀(p:`g) (j:Int),ob (o2 `HO `H7 eqD) `kB=`c (`z (z%8=j)):=`aRF
 have l8:∀(p:`g) (j:Int),ob (o2 `HO `H7 ltD) `kB=`c (`z (z%8<j)):=`aRF
 by_cases q0:z%8=0
 ·refine#[`x,#[rfl,`aRG,λk e=>by cases e],W0 rfl λp=>#[`kB,o6 `af' `l',rfl]]
  rw[zz0 (by rw[c8,`af!])];apply `Pa
 have s1:∀(p:`g) (Ga G:GSB) (r:`kw),G `kB=r->p7 (ifB `aPA Ga `D) G `kB=r:=λp Ga G r h =>
  o6 (δ':=`kB) (by rw[M3 (by rw[c8,`af?])];rfl) h
 by_cases q4:z%8<4
 ·let#[n,M,J]:=Ui0 (z/8) sm
  refine#[`lu,#[rfl,(λi e=>by cases e;exact M),λk e=>by cases e],W0 rfl λp=>#[`kB,o6 `af' (s1 p _ _ _ `l'),rfl]];rw[zz0 (by rw[l8,`bd q4])];apply `aga;rw[c7 (ds:=[`f (z/8),`ry]) (`ae rfl (`ae `gB rfl))];exact J
 ·refine#[`w [`lk,`f (z/8%m)],#[by rw[Nt0];exact E4 `aRn,`aRG,λk e=>by cases e;exact `aRo],W0 rfl λp=>#[`kB,o6 `af' (s1 p _ _ _ (o6 (δ':=`kB) ?_ ?_)),rfl]]
  ·rw[M3 (by rw[l8,`b4 q4])]
   rfl
  ·refine Z3 (V3 (S6 (xl0 (`ae rfl (`ae (yy0 (i:=z/8) (j:=m) rfl `gB `j) rfl)) (`aN2))))
theorem Xm0(cs:`P)(hc:`rz)(sm:`aa)(m:Int)(hm:1<=m)(pool:`h):∀(items:`l) (k:Int),`iW->k+`b_<1000000 ->
  ∃vs:`l,`cg=`b_/\(∀v∈vs,Gw.Vk v m)/\y00 `a8 `Vx 1 `p! `bs `gA=`c (vs,bk (k+`b_) cs sm m `av)
 | [],k,_,_=>#[[],rfl,`agb,by rw[show k+(([]:`l).length:Int)=k by simp];rfl]
 | `ay,k,h0,hk=>by
  simp only[`Z] at hk;let#[v,hv,e]:=Rn0 k h0 `j cs hc sm m hm `av;let#[vs,hl,J,ih]:=Xm0 cs hc sm m hm `av ds `fK `j `j;refine#[`Cy,`agc,`kp,?_]
  ·apply `va
   ·exact hv
   ·exact J x hx
  ·have c:S5 1 v5 Q8 `V0=`c (v,[`et,.ow (`p3)]):=`aRH
   unfold y00;apply `aRI;show ((y00 `a8 `Vx 1 `p! ds (`p3)).map λq=>(v::q.1,q.2))=_;rw[ih,show k+1+(`bP:Int)=k+(`L2:Int) by simp only[`Z];lia];rfl
universe Bt
namespace Bt
open DL W StrLaws
def T50(a b:`i):`aRt:=by
 show (#[a.toArray++b.toArray]:Str)=#[(a++b).toArray];rw[List.append_toArray]
def Pd0(sep:`i):∀parts:`kA,`amN (`Pb) (`aqG `aE)=`aRJ:=by
 intro parts;unfold Txt.join;rw[StrLaws.glued_eq_join]
 induction `zM with
 | nil=>rfl
 | cons p r ih =>
  cases r with
  | nil=>rfl
  | cons q r =>
   show `aE p++`Pb++PySem.Str.join (`Pb) ((q::r).map `aE)=`aE (`aQ');rw[ih,T50,T50]
def Z20{g:GE}{δ:Ds}{S:`G7}(sep:`i)(parts:`kA)(B:Nat)(hS:S=`Pb)(hg:`ax=`c (`aRK))(hB:∀p∈`zM,`aRL)(hz:parts.length*(B+`amM)<=16777216) :
  nq0 (gc (`t S)) `Nf δ=`c (`t (`aRJ)):=by
 have J:∀l:`kA,(∀p∈l,`aRL)->((`eu `aE).map `amL).sum<=`aR*B:=by
  intro l
  induction l with
  | nil=>intro _;simp
  | cons p l ih =>
   intro h;have:=ih `aJh
   have:=h p A7;rw[`_,`_,List.sum_cons,`Z,zg0,Nat.add_mul];lia
 have e1:=strs_map `aE `zM;rw[O30 (x:=`t S) (ds:=[`aRK]) rfl (`ae hg rfl)];simp only[cv0];rw[e1,`n,`R,hS,Pd0];have:=J `zM hB;rw[hS,zg0,`K];rw[Nat.mul_add] at hz;lia
theorem m60:∀l:`i,`aRM=l
 | []=>rfl
 | [c]=>rfl
 | c::d::r=>by
  show[c]++[]++p50 [] ((d::r).map `H8)=_;rw[m60 (d::r)];rfl
def signs:`i:=(`afd : Str).cps.toList
def N10(k:Int)(h0:`iW)(hk:`af3)(cs:`P)(hc:`rz)(sm:`aa)(m:Int)(pool:`h)(n:Nat)(hn:n<=20):∃l:`i,`aR=n/\(∀c∈l,c∈`i1)/\ya0 `gA `IO=`c (`tI,`p3):=by
 let#[z,hz,he]:=`aRD;obtain⟨S,hS⟩:∃S:Str,S = `afd := `ac;have J:`aRN=`i1:=`aRO
 have O:signs.length=37:=`aQ
 let at':`c2:=λj=>`aRP (`H9%37).toNat 0
 have M:∀j,at' j∈`i1:=λj=>by
  apply `aRQ;apply `aRR;show `aRP _ 0∈`i1;rw[`bO,`aoL];exact d4 _
 refine#[`agd,`a6,`ON,W0 rfl λp=>#[`age,?_,rfl]]
 ·let#[j,_,rfl]:=`dx hc
  exact M j
 ·refine o6 (δ':=[`Dh,`bp,`V2,.un]) (Z0 (`aRO)) ?_
  refine o6 (δ':=`age) (Z0 (u50 (z90 (p:=p) (b:=`VY) rfl rfl he) rfl)) ?_;apply `aga;have hp:`agd=p50 [] ((`agd).map `H8):=(m60 _).symm;rw[hp];refine Z20 [] _ 1 rfl ?_ `aRS `lP;have hr:ue0 `dU `age=`c (`Dl):=o10 rfl `j `j;refine(xa0 hr (by rw[tv0];exact B4 (show _<=20 by lia) `s) (Q00 (λj=>`t (`aE [at' j])) λj hj=>#[`Pc,rfl,rfl,?_])).trans ?_
  ·have d1:o2 `ar `apy j9 `Pc=`c (`f (z/(`b8+1))):=by
    show (if `gC<`b8+1/\`b8+1<1073741824 then `c (`as (z/(`b8+1))) else `e)=_;rw[`gc]
   have d2:o2 `ag `ag W5 `Pc=`c (`aRT):=`aRq (`O7);have d0:o2 `aPC (o2 `ag `ag W5) m7 `Pc=`c (`f `H9):=(o4 d1 d2).trans rfl;have d3:=yy0 (gb:=`aPD) d0 rfl `aqH;apply `aRQ;apply `aRR;rw[o4 (x:=`t S) rfl d3];show (if `f_<=`S then (atI `aRN _).map _ else `e)=_;rw[`R (by rw[hS];decide +kernel),J,vp0 a1 (by rw[O];exact a2) 0];rfl
  ·rw[`dE,`bT,`bT]
   rfl
universe Bt
namespace Bt
def Y00:(∀d∈`agf,∀s∈`agf,d=0∨s=0∨d*s%13≠0)/\∀d∈`agf,∀s∈`bw 53,d=0∨s=0∨d*s%53≠0:=`aQ
def de0(p:Nat)(hp:`aRU)(a:Int)(s:Nat)(h1:1<=s)(h2:s<p)(i d:Nat)(hd:d<13)(h:`aRV=`aqI%`p8):d=0:=by
 have e:(p:Int) ∣ ((d*s:Nat):Int):=by
  have:=Int.emod_emod_of_dvd `V3 (Int.dvd_refl `p8);have h':(`aRW)%`p8=0:=by
   rw[Int.sub_emod,h,Int.sub_self];rfl
  have e2:`aRW=((d*s:Nat):Int):=by
   rw[Int.natCast_add,Int.add_mul,Int.natCast_mul];lia
  rw[e2] at h';exact Int.dvd_of_emod_eq_zero h'
 have e3:d*s%p=0:=Nat.mod_eq_zero_of_dvd (Int.natCast_dvd_natCast.mp e);rcases hp with rfl|rfl
 ·rcases Y00.1 d `aRX s `aRY with z|z|z
  ·exact z
  ·lia
  ·exact `aRZ
 ·rcases Y00.2 d `aRX s `aRY with z|z|z
  ·exact z
  ·lia
  ·exact `aRZ
def unlike(p:Nat)(hp:`aRU)(a:Int)(s:Nat)(h1:1<=s)(h2:s<p)(i j:Nat)(hi:i<13)(hj:j<13)(h:`aRV=(a+`b8*`p7)%`p8):i=j:=by
 rcases `aIG i j with q|q
 ·have:=de0 p hp a s h1 h2 i (j - i) `j (by rw[show i+(j - i)=j by lia];exact h)
  lia
 ·have:=de0 p hp a s h1 h2 j (i - j) `j (by rw[show j+(i - j)=i by lia];exact h.symm)
  lia
universe Bt
namespace Bt
open DL W
def NB1:GS:=(v9 `aPi
 t6)
def NB2:GS:=(v9 `aPj
 (v9 `aPk
 (v9 (ifD `OQ
 (v9 `aPl
 t6)
 (v9 (ifD `afa
 (v9 `aPm
 t6)
 (v9 `aPn
 t6))
 t6))
 t6)))
def code(N:Int)(k:Nat):`i:=[`V4,`aR_]
def nmF(N:Int)(w:`i)(a k:Nat):`i:=if N%3=0 then `aR0 else if N%3=1 then `aR1 else `agg
structure PoolB(n:Nat)(nm:`h):Prop where
 len:`da=n
 names:∀s∈nm,`Pd
 nd:nm.Nodup
def oe0{g:GE}{gl gh:GO}{δ:Ds}{d:D}{l h:`bl}(h1:`hO)(h2:`Gx=`c l)(h3:`Gy=`c h):we0 g gl gh δ=slA d l h:=by
 unfold we0;rw[h1,`n,h2,`n,h3,`n]
def au0{g:GE}{δ:Ds}{i:Int}(h:`aRg):`ho g δ=`c (`pU):=by
 unfold someO;rw[h];rfl
def Wh0(w:`i)(i:Int)(h0:`g!)(h1:i<=`dV)(hl:`dV<=100):slA `Ia `e (`pU)=`c (`t (`aE (`H! `e1))):=by
 apply `kC
 simp only[slA];rw[`R (by rw[zg0];lia),Gw.Ki0 _ _ h0 h1]
def Mt0(N:Int)(w:`i)(hw:`Pe)(a:Nat)(ha:a<7)(k:Nat)(hk:k<100)(names:`h)(hl:`aR2)(s1 s4 s8:Sl) :
  NB2 [`eC,s1,`jO,`ne,s4,`nf,`V5,`jP,s8]=`c (.nx [`eC,s1,`jO,`ne,s4,`nf,.ow (`o ((`ko++[`aqM]).map `t)),`jP,`V6]):=by
 apply `kC
 have cl:(`p9).length=2:=rfl;refine t7 (δ':=[`eC,s1,`jO,`ne,s4,`nf,`V5,`jP,.sh (`agh)]) (X8 (d:=`agh) (by
  rw[o4 (x:=`tE) (y:=`f ((N+`dR)%36)) rfl rfl];exact `agi)) ?_
 refine t7 (δ':=`zR) (X8 (d:=`tH) (by
  rw[o4 (x:=`agh) (y:=`t (`aE [`aR_])) rfl (by
   rw[o4 (x:=`tE) (y:=`f `aqJ) rfl rfl];exact `agi)]
  exact `agj)) ?_
 have app:∀(g:GE) (l:`i),g `zR=`aR3 ->
   v9 (j4 (yt0 6 g)) t6 `zR=`c (.nx [`eC,s1,`jO,`ne,s4,`nf,.ow (`o ((`ko++[`zE]).map `t)),`jP,`V6]):=λg l h=>by
  refine t7 (`Pf (l:=`zP `t) (d:=`tI) rfl h `lw) ?_;rw[`a4];rfl
 refine `Pg;have c3:∀j:Int,ob `aRy `zR=`c (`z (N%3=j)):=`af9
 by_cases q0:N%3=0
 ·rw[R9 (by rw[c3,`af!]),show `tG=`aR0 by unfold nmF;rw[`R q0]]
  refine `agk;rw[o4 (x:=`t (`aE (`H! a))) (y:=`tH) (by
   show slA `Ia `e (`c `sM)=_;rw[`aR4,`dE]) rfl]
  apply `aR5
 ·rw[Y0 (by rw[c3,`af?])]
  refine `Pg
  by_cases q1:N%3=1
  ·rw[R9 (by rw[c3,`bd q1]),show `tG=`aR1 by unfold nmF;rw[`ap q0,`R q1]]
   refine `agk;rw[o4 (x:=`t (`aE (`aqK))) (y:=`tH) (by
    show slA `Ia `e (`c (`dR%7))=_;rw[`aR4,show (`dR%7).toNat=k%7 by lia]) rfl]
   apply `aR5
  ·rw[Y0 (by rw[c3,`b4 q1]),show `tG=`agg by unfold nmF;rw[`ap q0,`ap q1]]
   refine `agk
   by_cases q3:35<k
   ·have e:`aR6=`c (`tp):=by
     rw[o4 (x:=`c_) (y:=`c_) rfl (by
      rw[c7 (ds:=[`dt]) (`ae (by
       apply `aR7;rw[`l!]) rfl)]
      rfl)]
     rfl
    rw[oe0 (d:=`tH) (l:=`e) (h:=`c 2) rfl rfl (au0 e)];rw[`R q3];exact Wh0 _ 2 `j `Ph `Ph
   ·have e:`aR6=`c (`c_):=by
     rw[o4 (x:=`c_) (y:=`fX) rfl (by
      rw[c7 (ds:=[`xt]) (`ae (by
       apply `aR7;rw[`f1]) rfl)]
      rfl)]
     rfl
    rw[oe0 (d:=`tH) (l:=`e) (h:=`c 1) rfl rfl (au0 e)];rw[`ap q3];exact Wh0 _ 1 `j `Ph `Ph
def code_inj(N:Int)(i j:Nat)(hi:i<72)(hj:j<72)(e:code N i=code N j):i=j:=by
 unfold code at e;injection e with e1 e2
 injection e2 with e2 _
 have e1:=ao0 _ _ `j `j `j `j e1;have e2:=ao0 _ _ `j `j `j `j e2;lia
theorem js0(N:Int)(k:Nat):∀c∈`p9,`Df:=λc hc=>by
 unfold code at hc;apply `aO3
 ·exact `agl
 ·rw[`ec hc];exact `agl
theorem sb0(N:Int)(k:Nat):(`p9).length=2:=rfl
def Nx0(N:Int)(w:`i)(hw:`Pe)(a:Nat)(ha:a<7)(k:Nat):0<`aR8/\`aR8<=8:=by
 unfold nmF;split
 ·rw[`O,`dS,sb0];lia
 ·split
  ·rw[`O,`dS,sb0];lia
  ·rw[`dS,sb0];split<;>lia
theorem Mb0(N:Int)(w:`i)(hm:∀c∈w,`Df)(a k:Nat):∀c∈`tG,`Df:=λc hc=>by
 unfold nmF at hc;split at hc
 ·rcases `dM hc with q|q
  ·exact `aR9
  ·exact `aR'
 ·split at hc
  ·rcases `dM hc with q|q
   ·exact `aR9
   ·exact `aR'
  ·exact js0 N k c (Aj0 hc)
def O80(N:Int)(w:`i)(hw:`Pe)(a:Nat)(ha:a<7)(i j:Nat)(hi:i<53)(hj:j<53)(e:nmF N w a i=nmF N w a j):i=j:=by
 unfold nmF at e;split at e
 ·exact code_inj N i j `j `j (List.append_cancel_left e)
 ·split at e
  ·have:=`aR!
   simp only[`O,`dS,sb0] at this;have e2:=(List.append_inj e (by rw[`dS,`dS];lia)).2;exact code_inj N i j `j `j e2
  ·have hl:=`aR!
   rw[`dS,`dS,sb0,sb0] at hl;have h1:∀k,(`agg)[0]?=`c (`V4):=λk=>by
    rw[List.getElem?_take,`R (`agm)];rfl
   have e0:=h1 i;rw[e,h1 j] at e0;have e0:=A3 e0;have e0:=ao0 _ _ `j `j `j `j e0
   by_cases q1:35<i<;>by_cases q2:35<j<;>simp only[q1,q2,`gr,`dy] at hl<;>lia
def Pb0(N:Int)(n:Nat)(hn:n<=53):∃nm,yi0 [`H?,`ib]=`c (`C4)/\PoolB n nm:=by
 skip;apply `kC
 let#[δ',l1,w,s4,rfl,hw,hm]:=qa0 (f:=gN 4) (G:=NB1) (λi δ=>∃(w:`i) (s4:Sl),δ=[`eC,`bp,`jO,`ne,s4,.un,.un,.un,.un]/\`dV=i/\∀x∈w,x∈`H2) (zr0 0 8) 0
  [`eC,`bp,`jO,.sh (`aR?),.un,.un,.un,.un,.un] (by
   rintro j d δ hj ⟨w,s4,rfl,hl,hx⟩;let#[J,rfl]:=X70 hj;have J:j<8:=J;obtain⟨q,hq⟩:∃q:Int,q=N/`agn%36:=`ac;have jj:0<=`zN/\`zN<=49:=by
    have:j=0∨j=1∨j=2∨j=3∨j=4∨j=5∨j=6∨j=7:=`H
    rcases `E with rfl|rfl|rfl|rfl|rfl|rfl|rfl|rfl<;>decide
   refine#[_,[`eC,`bp,`jO,.sh (`aSa),`p6,.un,.un,.un,.un],rfl,?_,w++[cg q],_,rfl,`agc,λx M=>?_]
   ·refine t7 (X8 (d:=`aSa) ?_) rfl
    rw[o4 (x:=`aqL) (y:=`t (`aE [cg q])) rfl (by
     rw[o4 (x:=`tE) (y:=`f q) rfl (by
      rw[o4 (x:=`f (N/`agn)) (y:=`HL) (by
       rw[o4 (x:=`H?) (y:=`f `agn) rfl (by
        rw[o4 (x:=`aRT) (y:=`HK) (by rw[o4 (x:=`fa) (y:=`fa) rfl rfl];exact `O7) rfl];rfl)]
       exact Gw.Kv0 _ _ `j) rfl]
      rw[hq];exact Gw.Ie0 _ _ `s)]
     exact `agi)]
    exact `agj
   ·rcases `dM M with q'|q'
    ·exact hx x q'
    ·rw[`ec q'];exact `agl) #[[],_,rfl,rfl,λx hx=>by cases hx]
 have hw:`Pe:=hw;obtain⟨a,ha⟩:∃a:Nat,`sM=N/3%7:=#[(N/3%7).toNat,`H];let#[U,m1,s7,s8,rfl]:=qa0 (f:=gN 7) (G:=NB2) (λi δ=>∃(s7 s8:Sl),δ=[`eC,`bp,`jO,`ne,s4,`nf,.ow (`o (((`bw i).map `ago).map `t)),s7,s8]) (`Dl) 0
  `aSb (by
   rintro j d δ hj ⟨s7,s8,rfl⟩;let#[J,rfl]:=X70 hj;rw[`dE] at J;refine#[_,_,rfl,Mt0 N w hw a `j j `j ((`bw (0+j)).map `ago) `lP _ _ _,`p6,.sh (`t (`aE (code N j))),?_];rw[`dG,`agp,`a4,`a4,`a4];rfl) #[_,_,rfl]
 rw[tv0,`dE,`dG] at m1;done;refine#[`V1 `ago,R8 rfl (t7 (X8 (d:=`tE) rfl) (t7 (X8 (d:=`aR?) rfl) (t7 (t50 (items:=zr0 0 8) rfl l1) (t7 (X8 (d:=`tF) (by rw[ha];rfl)) (t7 (δ':=`aSb) rfl (t7 (t50 (items:=`Dl) `aSc m1) `t9)))))),?_,`aSd,?_]
 ·simp
 ·let#[k,hk,rfl]:=`dx hs
  let#[h1,h2]:=Nx0 N w hw a `j k;exact Tz0 _ h1 h2 (Mb0 N w hm a k)
 ·refine `WL (`WM (Ak0 ?_ (D80 (n:=n))))
  intro i j hi hj O e;have hi:=`zS hi;have hj:=`v9;exact O (O80 N w hw a `j i j `j `j (Tj0 e))
universe Bt
namespace Bt
open DL W
open Gw (Gd Vk)
def Rd0:∀c∈`i1,`af8:=`aQ
def ft0(z:Int)(sm:`aa):∃n:Nat,n<=12/\∀(p:`g) (k:Int) (cs:`P) (m:Int) (pool:`h),
  n6 (ifD `OR
 (v9 `OS
 t6)
 t6) [`Dh,`b',`Ic,.un,.un,.un,.un]=`c (.nx [`Dh,`b',`bp,.un,.un,.un,.un]):=by
 cases sm with
 | true =>
  refine#[`aSe,`H,`aSf];rw[`qt,show ((`aSe:Nat):Int)=z/4%4 by lia];rfl
 | false =>
  have ix:∀(s0:Sl) (t:Nat) (r:Int),`Pi=`agq->([`Id,`Id,z/4%13]:`P)[t]?=`ew->`aSg:=λs0 t r ht hr=>by
   have hl:t<3:=by
    have:=(`cU hr).1
    apply `Aw
   rw[o4 (x:=`o (`aSh `f)) (y:=`f `agq) (by rfl) (by rw[← ht];rfl)];show atI (`aSh `as) `agq=_;rw[vp0 `j `lP `x,`dE,`bO,`bN,hr];rfl
  have J:∀r:Int,(∀s0:Sl,`aSg)->0<=r->r<=12->∃n:Nat,n<=12/\∀(p:`g) (k:Int) (cs:`P) (m:Int) (pool:`h),
   n6 (ifD `OR
 (v9 `OS
 t6)
 t6) [`aSi,`b',`Ic,.un,.un,.un,.un]=`c (.nx [`aSi,`b',`bp,.un,.un,.un,.un]):=λr h h0 h1=>by
   refine#[r.toNat,`H,`aSf];rw[`kD,show ((r.toNat:Nat):Int)=r by lia];exact t7 (X8 (h _)) rfl
  have:`Pi=0∨`Pi=1∨`Pi=2:=`H
  rcases `E with q|q|q
  ·exact J _ (λs0=>ix s0 0 _ q rfl) `j `j
  ·exact J _ (λs0=>ix s0 1 _ q rfl) `j `j
  ·exact J _ (λs0=>ix s0 2 _ q rfl) `j `j
def Np0{δ:Ds}{p:`g}{k:Int}{cs:`P}{sm:`aa}{m:Int}{vs:`l}{gi:GA}{f:`al}{k':Int}(h0:δ[0]?=`c (`Dh))(hi:`L4)(hl:`q3)
  (hc:`aSj) (j:Nat) :
  i00 j (v10 1 [0] 0 1 gi `a8 `V7) δ=`c (.nx ((`bj 0 `aSk).set j (`tL))):=by
 unfold i00 v10;rw[h0];show `eQ _ (`vh _)=_;rw[hi,`n,`ps];have e:zb0 1 [0] δ=`p!:=by
  show`Dm++[ke0 δ[0]?]=_;rw[h0];rfl
 rw[e];show `eQ _ ((`V8).bind _)=_;rw[hc];rfl
def Nk0{ga:GE}{δ:Ds}{d r:D}(h:`cv=`a7)(hf:`ku)(hx:`dw=`Pj):Ze0 ga gx δ=`c (`w [d,r],δ'):=by
 unfold Ze0;rw[h,`n,`rc,hx];rfl
def k30{np:Nat}(hp:`aSl)(i:Int)(h0:`g!)(h1:i<np):ixD (`C4) `fF=`c (`t (`agr))/\`agr∈nm:=by
 have hl:=hp.len;have J:`e1<`da:=`H
 refine`LY
 ·show atI (`Hr `fZ) i=_
  rw[vp0 h0 `lw `x];simp[`bO,J]
 ·rw[show `agr=nm[i.toNat] by simp[`bO,J]]
  exact d4 J
def getD_inj{np:Nat}(hp:`aSl)(hi:i<np)(hj:j<np)(e:`aSm=`aSn):i=j:=by
 have hl:=hp.len;have h1:i<`da:=`H
 have h2:j<`da:=`H
 rw[show `aSm=nm[i] by simp[`bO,h1],show `aSn=nm[j] by simp[`bO,h2]] at e;exact(x3 hp.nd).mp e
def Ra0{np:Nat}(hnp:`Pk)(P:`ags)(z:Int)(st:Nat)(h1:1<=st)(h2:st<np)(m:Int)(vs:`l)(hl:`cg<=12)(hv:∀v∈vs,`O'):∃ps:`bI,`afT/\(∀p∈ps,p.1∈`av)/\`ir=vs /\
  ∀(s0 s2 s6:Sl),oA `apG xk0 [s0,`b',s2,`tL,`zW,`Ik,s6]=`c (`Il):=by
 have z1:`zO:=`an
 have U:=P.len;obtain⟨ix,O⟩:∃ix:`c2,ix=λ(j:Nat)=>(`aSo).toNat:=`ac
 have M:∀j,`agt=`aSo:=λj=>by
  rw[O];have:=E3 (`If) `aSp;show (((_:Int).toNat:Nat):Int)=_;lia
 have J:∀j,ix j<np:=λj=>by
  have:=P4 (`If) (show `gC<np by lia);have:=M j;lia
 refine#[`aSq,#[by simp;exact hl,`kd,`kd,?_],`kd,?_,λs0 s2 s6=>?_]
 ·apply `agu
  exact P.names _ (`agv).2
 ·apply `agu
  have hj:=`v9;refine(hv _ ?_).ok;rw[show `zV=vs[j] by simp[`bO,hj]];exact d4 hj
 ·rw[`bT]
  refine `WL (`WM (Ak0 ?_ (D80 (n:=`cg))));intro i j hi hj Y e;have hi:=`zS hi;have hj:=`v9;have e:=getD_inj P (J i) (J j) e;have e:((ix i:Nat):Int)=`agt:=`agw
  rw[M,M] at e;exact Y (unlike np hnp (`V!) st h1 h2 i j `j `j e)
 ·apply `agu
  exact(`agv).2
 ·rw[`bT]
  refine t5 `aB λi h1 h2=>?_
  have hi:i<`cg:=`rQ
  simp[`bO,hi]
 ·rw[c7 (ds:=[`o ((`aSq).map pr)]) (`ae (xa0 (items:=sg0 vs) (by
   show `gE (`c [`f0 vs]) go0=_;rfl) (by unfold sg0;rw[`K,`j0];lia) (by
   rw[v50 (λd=>match d with|`w [`fH,v]=>pr (`Ig (ix `h!) "",v)|_=>`x) (λd hd=>by
    unfold sg0 at hd;let#[j,hj,rfl]:=`gG;have hj:=`v9;refine#[[`p6,.sh (`zV),`b',`zW,`Ik],rfl,rfl,?_];refine xl0 (`ae (d:=`t (`aqN)) ?_ (`ae (d:=`zV) rfl rfl)) `In;rw[o4 (x:=`tK) (y:=`f `agt) rfl (by
     rw[M];refine yy0 (i:=`If) (j:=`nh) ?_ ?_ `j
     ·rw[o4 (x:=`f (`V!)) (y:=`f (`b8*`Ie)) rfl (by rw[o4 (x:=`fa) (y:=`V') rfl rfl];exact `O7)]
      rfl
     ·apply `agx
      rw[`K,U])]
    exact(`agv).1)]
   unfold sg0;rw[`bT,`bT];refine C3 `c (b5 `abg);show pr (`Ig (ix (`b8).toNat) "",`zV)=_;rw[`dE];rfl)) rfl)]
  rfl
def kd0(k:Int)(h0:`iW)(hk:k<900000)(cs:`P)(hc:`rz)(sm:`aa)(m:Int)(hm:1<=m)(np:Nat)(hnp:`Pk)(pool:`h)(P:`ags):`aSr:=by
 skip;have z1:`zO:=`an
 have O:=P.len;let#[z,hz,hn]:=ed0 k h0 `j cs hc sm m `av;let#[n,b3,a8]:=ft0 z sm;have fin:∀(q:Pt) (k':Int),k<=k'->`aqO->Gd q m `av->(∀p:`g,∃δ',wq0 `aSs=`c (.rt q.d δ')/\δ'[0]?=`c `aSk)->`aSr:=λq k' a1 a2 a3 a4=>#[q,k',a1,a2,a3,W0 rfl a4]
 have head:∀(p:`g) (G:GSB) (r:`kw),G `agy=r->(p7 `afc
 (p7 `aPE
 (p7 (n6 (ifD `OR
 (v9 `OS
 t6)
 t6)) G))) `aSs=r:=λp G r h=>by
  refine o6 (δ':=[`p4,`b',.un,.un,.un,.un,.un]) (`aRE) ?_;refine o6 (δ':=[`p4,`b',`Ic,.un,.un,.un,.un]) `Pl ?_;exact o6 (a8 p _ _ _ _) h
 have c4:∀(s0 s2 s3 s4 s5 s6:Sl) (j:Int),ob `aSt [s0,`b',s2,s3,s4,s5,s6]=`c (`z (z%4=j)):=λ_ _ _ _ _ _ j=>`tD
 by_cases q0:z%4=0
 ·let#[l,hl,b1,hw]:=N10 `fK `j `j cs hc sm m `av `agz `j
  done;refine fin (`H1 `zG) (k+1+1) `j `j #[Gw.Uu0 l `j λc hc=>Rd0 c (b1 c hc),`agb,λs hs=>by cases hs] λp=>#[[.ow (v7 p (bk (k+1+1) cs sm m `av)),`b',`bp,.un,.un,.un,.un],head p _ _ `l',rfl]
  rw[zz0 (by rw[c4,`af!])];refine Z3 (V3 (Nk0 (d:=`jJ) rfl rfl (z90 (p:=p) (b:=`p3) (ds:=[`f (`agz:Int)]) rfl (`ae (by
   show `c (`as (`V?))=_;rw[show ((`agz:Nat):Int)=`V? by lia]) rfl) hw)))
 let#[vs,a6,hv,a5]:=Xm0 cs hc sm m hm `av (`Dl) `fK `j (`Pm);have rl:(`Dl).length=n:=`Pm
 rw[rl] at a6 a5;have J:∀(p:`g) (Ga G:GSB) (r:`kw),G `Pn=r->p7 (ifB `aPF Ga `D) (p7 `aPG G) `agy=r:=λp Ga G r h=>by
  refine o6 (δ':=`agy) (by rw[M3 (by rw[c4,`af?])];rfl) ?_;exact o6 (Z0 (Np0 (p:=p) rfl `aSc (by rw[rl];lia) a5 3)) h
 by_cases q1:z%4=1
 ·done;refine fin (`l7) `Ih `j `j #[#[`H,λv h=>(hv v h).ok],hv,λs hs=>by cases hs] λp=>#[`Pn,head p _ _ (J p _ _ _ `l'),rfl]
  rw[zz0 (by rw[c4,`bd q1])];apply `Pa
 obtain⟨st,a7⟩:∃st:Nat,`Ie=1+`agA:=#[(1+`agA).toNat,by have:=`aSu;lia];have U:1<=st/\st<np:=by
  have a1:=`aSu;have a2:=P4 (z/156) (show `gC<`Ij by lia);lia
 let#[ps,pk,pin,b0,b2]:=Ra0 hnp P z st U.1 U.2 m vs `j hv;have M:∀(p:`g) (Ga G:GSB) (r:`kw),G `Po=r->(p7 (ifB `afe Ga `D)
 (p7 `aPH
 (p7 `aPI
 (p7 `aPJ G)))) `Pn=r:=λp Ga G r h=>by
  refine o6 (δ':=`Pn) (by rw[M3 (by rw[c4,`b4 q1])];rfl) ?_;refine o6 (δ':=[`Ii,`b',`bp,`tL,`zW,.un,.un]) (Z0 (X8 (d:=`tK) `gB)) ?_;refine o6 (δ':=[`Ii,`b',`bp,`tL,`zW,`Ik,.un]) (Z0 (X8 (d:=`V') ?_)) ?_
  ·rw[o4 (x:=`c_) (y:=`f (`agA)) rfl (yy0 (i:=z/156) (j:=`Ij) rfl (by
    rw[o4 (x:=`agB) (y:=`c_) (by
     apply `agx;rw[`K,O]) rfl]
    rfl) `j),a7]
   rfl
  ·exact o6 (Z0 (X8 (b2 _ _ _))) h
 have Z:∀v∈`ir,`O':=λv h=>hv v (b0▸h)
 have Y:∀s∈`jG,`eF:=λs h=>by
  let#[p,hp,rfl]:=`dx h;exact pin p hp
 by_cases q2:z%4=2
 ·done;refine fin (`l8) `Ih `j `j #[pk,Z,λs hs=>Y s (by simpa [Pt.all,Pt.cls,Pt.pnames] using hs)] λp=>#[`Po,head p _ _ (J p _ _ _ (M p _ _ _ `l')),rfl]
  rw[zz0 (by rw[c4,`bd q2])];exact Z3 (V3 (S6 `agC))
 ·have i0:=E3 (`Io) `aSp
  have i1:=P4 (`Io) (show `gC<`nh by lia);let#[e1,e2]:=k30 P (`Wa) i0 i1;done;refine fin (`lq `aSv ps) `Ih `j `j #[#[P.names _ e2,pk],Z,`aSd] λp=>#[`Po,head p _ _ (J p _ _ _ (M p _ _ _ (o6 (δ':=`Po) (by rw[M3 (by rw[c4,`b4 q2])];rfl) `Pp))),rfl]
  ·rcases `dM hs with q|q
   ·exact Y s q
   ·rw[`C8];exact e2
  ·refine xl0 (`ae rfl (`ae (d:=`t `aSv) ?_ `jQ)) `aSw
   rw[o4 (x:=`tK) (y:=`f (`Wa)) rfl (yy0 (i:=`Io) (j:=`nh) rfl (by
    apply `agx;rw[`K,O]) `j)]
   exact e1
theorem Y20(cs:`P)(hc:`rz)(sm:`aa)(m:Int)(hm:1<=m)(np:Nat)(hnp:`Pk)(pool:`h)(P:`ags):∀(items:`l) (k:Int),`iW->k+14*`b_<900000 ->
  ∃(ps:`b2) (k':Int),`aA=`b_/\(∀p∈ps,`aqP)/\y00 `a8 `aff 1 `p! `bs `gA=`c (`jF Pt.d,`zT)
 | [],k,_,_=>#[[],k,rfl,`agb,rfl]
 | `ay,k,h0,hk=>by
  skip;simp only[`Z] at hk;let#[p,k1,a1,a2,hp,e]:=kd0 k h0 `j cs hc sm m hm np hnp `av P;let#[ps,k2,hl,J,ih]:=Y20 cs hc sm m hm np hnp `av P ds k1 `j `j;done;refine#[`l1,k2,`agc,`kp,?_]
  ·apply `va
   ·exact hp
   ·exact J x hx
  ·have c:S5 1 v5 N5 `V0=`c (p.d,[`et,.ow `aSx]):=`aRH
   unfold y00;apply `aRI;show ((y00 `a8 `aff 1 `p! ds `aSx).map λq=>(p.d::q.1,q.2))=_;rw[ih];rfl
def S80(xs:`l)(k:Nat):`sV xs (`c `dR) `e=`AY k:=by
 unfold cutD sIx;simp only[];rw[`Dn,`dE]
 by_cases q:k<=`aG
 ·rw[`Pq q,`atn (by rw[`iF];exact `jl)]
 ·rw[`aSy,`aSz `bi,`aSz `j,List.take_nil]
def comp_own{δ:Ds}{k:Int}{cs:`P}{sm:`aa}{m:Int}{vs:`l}{gi:GA}{f:`al}{k':Int}(h0:`cl=`c (.ow `gA))(hi:`L4)(hl:`q3)
  (hc:`aSj) :
  v10 1 [i] i 1 gi `a8 `V7 δ=`c (`zU,`bj i (.ow (`zT))):=by
 unfold v10;rw[h0];show (`vh _)=_;rw[hi,`n,`ps];have e:zb0 1 [i] δ=`p!:=by
  show`Dm++[ke0 `cl]=_;rw[h0];rfl
 rw[e];show ((`V8).bind _)=_;rw[hc];rfl
def Op0{δ:Ds}{d:D}(h:`O5):jq0 gx δ=`sR:=by unfold jq0;rw[h];rfl
def M80{f:`Q}{δ:Ds}{d r:D}(h:`O5)(hf:f [d]=`ew):bb0 f gx δ=`Pj:=by
 unfold bb0;rw[h,`n];show (f [d]).map _=_;rw[hf];rfl
def bk3(cs:`P)(sm:`aa):D:=`cj (`p [`af_,`af0,`af1]) [`fX,`nd,`ry]
def bk4(cs:`P)(sm:`aa)(m:Int):D:=`cj (`p [`af_,`af0,`af1,`q `Vw]) [`fX,`nd,`ry,`f m]
def Zu0(ns:`P)(hl:`eY<=1000)(s:Nat)(hs:s<=1000):∃(ps:`b2) (pool:`h),1<=`aA/\`agD/\`agE<=53/\(∀p∈ps,`aSA)/\xd0 `agF=`c (`aSB):=by
 skip;have z1:(5000:Nat)<=`S:=`an
 obtain⟨f,hf⟩:∃z,S7 `agF=`O8:=Gw.Xy0 ns `p7 `j;obtain⟨cs,Y⟩:∃cs,cs=`aSC++[f]:=`ac;have cne:`rz:=by rw[Y];simp
 obtain⟨sm,a1⟩:∃sm:`aa,sm=`z (f/8%8=3):=`ac;obtain⟨np,a3,Z⟩:∃np:Nat,(`Pk)/\∀δ:Ds,`aSD->o2 `aPP `aPQ ixD δ=`c (`agB):=by
  have ix:∀δ:Ds,`aSD->o2 `apM `c? m8 δ=`c (`f (f/5%2)):=fun δ h=>yy0 (i:=f/5) (j:=2) `Do rfl `s
  have:f/5%2=0∨f/5%2=1:=`H
  rcases `E with q|q
  ·exact#[13,`mk,fun δ h=>by rw[o4 (x:=`aSE) (y:=`fX) rfl `aSF];rfl]
  ·exact#[53,`o7,fun δ h=>by rw[o4 (x:=`aSE) (y:=`c_) rfl `aSF];rfl]
 let#[pool,J,P]:=Pb0 (f/11%(`agG)) np `j;obtain⟨m,U,a4⟩:∃m:Nat,`kX=(`aSG)/\1<=m/\m<=60:=#[(`aSG).toNat,`agm,`agm];let#[ps,k',O,a2,M]:=Y20 cs cne sm `kX `j np a3 `av P (`aSH) 0 `j (`Pm);have rl:(`aSH).length=m:=`Pm
 rw[rl] at O;done;refine#[ps,`av,`H,`H,by have:=P.len;lia,λp hp=>by rw[O];exact a2 p hp,V9 rfl ?_];refine t7 (δ':=`Dp) (X8 (d:=`f f) (by rw[c7 (ds:=`agF) rfl];exact hf)) ?_;refine t7 (δ':=[`gD,`zX,`zY,.ow `aSI]) ?_ ?_
 ·have e1:o2 `apH `apI m7 `Dp=`aRh:=by
   rw[o4 (x:=`o ((`aSC).map `f)) (y:=`o [`f f]) (by
    rw[oe0 (d:=`iz) (l:=`aSJ) (h:=`e) rfl rfl rfl];show `c (`f0 (`sV `af7 (`aSJ) `e))=_;rw[S80,`aSK]) rfl]
   simp only[m7];rw[`R (by rw[`K,`iF];apply `tC;lia),Y,`a4];rfl
  have e2:o2 `apJ `hn eqD `Dp=`c (`ry):=by rw[a1];rfl
  have e3:hf0 `aPN `Dp=`c `aSI:=by
   unfold hf0;rw[show uf0 `ln `aX `apL `Dp=`c [(`lk,`fX),(`apm,`nd),(`apx,`ry)] from by
    unfold uf0;rw[e1,e2];rfl]
   kernel_rfl
  unfold zj0;rw[e3];rfl
 refine t7 (δ':=[`gD,`zX,`zY,.ow (bk4 cs sm (1+f%8))]) `gB ?_;refine t7 (δ':=`aSL) ?_ ?_
 ·cases sm with
  | true =>
   rw[U,`bA,`kD];kernel_rfl
  | false =>
   rw[U,`it,`qt];rfl
 refine t7 (δ':=[`gD,`zX,`zY,.ow (bk 0 cs sm `kX `av)]) ?_ `p5
 ·refine u50 (d:=`tK) (δ1:=`aSL) `aqE `gB
  rw[c7 (ds:=[`f (f/11%(`agG)),`agB]) (`ae (yy0 (i:=f/11) (j:=`agG) rfl `gB `s) (`ae (Z _ rfl) rfl))];exact J
 ·exact Op0 (M80 (d:=`o `Ip) (comp_own (k:=0) rfl (o10 (`ae (d:=`WD) `gB rfl) `j `j) (by rw[rl];lia) M) rfl)
universe Bt
namespace Rk
open DL W Rm
open Bt (W0 o6 Z3 Z0 zz0 M3 V3 S6 Z6)
def kindS:Nat->Str
 | 0 => `zo
 | 1 => `zp
 | 2 => `zq
 | _ => `tu
def Z2:`bM->Str
 | `tY => `VM
 | `ee => `HS
 | `jT => `nb
 | `nc => `tx
 | .cls => "class"
 | `b! => "end"
def W2(S:RS)(k:Nat):D:=`w [`t (`qf `aSM),`WT]
def inst(S:RS):D:=`w [`t `G,`o [`t `zB,`asV,`t `tz,`t `jN,`t `ty,`t `lp,`t `ht,`t `m?],
 `o [`f (`t_:Int),T8 1,T8 2,T8 3,T8 4,`Wf,`Is,`tP]]
def nodes(S:RS):`l:=`gd::`Dq::`agH::`z6::`Wp::`qc λp=>`o p.2
def R(S:RS):D:=`w (`m5::`Ir)
theorem Md0:y30 (V40 `G) []=`c (`x,R `jo) :=
 ih0 rfl λp=>`q #[rfl,[.ow (v7 p (R `jo))],`cM,rfl]
section
variable(p:`g)(S:RS)(δ:Ds)
theorem y50:dpN 0 `aU=`c `z3:=rfl
def Xu0:j6 0 `G `iv `dA `aU=`agI:=`cM
def p70:j6 0 `G `tz `dA `aU=`agJ:=`cM
def ly0:j6 0 `G `jN `dA `aU=`aSN:=`cM
def sz0:j6 0 `G `ty `dA `aU=`c (T8 4):=`cM
def Rk0:j6 0 `G `lp `dA `aU=`aSO:=`cM
def P60:j6 0 `G `ht `dA `aU=`aSP:=`cM
def Sk0:j6 0 `G `m? `dA `aU=`aSQ:=`cM
def j50:J9 0 `jM `aU=`c (`agK):=by
 unfold J9;rw[sz0,`n,y50];show `c (`as (`agL:Int))=_;rw[`K,`iB]
def pi0:J9 0 `p1 `aU=`c (`Pr):=by
 unfold J9;rw[Xu0,`n,y50];show `c (`as ((`tN).length:Int))=_;rw[`K,`j0]
def kx0:J9 0 `iw `aU=`c (`agM):=by
 unfold J9;rw[p70,`n,y50];show `c (`as ((`ni).length:Int))=_;rw[`K,`iB]
def mt0:J9 0 `na `aU=`c (`Ps):=by
 unfold J9;rw[ly0,`n,y50];show `c (`as (`aSR:Int))=_;rw[`K]
universe zz
theorem nd0(S:RS):U4 `bG []=`c (.bl (`z (`v')),R S):=W0 rfl λp=>#[`eR,show s40 `eR=_ from Z3 (V3 (S6 (by
 rw[o4 (x:=`agK) (y:=`fX) (j50 p S []) rfl];show `c (`aO (`z (`Wg=0)))=_;congr 2
 by_cases h:`v'
 ·rw[`fd,`bd (by rw[h];rfl)]
 ·rw[`fm,`b4 (λz=>h (D90 `j))]))),rfl]
def xp0(k:Nat):wt0 (T8 k)=`e6:=by
 unfold T8 wt0;exact xi0 k
def ot0{es:`l}{k:Nat}{z:Int}(h:`hl=`hT):lt0 ns (T8 k) `jI=atI es z:=by
 unfold lt0 T8;simp only[xi0,h]
def item_tup{z:Int}(h:`js=`e):lt0 ns `sC `jI=atI ds z:=by
 unfold lt0;simp only[h]
structure Ok(S:RS):Prop where
 un:∀k∈`b0,`v!
 few:`Pt
 held:∀p∈`eD,p.2.length<=1000
 wait:`hu<=100000
 names:`agN
def s50(p:`g)(S S':RS)(δ:Ds)(k:Nat)(n:D)(h:`agO k n=`z_ S'):`db 0 k n `aU=`ql::δ:=by
 show Sl.ow (`w [`f `p8,`w (`m5::`agO k n)])::δ=_;rw[h];rfl
def Wo0{S:RS}(h:∀k:Nat,(S'.begun.getD k `p?).1=`aSM):W2 S'=W2 S:=by
 funext k
 unfold W2;rw[h]
def put(S:RS)(k:Nat)(d:D):RS:={ S with begun:=`rx }
def Qv0(S:RS)(k:Nat)(d:D)(j:Nat):((`Wi).begun.getD j `p?).1=(`aqQ j `p?).1:=by
 show ((`rx).getD j `p?).1=_;rw[`bO,`bO,`l?];cases `eD[j]? with
 | none=>rfl
 | some a =>
  by_cases q:k=j
  ·simp[q]
  ·simp[q]
def Sd0(S:RS)(k:Nat)(d:D)(q:`eB)(hk:`jV):`agO (k+5) `aq1=`z_ `tR:=by
 show `gd::`Dq::`agH::`z6::`Wp::`aSS=_;have e1:`aSS=(`rx).map `aq0:=by
  apply Al0;intro i;rw[`bN,`l?,List.getElem?_set,`bN,`K]
  by_cases z:k=i
  ·subst z
   have hl:=(`cU hk).1;rw[`bA,`ps,hk];simp
  ·rw[`n8]
   simp[z]
 rw[e1,← Wo0 (Qv0 S k d)];show _=inst `tR::`o ((`bw (`rx).length).map (W2 `tR))::_;rw[`rB];rfl
def In0(p:`g)(S:RS)(δ:Ds)(k:Nat)(u:`i)(h:`hy):J0 0 `VN `aD `aU=`c (`WT):=by
 have e1:J0 0 `iw `iu `aU=`c (`Ac):=by
  unfold J0;rw[p70,`n,`aST,`n,y50,`n];rw[`aSU];rw[h,`eL,`a4];exact `agP
 unfold J0 at e1 ⊢;rw[e1,`n,show gc (`c_) (`qd::δ)=`c (`c_) from rfl,`n,y50,`n];unfold W2;rw[item_tup rfl];rfl
theorem Ta0{G:GSB}{b:D}(hl:`vR)(h:∀p,∃δ',G `pQ=`dv/\`N3):`UK=`c (`x,b'):=ih0 hl λp=>`q #[rfl,h p]
def wk0(S:RS):RS:={ S with wait:=`l9 }
def Xd0(S:RS):RS:={ S with digits:=0 }
def Mg0(S:RS)(d:D):`iA=Xd0 (wk0 (match `b0 with|[]=>S|k::_=>`Wi)):=by
 skip;let#[c,b,u,n,w,dg,l,sp]:=S;done;cases u<;>rfl
def Zb0(p:`g)(S:RS)(δ:Ds)(h:`ma):popS 0 `jM `aU=`c (.nx (.ow (v7 p (R `v?))::δ)):=by
 unfold popS;rw[sz0,`n,y50,`n,xp0,`n];show (if (`tQ)=[] then `e else `c (`jc (`db 0 4 (`o (`tQ).dropLast) _)))=_;rw[`ap `hB,s50 p S `v?];cases e:`dB with
 | nil=>exact `I e h
 | cons w ws =>
  show `gd::`Dq::`agH::`z6::`o ((`tT).reverse.map `qa).dropLast::`qc _=inst `v?::`o (`aqS (W2 `v?))::`o (`aqT (W2 `v?))::`z6::`o (S.wait.tail.reverse.map `qa)::`qc _;rw[e,`eL,`a4,`Dr,`Pu];rfl
def ig0(p:`g)(S:RS)(δ:Ds)(g:GE)(z:Int)(hg:`wa=`O8):u30 0 `G `lp g `aU=`c (.nx (.ow (v7 p (R { S with digits:=z }))::δ)):=by
 unfold u30;rw[hg,`n];kernel_rfl
def Rf0(p:`g)(S:RS)(δ:Ds)(k:Nat)(u:`i)(h:`hy)(hk:`v!)(g:GE)(d:D)(hg:`wa=`a7)(hn:`ky)(hl:∀q∈`eD,`Jd<=1000) :
  j4 (yu0 0 `aQr g) `aU=`c (.nx (`aSV::δ)):=by
 apply `rC
 have e:`Wj=`c S.begun[k]:=C2 hk;have hq:=hl _ (d4 hk);apply `wb;rw[In0 p S δ k u h,`n,hg,`n,y50,`n,xp0,`n];have e2:`ars=`c (`o S.begun[k].2):=by
  show `agQ;rw[`bN,e];rfl
 rw[e2];show `eQ _ (if `ky/\S.begun[k].2.length<`S then _ else `e)=_;rw[`R #[hn,`H],s50 p S `tR δ _ _ (Sd0 S k d _ e)];rfl
def pz0(S:RS)(ok:`fy)(hw:`ma)(d:D)(hn:`ky):X7 `bG [d]=`c (`x,R (`iA)):=by
 refine Ta0 rfl λp=>#[[`aq?,`et],?_,rfl]
 show rh0 `agR=_;have c0:ob `aQq `agR=`c (`z (0<`aY)):=by
  apply `cS;rw[o4 (x:=`agM) (y:=`fX) (kx0 p S _) rfl];show `c (`aO (`z (`gC<`aqZ)))=_;congr 2;apply `hV
 have rest:∀S1:RS,`nC=`dB->p7 `aQs (p7 `aQt `D) [`are,`et]=`c (.nx [.ow (v7 p (R (Xd0 (wk0 S1)))),`et]):=λS1 h1=>by
  refine o6 (Z0 (Zb0 p S1 [`et] (by rw[h1];exact hw))) (o6 (Z0 (ig0 p (wk0 S1) [`et] `aX 0 rfl)) rfl)
 rw[Mg0];cases hu:`b0 with
 | nil =>
  refine o6 (δ':=`agR) ?_ (`bh S rfl);rw[M3 `aSW];rfl
 | cons k u =>
  refine o6 (δ':=[`aSV,`et]) ?_ (`bh `tR rfl);rw[zz0 `aSW];exact o6 (Z0 (Rf0 p S [`et] k u hu (`aSX) `ab d rfl hn `Xb)) rfl
def ja0{a b:`bM}:Z2 a=Z2 b↔a=b:=by
 constructor
 ·intro h
  cases a<;>cases b<;>first|rfl|exact `I h `gJ
 ·rintro rfl;rfl
def l90(p:`g)(S:RS)(δ:Ds)(w:`bM)(ws:`a!)(h:`di):plN (J0 0 `jM `iu) `aU=`agS:=by
 unfold plN J0;rw[sz0,`n,`aST,`n,y50,`n,ot0 (es:=`tQ) rfl,h,`eL,`a4];have:atI (ws.reverse.map (`qa)++[w].map `qa) (-1)=`agS:=`agP;rw[`E];rfl
def fx0(p:`g)(S:RS)(δ:Ds)(w:`bM)(ws:`a!)(h:`di)(v:`bM):ob (o2 `p0 `aSY eqD) `aU=`aSZ:=by
 apply `cS;rw[o4 (x:=`zZ) (y:=`aq3) (l90 p S δ w ws h) rfl];apply `aS_;congr 2;exact `agT
def Ms0(p:`g)(S:RS)(δ:Ds)(k:Nat)(u:`i)(h:`hy):popS 0 `iw `aU=`c (.nx (.ow (v7 p (R `aS0))::δ)):=by
 unfold popS;rw[p70,`n,y50,`n,xp0,`n];show (if (`ni)=[] then `e else `c (`jc (`db 0 2 (`aS1) _)))=_;rw[`ap (by rw[h];simp),s50 p S `aS0];show `gd::`Dq::`aS1::_=`gd::`Dq::`o (u.reverse.map `Iq)::_;rw[h,`eL,`a4,`Dr,`Pu]
def ET:GB:=`aQo
def EB:GS:=(v9 `VO
 (v9 (popS 0 `iw)
 t6))
def I50(p:`g)(S:RS):ET `eR=`c (`z (S.wait.head?=`c `b!)):=by
 have c0:ob `aqd `eR=`c (`z (0<`hu)):=by
  apply `cS;rw[o4 (x:=`agK) (y:=`fX) (j50 p S _) rfl];show `c (`aO (`z (`gC<`Wg)))=_;congr 2;apply `hV
 unfold ET ui0;rw[c0];cases h:`dB with
 | nil=>rfl
 | cons w ws =>
  show ob _ _=_;rw[show ("end" : Str)=Z2 `b! from rfl,fx0 p S [] w ws h `b!];simp
theorem d80(p:`g):∀(w:`a!) (S:RS) (n:Nat),`dB=w->`dV<n->w.count `b!<=`aY->U3 ET EB n `eR=`c (.nx `aS2)
 | w,S,0,_,h,_=>`I h `aS3
 | w,S,n+1,hw,hn,hc=>by
  unfold U3;rw[I50];cases w with
  | nil =>
   have e:`lt=S:=by
    skip;apply `aS4;have:w=[]:=hw;subst this;done;rfl
   rw[hw,e];rfl
  | cons v ws =>
   rw[hw]
   by_cases hv:v=`b!
   ·subst hv
    rw[show `z ((`Xp).head?=`c `Wm)=`d from rfl];cases hu:`b0 with
    | nil =>
     apply `aS5;simp at hc
    | cons k u =>
     have hb:EB `eR=`c (.nx [.ow (v7 p (R `agU))]) :=
      t7 (Zb0 p S [] (`agV)) (t7 (Ms0 p `v? [] k u hu) rfl)
     simp only[hb];have ih:=d80 p ws `agU n (by show `l9=ws;rw[hw];rfl) (by simp at hn;lia) (by
      apply `aS5;show _<=`lD;simp at hc;exact hc)
     rw[ih];have e:(`agU:RS).ends=`lt:=by
      skip;let#[c,b,u',nm,w,dg,l,sp]:=S;have h1:w=`iJ:=hw;have h2:u'=k::u:=hu;subst h1 h2;done;rfl
     rw[e]
   ·have e:`lt=S:=by
     skip;apply `aS4;have:w=v::ws:=hw;subst this;done;cases v<;>first|rfl|exact `aS6
    rw[`b4 `_s,e]
theorem Y50(S:RS)(hl:`wc)(hc:`mb):J3 `bG []=`c (`x,R `lt) :=
 Ta0 rfl λp=>#[`aS2,show va0 `eR=_ from o6 (Z0 (d80 p `dB S 100000 rfl hl hc)) rfl,rfl]
def y70{f:`al}{gA:GA}{p:`g}{S:RS}{δ:Ds}{r:D}(hA:gA `aU=`pk)(hf:`aS7):W7 0 `G p6 gA f `aU=`c (r,`ql::δ):=by
 have h:`Wo:=`cM
 unfold W7;show `aS8;rw[`cQ,hA,`n];show `eQ _ (`Wn)=_;rw[hf];rfl
def vm0(S:RS)(kd:Nat):RS:={ S with begun:=`Iu,un:=`aS9 }
theorem ir0(S:RS)(kd:Nat):∀k,`v!->W2 `op k=`Ac:=λk hk=>by
 unfold W2;show `b9 [`t (`qf (`aS' k `p?).1),_]=_;rw[`bO,`g9 hk,← `bO]
def Vu0(S:RS)(kd:Nat):W2 `op `dC=`Pv:=by
 unfold W2;show `b9 [`t (`qf (`aS' `dC `p?).1),_]=_;rw[`bO,`kz,`gX];rfl
def Yp0(S:RS)(kd:Nat)(hu:∀k∈`b0,`v!):`z_ `op=`gd::`o (`tN++[`Pv])::`o (`ni++[`Pv])::`aS!:=by
 show `gd::`o ((`bw (`Iu).length).map (W2 `op))::`o ((`aS9).reverse.map (W2 `op))::`bU::`bU::(`Iu).map (`aq5)=_;rw[`O,`ds,`agp,`a4,`Dr,`eL,`a4,`Dr,`a4,Vu0,
  `aS? (g:=W2 S) (λk hk=>ir0 S kd k (`zS hk)),`aS? (g:=W2 S) (l:=S.un.reverse) (λk hk=>ir0 S kd k (hu k (List.mem_reverse.mp hk)))]
 rfl
def P40(p:`g)(S:RS)(kd:Nat)(s2 s3:Sl)(hu:∀k∈`b0,`v!)(h1:`dC<=1000)(h2:`Pw) :
  qp0 0 3 `ab `p1 `iw `agW=`c (.nx [.ow (v7 p (R `op)),`tU,s2,.un]):=by
 skip;apply `rC
 obtain⟨dp,M⟩:∃dp:D,dp=`Pv:=`ac;have O:(`Ir).length=`dC+5:=by
  show (`Wk).length+5=_;rw[`K]
 obtain⟨L,hL⟩:∃L:`l->`l->`l,L=λb u=>`gd::`o b::`o u::`aS!:=`ac
 obtain⟨N0,J⟩:∃N0:`l->`l->D,N0=λb u=>`w (`m5::L b u):=`ac
 have dN:∀(b u:`l) (δ:Ds),dpN 0 `Ds=`c (L b u):=λb u δ=>`agX
 have a0:(s00 0 `ex `agW).set 3 .un=[.ow (v7 p (N0 (`tN) (`ni))),`tU,s2,.un]:=by rw[J,hL];rfl
 have fb:∀(b u:`l) (δ:Ds),j6 0 `G `iv `dA `Ds=`agI:=`aTa
 have fu:∀(b u:`l) (δ:Ds),j6 0 `G `tz `dA `Ds=`agJ:=`aTa
 have a1:∀(b u:`l) (δ:Ds),`lr<`S->rb0 0 `p1 dp `Ds=`c (.ow (v7 p (N0 (b++`pT) u))::δ):=λb u δ hb=>by
  unfold rb0;rw[fb,`n,dN,`n,xp0,`n,hL];show (if `lr<`S then `c (`db 0 1 (`o (b++`pT)) _) else `e)=_;rw[`iZ,J,hL];rfl
 have a2:∀(b u:`l) (δ:Ds),`lD<`S->rb0 0 `iw dp `Ds=`c (.ow (v7 p (N0 b (u++`pT)))::δ):=λb u δ hb=>by
  unfold rb0;rw[fu,`n,dN,`n,xp0,`n,hL];show (if `lD<`S then `c (`db 0 2 (`o (u++`pT)) _) else `e)=_;rw[`iZ,J,hL];rfl
 done;unfold qp0;rw[show gv 1 `agW=`c (`nj) from rfl,`n,y50,`n,`R (show `c! (`fZ (`qf kd))=`d from rfl),O,← M,a0,a1 _ _ _ (by rw[`K,`j0];lia),`n,a2 _ _ _ (`aTb)];have e:N0 (`tN++`pT) (`ni++`pT)=R `op:=by
  rw[J,hL,M];show `b9 _=`w (`m5::`z_ `op);rw[Yp0 S kd hu]
 rw[e];rfl
def wd(w:`a!):`l:=w.map `aqX
theorem Sj0(w:`a!):∀n:Nat,(`a1 n (`tV)).flatten=`aTc
 | 0=>rfl
 | n+1=>by
  rw[`f9,`kn,Sj0 w n,`f9,`kn];unfold wd;rw[`a4]
theorem ec0(w:`bM):∀n:Nat,(`a1 n [w]).flatten=`a1 n w
 | 0=>rfl
 | n+1=>by rw[`f9,`kn,ec0 w n,`f9];rfl
def it0(w:`a!)(hw:w≠[])(hl:`dV<=2)(n:Nat)(hn:n<=100):mulL (`o (`tV)) `H'=`c (`o (`aTc)):=by
 show (if `tV≠[]/\0<=`ct/\`ct<`fq/\`agY*`aTd<=`UC then `c (`f0 (`a1 `aTd (`tV)).flatten) else `e)=_;have h1:`tV≠[]:=by unfold wd;simpa using hw
 have h2:`agY<=2:=by unfold wd;rw[`K];exact hl
 have h3:`agY*n<=2*100:=Nat.mul_le_mul h2 hn;rw[`R #[h1,`H,`H,by rw[`dE];lia],`dE,Sj0]
def Sc0(kd:Nat)(hk:`oq)(n:Nat)(hn:n<=100):vw0 `agZ=`c (`aTe):=by
 apply `kC
 have c:∀(a b:Str),ob `aTf [.sh (`hg),`bp]=`aTg:=`aTh
 apply `Dt
 ·refine `v7;show ifD _ _ _ [.sh (`jJ),`bp]=_;apply `wd;apply `v8;rw[o4 (x:=`o (wd [`jT])) (y:=`ib) rfl rfl,it0 [`jT] `aB `aB n hn,ec0];rfl
 ·refine V9 rfl (t7 (δ':=`aTi) (by show ifD _ _ _ `aTi=_;apply `qh;rfl) `p5);apply `wd;apply `v8;rw[o4 (x:=`o (wd [`ee])) (y:=`ib) rfl rfl,it0 [`ee] `aB `aB n hn,ec0];rfl
 ·refine V9 rfl (t7 (δ':=`ag_) (by show ifD _ _ _ `ag_=_;apply `qh;rfl) (t7 (δ':=`ag_) `we `p5));apply `wd;apply `v8;rw[`aTj,`aTk];rfl
 ·refine V9 rfl (t7 (δ':=`Px) (by show ifD _ _ _ `Px=_;apply `qh;rfl) (t7 (δ':=`Px) `we (t7 (δ':=`Px) `we `qm)));rw[o4 (x:=`o (wd [.cls])) (y:=`o (wd `afW)) rfl (by
   rw[`aTj];exact `aTk)]
  simp only[m7];have hl:`ag0=n*2:=`a6
  rw[`R (by unfold wd;rw[`K,`K,hl];simp;lia)];rfl
def Mc0(kd:Nat)(hk:`oq):u90 [`nj]=`c (`aTl):=by
 apply `Dt
 ·kernel_rfl
 ·kernel_rfl
 ·kernel_rfl
 ·kernel_rfl
def await(S:RS)(w:`a!):RS:={ S with wait:=w++`dB }
def Qw0(p:`g)(S:RS)(δ:Ds)(w:`bM)(hl:`wc):j4 (yu0 0 `jM (gc `z5)) `aU=`c (.nx (.ow (v7 p (R `aTm))::δ)):=by
 have z:`aTn:=`an
 apply `wb;rw[sz0,`n,show gc `z5 (`qd::δ)=`agS from rfl,`n,y50,`n,xp0,`n];show `eQ _ (if nrf `z5=`d/\`agL<`S then `c (`nB,`db 0 4 (`aTo) _) else `e)=_;rw[`R #[rfl,`aTb],s50 p S `aTm]
 ·rfl
 ·show `gd::`bU::`bU::`bU::`aTo::_=`gd::`bU::`bU::`bU::`o ((w::`dB).reverse.map `qa)::_
  rw[`eL,`a4];rfl
def Pc0(p:`g)(S:RS)(δ:Ds)(g:GE)(ws:`a!)(hg:`wa=`c (`o `Wr))(hl:`hu+`Lm<100000):j4 (bi0 0 `jM g) `aU=`c (.nx (.ow (v7 p (R `aTp))::δ)):=by
 have z:`aTn:=`an
 have hf:∀ws:`a!,`aTq:=λws=>by
  refine vz0 ?_;unfold flats wd;rw[`jb];intro d hd;rw[List.mem_reverse] at hd;let#[w,_,rfl]:=`gG;rfl
 unfold j4 bi0;rw[sz0,`n,hg,`n,y50,`n,xp0,`n];show `eQ _ (if `aTq/\`agL+(wd ws).reverse.length<=`S then `c (`nB,`db 0 4 (`aTr) _) else `e)=_;rw[`R #[hf ws,by unfold wd;rw[`K,`iB,`iB,`K];lia],s50 p S `aTp]
 ·rfl
 ·show `gd::`bU::`bU::`bU::`aTr::_=`gd::`bU::`bU::`bU::`o ((ws++`dB).reverse.map `qa)::_
  rw[`ag1,`a4];unfold wd;rw[← `ag2];rfl
def ji0(k:Nat):nrf (`qi k)=`d:=by
 unfold link nrf;rw[`bz];refine#[?_,rfl];show (yq0 `aQ?).isNone=`d;show (if (`tq : Str) = "@" then `c (`dR).toNat else `e).isNone=`d;rw[`ap `gJ];rfl
def jc0(S:RS)(d:D):(`iA).begun.length=`dC:=by
 unfold RS.hold;cases `b0 with
 | nil=>rfl
 | cons k u=>exact `rB ..
theorem e90(S:RS)(d:D):(`iA).un=`b0:=rfl
theorem vk0(S:RS)(d:D):(`iA).wait=`l9:=rfl
def rr0(S:RS)(kd:Nat)(n:Nat):RS:=`Iv `aTs (`qg)
def n60(kd n:Nat)(hn:n<=20):(`qg).length<=50:=by
 have hl:`ag0=n*2:=`a6
 match kd with
 | 0=>show `aTt;rw[`qZ];lia
 | 1=>show `aTt;rw[`qZ];lia
 | 2=>show `ag0<=_;rw[hl];lia
 | k+3=>show (Want.cls::`aTu).length<=_;rw[`Z,hl];lia
def ca0(S:RS)(ok:`fy)(hw:`ma)(hl:`ag3)(hul:`Pw)(kd:Nat)(hk:`oq)(n:Nat)(h1:`ag4)(h2:`ag5):G8 `bG `agZ=`aTv:=by
 apply `aTw
 refine W0 rfl λp=>#[[`aTx,`tU,`bp,.un],?_,rfl]
 show ws0 `Du=_;have c1:ob `aQx `Du=`bv:=by
  apply `cS;rw[o4 (x:=`ib) (y:=`aTl) rfl (by rw[c7 (ds:=[`nj]) rfl];exact Mc0 kd hk)];show `c (`aO (`z ((if kd=0 then (20:Int) else 12)<`ct)))=_;rw[`b4 (by split at h1<;>split<;>lia)]
 have c2:ob `aQy `Du=`bv:=by
  apply `cS;rw[o4 (x:=`Pr) (y:=`Vu) `Py rfl];show `c (`aO (`z (`qb=60)))=_;rw[`f1]
 refine o6 (δ':=`Du) (by
  rw[M3 (by unfold wg0;rw[c1];exact c2)];rfl) ?_
 have hh:X7 `bG [`Ws]=`c (`x,R `Iw):=pz0 S ok hw _ (ji0 _);have ca:W7 0 `G p6 `aQz X7 `Du=`c (`x,`aTy) :=
  y70 (`ae (xl0 (`ae rfl (`ae `Py rfl)) `vM) rfl) hh
 refine o6 (δ':=`aTy) (Z0 (by unfold j4;rw[ca];rfl)) ?_;have O:=`aTz;have few:=`Jb;refine o6 (P40 p `Iw kd (`bp) .un (λk M=>by rw[O];exact `z4 k M) `j hul) ?_;have tl:`aTA<=10000:=by
  rw[vk0,`Ao];lia
 refine o6 (Z0 (Qw0 p `aq' _ `b! (by show `aTA<_;lia))) ?_;refine o6 (Z0 (Pc0 p `aTs _ _ (`qg) (by
  rw[c7 (ds:=[`aTe]) (`ae (by
   rw[c7 (ds:=`agZ) rfl];exact Sc0 kd hk n `j) rfl)]
  rfl) (by
  have:=`aTB;show (`Wm::(`z7).wait).length+_<_;rw[`Z];lia))) ?_
 apply `Pa
def Yf0(n:Int):rv0 [`lu]=`c (`f (up0 n)):=by
 have c:ob `aQA [`tX]=`c (`z (n%2=1)):=`tD
 by_cases h:n%2=1
 ·refine `v7
  show `aTC;rw[`aTD];unfold up0;rw[`cQ];exact `Dv
 ·refine V9 rfl (t7 (δ':=[`tX]) (by show `aTC;rw[Y0 (by rw[c,`fm])];rfl) ?_)
  unfold up0;rw[`dI];exact `Dv
def P00(q:Nat)(hq:q<4):atC `HU (`f (q:Int))=`c (`t (`qf q)):=by
 rcases k4 hq with rfl|rfl|rfl|rfl
 ·kernel_rfl
 ·kernel_rfl
 ·kernel_rfl
 ·kernel_rfl
def Ty0(S:RS)(ok:`fy)(hw:`ma)(hl:`ag3)(hul:`Pw)(kd:Nat)(hk:`oq)(n:Nat)(h1:`ag4)(h2:`ag5):R4 `bG [`f `aTE]=`aTv:=by
 obtain⟨N,hN⟩:∃N:Int,N=`aTE:=`ac;rw[← hN];refine W0 rfl λp=>#[[`aTx,`eC,`z8],?_,rfl]
 show `aTF;refine o6 (δ':=`rD) `Pl `l';rw[zz0 (by
  apply `cS;show `c (`aO (`z (N%4=3)))=_;rw[`l!])]
 refine Z3 (V3 (y70 (`ae (d:=`nj) ?_ (`ae (d:=`ib) ?_ rfl)) (ca0 S ok hw hl hul kd hk n h1 h2)))
 ·show atC _ (`f (N/4%4))=_
  rw[show N/4%4=((kd:Nat):Int) by lia];exact P00 kd hk
 ·show `c (`as (N/4/4))=_
  rw[show N/4/4=`ct by lia]
def Wy0(S:RS)(ok:`fy)(ws:`a!)(hw:`ag6)(N:Int)(d:D)(hn:`ky)
  (h:N%4=1/\d=`f (up0 (N/4))∨N%4=2/\N/4<`qb/\0<=N/\d=`aTG∨N=0/\`pv):R4 `bG [`H?]=`c (`dt,R (`iA)):=by
 have J:`ma:=`agV
 refine W0 rfl λp=>#[`Pz,?_,rfl]
 show `aTF;have cm:∀j:Int,ob `aSt `rD=`c (`z (N%4=j)):=`af9
 refine o6 (δ':=`rD) `Pl ?_;refine o6 (δ':=`rD) (by apply `ag7;rfl) ?_;refine o6 (δ':=`rD) (by
  rw[M3 (by rw[`arc,fx0 p S _ `ee ws hw `tY];rfl)];rfl) ?_
 have hold:∀(gA:GA),gA `rD=`c [d]->p7 (n6 (j4 (W7 0 `G p6 gA X7))) `D `rD=`c (.nx `Pz):=λgA hA=>by
  refine o6 (Z0 (δ':=`Pz) ?_) rfl;unfold j4;rw[y70 hA (pz0 S ok J d hn)];rfl
 refine o6 (δ':=`Pz) ?_ `kE;skip;rcases h with⟨h1,rfl⟩|⟨h1,h2,h3,rfl⟩|⟨h1,rfl⟩
 ·done;rw[zz0 (by rw[cm,`O?])]
  exact hold _ (`ae (by rw[c7 (ds:=[`Ix]) rfl];exact Yf0 _) rfl)
 ·done;apply `ag7
  refine o6 (δ':=[.ow (v7 p (R (`ls (`aTG)))),`eC,`z8]) ?_ rfl;rw[zz0 (by
   unfold ui0;rw[cm,`O?,`n,`bA];apply `cS;rw[o4 (x:=`Ix) (y:=`Pr) rfl `Py];show `c (`aO (`z (N/4<`qb)))=_;rw[`bd h2])]
  refine hold _ (`ae (xl0 (`ae rfl (`ae (d:=`f ((`aq!:Nat):Int)) ?_ rfl)) `vM) rfl);rw[o4 (x:=`f (`qb - 1)) (y:=`Ix) (by rw[o4 (x:=`Pr) (y:=`c_) `Py rfl];rfl) rfl];show `c (`as (`qb - 1 - N/4))=_;congr 2;lia
 ·done;apply `ag7
  apply `aTH;rw[M3 (by
   unfold ui0;rw[cm,`f1];rfl)]
  apply `aTH;rw[zz0 (by
   apply `cS;show `c (`aO (`z (N=0)))=_;rw[`O?])]
  exact hold _ `jQ
def Ii0{ga gb:GE}{δ:Ds}(h:`cv=`nD):`aTI=`nD:=`aTJ
def Jq0{ga gb:GE}{δ:Ds}(h:`cv=`ve):`aTI=`dO:=`aTJ
def Wg0(S:RS)(w:`bM)(ws:`a!)(hw:`di)(n:Int):z50 `bG [`lu]=`c (.bl (`z (`jS∨`aTK)),R S):=by
 refine W0 rfl λp=>#[`PA,?_,rfl]
 show uk0 `PA=_;apply `aga;have c1:o2 `p0 `HW eqD `PA=`c (.bl (`z (`jS))):=by
  rw[o4 (x:=`zZ) (y:=`t (`Wy)) `aTL rfl];show `c (`aO (`z (Z2 w=`Wy)))=_;congr 2;exact `agT
 have c2:o2 (o2 `ab `jL W5) `aQp leD `PA=`c (.bl (`z (`aTK))):=by
  rw[o4 (x:=`f (n*128)) (y:=`f 323) (by rw[o4 (x:=`lu) (y:=`VI) rfl rfl];exact `Wv) `gB];rfl
 by_cases hv:`jS
 ·rw[Ii0 (by rw[c1,`bd hv]),`bd (Or.inl hv)]
 ·rw[Jq0 (by rw[c1,`b4 hv]),c2]
  congr 2;exact `tS #[`q,λz=>z.resolve_left hv]
def d00(p:`g)(S:RS)(δ:Ds):plN `aQB `aU=`aSO:=by
 unfold plN;rw[Rk0];rfl
def Sz0(S:RS)(w:`bM)(ws:`a!)(hw:`di)(b:Int)(hb:128<=b)(h0:`PB≠0)(hg:`jS∨(`PB)*128<=323):`ara=`c (`dt,R { S with digits:=`PB }):=by
 obtain⟨n,hn⟩:∃n,n=`PB:=`ac;rw[← hn] at h0 hg ⊢;refine W0 rfl λp=>#[[.ow (v7 p (R { S with digits:=n })),`dW,`tX],?_,rfl]
 show y80 `iD=_;refine o6 (δ':=`qk) (Z0 (X8 (d:=`lu) (by
  rw[o4 (x:=`aTM) (y:=`f (b%128)) `aTN rfl,hn];rfl))) ?_
 refine o6 (δ':=`qk) (by
  rw[M3 (by
   apply `cS;show `aTO;rw[`f1])]
  rfl) ?_
 refine o6 (δ':=`qk) ?_ ?_
 ·have t1:`PC `afK `qk=`aTP:=by
   unfold DL.liftT;rw[show ob `VQ `qk=`bv from Z6 (by
    show `c (`aO (`z (n=0)))=_;rw[`b4 h0])]
   rfl
  have t2:ut0 `aQC `qk=`aTP:=by
   unfold ut0 R6;rw[y70 `jQ (Wg0 S w ws hw n),`bd hg];rfl
  unfold ifX orT;rw[t1,`n];apply `aTQ;rw[`it,t2];rfl
 ·refine o6 (Z0 (ig0 p S _ `ar n rfl)) `kE
def S70(S S':RS)(b:Int)(hb:0<=b/\b<128)(r:D)(h:R4 `bG [`PD]=`qe):`aTR:=by
 refine W0 rfl λp=>#[[`ql,`dW,.sh (`PD)],?_,rfl]
 show y80 `iD=_;refine o6 (δ':=[`cN,`dW,.sh (`PD)]) (Z0 (X8 (d:=`PD) (by
  rw[o4 (x:=`aTM) (y:=`iC) `aTN (by
   show `c (`as (b%128))=_;rw[Int.emod_eq_of_lt hb.1 hb.2])]
  rfl))) `l'
 rw[zz0 (by
  apply `cS;show `aTO;rw[`bd hb.2])]
 apply `PE
def lj0(S:RS)(w:`bM)(ws:`a!)(hw:`di)(b:Int)(p:`g)(G:GSB)(r:`kw)(h:G `PF=r) :
  p7 (ifX `O1 (p7 `gY `D) `D) (p7 `aQW G) `iD=r:=by
 refine o6 (δ':=`iD) ?_ (o6 (Z0 (X8 `aTL)) h);have t:`aTS=`c (`r,`iD):=by
  unfold R6;apply `ag8;rfl
 unfold ifX;rw[t];rfl
def sv0(w v:`bM)(s0 s1:Sl):ob (o2 `ar `aSY eqD) [s0,s1,`Ww]=`aSZ:=by
 apply `cS;apply `aS_;congr 2;exact `agT
def mu0(S S':RS)(w:`bM)(ws:`a!)(hw:`di)(hv:`Dw)(b:Int)(r:D)(h:`aTR):`ag9:=by
 apply `aTT
 show `PG;refine lj0 S w ws hw b p _ _ `l';rw[zz0 (by
  unfold wg0;apply `ag';apply `ag!)]
 apply `PE
def Yn0(S S':RS)(ws:`a!)(hw:`dB=`jT::ws)(b:Int)(r:D)(h:M8 `bG `nk=`qe):`ag9:=by
 refine W0 rfl λp=>#[[`ql,`dW,`aTU],?_,rfl]
 show `PG;refine lj0 S `jT ws hw b p _ _ (o6 (δ':=[`cN,`dW,`aTU]) ?_ `l')
 ·rw[M3 (by
   unfold wg0;apply `ag';rfl)]
  rfl
 ·rw[zz0 (by apply `aTV;rfl)]
  apply `PE
def mq0(p:`g)(S:RS)(δ:Ds):plN `aqo `aU=`aSP:=by
 unfold plN;rw[P60];rfl
def Px0(p:`g)(S:RS)(δ:Ds):ob `aQX `aU=`c (`z (0<`f_)):=by
 apply `cS;rw[o4 (x:=`Is) (y:=`fX) `ag? rfl];show `c (`aO (`z (`gC<`Wd)))=_;congr 2;apply `hV
def sf0(S S':RS)(w:`bM)(ws:`a!)(hw:`di)(hv:`Dx)(b:Int)(r:D)
  (h:0<`f_/\R7 `bG `nk=`qe∨`PH/\U6 `bG `nk=`qe):`ag9:=by
 apply `aTT
 show `PG;refine lj0 S w ws hw b p _ _ (o6 (δ':=`PF) ?_ (o6 (δ':=`PF) ?_ ?_))
 ·rw[M3 (by
   unfold wg0;apply `ag';apply `ag!)]
  rfl
 ·rw[M3 (by apply `aTV;apply `ag!)]
  rfl
 ·rcases h with⟨h0,h⟩|⟨h0,h⟩
  ·refine `zL
   rw[zz0 (by rw[Px0,`bd h0])];apply `PE
  ·refine o6 (δ':=`PF) ?_ (`arb)
   rw[M3 (by rw[Px0,h0];rfl)];rfl
def Os0(b:Int)(h:`Dy):vn0 `nk=`nD:=by
 have w:u10 `nk=`nD:=rfl;apply `Dz;show pr0 `afL `aQY [`dW]=_;unfold pr0;rw[show ob `afL [`dW]=`e5 from Z6 w,`n,`bA];have e1:leD `HJ `qj=`nD:=by show `c (`aO (`z (0<=b)))=_;rw[`bd h.1]
 have e2:leD `qj `H0=`nD:=by show `c (`aO (`z (`Iy)))=_;rw[`bd h.2]
 unfold oj0;simp only[show gc `HJ [`dW]=`c `HJ from rfl,show gv 0 [`j3 `qj]=`c `qj from rfl,show gc `H0 [`j3 `qj]=`c `H0 from rfl,`n,e1,e2];rfl
def next(S:RS):RS:=(`PI:RS).ends
def Th(S:RS):Prop:=∀q∈`eD,`aha
inductive Runs:RS->`P->`i->RS->Prop
 | nil (S:RS):`eE S [] [] S
 | cons {S S1 S':RS} {b:Int} {r:`P} {us:`i} (hb:`Dy) (ht:`PJ) (hl:`PK) (hc:`DA) (hr:`eE `IA r us S') (th:Th S1) (hk:`ahb):`eE S (b::r) (`aY::us) S'
def Runs.app{S S2:RS}{r:`P}{us vs:`i}(h:`eE S l us S1)(h':`eE S1 r vs S2):`eE S (l++r) (us++vs) S2:=by
 induction h with
 | nil=>exact h'
 | cons hb ht hl hc _ th hk ih=>exact `ai hb ht hl hc (ih h') th hk
def Uw0(p:`g)(S:RS)(δ:Ds):bx0 0 `G `zB `aD `aU=`c (.nx (.ow (v7 p (R `PI))::δ)):=`cM
def GBy:GSB:=(p7 (ifX (orT (`PC `afM) `aQZ)
 (p7 `afN
 `D)
 `D)
 (p7 `aQ_
 (p7 `aQ0
 `D)))
def e70(p:`g)(S S1:RS)(b:Int)(s1:Sl)(hb:`Dy)(ht:`PJ)(hl:`PK)(hc:`DA) :
  GBy `wf=`c (.nx `aTW):=by
 refine o6 (δ':=`aTX) ?_ (o6 (Z0 (Uw0 p S1 _)) (o6 (Z0 (δ':=`aTW) ?_) rfl))
 ·have t1:`PC `afM `wf=`c (`r,`wf):=by
   unfold DL.liftT xw0;rw[show ob `aqu `wf=`e5 from Z6 (by rw[c7 (ds:=`nk) rfl];exact Os0 b hb)];rfl
  have t2:ut0 `aqv `wf=`c (`r,`aTX):=by
   unfold ut0 R6;rw[y70 `jQ ht];rfl
  unfold ifX orT;rw[t1,`n];apply `aTQ;rw[`it,t2];rfl
 ·unfold j4
  rw[y70 (S:=`aTY) (ds:=[]) rfl (Y50 `aTY hl hc)];rfl
open T in
def Sg0(p:`g)(s1:Sl){S:RS}{us:`i}(h:`DB):∀s2,∃s2',oq0 `bL GBy `Wz `aTZ=`c (.nx [`ql,s1,s2']):=by
 induction h with
 | nil S=>exact λs2=>`aT_
 | cons hb ht hl hc _ _ _ ih =>
  rename_i S S1 S' b r us _ _ _;intro s2;let#[s2',e]:=ih (`dW);refine#[s2',?_];rw[`_];unfold oq0;rw[show gN 2 `qj `aTZ=`c `wf from rfl,`n,e70 p S S1 b s1 hb ht hl hc];exact e
def N30{S:RS}{us:`i}(h:`DB):zs0 `bG [`IB]=`c (`x,R S'):=by
 refine ih0 rfl λp=>`q `abF
 let#[J,e]:=Sg0 p (`jU) h .un;refine#[`aT0,?_,rfl];show rl0 `aT1=_;refine o6 (δ':=`aT0) ?_ rfl;show ax0 (re0 `ab) `bL GBy _=_;unfold ax0;rw[show re0 `ab `aT1=`aT2 from rfl,`n];exact e
def Runs.len{S:RS}{us:`i}(h:`DB):`eI=`aR:=by
 induction h with
 | nil=>rfl
 | cons _ _ _ _ _ _ _ ih=>rw[`Z,`Z,ih]
def RunsA(S:RS)(l:`P)(u:Nat)(S':RS):Prop:=∃us,(∀x∈us,x=u)/\`DB
theorem RunsA.nil(S:RS)(u:Nat):`c3 S [] u S:=#[[],`aAn,`L S]
def RunsA.app{S S2:RS}{r:`P}{u:Nat}(h:`c3 S l u S1)(h':`c3 S1 r u S2):`c3 S (l++r) u S2:=by
 let#[us,h1,h2]:=h;let#[vs,h3,h4]:=h';exact#[us++vs,λx hx=>(`W?).elim (h1 x) (h3 x),h2.app h4]
def RunsA.cons{S:RS}{b:Int}{r:`P}{u:Nat}(hb:`Dy)(ht:`PJ)(hl:`PK)(hc:`DA)(hr:`c3 `IA r u S')(th:Th S1)(hu:`aY=u)(hk:`ahb):`c3 S (b::r) u S':=by
 let#[us,h1,h2]:=hr;exact#[_,λx hx=>(`x4).elim (λz=>z.trans hu) (h1 x),`ai hb ht hl hc h2 th hk]
theorem RunsA.one{S:RS}{b:Int}{u:Nat}(hb:`Dy)(ht:`PJ)(hl:`PK)(hc:`DA)(th:Th S1)(hu:`aY=u)(hk:`ahb):`c3 S [b] u `IA:=`ai hb ht hl hc (`ahc) th hu hk
def SB:GS:=(v9 (ifD `aQF
 (v9 `aQG
 t6)
 t6)
 t6)
theorem ep0(b:Nat)(s1:Sl):∀(l:`i) (s2:Sl),(b∈l->`aT3=`c (.rt (`ID)))/\(b∉l->∃s2',`aT3=`c (.nx [`gF,s1,s2']))
 | [],s2=>#[(λh=>by cases h),λ_=>`aT_]
 | c::l,s2=>by
  let#[i1,i2]:=ep0 b s1 l (`WB);have cc:ob `aqm `DC=`c (`z (c=b)):=by
   apply `cS;rw[o4 (x:=`f `iE) (y:=`hv) rfl rfl];show `c (`aO (`z (`iE=`nl)))=_;congr 2;apply `hV
  by_cases h:c=b
  ·subst h
   refine#[`ac7,λn=>`I A7 n];rw[`_];unfold J2;have e:`aT4=`c (.rt (`WA)):=by
    refine Z4 ?_;rw[R9 (by rw[cc,`ahd])];exact `Dv
   show (match `aT4 with|`dv=>`PL|`BV=>`PL|`BW=>`dv|r=>r)=_;rw[e]
  ·have e:SB `DC=`c (.nx `DC):=by
    refine `Pg;rw[Y0 (by rw[cc,`fm])];rfl
   have st:J2 `bL SB ((c::l).map `arf) `arg=J2 `bL SB `IC `DC:=by
    rw[`_]
    conv=>lhs;unfold J2
    show (match SB `DC with|`dv=>`PL|`BV=>`PL|`BW=>`dv|r=>r)=_;rw[e]
   rw[st];exact#[λhm=>i1 ((`PM).resolve_left (λz=>h `pe)),λhn=>i2 λz=>hn (A6 _ z)]
def i20(b:Nat)(s:Str)(l:`i)(hs:`hw=l)(hl:`aR<=100):vh0 [`hv,`cx]=`c (if b∈l then `ID else `x):=by
 have it:∀δ:Ds,jb0 `ab (`gF::`iH::δ)=`c `IC:=fun δ=>by
  show `c (`i1 s)=_;unfold signs;rw[hs];rfl
 let#[i1,i2]:=ep0 b (`iH) l .un
 by_cases h:b∈l
 ·rw[`cQ]
  exact V9 rfl (Z4 (t50 (it _) (i1 h)))
 ·rw[`dI]
  let#[J,e]:=i2 h;exact V9 rfl (t7 (t50 (it _) e) (`Dv))
def U70:(`zA : Str).cps.toList=r00:=`aQ
def Sm0:(`zz : Str).cps.toList=Q0:=`aQ
def cm0(S:RS)(ok:`fy)(hw:`ma)(b:Nat)(hb:b∈r00):M8 `bG [`hv]=`c (`dt,R (`IE)):=by
 refine W0 rfl λp=>#[`aT5,?_,rfl]
 show wx0 `wg=_;refine o6 (δ':=`wh) (Z0 (X8 (by
  rw[c7 (ds:=[`hv,`aQV]) rfl,i20 b _ _ U70 `s,`iZ]))) ?_
 refine o6 (δ':=`wh) (by rw[M3 `gB];rfl) ?_;refine o6 (Z0 (δ':=`aT5) ?_) `kE;unfold j4;rw[y70 `jQ (pz0 S ok hw (X5 [b]) rfl)];rfl
universe Rk
namespace Rk
open DL W Rm StrLaws
open Bt (W0 o6 Z3 Z0 zz0 M3 V3 S6 Z6)
def starts_pre(a b:`i):`T3 (`aE a) (`aE b)=`ahe:=by
 unfold Txt.startswith;rw[subAt_eq,wj0,wj0,zg0,zg0,`dG,List.drop_zero]
 by_cases h:b <+: a
 ·rw[List.isPrefixOf_iff_prefix.mpr h]
  have:=h.length_le;rw[`bd `E,List.prefix_iff_eq_take.mp h];simp
 ·have hf:`ahe=`r:=by
   cases q:`ahe with
   | false=>rfl
   | true=>exact `I (Db0.mp q) h
  rw[hf,Bool.and_eq_false_iff]
  by_cases hl:`lr<=`H6
  ·right
   rw[beq_eq_false_iff_ne];intro z;exact h (z▸List.take_prefix _ _)
  ·left
   exact P7 hl
def Rv0{d:D}{δ δ1 δ2:Ds}(h1:`aBt)(h2:`aBu):J2 f G `hx δ=J2 f G ds δ2:=by
 conv=>lhs;unfold J2
 rw[h1,`n,h2]
def LB:GS:=(v9 `aQD
 t6)
theorem dc0(s0 s1 s2:Sl):∀(k:Nat) (m:Nat) (s4:Sl),∃s4',J2 `fY LB ((`y1 m k).map λ(j:Nat)=>`as `b8) [s0,s1,s2,.sh (`WE),s4]=`c (.nx [s0,s1,s2,.sh (`f ((36 ^ (m+k):Nat):Int)),s4'])
 | 0,m,s4=>#[s4,rfl]
 | k+1,m,s4=>by
  let#[s4',e]:=dc0 s0 s1 s2 k (m+1) (`WF);refine#[s4',?_];rw[`adT,`_];have J:oA `VR V1 `ahf=`c (`HL):=`cM
  have hb:LB `ahf=`c (.nx [s0,s1,s2,.sh (`aT6),`WF]):=by
   refine t7 (X8 (d:=`aT6) ?_) rfl;rw[o4 (x:=`WE) (y:=`HL) rfl J,`Wv,`PN];simp
  rw[Rv0 (δ1:=`ahf) rfl hb,show m+`fK=m+1+k by lia];exact e
def Wv0(names:`kA)(hn:`aR2)(hl:∀n∈`ko,`mc)(L:Nat)(pre:`i)(hp:`dT<=L)(hL:L<=100):xh0 [`arh,`qn,`z!]=`c (.bl (`t2 `ko L pre)):=by
 apply `kC
 let#[J,e]:=dc0 (`ahg) (`qo) (`z?) (`WI) 0 .un;rw[`dG] at e;refine V9 rfl (t7 (δ':=[`ahg,`qo,`z?,.sh (`f ((36 ^ 0:Nat):Int)),.un]) rfl (t7 (δ':=[`ahg,`qo,`z?,.sh (`aT7),J]) (t50 (items:=zr0 0 (`ahh)) (o10 (`ae (d:=`f (`ahh)) ?_ rfl) `j `j) ?_) `qm))
 ·rw[o4 (x:=`qn) (y:=`f `arj) rfl (by
   rw[c7 (ds:=[`z!]) rfl];show (if `aT8<=`S then `c (`as (`aT8:Int)) else `e)=_;rw[zg0,`gc])]
  rfl
 ·rw[← e]
  unfold zr0;rw[show (`ahh - 0).toNat=`WI by lia,`aT9];congr 1;refine `aT'
  rw[`Ne]
 ·have c:=qm0 (f:=gN 0) (gt:=`aQE) (ge:=gv 0) (δ:=[.un,`qo,`z?]) (`aT!) (`N7) (items:=`WG) (λd hd=>by
   let#[n,M,rfl]:=`gG;have U:=hl n M;refine#[`ahi,rfl,?_,`iI];show ui0 _ _ _=`c (`z ((`tO).cps.toList.length=L)&&`VX (`tO).cps.toList);rw[wj0];unfold ui0;have t1:ob `aqk `ahi=`c (`ahj):=by
    apply `cS;rw[o4 (x:=`f `aT?) (y:=`qn) (by
     rw[c7 (ds:=[`We]) rfl];show (if `aUa<=`S then `c (`as (`aUa:Int)) else `e)=_;rw[zg0,`gc]) rfl]
    show `c (`aO (`z (`aT?=`t1)))=_;congr 2;apply `hV
   have t2:ob `aql `ahi=`c (`IF):=by
    apply `cS;show `c (`aO (`T3 (`tO) (`WH)))=_;rw[starts_pre]
   rw[t1,`n,t2];cases `ahj<;>rfl)
  obtain⟨F,hF⟩:∃F:`l,F=((`aUb).filter `aT!):=`ac;have O:`arl=(`WK λn=>`ahj&&`IF).length:=by
   rw[hF,List.filter_map,`K];congr 1
  rw[o4 (x:=`f `aUc) (y:=`aT7) (by
   rw[c7 (ds:=[`o F]) (`ae (xa0 (items:=`WG) rfl `lw (by rw[hF];refine c.trans ?_;rw[List.map_id'])) rfl)];rfl) rfl]
  show `c (`aO (`z (`aUc<`ari)))=_;unfold left;congr 2;rw[O];apply `hV
universe Rk
namespace Rk
open DL W Rm
theorem sub_len'[`DD]:∀{l m:`aN},`aUd
 | [],_,_,_=>`cu
 | a::l,m,hn,h=>by
  rw[`adw] at hn;have ha:=h a A7;have ih:=`wi (l:=l) (m:=m.erase a) hn.2 λb hb=>by
   have J:`mO:=λz=>hn.1 (z▸hb)
   exact(List.mem_erase_of_ne J).mpr (h b (`Kt))
  rw[List.length_erase_of_mem ha] at ih;have:=List.length_pos_of_mem ha;rw[`Z];lia
def words(A:`i):Nat->`kA
 | 0=>[[]]
 | k+1=>A.flatMap λc=>`aUe
theorem d40(A:`i):∀k,(`WJ).length=`aUf
 | 0=>rfl
 | k+1=>by
  unfold words;rw[List.length_flatMap];have:(A.map λc=>(`aUe).length)=A.map λ_=>`aUf:=b5 λc _=>by rw[`K,d40 A k]
  rw[`E,List.map_const',List.sum_replicate_nat,`PN,`aK0]
theorem mr0(A:`i):∀(k:Nat) (w:`i),`dV=k->(∀c∈w,c∈A)->w∈`WJ
 | 0,w,h,_=>by rw[List.eq_nil_of_length_eq_zero h];exact A7
 | k+1,[],h,_=>by cases h
 | k+1,c::w,h,hA=>d5.mpr #[c,hA c A7,`t' #[w,mr0 A k w `hB λx hx=>hA x `o?,rfl]]
def Vi0:Q0.length=36:=`an
def dn0(names:`kA)(hnd:names.Nodup)(hA:∀n∈`ko,∀c∈n,`or)(w:`i)(hw:∀c∈w,`or)(hn:w∉`ko)(pre:`i)(hp:pre <+: w):`t2 `ko `dV pre=`d:=by
 unfold left;refine E4 ?_;have M:((`ahk).map (·.drop `dT)).length<=(words Q0 (`dV - `dT)).length:=by
  refine `wi ?_ λa ha=>?_
  ·refine `aUg
   have nd:(`ahk).Nodup:=`tj #[λz=>hn (`A1 z).1,hnd.filter _];refine Ak0 ?_ (T0.mp nd);intro a b ha hb J e;have pf:∀x∈(`ahk),pre <+: x:=λx hx=>by
    apply `va
    ·exact hp
    ·have:=(`A1 hx).2
     rw[`bz] at this;exact Db0.mp this.2
   let#[a',rfl]:=pf a ha;let#[b',rfl]:=pf b hb;simp only[`DE] at e;exact J (`agw)
  ·let#[x,hx,rfl]:=`XW
   apply `va
   ·exact mr0 _ _ _ (by rw[`iF]) λc hc=>hw c (Am0 hc)
   ·let#[h1,h2]:=`A1 hx
    rw[`bz,`v6] at h2;exact mr0 _ _ _ (by rw[`iF,h2.1]) λc hc=>hA x h1 c (Am0 hc)
 rw[d40,Vi0,`K,`Z] at M;lia
universe Rk
namespace Rk
open DL W Rm
open Bt (W0 o6 Z3 Z0 zz0 M3 V3 S6 Z6)
def Wu0(names:`kA):`e? (`aUb)=`d:=by
 unfold flats;rw[`jb];intro d hd;let#[n,_,rfl]:=`gG;rfl
def Xf0(p:`g)(S:RS)(δ:Ds)(gA:GA)(L:Nat)(pre:`i)(hA:gA `aU=`c `aUh)(hn:`Ap)(hl:∀n∈`b1,`mc)(hp:`dT<=L)(hL:L<=100) :
  ob (fnN 0 `na gA xh0) `aU=`c (`t2 `b1 L pre):=by
 apply `cS;unfold fnN;rw[ly0,`n,hA,`n,y50,`n,Qs0 (xp0 3)];show (if `e? (`z1)=`d/\`e? `aUh=`d then (xh0 [`o (`z1),`qn,`z!]).bind (`aMH) else `e)=_;rw[`R #[Wu0 _,rfl],Wv0 `b1 hn hl L pre hp hL];rfl
def iy0(p:`g)(S:RS)(δ:Ds)(g:GE)(n:Nat)(hg:`wa=`aUi):u30 0 `G `ht g `aU=`c (.nx (.ow (v7 p (R { S with length:=n }))::δ)):=by
 unfold u30;rw[hg,`n];kernel_rfl
def j10(p:`g)(S:RS)(δ:Ds)(g:GE)(l:`i)(hg:`wa=`aR3):u30 0 `G `m? g `aU=`c (.nx (.ow (v7 p (R { S with spelled:=l }))::δ)):=by
 unfold u30;rw[hg,`n];kernel_rfl
def Wa0(S:RS)(hn:`ahl)(hl:∀n∈`b1,`mc)(L:Nat)(h1:1<=L)(h8:L<=8)(hleft:`t2 `b1 L []=`d):U6 `bG [`f `aUj]=`c (`dt,`aUk):=by
 obtain⟨b,hb⟩:∃b:Int,b=`aUj:=`ac;have J:b/2=`t1:=`H
 rw[← hb];refine W0 rfl λp=>#[[.ow (v7 p (`aUk)),`dW,`qo],?_,rfl]
 show K9 `iD=_;refine o6 (δ':=`iD) (by
  rw[M3 (by
   apply `cS;show `c (`aO (`z (b%2=0)))=_;rw[`f1])]
  rfl) ?_
 refine o6 (δ':=`wj) (Z0 (X8 (d:=`qn) (by
  show `c (`as (b/2))=_;rw[J]))) ?_
 refine o6 (δ':=`wj) (by
  rw[M3 (by
   have t1:ob `VQ `wj=`bv:=Z6 (by
    show `c (`aO (`z (`t1=0)))=_;rw[`f1])
   have t2:ob `aQT `wj=`bv:=Z6 (by
    show `c (`aO (`z ((8:Int)<`t1)))=_;rw[`f1])
   have t3:ob `aQU `wj=`bv:=Z6 (by
    rw[o4 (x:=`Ps) (y:=`Vu) `ahm rfl];show `c (`aO (`z (`z0=60)))=_;rw[`f1])
   unfold wg0;rw[t1,`n,`it,t2,`n,`it,t3])]
  rfl) ?_
 refine o6 (δ':=`wj) (by
  rw[M3 (by
   unfold xw0;rw[Xf0 p S _ _ L [] `Im `j hl `q2 `j,hleft];rfl)]
  rfl) ?_
 exact o6 (Z0 (iy0 p S _ `ar L rfl)) `kE
def ro0(p:`g)(S:RS)(δ:Ds):plN `aqp `aU=`aSQ:=by
 unfold plN;rw[Sk0];rfl
def lh0(p:`g)(S:RS)(δ:Ds)(hl:`agN):j4 `aQL `aU=`c (.nx (.ow (v7 p (R `aUl))::δ)):=by
 apply `rC
 apply `wb;rw[ly0,`n,ro0,`n,y50,`n,xp0,`n];show `eQ _ (if nrf (`tP)=`d/\`aSR<`S then `c (`nB,`db 0 3 (`aUm) _) else `e)=_;rw[`aUn,s50 p S `aUl]
 ·rfl
 ·show `gd::`bU::`bU::`aUm::_=`gd::`bU::`bU::`o ((`arn).map `Wh)::_
  rw[`a4];rfl
def iw0(S:RS)(b:Nat)(hb:`PO)(hn:`Ap)(hl:∀n∈`b1,`mc)(hs:`t4<`f_)(hL:`ahn)(hleft:`aho)(p:`g)(G:GSB)(r:`kw)
  (h:G `ahp=r) :
  (p7 `aQH
 (p7 (ifB `aQI
 (p7 `gY
 `D)
 `D)
 (p7 `aQJ G))) `wg=r:=by
 apply `rC
 have sp:o2 `H_ `ar m7 `wh=`c (`t (`aE `t3)):=by
  rw[o4 (x:=`tP) (y:=`ID) `aUo rfl];exact `agj
 refine o6 (δ':=`wh) (Z0 (X8 (by
  rw[c7 (ds:=[`hv,`aqj]) rfl,i20 b _ _ Sm0 `s,`iZ]))) ?_
 refine o6 (δ':=`wh) (by
  rw[M3 (by
   unfold wg0;rw[show ob `aqn `wh=`bv from `cM,`n,`it];unfold xw0;rw[Xf0 p S _ _ `f_ `t3 (`ae `ag? (`ae sp rfl)) hn hl `NF `j,hleft];rfl)]
  rfl) ?_
 exact o6 (Z0 (j10 p S _ _ `t3 sp)) h
def Uz0(p:`g)(S:RS)(δ:Ds)(hs:`t4<=8):ob `aQK `aU=`c (`z (`t4=`f_)):=by
 apply `rC
 apply `cS;rw[o4 (x:=`f `aUp) (y:=`Is) (by
  rw[c7 (ds:=[`tP]) (`ae `aUo rfl)];show (if `aUq<=`S then `c (`as (`aUq:Int)) else `e)=_;rw[zg0,`gc]) `ag?]
 show `c (`aO (`z (`aUp=`Wd)))=_;congr 2;apply `hV
def Uc0(S:RS)(b:Nat)(hb:`PO)(hn:`Ap)(hl:∀n∈`b1,`mc)(hs:`t4+1<`f_)(hL:`ahn)(hleft:`aho) :
  `aUr=`c (`dt,R `WN):=by
 refine W0 rfl λp=>#[`ahp,?_,rfl]
 show zm0 `wg=_;refine iw0 S b hb hn hl `j hL hleft p _ _ (o6 (δ':=`ahp) ?_ `kE);rw[M3 (by
  rw[Uz0 p `WN _ (by show `aUs<=8;apply `lc;lia),`b4];show ¬`aUs=`f_;apply `lc;lia)]
 rfl
def named(S:RS)(w:`i):RS:={ (({ S with names:=`WO }:RS).hold (X5 w)) with length:=0,spelled:=[] }
def V30(S:RS)(ok:`fy)(hw:`ma)(b:Nat)(hb:`PO)(hn:`Ap)(hl:∀n∈`b1,`mc)(hs:`t4+1=`f_)(hL:`ahn)(hleft:`aho) :
  `aUr=`c (`dt,R (`t5 S `t3)):=by
 obtain⟨w,J⟩:∃w,w=`IG:=`ac;have wl:`dV=`f_:=by rw[J,`O,`ds];exact hs
 refine W0 rfl λp=>#[`aUt,?_,rfl]
 show zm0 `wg=_;refine iw0 S b hb hn hl `j hL hleft p _ _ (o6 (δ':=`aUt) ?_ `kE);rw[← J];rw[zz0 (by
  rw[Uz0 p `aUu _ (by show `dV<=8;lia),`bd];exact wl)]
 refine o6 (Z0 (lh0 p `aUu _ (by show `agN;lia))) ?_;have M:Ok `DF:=#[`z4,`Jb,`Xb,ok.wait,by show (`WO).length<=1000;apply `lc;lia];refine o6 (Z0 (δ':=[.ow (v7 p (R ((`DF:RS).hold (X5 w)))),`gF,`z']) ?_) ?_
 ·unfold j4
  rw[y70 (S:=`DF) (`ae (ro0 p `DF _) rfl) (pz0 `DF M hw (X5 w) rfl)];rfl
 ·refine o6 (Z0 (iy0 p _ _ `aX 0 rfl)) (o6 (Z0 (j10 p _ _ `rt [] rfl)) ?_)
  rfl
universe Rk
namespace Rk
open DL W Rm StrLaws
open Bt (W0 o6 Z3 Z0 zz0 M3 V3 S6 Z6)
def Xw0:(∀n∈`bw 40,`ae1 (`ahq).1 (`ahq).2.1 (`ahq).2.2=(`bw (`fi/2)).map (2*·)) /\
  ∀n∈`bw 40,`ae1 (`ahr).1 (`ahr).2.1 (`ahr).2.2=(`bw (n/2)).map (2*·+1):=`aQ
theorem e50(xs:`aN)(d:α):∀l:`i,(∀i∈l,`u5)->`ae3=`eu (`L5 · d)
 | [],_=>rfl
 | i::l,h=>by
  have hi:=h i A7;rw[`Da (C2 hi),e50 xs d l λj hj=>h j (A6 _ hj),`_];simp[`bO,hi]
theorem oo0:∀xs:`l,`Aa=(`bw (`aG/2)).map λj=>(`L5 (2*j) `x,`L5 (2*j+1) `x)
 | []=>rfl
 | [a]=>by unfold pairsOf;simp
 | `Fu=>by
  show `afX=_;rw[oo0 r,`Z,`Z,show (`cf+1+1)/2=`cf/2+1 by lia,`aGq,`_,`bT];rfl
def Ri0(xs:`l)(h:`aG<40):`aUv=`Aa:=by
 unfold zn0;rw[Xw0.1 _ (`fc h),Xw0.2 _ (`fc h),e50 xs `x _ (λi hi=>by
  apply `aUw;have:=`v9;show 2*j<_;lia),e50 xs `x _ (λi hi=>by
  apply `aUw;have:=`v9;show 2*j+1<_;lia),oo0]
 refine t5 `lP λj h1 h2=>?_
 simp
def m10(xs:`l)(h:`aG<40):vo0 [`cV]=`c `aUx:=by
 apply `Dz;rw[c7 (ds:=[`o (`aro),`o `arp]) `Im];show `c (`b9 ((`aUv).map `T2))=_;rw[Ri0 xs h]
def Fits(kd:Nat)(held:`l):Prop:=`aUy<=30/\(kd=0->∀d∈`dD,`aUz)/\(kd=3->`dD≠[])
theorem ns0:∀l:`i,`ahs=l
 | []=>rfl
 | c::l=>by
  show (`aE [c]).cps.toList++`ahs=_;rw[ns0 l,wj0];rfl
def mf0(kd:Nat)(hk:`oq)(held:`l)(h:Fits kd `dD):K5 [`nj,`WP]=`c (`gH `aht):=by
 apply `rC
 let#[hl,h0,h3]:=h;have c:∀(a b:Str),ob `aTf [.sh (`hg),`WQ]=`aTg:=`aTh
 match kd,hk,h0,h3 with
 | 0,_,h0,_ =>
  obtain⟨l,rfl⟩:∃l:`i,`aUA:=by
   have:∀held:`l,(∀d∈`dD,`aUz)->∃l:`i,`aUA:=by
    intro held
    induction `dD with
    | nil=>exact λ_=>#[[],rfl]
    | cons d ds ih =>
     intro hd;let#[c,rfl]:=hd d A7;let#[l,rfl]:=ih `asm
     exact#[c::l,rfl]
   exact `E `dD (h0 rfl)
  refine `v7;show ifD _ _ _ [.sh (`jJ),.sh (`o (`Ab))]=_;apply `wd;refine Z4 (T9 (xl0 (`ae rfl (`ae (d:=`tI) ?_ rfl)) `In)) |>.trans ?_
  ·have hp:l=`aRM:=(Bt.m60 l).symm
   rw[`K] at hl
   conv=>rhs;rw[hp]
   refine Bt.Z20 [] (`eu `H8) 1 rfl ?_ `aRS `lP;show `c (`f0 (`Ab))=_;rw[`bT];rfl
  ·show `c (Res.rt (`b9 [`jJ,`tI]))=`c (Res.rt (`b9 [`jJ,X5 (`ahs)]))
   rw[ns0];rfl
 | 1,_,_,_ =>
  refine V9 rfl (t7 (δ':=`aUB) (by show ifD _ _ _ `aUB=_;apply `qh;rfl) `p5);apply `wd;exact Z4 (T9 `agC)
 | 2,_,_,_ =>
  refine V9 rfl (t7 (δ':=`ahu) (by show ifD _ _ _ `ahu=_;apply `qh;rfl) (t7 (δ':=`ahu) `we `p5));apply `wd;exact Z4 (T9 (xl0 (`ae rfl (`ae (by rw[c7 (ds:=[`WP]) rfl];exact m10 `dD `j) rfl)) `In))
 | 3,_,_,h3 =>
  cases `dD with
  | nil=>exact `I rfl (h3 rfl)
  | cons d ds =>
   refine V9 rfl (t7 (δ':=`PP) (by show ifD _ _ _ `PP=_;apply `qh;rfl) (t7 (δ':=`PP) `we (t7 (δ':=`PP) `we `qm)));refine xl0 (`ae rfl (`ae (d:=d) (by
    show atI `hx 0=_;rw[vp0 `s (`lA) `x];rfl) (`ae (d:=`w ((`ix ds).map `qp)) ?_ rfl))) `aSw
   rw[c7 (ds:=`BY) (`ae (by
    rw[Bt.oe0 (d:=`o `hx) (l:=`aUC) (h:=`e) rfl rfl rfl];show `c (`f0 (`sV `hx (`aUC) `e))=_;rw[Bt.S80];rfl) rfl)]
   exact m10 ds `asN
def j30(xs:`l):(`Aa).length<=`aG:=by
 rw[oo0,`K,`j0];lia
def d30(X:D)(ps:`OC)(hX:`asJ=`c (`w (`aUD)))(hl:`aA<=1000):T4 1 [] `ru `a8 noT `jK [.sh X]=`c (`o `HC):=by
 apply `rC
 refine xa0 (items:=`aUD) ?_ `lw ?_
 ·apply `aUE
  apply `aUF;rfl
 ·rw[v50 `aUG (λd hd=>by
   apply `ahv;exact#[[.sh (`aqw)],rfl,rfl,rfl]),`bT]
  rfl
def cc0(kd:Nat)(hk:`oq)(held:`l)(h:`aUy<=1000):vd0 [`gH `aht]=`c (`o (M5 `aht)):=by
 apply `Dt
 ·refine `wk;rw[R9 (by unfold wg0;rw[show ob `zt (S8 K4 [`gH (0,`dD)])=`e5 from `cM];rfl)];apply `PQ
 ·refine `wk;rw[R9 (by unfold wg0;rw[show ob `zt `aUH=`bv from `cM,show ob `HQ `aUH=`e5 from `cM];rfl)];apply `PQ
 ·refine R8 rfl (t7 (δ':=[.sh (`ahw)]) (by
   rw[Y0 (by unfold wg0;rw[show ob `zt (S8 K4 [`ahw])=`bv from `cM,show ob `HQ (S8 K4 [`ahw])=`bv from `cM];rfl)];rfl) `os)
  exact d30 _ (`ix `dD) (`Wl [`hq] _) (B4 (j30 _) h)
 ·refine R8 rfl (t7 (δ':=[.sh (`ahx)]) (by
   rw[Y0 (by unfold wg0;rw[show ob `zt (S8 K4 [`ahx])=`bv from `cM,show ob `HQ (S8 K4 [`ahx])=`bv from `cM];rfl)];rfl) `os)
  exact d30 _ (`aUI) (`Wl [`hr,held.headD `x] _) (B4 (j30 _) `ato)
structure Held(q:`eB):Prop where
 kd:q.1<4
 fits:`aUJ
 tr:`aha
 nr:`aUK
 fl:`e? (M5 q)=`d
def Ut0(S:RS)(k:Nat)(q:`eB)(hq:`jV)(h:`IM):`aUL:=by
 have e2:`aUM:=by
  show `agQ;rw[`bN,hq];rfl
 have e1:`aUN:=by
  unfold W2;rw[`bO,hq];rfl
 rw[e1];unfold u80 T8;simp only[xi0,`n,e2];rw[`R #[rfl,h.tr,h.nr]]
def c80(S:RS)(k:Nat)(u:`i)(hu:`hy)(q:`eB)(hq:`jV)(h:`IM):M9 `bG []=`c (`WV,R S):=by
 refine W0 rfl λp=>#[`ahy,?_,rfl]
 show yp0 `ahy=_;have e1:J0 0 `iw `iu `ahy=`c (`Ac):=by
  unfold J0;rw[p70,`n,show unG U7 `aD [`qd,.un]=`c `z2 from rfl,`n,y50,`n];rw[`aSU];rw[hu,`eL,`a4];exact `agP
 unfold yp0 cs0;rw[e1,`n,y50,`n,Ut0 S k q hq h,`n];have e3:oA `aQP vd0 ((`a1 ([`qd,`sQ]:Ds).length `sQ).set 1 (`ahz))=`c (`WV):=by
  rw[c7 (ds:=[`gH q]) (`ae (by
   rw[`aUO];exact mf0 q.1 h.kd q.2 h.fits) rfl)]
  exact cc0 q.1 h.kd q.2 (by have:=h.fits.1;lia)
 rw[e3,`n];simp only[];rw[`R h.fl]
def R50(p:`g)(S:RS)(δ:Ds)(g:GE)(i:Nat)(nm:`i)(hg:`wa=`aUP)(hn:`b1[i]?=`c nm):plN (J0 0 `na g) `aU=`c `nm:=by
 unfold plN J0;rw[ly0,`n,hg,`n,y50,`n,ot0 (es:=`z1) rfl];have hi:=(`cU hn).1;rw[`ahA,`dE,`bO,`bN,hn];rfl
def Rz0(S:RS)(ok:`fy)(w:`bM)(ws:`a!)(hw:`di)(b:Nat)(hb:b<`jR)(nm:`i)(hnm:`ahB)
  (hin:`ahC):O1 `bG [`hv]=`aUQ:=by
 refine W0 rfl λp=>#[`aUR,?_,rfl]
 show y60 `wg=_;refine o6 (δ':=`wg) (by
  rw[M3 (by
   apply `cS;rw[o4 (x:=`hv) (y:=`Ps) rfl `ahm];show `c (`aO (`z (`z0<=`nl)))=_;rw[`f1])]
  rfl) ?_
 refine o6 (δ':=`wl) (Z0 (X8 (R50 p S _ _ (`art) nm (by
  rw[o4 (x:=`f (`z0 - 1)) (y:=`hv) (by rw[o4 (x:=`Ps) (y:=`c_) `ahm rfl];rfl) rfl];show `c (`as (`z0 - 1 - `nl))=_;congr 2;lia) hnm))) ?_
 refine o6 (δ':=`wl) ?_ ?_
 ·have t1:`PC `aQQ `wl=`c (`z (`tZ),`wl):=by
   unfold DL.liftT;rw[show (`tx : Str)=Z2 `nc from rfl,fx0 p S _ w ws hw `nc];rfl
  unfold ifX Vc0;rw[t1,`n]
  by_cases hwn:`tZ
  ·skip;let#[k,u,q,hu,hq,hh,M]:=hin hwn
   have t2:R6 `aQR `wl=`c (`r,`wl):=by
    unfold R6 ta0;rw[show gv 2 [`qd,`gF,`WU]=`c `nm from rfl,`n,`R (show `aUS from rfl),y70 (ds:=[]) rfl (c80 S k u hu q hq hh),`n];have e:`aUT=`ve:=by
     show (if `aUS/\(M5 q).all `c!=`d then `c (`aO (xor `r (`aUU))) else `e)=_;rw[`R #[rfl,hh.fl]];congr 2;rw[`s5];cases ha:`aUU with
     | false=>rfl
     | true =>
      exfalso;let#[y,hy,he]:=List.any_eq_true.mp ha;have J:`c! y=`d:=n9.mp hh.fl y hy;cases y with
      | str t =>
       have:t=`aE nm:=N3.mp he;rw[`E] at hy;exact M hy
      | non=>cases he
      | bl _=>cases he
      | int _=>cases he
      | tup _=>cases J
      | lst _=>cases J
      | dct _ _=>cases J
      | fn _ _=>cases J
    show `gE (`eQ _ (`aUT)) _=_;rw[e];rfl
   done;rw[`bd hwn];show `gE (if `d=`d then R6 _ _ else _) _=_;rw[`bA,t2];rfl
  ·rw[`b4 hwn]
   rfl
 ·refine o6 (Z0 (δ':=`aUR) ?_) `kE
  unfold j4;rw[y70 `jQ (pz0 S ok (`agV) `nm rfl)];rfl
def Zs0(S:RS)(ok:`fy)(w:`bM)(ws:`a!)(hw:`di)(b:Nat)(hb:b<`jR)(nm:`i)(hnm:`ahB)
  (hin:`ahC):U6 `bG [`f `ahD]=`aUQ:=by
 obtain⟨c,hc⟩:∃c:Int,c=`ahD:=`ac;rw[← hc];refine W0 rfl λp=>#[[`aru,`V_,.un],?_,rfl]
 show K9 [`cN,`V_,.un]=_;refine `zL;rw[zz0 (by
  apply `cS;show `c (`aO (`z (c%2=0)))=_;rw[`l!])]
 refine Z3 (V3 (y70 (`ae (d:=`hv) ?_ rfl) (Rz0 S ok w ws hw b hb nm hnm hin)));show `c (`as (c/2))=_;congr 2;lia
universe Rk
namespace Bw
open DL W
def yc0:GS:=(v9 `afo
 (v9 `afp
 (v9 (U3 `OW
 (v9 `OX
 (v9 `OY
 t6)) 100000)
 (v9 `afq
 t6))))
def yd0:`h:=`afr
def V4:`Q:=`afs
def tx0:GS:=(v9 (ifD `afk
 (v9 `afl
 t6)
 t6)
 (v9 `afm
 t6))
def sa0:`h:=`gK
def v90:`Q:=`afn
def xz0:GS:=(v9 `aft
 t6)
def yl0:`h:=`ut
def Q6:`Q:=`afu
def yz0:GS:=(v9 `afv
 t6)
def yx0:`h:=`c1
def G6:`Q:=`afw
def w40:GS:=(v9 (ifD `ok
 (v9 `afx
 t6)
 t6)
 (v9 `ol
 t6))
def w70:`h:=`c1
def zd0:`Q:=`afy
def wb0:GS:=(v9 (ifD `ok
 (v9 `ol
 t6)
 t6)
 (v9 (ifD `Dc
 (v9 `OU
 t6)
 t6)
 (v9 `v3
 (v9 (ifD `afg
 (v9 `afh
 t6)
 t6)
 (v9 (td0 `ru `bL
 (v9 `OV
 t6))
 (v9 `v4
 t6))))))
def w80:`h:=`afi
def K6:`Q:=`afj
universe Bw
namespace Bw
open DL W
def ek0{g:GE}{δ:Ds}{b:`aa}(h:`aRw):ob g δ=`k4:=`aRx
def dgf:Nat->Nat->`P
 | 0,_=>[]
 | f+1,r=>`aUV
def dg(r:Nat):`P:=dgf r r
theorem Sl0:∀(f g r:Nat),r<=f->r<=g->dgf f r=dgf g r
 | 0,0,_,_,_=>rfl
 | 0,g+1,r,h,_=>by
  have:r=0:=`aUW;subst this;rfl
 | f+1,0,r,_,h=>by
  have:r=0:=`aUW;subst this;rfl
 | f+1,g+1,r,h1,h2=>by
  show (`aUV)=if r=0 then [] else `hz::dgf g `nn
  by_cases z:r=0
  ·rw[`R z,`R z]
  ·rw[`n8,`n8,Sl0 f g `nn `j `j]
theorem Mw0:dg 0=[]:=rfl
def Kx0(r:Nat)(h:r≠0):dg r=`hz::dg `nn:=by
 obtain⟨n,rfl⟩:∃n,r=n+1:=#[r - 1,`H];show (if n+1=0 then [] else ((128+`fi%128:Nat):Int)::dgf n (`fi/128))=_;rw[`dI,Sl0 n (`fi/128) (`fi/128) `j `bi];rfl
def hi(r:Nat):`P:=(dg r).reverse
def Zw0:hi 0=[]:=by unfold hi;rw[Mw0];rfl
def Rs0(r:Nat)(h:r≠0):hi r=hi `nn++[`hz]:=by unfold hi;rw[Kx0 r h,`eL]
def bs(n:Nat):`P:=hi `nz++[`DG]
def Tw0:∀(m r:Nat),r<`DH->(hi r).length<=m:=by
 intro m
 induction m with
 | zero =>
  intro r h;have h2:r=0:=by
   simp at h;exact h
  subst h2;rw[Zw0];exact `jl
 | succ m ih =>
  intro r h
  by_cases h0:r=0
  ·subst h0;rw[Zw0];exact `cu
  ·rw[Rs0 r h0,`O]
   have:2 ^ (m+1)=`DH*2:=`PN 2 m;have:=ih `nn `j;apply `tC;lia
def S30(n:Nat)(h:`rE):`aUX:=by
 unfold bs;rw[`O];have:=Tw0 2600 `nz (`aUY);apply `tC;lia
def WT:GB:=`OW
def WB:GS:=(v9 `OX
 (v9 `OY
 t6))
def wt(a b:Sl)(r:Nat):WT [a,b,`arv]=`c (`z (0<r)):=by
 show `c (`z (`gC<`jW))=_
 by_cases h:0<r
 ·rw[`fd,`l!]
 ·rw[`fm,`f1]
theorem wh(a:Sl):∀(m r:Nat) (o:`P) (f:Nat),r<`DH->m<f->`ahE+m<`S ->
  ∃s,U3 WT WB f `aUZ=`c (.nx [a,.ow (`o ((o++dg r).map `f)),s])
 | m,r,o,0,_,hf,_=>`I hf `aS3
 | m,r,o,f+1,hr,hf,hl=>by
  by_cases h0:r=0
  ·subst h0
   unfold U3;rw[wt,Mw0,`bc];exact`ac
  ·cases m with
   | zero=>simp at hr;lia
   | succ m =>
    have hb:WB `aUZ=`c (.nx [a,.ow (`o ((o++[`hz]).map `f)),.sh (`f `PR)]):=by
     have e1:(128:Int)+`jW%128=`hz:=`H
     have e2:`jW/128=`PR:=`H
     refine t7 (`Pf (l:=o.map `f) (d:=`f (128+`jW%128)) rfl rfl `lw) ?_;rw[`a4,← e1,← e2];rfl
    have h2:r/128<`DH:=by
     have:2 ^ (m+1)=`DH*2:=`PN 2 m;lia
    let#[s,e]:=wh a m `nn (o++[`hz]) f h2 `j `aRv;refine#[s,?_];unfold U3;rw[wt,`l!];simp only[hb];rw[e,Kx0 r h0,`aV];rfl
def pb0(n:Nat)(h:`rE):`aU_:=by
 apply `PS
 have h2:`Ad<`qq:=`aUY;let#[s,e]:=wh (`bp) 2600 `nz [`DG] 100000 h2 `s (by show 1+2600<_;lia);refine R8 rfl ?_;have e1:`ct%128=`DG:=`H
 have e2:`ct/128=`arw:=`H
 refine t7 (δ':=[`bp,.ow (`o [`f `DG]),.un]) (by rw[← e1];rfl) ?_;refine t7 (X8 (d:=`aU0) (by rw[← e2];rfl)) ?_;refine t7 e `os;show `c (`f0 (((`DG::dg `nz).map `as).reverse))=_;rw[← `ag2,`eL];rfl
inductive Vb:`ahF
 | non:Vb `x
 | lk (j:Nat) (h:j<1000):Vb `nq
 | int (z:Int) (h:`DI):Vb `jI
def fold(z:Int):Nat:=`aU1
def fold_lt(z:Int)(h:`DI):`t6<2 ^ 2502:=by
 unfold fold;have e:`aU2=4*`WY:=`aQ
 generalize (2:Nat) ^ 250=w at h e;split<;>lia
def le0(z:Int):`aU3:=by
 by_cases h:z<0
 ·refine `v7
  rw[R9 (by show `ahG=_;rw[`fd])];apply `v8;rw[o4 (x:=`f (-2*z)) (y:=`c_) (by rw[o4 (x:=`f (-2)) (y:=`fW) rfl rfl];exact `ot) rfl];have:`aU4=`ary:=by unfold fold;rw[`cQ];lia
  rw[`E];rfl
 ·refine V9 rfl (t7 (δ':=[`b']) (by rw[Y0 (by show `ahG=_;rw[`fm])];rfl) `qm)
  rw[o4 (x:=`tp) (y:=`fW) rfl rfl,`ot];have:`aU4=2*z:=by unfold fold;rw[`dI];lia
  rw[`E]
def sg(s:Str):`P:=s.cps.toList.map λ(c:Nat)=>`iE
def Z80(s:Str):`aU5:=by unfold sg;rw[`K];rfl
def Q80(s:Str):za0 `a8 noT `ap_ [.un] (`i1 s)=`c `arB:=by
 unfold signs;rw[v50 (λd=>match d with|`bX=>`f ((x.cps.toList.headD 0:Nat):Int)|_=>`x) (λd hd=>by
  let#[c,hc,rfl]:=`gG;exact#[[.sh (`sG)],rfl,rfl,rfl])]
 unfold sg;rw[`bT,`bT];rfl
theorem b20(s:Str)(h:`PT):`aU6 :=
 R8 rfl (U0 (K1 (xa0 (items:=`i1 s) rfl (by unfold signs;rw[`K];exact h) (Q80 s))))
def Py0(a b:`P)(h:`aRu):rc0 (`o (a.map `f)) (`o (b.map `f))=`c (`o ((a++b).map `f)):=by
 simp only[rc0];rw[`R (by rw[`K,`K];exact h),`a4]
def Lw0{g:GE}{δ:Ds}{e:`P}(h1:`pz=`aT2)(h2:`ax=`c (`o (e.map `f)))(h3:`aU7):`aU8=`c (.nx (`bj i (.ow (`o ((l++e).map `f))))):=by
 unfold j4 wu0;rw[h1,h2];simp only[`n];rw[`R (by rw[`K,`K];exact h3),`a4];rfl
def Pr0{g:GE}{δ:Ds}{l e:`l}(h1:`aRr)(h2:`ax=`c (`o e))(h3:`aU7):`aU8=`c (.nx (`bj i (.ow (`o (l++e))))):=by
 unfold j4 wu0;rw[h1,h2];simp only[`n];rw[`R h3];rfl
def Ib(d:D):Prop:=`aU9∨Vb d
theorem small(h:n<=100000000):`rE:=O0 h `gJ
def d90{g:GE}{δ:Ds}{s:Str}(h:`ax=`JF)(hs:`PT):oA `Nf V1 δ=`c (`ahH):=by
 rw[c7 (ds:=`lx) `ahI];simp only[V1];rw[`R hs]
def cnt:Pt->Nat
 | `on=>`dV
 | `l7=>`cg
 | `l8=>`aA
 | `afR=>`aA
def kn:Pt->Nat
 | `O3=>0
 | .row _=>1
 | `tA _=>2
 | `lq _ _=>3
def two(p:`zC):`l:=`aQ1
def its:`afQ
 | `O3=>[]
 | `l7=>vs
 | `l8=>`iG
 | `De=>`e7::`iG
def tx:Pt->`P
 | `on=>sg w
 | _=>[]
structure Gp(p:Pt):Prop where
 cnt:`ou
 len:`ahJ<=50
 it:∀d∈`fe,Ib d
def Ke0{p:Pt}(h:Gp p):(tx p).length<=20:=by
 cases p with
 | text w=>show (sg w).length<=20;rw[Z80];exact h.cnt
 | _=>exact `cu
def Pw0(p:Pt):`ff<=3:=by cases p<;>simp[kn]
def gt0{p:Pt}(h:`ou)(δ:Ds):oA `ap2 V1 (`PU::δ)=`c (`f `ahK):=by
 have z:`wm:=`an
 cases p with
 | text w =>
  have h:`ahL:=h;exact d90 rfl `j
 | row vs=>rfl
 | table ps =>
  apply `aU';rw[`K];rfl
 | rcd c ps =>
  apply `aU';rw[`K];rfl
def H20(p:Pt)(δ:Ds):oA `ap3 `ap4 (`PU::δ)=`c (`aU!):=by
 cases p<;>kernel_rfl
def Ij0(a b:Nat):4*`sM+`nl=((4*a+b:Nat):Int):=`H
def W90{p:Pt}(h:`ou):`aU?:=by
 apply `Dz
 change o2 _ _ _ [`PU]=_
 rw[o4 (x:=`f (4*`ahK)) (y:=`aU!) (by
  rw[o4 (x:=`pW) (y:=`f `ahK) rfl (gt0 h _)];exact `ot) (H20 p _),← Ij0]
 rfl
def Ve0{p:Pt}(h:`ou):`aVa:=by
 have z:`wm:=`an
 cases p with
 | text w =>
  have h:`ahL:=h;refine `wk;rw[`kD];refine `IL;rw[c7 (ds:=[`t w]) rfl];exact b20 w `j
 | row vs=>exact R8 rfl (t7 (δ':=[`PV]) `ge `t9)
 | table ps=>exact R8 rfl (t7 (δ':=[`IW]) `ge `t9)
 | rcd c ps=>exact R8 rfl (t7 (δ':=[`Af]) `ge `t9)
def HB:GS:=(v9 `OV
 t6)
theorem ye0:∀ps:`bI,`aVb
 | []=>rfl
 | `l1=>by rw[`kF,`O,ye0 ps,`Z];show 2+_=_;lia
def Pg0{ps:`bI}{p:`zC}(h:`aJG):`aVc++two p=(`WZ `n4).flatMap two:=by
 rw[`aVd,h,List.flatMap_append];simp
def et0(a:Sl)(pre:`l)(ps:`bI)(hl:`dT+2*`aA<=`S)(s:Sl):∃s',J2 `bL HB (`zD) `aVe=`c (.nx [a,.ow (`o (pre++`iG)),s']):=by
 let#[δ',l1,l2]:=qa0 (f:=gN 2) (G:=HB) (λi δ=>∃s,δ=[a,.ow (`o (pre++(`WZ i).flatMap two)),s]) (`zD) 0 `aVe (by
  rintro j d δ hj ⟨s,rfl⟩;rw[`bN] at hj;cases hp:ps[j]? with
  | none=>rw[hp] at hj;cases hj
  | some p =>
   rw[hp] at hj;cases hj;have J:=(`cU hp).1;rw[`dG];refine#[_,_,rfl,t7 (Pr0 (l:=pre++`aVc) (e:=two p) rfl rfl (by
    rw[`O,ye0,`dS];show _+2<=_;lia)) rfl,.sh (pr p),?_]
   rw[`aV,Pg0 hp];rfl) #[s,`a6]
 let#[s',rfl]:=l2;refine#[s',?_];rw[l1,`dG,`K,`aVf]
def Vf0{p:Pt}(h:Gp p):`aVg:=by
 have z:`wm:=`an
 have hc:=h.cnt;cases p with
 | text w=>kernel_rfl
 | row vs =>
  refine R8 rfl (t7 (δ':=[`PV,.un,.un]) `ge `IK);rw[`kD];rfl
 | table ps =>
  have hc:`PW:=hc;let#[s',e]:=et0 (`IW) [] ps (by simp only[`m_];lia) .un;refine R8 rfl (t7 (δ':=`aVh) `ge (t7 (δ':=`aVh) `ge (t7 (δ':=`aVi) rfl (t7 (δ':=`aVi) `ge `aVj))))
 | rcd c ps =>
  have hc:`PW:=hc;let#[s',e]:=et0 (`Af) [`e7] ps `Ib .un;refine R8 rfl (t7 (δ':=`aVk) `ge (t7 (δ':=`aVk) `ge (t7 (δ':=[`Af,`ng,.un]) rfl (t7 (δ':=[`Af,.ow (`o [`e7]),.un]) (by rw[`kD];rfl) `aVj))))
structure Gq(p:Pt):Prop where
 cnt:`ou
 vals:∀v∈`j2,`j1
 names:∀s∈`rA,`qs
 few:`AA<=12
theorem Xl0{ps:`bI}(h1:∀v∈`ir,`j1)(h2:∀s∈`jG,`qs):∀d∈ps,`aVl:=λd hd=>#[h2 _ `aVm,h1 _ `aVm]
theorem Vy0{ps:`bI}(h:∀d∈ps,`aVl):∀d∈`iG,Ib d:=λd hd=>by
 skip;apply `aVn;let#[q1,q2]:=h p hp;unfold two at hm;rcases `PM with rfl|hm
 ·done;exact `p #[_,rfl,q1]
 ·done;rw[`ec hm];exact `q q2
def Gq.gp{p:Pt}(h:Gq p):Gp p:=by
 let#[h1,h2,h3]:=h;cases p with
 | text w=>exact#[h1,`cu,λd hd=>by cases hd]
 | row vs=>exact#[h1,by have:`cg<=20:=h1;show `cg<=50;lia,λd hd=>`q (h2 d hd)]
 | table ps =>
  apply `aVo
  exact#[h1,by have:`PW:=h1;show `IV<=50;rw[ye0];lia,Vy0 hp]
 | rcd c ps =>
  apply `aVo
  refine#[h1,by have:`PW:=h1;show `ahM<=50;rw[`Z,ye0];lia,`wn];apply `ov
  ·exact `p #[_,rfl,h3 c (D3 _ (`ahN))]
  ·exact Vy0 hp d hd
def web(ps:`b2):D:=`aSB
def Lk(m:Nat)(v:D):Prop:=∀j:Nat,v=`Ae->j<m
theorem Pn0(h:i<m):Lk m `I?:=λj e=>by
 apply `DJ
 injection e with _ e
 injection e with e _
 apply `DJ
 lia
universe Bw
namespace K22
open DL W
theorem sub_len:∀{l m:`i},`aUd
 | [],m,_,_=>`cu
 | a::l,m,h,hs=>by
  let#[h1,h2]:=D4.mp h;let#[m1,m2,rfl]:=List.append_of_mem (hs a A7);have:=`ahO (m:=m1++m2) h2 λb hb=>by
   have:=hs b (`Kt);rcases `dM `E with q|q
   ·exact A9.mpr (`kf)
   ·rcases `bm q with rfl|q
    ·exact `I hb h1
    ·exact A9.mpr `ae'
  simp only[`O,`Z] at this ⊢;lia
def nd(l:`i):`l:=`eu λ(i:Nat)=>`as `sm
def tgs(vs:`l):`i:=vs.filterMap λv=>match v with|`DK=>`c `h!|_=>`e
def sy0(a b:`i):`aVp:=`aVq
def Lo0(a:`i):(nd a).reverse=nd a.reverse:=by unfold nd;rw[`ag2]
def ux0(a:`i):(nd a).length=`H6:=by simp[nd]
def Lf0(o:`i)(x:Nat):((nd o).any λy=>eqF y (`f `DL))=`z (x∈o):=by
 unfold nd;rw[List.any_map,`uQ,`aeP,`v6];constructor
 ·rintro⟨y,hy,e⟩
  have e:`z ((y:Int)=`DL)=`d:=e;have e:=i6 e;have:y=x:=`H
  subst this;exact hy
 ·intro h
  exact#[x,h,show `z (`DL=`DL)=`d from E4 rfl]
def Rt0(o:`i):((nd o).all λd=>`c! d)=`d:=by
 unfold nd;rw[`acD,`jb];exact `abY
def J70(o:`i)(x:Nat):xg0 `d (`f `DL) (`o (nd o))=`c (.bl (`z (x∉o))):=by
 simp only[xg0];rw[`R #[rfl,Rt0 o],Lf0];congr 2
 by_cases h:x∈o<;>simp[h]
def lkv(f:`c2):`kq
 | `DK=>`w [`lk,`f (f `h!:Int)]
 | v=>v
def rel(f:`c2)(p:Pt):Pt:=`wo p (`Am (lkv f))
theorem Uv0{vs:`l}(h:`b9 `arx∈vs):j∈tgs vs:=k7.mpr #[_,h,by apply `lz]
def Z30(p:Pt)(vs:`l)(h:`cg=`AA):(`wo p vs).vals=vs:=by
 cases p with
 | text w=>exact(D90 h).symm
 | row us=>rfl
 | table ps =>
  show `aVr;refine Df0 ?_;have h':`cg=`PX:=h;simp only[`K] at h' ⊢;lia
 | rcd c ps =>
  show `aVr;refine Df0 ?_;have h':`cg=`PX:=h;simp only[`K] at h' ⊢;lia
universe K22
namespace Km
open DL W K22
def yc0:GS:=(v9 `afo
 (v9 `afp
 (v9 (U3 `OW
 (v9 `OX
 (v9 `OY
 t6)) 100000)
 (v9 `afq
 t6))))
def yd0:`h:=`afr
def V4:`Q:=`afs
def tx0:GS:=(v9 (ifD `afk
 (v9 `afl
 t6)
 t6)
 (v9 `afm
 t6))
def sa0:`h:=`gK
def v90:`Q:=`afn
def n00:GS:=(v9 `aP5
 t6)
def tw0:`h:=`j9
def z60:`Q:=`aP6
def xz0:GS:=(v9 `aft
 t6)
def yl0:`h:=`ut
def Q6:`Q:=`afu
def tl0:GS:=(v9 (ifD `aP!
 (v9 `aP?
 t6)
 t6)
 (v9 `aQa
 t6))
def t20:`h:=`Dd
def w00:`Q:=`aQb
def yz0:GS:=(v9 `afv
 t6)
def yx0:`h:=`c1
def G6:`Q:=`afw
def w40:GS:=(v9 (ifD `ok
 (v9 `afx
 t6)
 t6)
 (v9 `ol
 t6))
def w70:`h:=`c1
def zd0:`Q:=`afy
def uw0:GS:=(v9 (ifD `aP7
 (v9 `OO
 t6)
 t6)
 (v9 (ifD `tw
 (v9 `aP8
 t6)
 t6)
 (v9 `aP9
 t6)))
def tm0:`h:=`j9
def zk0:`Q:=`aP'
def uu0:GS:=(v9 (ifD `afz
 (v9 `aQc
 t6)
 t6)
 (v9 (ifD `aQd
 (v9 `aQe
 (v9 `aQf
 t6))
 t6)
 (v9 `aQg
 t6)))
def t80:`h:=`aQh
def ze0:`Q:=`aQi
def wb0:GS:=(v9 (ifD `ok
 (v9 `ol
 t6)
 t6)
 (v9 (ifD `Dc
 (v9 `OU
 t6)
 t6)
 (v9 `v3
 (v9 (ifD `afg
 (v9 `afh
 t6)
 t6)
 (v9 (td0 `ru `bL
 (v9 `OV
 t6))
 (v9 `v4
 t6))))))
def w80:`h:=`afi
def K6:`Q:=`afj
def ii0:GS:=(v9 `v3
 (v9 `aQj
 (v9 `aQk
 (v9 `aQl
 (v9 (U3 `afA
 (v9 `afB
 (v9 `afC
 (v9 (ifD `afD
 (v9 `afE
 t6)
 (v9 (ifD `afF
 (v9 `afG
 (v9 `afH
 t6))
 t6)
 t6))
 t6))) 100000)
 (v9 `v4
 t6))))))
def ix0:`h:=`aQm
def o90:`Q:=`aQn
universe Km
namespace Km
open DL W K22
open Bw (bs sg cnt kn its tx fold Vb Gp Gq)
def pd(ks:`eb):D:=`cj `yh `ahP
def ix{α:Type}[`DD]:`aN->α->Nat
 | [],_=>0
 | b::l,a=>if b=a then 0 else `PY+1
theorem pn0[`DD]:∀{l:`aN} {a:α},a∈l->`PY<`aR
 | [],_,h=>by cases h
 | b::l,a,h=>by
  unfold ix;rw[`Z]
  by_cases e:b=a
  ·rw[`d0];lia
  ·have:=pn0 (l:=l) (a:=a) `PZ
   rw[`dg];lia
theorem Ph0[`DD]:∀{l:`aN} {a:α},a∈l->l[`PY]?=`ig
 | [],_,h=>by cases h
 | b::l,a,h=>by
  unfold ix
  by_cases e:b=a
  ·rw[`d0,e];rfl
  ·rw[`dg,`CU]
   exact Ph0 `PZ
theorem b80:∀(ks:`eb) (s:Nat) (k:O4),`P_->xq0 ks (nd (`y1 s `gs)) k=`c (`f ((s+`P0:Nat):Int))
 | [],s,k,h=>by cases h
 | a::ks,s,k,h=>by
  rw[`Z,`adT];show (if a=k then `c (`as `p7) else xq0 ks (nd (`y1 (s+1) `gs)) k)=_;unfold ix
  by_cases e:a=k
  ·rw[`d0,`d0]
   rfl
  ·have hk:`P_:=`arI
   rw[`dg,`dg,b80 ks (s+1) k hk,show s+1+`P0=s+(`P0+1) by lia]
def Za0{ks:`eb}{k:O4}(h:`P_):xq0 ks `ahP k=`c (`f (`P0:Int)):=by
 rw[`aT9,b80 ks 0 k h,`dG]
def lp0(ks:`eb)(k:O4):`yy=`d↔`P_:=by
 unfold zt0;rw[`aeP];constructor
 ·rintro⟨x,hx,e⟩
  rw[← `NX e];exact hx
 ·intro h
  exact#[k,h,E4 rfl]
def b00{ks:`eb}{k:O4}(h:k∉ks):`yy=`r:=by
 cases e:`yy with
 | false=>rfl
 | true=>exact `I ((lp0 ks k).mp e) h
def Sh0{ks:`eb}{k:O4}(h:k∉ks):(`cj `aLO (xu0 ks `ahP k (`f (`gs:Int))):D)=pd (ks++[k]):=by
 unfold xt0 xu0 pd;rw[b00 h,`kv,`kv,`O,`ds,`agp,sy0];rfl
theorem idx_map[`DD][`Gu β](f:α->β)(a:α):∀l:`aN,(∀b∈l,f b=f a->b=a)->ix (`eu f) (f a)=`PY
 | [],_=>rfl
 | b::l,h=>by
  rw[`_];unfold ix
  by_cases e:b=a
  ·rw[`d0,`R (`agw)]
  ·rw[`dg,`ap (λz=>e (h b A7 z)),`ahQ f a l λc hc=>h c (A6 _ hc)]
def kb(B:`i):`eb:=B.map `aVs
def kt(T:`h):`eb:=`Jr `aVt
def kb_mem(B:`i)(j:Nat):`aVu∈kb B↔`f2:=by
 unfold kb;rw[`aVv];constructor
 ·rintro⟨k,hk,e⟩
  have:`dR=`b8:=`P1
  have:k=j:=`H
  rw[← `E];exact hk
 ·exact λh=>#[j,h,rfl]
def qc0(T:`h)(s:Str):`W0∈kt T↔`jX:=by
 unfold kt;rw[`aVv];constructor
 ·rintro⟨k,hk,e⟩
  have:k=s:=`P1
  rw[← `E];exact hk
 ·exact λh=>#[s,h,rfl]
theorem Kb0(B:`i)(j:Nat):ix `ua `aVu=`ub:=`ahQ (`aVs) j B λb _ e=>by
 have:`nl=`b8:=`P1
 lia
theorem Lv0(T:`h)(s:Str):ix `t! `W0=`IY:=`ahQ (`aVt) s T λb _ e=>`P1
def Sb0(B:`i):`DM=`aS:=by unfold kb;rw[`K]
def kt_len(T:`h):`Ag=`hA:=by unfold kt;rw[`K]
structure Wb(ps:`b2):Prop where
 len:0<`aA/\`agD
 it:∀p∈ps,Gq p
 lk:∀p∈ps,∀v∈`j2,Bw.Lk `aA v
def It(n:Nat)(d:D):Prop:=`aU9∨`pv∨(∃z:Int,d=`fW/\`DI)∨∃j:Nat,d=`Ae/\j<n
def It.of{v:D}(h:`j1)(hl:Bw.Lk n v):It n v:=by
 cases h with
 | non=>exact `q `gg
 | lk j _=>exact `q (`q (`q #[j,rfl,hl j rfl]))
 | int z hz=>exact `q (`q (`p #[z,rfl,hz]))
def hb(ps:`b2)(B:`i)(T:`h):D->`P
 | `cx=>`DN
 | `DK=>if `ahR then bs (4*(`arT - ix B `h!)+2) else bs (4*(4*cnt `P2+kn `P2)+3)++tx `P2
 | `fW=>bs (`DO)
 | _=>bs 0
theorem pb0(n:Nat)(h:`rE):`aU_:=Bw.pb0 n h
theorem b20(s:Str)(h:`PT):`aU6:=Bw.b20 s h
theorem W90{p:Pt}(h:`ou):`aU?:=Bw.W90 h
theorem Ve0{p:Pt}(h:`ou):`aVa:=Bw.Ve0 h
theorem Vf0{p:Pt}(h:Gp p):`aVg:=Bw.Vf0 h
theorem le0(z:Int):`aU3:=Bw.le0 z
theorem U60(ks:`eb):xr0 [pd ks]=`c (`f (`gs:Int)):=rfl
def Nn0(T:`h)(s:Str):vf0 `r `dX `I3=`aVw:=by
 show `c (`aO (xor `r (`aVx)))=_;rw[`s5]
 by_cases h:`jX
 ·rw[`aVy,`fd]
 ·rw[`aVz,`fm]
def Qz0(B:`i)(j:Nat):vf0 `d `yY `I5=`aVA:=by
 show `c (`aO (xor `d (zt0 `ua `P3)))=_
 apply `DP
 ·rw[`arN ((`P4).mpr h),`P5];rfl
 ·rw[b00 (λz=>h ((`P4).mp z)),`fd];rfl
def Qq0{T:`h}{s:Str}(h:`jX):p80 `I3 `dX=`c (`aVB):=by
 show `aVC=_;rw[`aVD,Lv0]
def So0{B:`i}(h:`f2):p80 `I5 `yY=`c (`aVE):=by
 show xq0 `ua (nd (`bw `DM)) `P3=_;rw[Za0 ((`P4).mpr h),Kb0]
def Oc0(T:`h)(hT:`P6)(s:Str)(hs:`qs)(ps:`b2)(B:`i):w00 `aVF=`c (`o ((`qB).map `f)):=by
 apply `PS
 have ht:ob `ap1 `P7=`c (`I1):=by
  unfold ob;rw[o4 (x:=`cx) (y:=`t?) rfl rfl,Nn0];rfl
 show _=`c (`f0 ((`DN).map `f))
 by_cases h:`jX
 ·rw[`fd] at ht
  rw[`cQ];have J:=pn0 h;refine `wk;show ifD _ _ _ `P7=_;rw[R9 ht];refine `IL;rw[c7 (ds:=[`f ((`arK:Nat):Int)]) (`ae (by
   rw[o4 (x:=`tp) (y:=`f (`ahS - 1 - `arR)) rfl (by
    rw[o4 (x:=`f (`ahS - 1)) (y:=`aVB) (by
     rw[o4 (x:=`f `ahS) (y:=`c_) (by rw[c7 (ds:=[`t?]) rfl,U60,kt_len]) rfl];rfl) (by rw[o4 (x:=`t?) (y:=`cx) rfl rfl,Qq0 h])]
    rfl),`ot]
   congr 2;lia) rfl)]
  exact `P8
 ·rw[`fm] at ht
  rw[`dI];refine R8 rfl (t7 (δ':=`P7) (by
   show ifD _ _ _ `P7=_;rw[Y0 ht];rfl) `os)
  have h1:=Bw.S30 `IZ `np;have h2:=Bw.Z80 s;rw[o4 (x:=`o ((bs `IZ).map `f)) (y:=`arC) (by
   rw[c7 (ds:=[`f `aVG]) (`ae (by
    rw[o4 (x:=`f (2*`IR)) (y:=`c_) (by
     rw[o4 (x:=`tp) (y:=`ahH) rfl (Bw.d90 rfl `j)];exact `ot) rfl]
    apply `P9;congr 2) rfl)]
   exact `P8) (by rw[`aVH];exact b20 s `j)]
  exact `aVI
def Z50(B:`i)(j:Nat):z60 `I7=`aVA:=by
 apply `Dz;unfold pr0;rw[show ob `pY (S8 tw0 `I7)=`e5 from rfl,`n,`bA];rw[o4 (x:=`fa) (y:=`jY) rfl rfl];exact Qz0 B j
def kf0{d:D}(h:`zs d=`r)(B:`i):z60 [d,`jY]=`ve:=by
 apply `Dz;unfold pr0;rw[show ob `pY (S8 tw0 [d,`jY])=`c (`zs d) from rfl,h];rfl
def Qb0(X:D):zk0 [`x,X]=`c (`aVJ):=`cM
def P80(z:Int)(X:D):zk0 [`fW,X]=`c (`f ((`DO:Nat):Int)):=by
 refine V9 rfl (t7 (δ':=`aVK) `oo (t7 (δ':=`aVK) `oo `qm));rw[o4 (x:=`f (4*`arz)) (y:=`c_) (by
  rw[o4 (x:=`pW) (y:=`arA) rfl (by rw[c7 (ds:=`IQ) rfl,le0])];exact `ot) rfl]
 apply `P9;congr 2
def Tx0{B:`i}(h:`f2):zk0 `I7=`c (`aVL):=by
 have J:=pn0 h;refine V9 rfl (t7 (δ':=[`ns,`I6]) `oo `p5);rw[`Dj];apply `v8;rw[o4 (x:=`f (4*`aVM)) (y:=`tp) (by
  rw[o4 (x:=`pW) (y:=`f `aVM) rfl (by
   rw[o4 (x:=`f (`W2 - 1)) (y:=`aVE) (by
    rw[o4 (x:=`AK) (y:=`c_) (by rw[c7 (ds:=[`jY]) rfl,U60,Sb0]) rfl];rfl) (by rw[o4 (x:=`jY) (y:=`fa) rfl rfl,So0 h])]
   rfl)]
  exact `ot) rfl]
 apply `P9;congr 2;lia
def O2(hj:`f4):ixD `ud `yY=`c (`hC).d/\`hC∈ps:=by
 constructor
 ·show atI `Ip `b8=_
  rw[`ahA,`dE];simp[`bO,hj]
 ·rw[`bO,`NW]
  exact d4 hj
def Vh0(l:`P):`e? (`XY)=`d:=by
 unfold flats;rw[`acD,`jb];exact `abY
def Yw0(hw:`em){B:`i}{T:`h}(hB:`rF)(hT:`P6){d:D}(hd:`nu):ze0 `aVN=`c (`o ((`nr).map `f))/\`aVO<=2700:=by
 skip;apply `PS
 have one:∀n:Nat,`rE->`aUX:=Bw.S30;rcases hd with⟨s,rfl,hs⟩|rfl|⟨x,rfl,hx⟩|⟨j,rfl,hj⟩
 ·done;refine#[`wk,?_]
  ·rw[`Dj]
   refine `IL;rw[c7 (ds:=`aVF) rfl];exact Oc0 T hT s hs ps B
  ·show (`DN).length<=2700
   split
   ·have:=one `arL `np;lia
   ·have:=one `IZ `np
    have:=Bw.Z80 s;rw[`O];lia
 ·done;refine#[R8 rfl (t7 (δ':=`ahT) `oo (t7 (δ':=`ahT) ?_ `os)),?_]
  ·show ifD _ _ _ `ahT=_
   rw[Y0 (`wp `aVP)];rfl
  ·rw[c7 (ds:=[`aVJ]) (`ae (by apply `arV;exact Qb0 _) rfl)]
   exact pb0 0 `np
  ·exact B4 (one 0 `np) `j
 ·have hf:`aVQ<`qq:=by
   have:=`aVR x hx;have e:8*`aU2<`qq:=`aQ
   generalize (2:Nat) ^ 300=w at e;lia
  done;refine#[R8 rfl (t7 (δ':=`ahU) `oo (t7 (δ':=`ahU) ?_ `os)),?_]
  ·show ifD _ _ _ `ahU=_
   rw[Y0 (`wp `aVS)];rfl
  ·rw[c7 (ds:=[`f ((`aVQ:Nat):Int)]) (`ae (by apply `arX;exact P80 x _) rfl)]
   exact pb0 _ hf
  ·exact B4 (one _ hf) `j
 ·have J:∀G:GS,ifD `afz G t6 `P'=`c (.nx `P'):=λG=>`aqB
  have ht:ob `ap5 `P'=`ahV:=`wp `aVT;have M:`ar0=`aVU:=by
   unfold hb;apply `lz
  done;rw[M];let#[w1,w2]:=O2 hj;have hq:=`ow
  apply `DP
  ·rw[`P5] at ht
   rw[`cQ];refine#[R8 rfl (t7 (J _) (t7 (δ':=`P') ?_ `os)),?_]
   ·rw[Y0 ht];rfl
   ·rw[c7 (ds:=[`aVL]) (`ae (by rw[`arY];exact Tx0 h) rfl)]
    exact `P8
   ·exact B4 (one _ `np) `j
  ·rw[`fd] at ht
   rw[`dI];apply `aVV;have hc:=hq.cnt;have O:=Bw.Pw0 p;have h1:=one (4*(`IS)+3) `np;have h2:=Bw.Ke0 hq.gp;refine#[R8 rfl (t7 (J _) `IK),`ar!];rw[R9 ht];refine t7 `aVW `os
   ·rw[`ar3]
    exact w1
   ·rw[o4 (x:=`o ((bs (4*(`IS)+3)).map `f)) (y:=`arF) (by
     rw[c7 (ds:=[`f ((4*(`IS)+3:Nat):Int)]) (`ae (by
      rw[o4 (x:=`f (4*`arD)) (y:=`HK) (by
       rw[o4 (x:=`pW) (y:=`arE) rfl (by rw[`ahW];exact W90 hc)];exact `ot) rfl]
      apply `P9;congr 2) rfl)]
     exact `P8) (by rw[`ahW];exact Ve0 hc)]
    exact `aVI
def nB(B:`i):D->`i
 | `DK=>if `ahR then B else B++[`h!]
 | _=>B
def nT(T:`h):D->`h
 | `cx=>`wq
 | _=>T
def nW(ps:`b2)(B:`i)(W:`l):D->`l
 | `DK=>if `ahR then W else its `P2++W
 | _=>W
def pk(ps:`b2):Nat->`i->`h->`l->`P
 | 0,_,_,_=>[]
 | _+1,_,_,[]=>[]
 | f+1,B,T,d::W=>`nr++pk ps f (`wr) (nT T d) (`DQ)
def st(ps:`b2)(o:`P)(B:`i)(T:`h)(W:`l)(s:Sl):Ds:=[`bS,`WX,`ahX,`W6,.ow (`o `Ak),s]
def PT:GB:=`afA
def PB:GS:=(v9 `afB
 (v9 `afC
 (v9 (ifD `afD
 (v9 `afE
 t6)
 (v9 (ifD `afF
 (v9 `afG
 (v9 `afH
 t6))
 t6)
 t6))
 t6)))
def W80(ps:`b2)(o:`P)(B:`i)(T:`h)(W:`l)(s:Sl):PT `aVX=`c (`z (0<`ue)):=by
 show `c (`z (`gC<(W.reverse.length:Int)))=_;rw[`iB];congr 1
 by_cases h:0<`ue
 ·rw[`fd,`l!]
 ·rw[`fm,`f1]
def La0{T:`h}{s:Str}(hT:`P6)(a b c e:Sl):j4 `ap9 `ahY=`c (.nx [a,b,c,.ow (pd (kt `uf)),e,`iH]):=by
 have zs:`wm:=`an
 have e1:jx0 3 `hp `ap8 `ahY=if `Ag<`S then (if `aVx=`d then (`aVC).map λr=>(r,(`ahY:Ds)) else `c (`aVY,[a,b,c,.ow (`cj (`p (xt0 `t! `I2)) (xu0 `t! (nd (`bw `Ag)) `I2 (`aVY))),e,`iH])) else `e:=rfl
 unfold j4;rw[e1,`R (by rw[kt_len];lia)];show `eQ _ _=`c (`jc [a,b,c,.ow (pd (kt (`wq))),e,`iH])
 by_cases h:`jX
 ·rw[`R (`aVy),`aVD,`cQ]
  rfl
 ·rw[`aVz,`kv,Sh0 `arP,`dI]
  show `c (`jc [a,b,c,.ow (pd (kt T++[`q s])),e,`iH])=_;unfold kt;rw[`a4];rfl
def L70{B:`i}(hB:`rF)(hj:`no)(a b c e:Sl):N6 `ap? `aqa [a,b,`ahX,c,e,`ns]=`c (.nx [a,b,.ow (pd (kb `dF)),c,e,`ns]):=by
 have zs:`wm:=`an
 show `eQ `jc (if `DM<`S then `c ([a,b,.ow (`cj (`p (xt0 `ua `P3)) (xu0 `ua (nd (`bw `DM)) `P3 (`f (`DM:Int)))),c,e,`ns]:Ds) else `e)=_;rw[`R (by rw[Sb0];lia),Sh0 (λz=>hj ((`P4).mp z))];unfold kb;rw[`a4];rfl
def e70(hw:`em){o:`P}{B:`i}{T:`h}{W:`l}{d:D}(s:Sl)(hB:`rF)(hT:`P6)(hd:`nu)(ho:`ahE<=12000000)(hW:`ue<=10000) :
  PB `aVZ=`c (.nx (st ps `ahZ (`wr) (nT T d) (`DQ) `sB)):=by
 have zs:`aV_:=`an
 let#[i1,i2]:=Yw0 hw hB hT hd;have p1:N6 (qz0 4) `tt `aVZ=`c (.nx `aV0):=by
  unfold st N6 qz0;rw[`eL];show `gE (`eQ (λd'=>(d',([`bS,`WX,`ahX,`W6,.ow (`o (`aV1).dropLast),s]:Ds))) (`aV1).getLast?) _=_;rw[`aV2,`Pu];rfl
 have p2:j4 `ap7 `aV0=`c (.nx (st ps `ahZ B T W `sB)) :=
  Bw.Lw0 (l:=o) (e:=`nr) rfl (Og0 (by rw[c7 (ds:=`aVN) rfl];exact i1) (Vh0 _)) `j
 refine t7 p1 (t7 p2 ?_);skip;apply `aV3
 ·done;refine t7 (δ':=st ps (o++hb ps B T `lL) B (nT T `lL) W (.sh `lL)) ?_ rfl
  rw[`Dj];exact t7 (La0 hT _ _ _ _) rfl
 ·done;apply `aV4
  rw[`zK];apply `aV4;rw[Y0 (`wp (gy0 `aVP rfl))];rfl
 ·done;apply `aV5
  rw[`zK];apply `aV5;rw[Y0 (`wp (gy0 `aVS rfl))];rfl
 ·let#[w1,w2]:=O2 hj
  have ht:ob `ap' (`ar2)=`ahV :=
   `wp (gy0 `aVT rfl)
  apply `aV6
  apply `aV7
  have e3:nT T `nq=T:=rfl;done;rw[e1,e2,e3]
  apply `DP
  ·rw[`cQ,`cQ]
   rw[`P5] at ht;refine `aV8;rw[`zK];refine `aV8;rw[Y0 ht];rfl
  ·rw[`dI,`dI]
   rw[`fd] at ht;have hq:=`ow;apply `aVV;have J:=hq.gp.len;have p4:j4 `aqb (st ps `W8 `dF T W (`ns))=`c (.nx (`ar4)):=by
    refine(Bw.Pr0 (l:=`Ak) (e:=(`fe).reverse) rfl (by
     rw[c7 (ds:=[`o (`fe)]) (`ae (by
      rw[`aV9];exact Vf0 hq.gp) rfl)]
     rfl) (by rw[`iB,`iB];lia)).trans ?_
    unfold st;rw[`ag1];rfl
   refine `aV';rw[`zK];refine `aV';rw[R9 ht];exact t7 (L70 hB h _ _ _ _) (t7 p4 rfl)
universe Km
namespace Km
open DL W K22
open Bw (bs sg cnt kn its tx fold Vb Gp Gq two)
def lkd(j:Nat):D:=`Ae
theorem Vr0{P:`ahF}(hs:`aV!){ps:`bI}(h1:∀v∈`ir,P v)(h2:∀s∈`jG,`qs):∀d∈`iG,P d:=λd hd=>by
 apply `aVn;unfold two at hm;rcases `PM with rfl|hm
 ·exact hs _ (h2 _ `aV?)
 ·rw[`ec hm];exact h1 _ `aV?
def O50{P:`ahF}(hs:`aV!){p:Pt}(hn:∀s∈`rA,`qs)(hv:∀v∈`j2,P v):∀d∈`fe,P d:=by
 cases p with
 | text w=>intro d hd;cases hd
 | row vs=>exact hv
 | table ps=>exact Vr0 hs hv `aWa
 | rcd c ps =>
  intro d hd;apply `ov
  ·exact hs c (hn c (D3 _ (`ahN)))
  ·exact Vr0 hs hv (`aWa) d hd
theorem Wb.its(hw:`em){p:Pt}(hp:p∈ps):∀d∈`fe,`nu :=
 O50 (λs h=>`p #[s,rfl,h]) (`ar5).names λv hv=>.of (`aWb v hv) (hw.lk p hp v hv)
def R20(hw:`em):∀(M f:Nat) (o:`P) (B:`i) (T:`h) (W:`l) (s:Sl),`ar9->M<f->M<=4000->`ahE+2700*M<=11000000->`hA+M<=20000->`kG->(∀x∈B,`ox)->(∀d∈W,`nu) ->
  (`aWc).length<=11000000/\∃B' T' s',U3 PT PB f `aVX=`c (.nx (st ps (`aWc) B' T' [] s')):=by
 intro M
 induction M with
 | zero =>
  intro f o B T W s h1 h2 _ h4 _ _ _ _;have:W=[]:=l7.mp `j;subst this;apply `aWd;rw[pk,`bc];refine`aWe;unfold U3;rw[W80,`b4 `aB]
 | succ M ih =>
  intro f o B T W s h1 h2 h3 h4 h5 hn J hW;skip;apply `aWd;cases W with
  | nil =>
   done;rw[pk,`bc];refine`aWe;unfold U3;rw[W80,`b4 `aB]
  | cons d W =>
   rw[`Z] at h1;have hd:=hW d A7;have O:∀d∈W,`nu:=λe he=>hW e (A6 _ he)
   have a3:`aWf:=by
    have:=`ahO hn (m:=`j4) `aWg
    apply `DR
   have a1:=hw.len.2;have sp:=e70 hw s (o:=o) (B:=B) (T:=T) (W:=W) (d:=d) `j `j hd `j `j;let#[_,i2]:=Yw0 hw (B:=B) (T:=T) `j `j hd;have Z:(`DQ).length+51*(`aA - (`wr).length)<=M/\(nT T d).length<=`hA+1/\(`wr).Nodup/\(∀x∈`wr,`ox)/\∀e∈`DQ,It `aA e:=by
    skip;apply `aV3
    ·done;refine#[`ar',?_,hn,J,O]
     show (if x∈T then T else T++[x]).length<=_;split
     ·lia
     ·apply `lc;lia
    ·done;exact`aWh
    ·done;exact`aWh
    ·apply `aV6
     apply `aV7
     done;rw[e1,e2]
     apply `DP
     ·rw[`cQ,`cQ]
      exact#[`H,`W',hn,J,O]
     ·rw[`dI,`dI]
      let#[_,w2]:=O2 hj;have a2:=(`ow).gp.len;have Y:`ah_:=`P! #[hn,`a6,`aWi];have U:∀x∈`hD,`ox:=λx hx=>by
       apply `kH
       ·exact J x z
       ·rw[`el];exact hj
      have hl2:`DS<=`aA:=by
       have:=`ahO Y (m:=`j4) λy hy=>`fc (U y hy)
       apply `DR
      refine#[?_,`W',Y,U,λe he=>?_]
      ·rw[`O] at hl2 ⊢
       rw[`O];simp only[`ds] at hl2 ⊢;lia
      ·rcases `dM he with z|z
       ·exact `uh w2 e z
       ·exact O e z
   let#[k1,k2,k3,k4,k5]:=Z;have:=ih g `ahZ (`wr) (nT T d) (`DQ) `sB k1 `j `j `P? `j k3 k4 k5;rw[`aV] at this;let#[q0,B',T',s',q]:=`E;done;refine#[q0,B',T',s',?_];unfold U3;rw[W80,`bd (`lA)];simp only[sp];exact q
def pak(ps:`b2)(r:Nat):`P:=pk ps 100000 [] [] [lkd r]
def On0(hw:`em):o90 `AE=`c (`o ((pak ps 0).map `f))/\(pak ps 0).length<=11000000:=by
 have J:=hw.len.2;let#[q0,B',T',s',q]:=R20 hw 3500 100000 [] [] [] `Jl .un `Ib `s `s `aB `aB P3 (λx hx=>by cases hx) (λd hd=>by
  rw[`qz];exact `q (`q (`q #[0,rfl,hw.len.1])))
 rw[`hF] at q0 q;refine#[R8 rfl ?_,q0];refine t7 (δ':=[`bS,`ng,.un,.un,.un,.un]) rfl (t7 (δ':=[`bS,`ng,`ah0,.un,.un,.un]) rfl (t7 (δ':=[`bS,`ng,`ah0,`ah0,.un,.un]) rfl (t7 (δ':=st ps [] [] [] `Jl .un) rfl `aWj)))
theorem s60(f:`kq):∀ps:`bI,`VZ (`ast f)=`aWk
 | []=>rfl
 | `l1=>by
  rw[`_,`_,`_,`dh,s60 f ps,`_]
theorem q40(f:`kq)(hf:∀s,f `dX=`cx):∀ps:`bI,(`aWk).flatMap two=`asa f
 | []=>rfl
 | `l1=>by
  rw[`_,`kF,q40 f hf ps,`kF,`a4];show[`Xl,f p.2]++_=[f (`t p.1),f p.2]++_;rw[hf]
def bu0(π:`c2)(p:Pt):cnt `Qa=`t7/\kn `Qa=`ff/\tx `Qa=tx p/\its `Qa=`ah1/\`aWl/\(`I9).all=`rA:=by
 have hv:`aWl:=Z30 p _ (by rw[`K]);cases p with
 | text w=>exact#[rfl,rfl,rfl,rfl,hv,rfl]
 | row vs=>exact#[by show `aWm=`cg;rw[`K],rfl,rfl,rfl,hv,rfl]
 | table ps =>
  have e:rel π (`l8)=`tA (`I'):=C3 `IT (s60 `f3 ps);refine`aWn
  ·rw[e];show `aWo;rw[`K]
  ·rw[e];exact `aWp
  ·rw[e];show `aWq++[]=`jG++[];rw[`bT];rfl
 | rcd c ps =>
  have e:rel π (`De)=`lq c (`I'):=C3 (`IU c) (s60 `f3 ps);refine`aWn
  ·rw[e];show `aWo;rw[`K]
  ·rw[e]
   show `IX::_=`IX::`ass;rw[← `aWp]
  ·rw[e];show `aWq++[c]=`jG++[c];rw[`bT];rfl
def so0(π:`c2)(j:Nat):lkv π `j_=`aWr:=by unfold lkd lkv;apply `lz
def Pi0(B:`i)(j:Nat):`ah2=`W9:=by unfold nB lkd;apply `lz
def O00(ps:`b2)(B:`i)(W:`l)(j:Nat):nW ps B W `j_=`ar1:=by unfold nW lkd;apply `lz
def g70(ps:`b2)(B:`i)(T:`h)(j:Nat):`lB=`aVU:=by
 unfold hb lkd;apply `lz
def laid(ps:`b2)(L:`i):`b2:=`asF
def Ov0(hw:`em)(h0:`aWs)(hL:∀k∈L,`DT)(hc:∀k∈L,∀i∈tgs `aWt,i∈L):Wb (laid ps L):=by
 have hl:(laid ps L).length=`qu:=by unfold laid;rw[`K]
 refine#[by rw[hl];exact h0,`kd,λp hp v hv=>?_]
 ·skip;apply `aWu
  let#[_,w2]:=O2 (hL k hk);have hq:=`ow;let#[r1,_,_,_,r5,r6]:=`aWv;done;refine#[by rw[r1];exact hq.cnt,λv hv=>?_,by rw[r6];exact hq.names,by rw[r5,`K];exact hq.few];rw[r5] at hv;apply `aWw;have hb:=`Qb u hu;cases hb with
  | non=>exact `x
  | lk i _ =>
   apply `aWx;exact .lk _ (by have:=`aWy;lia)
  | int z hz=>exact `f z hz
 ·skip;apply `aWu
  let#[_,w2]:=O2 (hL k hk);let#[_,_,_,_,r5,_]:=`aWv;rw[r5] at hv;apply `aWw;have hb:=(`ow).vals u hu;done;rw[hl];cases hb with
  | non=>exact λj e=>nomatch e
  | lk i _ =>
   apply `aWx;exact Bw.Pn0 (`aWy)
  | int z hz=>exact λj e=>nomatch e
universe Km
namespace Rk
open DL W Rm StrLaws
open Bw (bs hi)
def q50{S:RS}{w:`bM}(hw:`di)(hv:`kI):`lt=S:=by
 skip;apply `aWz;have:w'=`tT:=hw;subst this;done;cases w<;>first|rfl|exact `aS6
theorem fh0{S:RS}{w:`bM}(hw:`di)(hv:`kI):next S=`PI:=q50 (S:=`PI) hw hv
def uo0{S:RS}(th:`kJ){d:D}(hd:`l6):Th (`iA):=by
 cases hu:`b0 with
 | nil =>
  unfold Th RS.hold;rw[hu];exact th
 | cons k u =>
  intro q hq;unfold RS.hold at hq;rw[hu] at hq;let#[i,hi]:=m3.mp hq;rw[`l?] at hi;cases e:`eD[i]? with
  | none=>rw[e] at hi;cases hi
  | some y =>
   have hy:=th y (C5 e);rw[e] at hi
   by_cases z:k=i
   ·simp[z] at hi
    rw[← hi];show trs (y.2++[d])=`d;have:∀l:`l,`ah3->trs `Ja=`d:=by
     intro l
     induction l with
     | nil=>intro _;show (tr d&&`d)=`d;rw[hd];rfl
     | cons a l ih =>
      intro h;unfold trs at h;apply `rd;show `aWA;rw[h.1,ih h.2];rfl
    exact `E _ hy
   ·simp[z] at hi
    rw[← hi];exact hy
def Nf0(S:RS)(w:`bM)(ws:`a!)(hw:`di)(hv:`Dw)(hd:`ws)(hl:`wc)(hc:`mb)(th:`kJ):∀r:Nat,(`jS∨r*128<=323)->∃c,`c3 S (hi r) `aY { S with digits:=`jW,count:=c }:=by
 intro r
 induction r using Nat.strongRecOn with
 | ind r ih =>
  intro hg
  by_cases h0:r=0
  ·subst h0
   rw[Bw.Zw0];refine`aWB;have e:({ S with digits:=`sc,count:=`t_ }:RS)=S:=by
    skip;apply `aWz;have:dg=0:=hd;subst this;done;rfl
   rw[e];exact `L S _
  ·let#[c,h]:=ih `nn `j `aWC
   refine`ah4;rw[Bw.Rs0 r h0];refine h.app ?_;obtain⟨S1,J⟩:∃S1:RS,S1={ S with digits:=`PR,count:=c }:=`ac;have e1:S1.digits*128+`hz%128=`jW:=by
    rw[J];show `PR*128+`hz%128=`jW;lia
   have w1:`nC=`tT:=`Lv
   have ht:V5 (R S1) [`f `hz]=`c (`dt,R `ah5):=by
    refine mu0 S1 _ w ws w1 hv _ _ ?_;have:=Sz0 S1 w ws w1 `hz `j (by rw[e1];lia) (by rw[e1];rcases hg with z|z;exact `e9;right;lia);rw[e1] at this;exact `E
   have:=`DU (u:=`aY) (b:=`hz) `j ht (by rw[J];exact hl) `aWD `aWE `DV;rw[← J];have e2:next `ah5={ S with digits:=`jW,count:=c+1 }:=(fh0 (S:=`ah5) w1 (`DW)).trans `DV;rw[e2] at this;exact `E
def Y10(S:RS)(w:`bM)(ws:`a!)(hw:`di)(hv:`Dw)(hd:`ws)(hl:`wc)(hc:`mb)(N:Nat)(hg:`jS∨N<=323)
  (th:`kJ) (S2:RS) (hl2:S2.wait.length<100000) (hc2:S2.wait.count `b!<=S2.un.length) (th2:Th S2)
  (ht:∀c,R4 (R `wt) [`f `fg]=`c (`dt,R `DX)):∃c,`c3 S (bs N) `aY (`DX:RS).ends:=by
 let#[c,h]:=Nf0 S w ws hw hv hd hl hc th (N/128) `aWC;refine`ah4;unfold bs;refine h.app ?_;have t:=`DU (u:=`aY) (S:=`wt) (S1:=`DX) (b:=`Qc) `j (mu0 `wt `DX w ws hw hv _ _ (S70 `wt `DX `Qc `j _ (by
  have e:((`wt:RS).digits*128+`Qc)=`fg:=by
   show `asb*128+`Qc=`fg;lia
  rw[e];exact ht c))) hl2 hc2 th2 rfl
 exact t
def Yk0(z:Int):up0 ((`Qd:Nat):Int)=z:=by
 unfold up0 Bw.fold
 by_cases h:z<0
 ·rw[`cQ,`gc]
  lia
 ·rw[`dI,`Dn]
  lia
def Wb0(S:RS)(ok:`fy)(ws:`a!)(hw:`ag6)(hd:`ws)(hl:`DY)(hc:`mb)(th:`kJ)(N:Nat)(d:D)(hn:`ky)(htr:`l6)
  (h:`fg%4=1/\d=`aWF∨`fg%4=2/\`aWG/\0<=`fg/\d=`aWH∨`fg=0/\`pv):∃c,`c3 S (bs N) `aY ({ `iA with count:=c }:RS).ends:=by
 refine Y10 S `ee ws hw `u9 hd `j hc N `gg th (`iA) ?_ ?_ (uo0 th htr) λc=>?_
 ·rw[vk0,`Ao];lia
 ·rw[vk0,e90,hw]
  rw[hw] at hc;have:(`asp::ws).count `b!=`DZ:=by rw[`rG];simp
  show `DZ<=_;lia
 ·have:=Wy0 `wt `ah6 ws hw `fg d hn h
  exact `E
def T70(S:RS)(ok:`fy)(w:`bM)(ws:`a!)(hw:`di)(hv:`Dw)(hd:`ws)(hl:`hu<=9000)(hul:`Pw)(hc:`mb)(th:`kJ)(kd n:Nat)(hk:`oq)(h1:`ag4)(h2:`ag5):∃c,`c3 S (bs (`Wt)) `aY ({ `tW with count:=c }:RS).ends:=by
 apply `aTw
 have U:=`aTB;have M:`aWI:=by
  rw[`aWJ];intro z
  apply `Dt
  ·apply `Qe;cases `E
  ·apply `Qe;cases `E
  ·apply `Qf;apply `Qg;simp at hm
  ·apply `ae6
   ·cases z
   ·apply `Qf
    apply `Qg;simp at hm
 have O:`DZ<=`aY:=by
  rw[hw,`rG] at hc;lia
 have e1:(`tW).wait=`qg++`iJ:=by
  show `qg++([`b!]++`l9)=_;rw[hw];rfl
 refine Y10 S w ws hw hv hd `j hc _ (by rcases hv with rfl|rfl;right;split at h1<;>lia;exact `mk) th (`tW) ?_ ?_ (λq hq=>by
  rcases `dM (show q∈(`z7).begun++[(kd,[])] from hq) with z|z
  ·exact uo0 th rfl q z
  ·rw[`el];rfl) λc=>?_
 ·rw[e1,`O,`Z]
  have:`hu=`Lm+1:=`aWK
  lia
 ·rw[e1,`aWL,`rG,M]
  have:(`tW).un.length=`D_:=rfl;rw[`E];simp;lia
 ·have:=Ty0 { S with digits:=((`Wt)/128:Nat),count:=c } `ah6 (by show `ma;rw[hw];simp) (by show `ag3;lia) hul kd hk n h1 h2
  exact `E
universe Rk
namespace Rk
open DL W Rm StrLaws
open Bw (bs hi sg)
def g80(n:Nat)(h:n<128):bs n=[`ct]:=by
 unfold bs;rw[`aWM,Bw.Zw0,show n%128=n by lia];rfl
def count_tail{w:`bM}(hv:`kI):(`tT).count `b!=`DZ:=by
 rw[`rG];simp[hv]
def V80(S:RS)(ok:`fy)(w:`bM)(ws:`a!)(hw:`di)(hv:`Dx)(h0:`PH)(hl:`DY)(hc:`mb)(th:`kJ)(h60:`jR<=60)(b:Nat)(hb:b<`jR)(nm:`i)(hnm:`ahB)
  (hin:`ahC):∃c,`c3 S (bs (2*b)) `aY ({ `IN with count:=c }:RS).ends:=by
 have hf:`kI:=`DW
 rw[`Qh];refine#[`z9,?_];have:=`DU (u:=`aY) (S:=S) (S1:=`IN) (b:=`ahD) `j (sf0 S _ w ws hw hv _ _ (`q #[h0,Zs0 S ok w ws hw b hb nm hnm hin])) `aWN (by
  rw[vk0,e90,hw];rw[hw,`ah7] at hc;exact hc) (`ah8) rfl
 exact `E
def Zf0(S:RS)(ok:`fy)(w:`bM)(ws:`a!)(hw:`di)(hv:`Dx)(hl:`DY)(hc:`mb)(th:`kJ)(h60:`ahl)(hln:∀n∈`b1,`mc)(nm:`i)(h8:`da<=8)(hnd:`aWO)(hA:∀n∈`b1,∀c∈n,`or)(hN:∀c∈nm,`or)(hni:`aWP) :
  ∀(rest sp:`i) (c:Nat),sp++`bh=nm->`bh≠[]->∃c',`c3 `aWQ (rest.map `Je) `aY ({ `qv with count:=c' }:RS).ends:=by
 have hf:`kI:=`DW
 have O:∀b∈Q0,`Iy:=`an
 intro rest
 induction `bh with
 | nil=>intro sp c _ h;exact `Z_
 | cons b rest ih =>
  intro sp c he _;obtain⟨S1,J⟩:∃S1:RS,S1=`aWQ:=`ac;rw[← J];have hb:`PO:=hN b (by rw[← he];simp);have Z:=`OI;have U:`ah9+(`D0+1)=`da:=by rw[← he,`O,`Z]
  have M:`t2 `b1 `da `Qi=`d:=dn0 `b1 hnd hA nm hN hni `Qi #[`bh,`asf];have w1:`nC=`tT:=`Lv
  rw[`_]
  by_cases hr:`bh=[]
  ·subst hr
   refine`ah4;have Y:`Xc=nm:=he;have ht:=V30 S1 (by rw[J];exact`ah6) (by rw[w1];simp) b hb `aWR `aWS (by rw[J];show `ah9+1=`da;simpa using U) `aWT `aWU;have e1:`t5 S1 (`asg)=`ah':=by
    rw[J];show `t5 _ `Qi=_;rw[Y];rfl
   rw[e1] at ht;have e2:(`qv).wait=`l9:=rfl;have e3:(`qv).un=`b0:=rfl;exact `DU (u:=`aY) (S:=S1) (S1:=`ah') (b:=`nl) `j `aWV (by show (`qv).wait.length<100000;rw[e2,`Ao];lia) (by
    show (`qv).wait.count `b!<=(`qv).un.length;rw[e2,e3,hw];rw[hw,`ah7] at hc;exact hc) (uo0 (S:={ S with names:=`b1++[nm] }) th rfl) `DV
  ·let#[c',h]:=ih `Qi (c+1) `D1 hr
   refine#[c',?_];have a1:0<`D0:=`aes hr;have ht:=Uc0 S1 b hb `aWR `aWS (by rw[J];show `ah9+1<`da;lia) `aWT `aWU;have e2:next `aWW={ S with length:=`da,spelled:=`Xc,count:=c+1 }:=(fh0 (S:=`aWW) w1 hf).trans `DV;refine `ai `j `aWV (by rw[J];show `wc;lia) `aWD ?_ `aWE `DV;rw[e2];exact h
def R10(S:RS)(ok:`fy)(w:`bM)(ws:`a!)(hw:`di)(hv:`Dx)(h0:`PH)(hsp:`tM=[])(hl:`DY)(hc:`mb)(th:`kJ)(h60:`ahl)(hln:∀n∈`b1,`mc)(nm:`i)(h1:1<=`da)(h8:`da<=8)(hnd:`aWO)(hA:∀n∈`b1,∀c∈n,`or)(hN:∀c∈nm,`or)(hni:`aWP) :
  ∃c,`c3 S (bs (2*`da+1)++`Hr `Je) `aY (`ah':RS).ends:=by
 have hf:`kI:=`DW
 let#[c,h]:=Zf0 S ok w ws hw hv hl hc th h60 hln nm h8 hnd hA hN hni nm [] (`z9) rfl (by intro z;rw[z] at h1;simp at h1);refine#[c,RunsA.app ?_ h];rw[`Qh];have ht:=Wa0 S h60 hln `da h1 h8 (dn0 `b1 hnd hA nm hN hni [] (List.nil_prefix));have:=`DU (u:=`aY) (S:=S) (S1:=`ah!) (b:=((2*`da+1:Nat):Int)) `j (sf0 S _ w ws hw hv _ _ (`q #[h0,ht])) (by show `wc;lia) hc th rfl;have e2:next `ah!={ S with length:=`da,spelled:=[],count:=`z9 }:=(fh0 (S:=`ah!) hw hf).trans (by rw[← hsp]);rw[e2] at this;exact `E
def xv0(S:RS)(k:Nat)(l:`i)(ws:`a!):RS:={ S with begun:=`zF k λp=>(p.1,p.2++`Ab),wait:=ws,digits:=0 }
def modify_id(f:`wu)(hf:∀a,f a=a)(l:`aN)(k:Nat):`Qj=l:=by
 have:f=id:=funext hf;rw[`E];exact List.modify_id k l
def w50(f g:`wu)(l:`aN)(k:Nat):(`Qj).modify k g=`ash k (λa=>g (f a)):=by
 apply Al0;intro i;rw[`l?,`l?,`l?];cases `F_ with
 | none=>rfl
 | some a =>
  by_cases q:k=i
  ·simp[q]
  ·simp[q]
def Wf0:∀(l:`i) (S:RS) (k:Nat) (u:`i) (ws:`a!),`fy->`hy->`dB=`ah?->(∀q∈`eD,`aWX)->`ws->`DY->`mb->`kJ->(∀c∈l,c∈r00)->∃c,`c3 `lt (`aWY) `aY ({ xv0 S k l ws with count:=c }:RS).ends:=by
 have O:∀b∈r00,`Iy:=`an
 intro l
 induction l with
 | nil =>
  intro S k u ws ok hu hw hq hd _ _ _ _;refine`aWB;have e:({ xv0 S k [] ws with count:=`t_ }:RS)=S:=by
   skip;let#[c,b,u',nm,w',dg,le,sp]:=S;have e1:w'=ws:=hw;have e2:dg=0:=hd;subst e1 e2;done;unfold xv0;simp only[];rw[modify_id _ (`aWZ)]
  rw[e];exact `ahc
 | cons b l ih =>
  intro S k u ws ok hu hw hq hd hl hc th hs;have J:`dB=`jT::(`ah?):=by rw[hw,`Z,`f9];rfl
  have hb:=hs b A7;have Z:=`OI;have ht:=cm0 S ok (by rw[J];simp) b hb;have hk:=`aSX;obtain⟨S1,M⟩:∃S1:RS,S1={ `IE with count:=`z9 }:=`ac;have b1:`Qk=`zF k λp=>(p.1,p.2++[X5 [b]]):=by
   rw[M];unfold RS.hold;rw[hu]
  have w1:`nC=`ah?:=by rw[M];show `l9=_;rw[J];rfl
  have u1:S1.un=k::u:=by rw[M];exact hu
  have U:∀q∈`Qk,`aWX:=λq hm=>by
   rw[b1] at hm;let#[i,hi]:=m3.mp hm;rw[`l?] at hi;cases e:`eD[i]? with
   | none=>rw[e] at hi;cases hi
   | some q0 =>
    have:=hq q0 (C5 e);rw[`Z] at this;rw[e] at hi
    by_cases z:k=i
    ·simp[z] at hi
     rw[← hi];simp;lia
    ·simp[z] at hi
     rw[← hi];lia
  have Y:Ok S1:=#[λj hj=>by
   rw[b1,`rB];rw[u1,← hu] at hj;exact `z4 j hj,by rw[b1,`rB];exact `Jb,λq hm=>by have:=U q hm;lia,`aW_,by rw[M];exact `asc]
  have c1:`DA:=by
   rw[w1,u1,← hu];rw[J,`Jc `s] at hc;exact hc
  let#[c,h]:=ih S1 k u ws Y u1 w1 U (by rw[M];rfl) (`aW_) c1 (by rw[M];exact `ah8) λx hx=>hs x `o?
  refine#[c,?_];have e3:({ xv0 S1 k l ws with count:=c }:RS)=`aW0:=by
   unfold xv0;rw[b1,w50,M];apply `Ql;rfl
  rw[e3] at h;rw[q50 J `s,`_];rw[show `Iz=`aY by rw[u1,hu]] at h;have:=RunsA.cons (u:=`aY) (S:=S) (S1:=`IE) (b:=`nl) (r:=`aWY) (S':=(`aW0:RS).ends) `j (Yn0 S _ _ J _ _ ht) `aWN (by
   rw[vk0,e90,J];rw[J,`Jc `s] at hc;exact hc) (by
   unfold next;rw[M] at h;exact h) (`ah8) rfl
  exact `E
universe Rk
namespace Rk
open DL W Rm
open Bw (bs its)
open Km (hb nB nT nW pk lkd It Wb)
inductive Pk (ps:`b2):`i->`h->`l->`i->`h->`P->Prop
 | nil (B:`i) (T:`h):Pk ps B T [] B T []
 | str {B:`i} {T:`h} {s:Str} {ds:`l} {B':`i} {T':`h} {b:`P} (h:Pk ps B `uf ds B' T' b):Pk ps B T (`cx::ds) B' T' (`qB++b)
 | val {B:`i} {T:`h} {d:D} {ds:`l} {B':`i} {T':`h} {b:`P} (hd:`Qm) (h:`hW):Pk ps B T `hx B' T' (`nr++b)
 | old {B:`i} {T:`h} {j:Nat} {ds:`l} {B':`i} {T':`h} {b:`P} (hj:`f2) (h:`hW):Pk ps B T `D2 B' T' (`lB++b)
 | new {B:`i} {T:`h} {j:Nat} {ds:`l} {B1 B':`i} {T1 T':`h} {b1 b:`P} (hj:`no) (h1:Pk ps `dF T `Qn B1 T1 b1) (h2:Pk ps B1 T1 ds B' T' b):Pk ps B T `D2 B' T' (`lB++(b1++b))
theorem tz0{B:`i}(hn:`kG)(hj:`no):`ah_:=`P! #[hn,`a6,λa ha b hb e=>by rw[`I8] at e;exact hj `W!]
def Lg0{d:D}(hd:`Qm):`jZ≠d:=by
 rcases hd with rfl|⟨z,rfl⟩<;>exact λz=>nomatch z
def eg0(h:`D3=`jZ):i=j:=by
 unfold lkd at h;apply `afU
 injection h with _ h
 injection h with h _
 apply `afU
 lia
def Pk.pre{B B':`i}{T:`h}{b:`P}(h:`hW):∃N,B'=B++N:=by
 induction h with
 | nil B T=>exact`aW1
 | str _ ih=>exact ih
 | val _ _ ih=>exact ih
 | old _ _ ih=>exact ih
 | new _ _ _ i1 i2 =>
  let#[N,rfl]:=i1;let#[M,rfl]:=i2;exact#[_,by rw[`aV,`aV]]
def Pk.nodup{B B':`i}{T:`h}{b:`P}(h:`hW):`kG->B'.Nodup:=by
 induction h with
 | nil B T=>exact id
 | str _ ih=>exact ih
 | val _ _ ih=>exact ih
 | old _ _ ih=>exact ih
 | new hj _ _ i1 i2=>exact λhn=>i2 (i1 (`aia))
open T in
def Pk.links{B B':`i}{T:`h}{b:`P}(h:`hW):(∀j,`jZ∈ds->j∈B')/\∀k∈B',k∉B->∀j,`asn->j∈B':=by
 induction h with
 | nil B T=>exact#[(λj h=>by cases h),λk hk hn=>`I hk hn]
 | str _ ih=>exact#[λj hj=>ih.1 j (`aW2 λz=>nomatch z),ih.2]
 | val hd _ ih=>exact#[λj hj=>ih.1 j (`aW2 (Lg0 hd)),ih.2]
 | old hj h ih =>
  rename_i B T j ds B' T' b;refine#[`aW3,ih.2];rcases `bm hi with z|z
  ·rw[eg0 z]
   let#[N,rfl]:=h.pre;exact C8 _ hj
  ·exact ih.1 i z
 | new hj h1 h2 i1 i2 =>
  apply `aib;let#[N,e1]:=h1.pre;let#[M,e2]:=h2.pre;have m1:∀x∈B1,x∈B':=λx hx=>by rw[e2];exact C8 _ hx
  have J:j∈B1:=by rw[e1];simp
  refine#[`aW3,λk hk hn i hi=>?_]
  ·rcases `bm hi with z|z
   ·rw[eg0 z];exact m1 _ J
   ·exact i2.1 i z
  ·by_cases hk1:k∈B1
   ·by_cases hkj:k=j
    ·subst hkj
     exact m1 _ (i1.1 i hi)
    ·exact m1 _ (i1.2 k hk1 (λz=>by
      rcases `dM z with z|z
      ·exact hn z
      ·exact hkj (`AI z)) i hi)
   ·exact i2.2 k hk hk1 i hi
def mw0(h:It n `j_):j<n:=by
 skip;rcases h with⟨s,e,_⟩|e|⟨z,e,_⟩|⟨i,e,hi⟩
 ·cases e
 ·cases e
 ·cases e
 ·done;rw[eg0 (j:=i) e];exact hi
def Pk.range(hw:`em){B B':`i}{T:`h}{b:`P}(h:`hW):`oy->`Qo->∀j∈B',`f4:=by
 induction h with
 | nil B T=>exact λh _=>h
 | str _ ih=>exact `aic
 | val _ _ ih=>exact `aic
 | old _ _ ih=>exact `aic
 | new hj _ _ i1 i2 =>
  intro h hd;apply `aid;refine i2 (i1 (`kp) λd m=>`uh `Jh d m) `Aq
  apply `kH
  ·exact h x z
  ·rw[`el];exact J
open T in
def Pk.told(hp:∀p∈ps,∀s∈`rA,`eF)(hit:∀j:Nat,∀s:Str,`aW4){B B':`i}{T:`h}{b:`P}(h:`hW):`rH->`aie->(∀s:Str,`Jf∈ds->`eF)->T'.Nodup/\∀s∈T',`eF:=by
 induction h with
 | nil B T=>exact λh1 h2 _=>`ab0
 | str _ ih =>
  rename_i B T s ds B' T' b _;intro h1 h2 h3;refine ih ?_ ?_ `Xd
  ·show (`wq).Nodup
   split
   ·exact h1
   ·rename_i hs
    exact `P! #[h1,`a6,λa ha b hb e=>by rw[`I8] at e;exact hs `W!]
  ·show ∀x∈(`wq),x∈`av
   split
   ·exact h2
   ·intro x hx
    apply `kH
    ·exact h2 x z
    ·rw[`el];exact h3 s A7
 | val _ _ ih=>exact `aW5
 | old _ _ ih=>exact `aW5
 | new hj _ _ i1 i2 =>
  intro h1 h2 h3;let#[a,b]:=i1 h1 h2 (hit _);exact i2 a b `Xd
open T in
def Pk.steps(hw:`em){B B':`i}{T:`h}{b:`P}(h:`hW):`oy->`Qo->∃n,`aW6/\∀(f:Nat) (W:`l),pk ps `Jg B T `Xe=b++pk ps f B' T' W:=by
 induction h with
 | nil B T=>exact λ_ _=>#[0,`a6,λf W=>`aif]
 | str _ ih =>
  intro h hd;apply `aig
  apply `aih;apply `aii;rfl
 | val hd' _ ih =>
  intro h hd;apply `aig
  apply `aih;apply `aii;rcases hd' with rfl|⟨z,rfl⟩<;>rfl
 | old hj _ ih =>
  rename_i B T j ds B' T' b _;intro h hd;apply `aig
  apply `aih;apply `aii;show `lB++pk ps `Jg (`ah2) T `aW7=_;rw[Km.Pi0,Km.O00,`nV,`nV]
 | new hj p1 p2 i1 i2 =>
  apply `aib;intro h hd;apply `aid;have M:∀x∈`hD,`ox:=λx hx=>by
   apply `kH
   ·exact h x z
   ·rw[`el];exact J
  have hI:=`uh `Jh;let#[n1,a1,a2]:=i1 M hI;let#[n2,c1,c2]:=i2 (p1.range hw M hI) `Aq
  have O:=`aW8;refine#[`Xf,by rw[`O,`ds] at a1;rw[`Z];lia,`ask];rw[`aW9,`aV,`aV,← c2 f W,← a2 `Ji `Xe];show `lB++pk ps (n1+`Ji) (`ah2) T `aW7=_;rw[Km.Pi0,Km.O00,`nW,`nW]
def Pk.ex(hw:`em):∀(m:Nat) (ds:`l) (B:`i) (T:`h),`Qp->`kG->`oy->`Qo->∃B' T' b,`hW:=by
 intro m
 induction m with
 | zero =>
  intro ds
  induction ds with
  | nil=>apply `aW'
  | cons d ds ih =>
   intro B T hm hn hB hd;skip;apply `aW!
   apply `aW?
   ·apply `aXa
    done;exact`aXb
   ·apply `wv
    done;exact`aXc
   ·apply `wv
    done;apply `aXd
   ·by_cases hj':`f2
    ·apply `wv
     done;exact`aXe
    ·done;exfalso
     have:=`nx `aij (m:=`j4) λy hy=>`fc (by
      apply `D4
      ·exact hB y z
      ·rw[`el];exact hj)
     apply `aik;lia
 | succ m im =>
  intro ds
  induction ds with
  | nil=>apply `aW'
  | cons d ds ih =>
   intro B T hm hn hB hd;skip;apply `aW!
   apply `aW?
   ·apply `aXa
    done;exact`aXb
   ·apply `wv
    done;exact`aXc
   ·apply `wv
    done;apply `aXd
   ·by_cases hj':`f2
    ·apply `wv
     done;exact`aXe
    ·have M:∀x∈`hD,`ox:=λx hx=>by
      apply `kH
      ·exact hB x z
      ·rw[`el];exact hj
     have hI:=`uh `D5;let#[B1,T1,b1,h1]:=im `Qn `dF T `NF `aij M hI;let#[N,e1]:=h1.pre;let#[B',T',b,h2]:=im ds B1 T1 (by rw[e1];simp only[`O,`ds];lia) (h1.nodup `aij) (h1.range hw M hI) J;done;exact#[B',T',_,`qy hj' h1 h2]
def Pa0(hw:`em):∃L T b1,`aXf/\`aXg/\L.Nodup/\(∀k∈L,`DT)/\(∀k∈L,`aXh)/\∃N,L=0::N:=by
 skip;have J:=`Qq;apply `aXi
 have hI:=`aXj;let#[L,T,b1,h]:=Pk.ex hw 60 `Jk [0] [] `j `aB hB hI;have hn:=`aXk;have hr:=h.range hw hB hI;apply `ail;apply `aXl;let#[n,a1,a2]:=hp.steps hw `aXm `aXn;have hl:`aXo:=by
  have:=`nx hn (m:=`j4) λy hy=>`fc (hr y hy)
  apply `DR
 have M:n<=100000:=by simp only[`Z,`m_] at a1;lia
 done;refine#[L,T,b1,h,?_,hn,hr,λk hk j hj=>?_,N,hN]
 ·have:=a2 `At []
  rw[`aXp,`bc] at this;show pk ps 100000 [] [] `Jl=_;rw[`E];have e:pk ps `At L T []=[]:=by
   generalize `Xj=m;cases m<;>rfl
  rw[e,`bc,`bc]
 ·by_cases z:k∈[0]
  ·rw[`el] at hj
   exact h.links.1 j hj
  ·exact h.links.2 k hk z j hj
universe Rk
namespace Rk
open DL W Rm StrLaws
open Bw (bs its two kn cnt Vb Gq)
open Km (hb nB nT nW pk lkd It Wb)
open K22 (lkv rel)
theorem ll0:∀(ps:`bI) (pre:`l) (d:D) (rest:`l),`aXq->∃ps1 q ps2,ps=ps1++q::ps2/\(pre=ps1.flatMap two/\d=`AB∨pre=ps1.flatMap two++[`AB]/\d=q.2)
 | [],pre,d,`bh,h=>by
  cases pre<;>cases h
 | q::ps,pre,d,`bh,h=>by
  have h:`Jy::q.2::`iG=`Au:=h
  match pre,h with
  | [],h =>
   apply `D6
   exact#[[],q,ps,rfl,`p #[rfl,h1.symm]]
  | [x],h =>
   apply `D6
   injection h2 with h2 h3
   exact#[[],q,ps,rfl,`q #[by rw[← h1];rfl,h2.symm]]
  | x::y::pre,h =>
   apply `D6
   injection h2 with h2 h3
   let#[ps1,q',ps2,e,hh]:=ll0 ps pre d `bh h3;refine#[q::ps1,q',ps2,`awp,?_];subst h1 h2;apply `aim
   ·left
    exact`aXr
   ·right
    exact`aXr
def pw(n:Nat):`a!:=`aTu
def fr0(n:Nat):pw `fi=`nc::`ee::pw n:=by
 unfold pw;rw[`f9,`kn];rfl
def Tt0(n:Nat):(pw n).length=2*n:=by
 induction n with
 | zero=>rfl
 | succ n ih=>rw[fr0,`Z,`Z,ih];lia
theorem o70:∀(a b:Nat),(pw (a+b)).drop (2*a)=pw b
 | 0,b=>`aif
 | a+1,b=>by
  rw[show a+1+b=(a+b)+1 by lia,fr0,show 2*(a+1)=2*a+1+1 by lia];exact o70 a b
def ye0(ps:`bI):`aVb:=by
 induction ps with
 | nil=>rfl
 | cons q ps ih =>
  rw[`kF,`O,ih,`Z];show 2+_=_;lia
theorem p40:∀ps:`bI,`aXs=`jF λp=>(`Xl,p.2)
 | []=>rfl
 | q::ps=>by
  show (`Jy,q.2)::`aXs=_;rw[p40 ps];rfl
theorem u20:∀{l:`l},(∀d∈l,`l6)->`ah3
 | [],_=>rfl
 | d::l,h=>by
  unfold trs;rw[`Qr,u20 `u?];rfl
theorem nk0:∀{l:`l},(∀d∈l,`ky)->v70 l=`d
 | [],_=>rfl
 | d::l,h=>by
  unfold v70;rw[`Qr,nk0 `u?];rfl
theorem e20(π:`c2)(s:Str):lkv π `dX=`cx:=rfl
def gs0{d:D}(h:It n d)(π:`c2):tr `aXt=`d/\nrf `aXt=`d:=by
 skip;rcases h with⟨s,rfl,_⟩|rfl|⟨z,rfl,_⟩|⟨j,rfl,_⟩
 ·done;exact`kW
 ·done;exact`kW
 ·done;exact`kW
 ·done;rw[show lkv π `nq=`aWr from `ww π j]
  exact#[rfl,ji0 _]
def cx0(p:Pt):`ff<4:=by have:=Bw.Pw0 p;lia
def q10{p:Pt}(hp:p.Ok):`ahJ<=25:=by
 cases p with
 | text w=>exact `cu
 | row vs=>have:=hp.1;show `cg<=25;lia
 | table ps=>have:=`oz hp;show `IV<=25;rw[ye0];lia
 | rcd c ps=>have:=`oz hp.2;show `ahM<=25;rw[`Z,ye0];lia
def stage(p:Pt)(hp:p.Ok)(hq:Gq p)(hI:∀d∈`fe,It n d)(ht:`Qs)(pre:`l)(d:D)(rest:`l)(h:`fe=`Au):∃w wr,`ain=w::wr/\((∀s,d≠`cx)->`jS) /\
  ∀s,d=`cx->w=.cls∨`tZ/\∀π,Held `aXu/\`ui ∉M5 `aXu:=by
 skip;have a2:∀x∈pre,It n x:=λx hx=>hI x (by rw[h];exact C8 _ hx)
 have a3:`dT<=24:=by
  have:=q10 hp;rw[h,`O,`Z] at this;lia
 have hv:=`Qb;have hs:∀(s:Str),`ui=`cx:=λs=>rfl
 have U:∀(v:D),`j1->`aXv:=λv hv s e=>by subst e;cases hv
 have Z:∀π,trs (`Av)=`d:=fun π=>u20 λx hx=>by
  apply `abZ;exact(`aXw).1
 have a1:∀π,v70 (`Av)=`d:=fun π=>nk0 λx hx=>by
  apply `abZ;exact(`aXw).2
 have fl:∀ps:`bI,`e? (`jF `aso)=`d:=λps=>by
  unfold flats;rw[`jb];intro x hx;let#[y,_,rfl]:=`dx hx;rfl
 have O:∀(J:`bI) (π:`c2),(`ix ((J.flatMap two).map `f3)).map `bV=`aXx:=λJ π=>by
  rw[← `asu,p40,`bT,`bT];rfl
 have Y:∀(J M:`bI) (q:`zC),((J++q::M).map `bV).Nodup->`Jy ∉`aXx:=λJ M q nd z=>by
  let#[y,hy,e]:=`dx z;apply `DJ
  rw[`a4,`_] at nd;exact(i3.mp nd).2.2 y.1 (`t' #[y,hy,rfl]) q.1 A7 e
 cases p with
 | text w=>done;exact `aio
 | row vs =>
  have h:vs=`Au:=h;done;refine#[`ee,`a1 `D0 `ee,?_,`iI,λs e=>?_]
  ·show (`aXy).drop `dT=_
   rw[List.drop_replicate,h,`O,`Z,show `dT+(`D0+1) - `dT=`D0+1 by lia,`f9]
  ·exact `I e (U d (hv d (by show d∈vs;rw[h];simp)) s)
 | table ps =>
  have h:`aXq:=h;let#[J,q,M,e,hh]:=ll0 ps pre d `bh h;apply `aXz
  apply `aim
  ·done;refine#[`nc,`aXA,?_,`aXB,λs es=>`q #[rfl,fun π=>#[#[by show 2<4;lia,#[by show (`Av).length<=30;rw[`K];lia,`ea,`ea],Z π,a1 π,?_],?_]]]
   ·apply `Qt
    rw[a,ye0,hl,o70,fr0]
   ·show `aXC
    rw[a,O];exact fl J
   ·show `aXD
    rw[a,O,hs,← es,b];exact Y J M q (by rw[← e];exact PsOk.nd hp)
  ·done;apply `aXE
   ·apply `Qt
    apply `aXF;rfl
   ·refine `aXG
    show d∈`ir;rw[b,e];simp
 | rcd c ps =>
  have h:`arG=`Au:=h;cases pre with
  | nil =>
   done;apply `D6
   exact#[.cls,`Jp,rfl,λz=>`I h1.symm (z c),λs _=>`mk]
  | cons x pre =>
   done;apply `D6
   skip;subst h1;let#[J,q,M,e,hh]:=ll0 ps pre d `bh h2;apply `aXz
   apply `aim
   ·done;refine#[`nc,`aXA,?_,`aXB,λs es=>`q #[rfl,fun π=>#[#[by show 3<4;lia,#[by show ((`IX::pre).map `f3).length<=30;rw[`K];lia,`ea,`auP],Z π,a1 π,?_],?_]]]
    ·apply `Qt
     rw[a,ye0,hl,o70,fr0]
    ·show `aXC
     rw[a,O];exact fl J
    ·show `aXD
     rw[a,O,hs,← es,b];exact Y J M q (by rw[← e];exact PsOk.nd hp.2)
   ·done;apply `aXE
    ·apply `Qt
     apply `aXF;rfl
    ·refine `aXG
     show d∈`ir;rw[b,e];simp
def hl(π:`c2):`afQ
 | `on=>`aip `II
 | p=>`ah1
def v20(ps:`b2)(π:`c2)(j:Nat):`eB:=(`nt,hl π `ly)
def Td0(π:`c2)(p:Pt):`gH (`ff,hl π p)=(`I9).d:=by
 cases p with
 | text w =>
  show `b9 [`jJ,X5 (`IJ (`aip `II))]=_;rw[ns0];rfl
 | row vs=>rfl
 | table ps =>
  show `b9 [`hq,`aXH]=`b9 [`hq,`aXI];apply `aXJ;rfl
 | rcd c ps =>
  show `b9 [`hr,`e7,`aXH]=`b9 [`hr,`e7,`aXI];apply `aXJ;rfl
def ka0{w:Str}(h:`aQ3):`D7<=20/\∀c∈`aXK,c∈r00:=by
 unfold isWord at h;rw[`bz,`Op] at h;have e:`D7=`dV:=rfl;refine#[`H,`ON];have:=n9.mp h.2 c hc;rw[← U70];have h3:`af8:=`aXL
 exact h3
def f60{w:Str}(h:`p' w=`d):1<=`D7/\`D7<=8/\∀c∈`aXK,`or:=by
 unfold isName at h;rw[`bz,`bz,`Op,`Op] at h;have e:`D7=`dV:=rfl;refine#[`H,`H,`ON];have:=n9.mp h.1.2 c hc;rw[← Sm0];have h3:`Df:=`aXL
 exact h3
universe Rk
namespace Rk
open DL W Rm StrLaws
open Bw (bs sg its two kn cnt tx Vb Gq)
open Km (hb nB nT nW pk lkd It Wb ix)
open K22 (lkv rel)
structure Wf(ps:`b2)(pool:`h):Prop where
 wb:`em
 pl:`agE<=60
 pn:∀s∈`av,`Pd
 ok:∀p∈ps,p.Ok
 nm:∀p∈ps,∀s∈`rA,`eF
structure Inv(pool:`h)(B:`i)(T:`h)(S:RS):Prop where
 len:`dC=`aS
 few:`rF
 nms:`b1=`aXM
 tnd:`rH
 tin:∀s∈T,`eF
 d0:`ws
 l0:`PH
 s0:`tM=[]
 un:∀k∈`b0,`v!
 unl:`aY<=`dC
 held:∀q∈`eD,`Xn
 wl:`hu<=60*`dC+1
 wc:`aq4=`aY
 th:`kJ
section
variable{B:`i}{T:`h}{S:RS}
theorem Inv.tl(W:`eS)(I:`oA):`hA<=60:=B4 (`wi `wx `wy) W.pl
def Inv.okS(W:`eS)(I:`oA):`fy:=by
 have h1:=`eW;have h2:=I.few;have h3:=I.wl;have h4:=I.tl W;exact#[`ke,`H,λq hq=>by have:=`Qu q hq;lia,`H,by rw[`kK,`K];lia]
def Inv.wlen(I:`oA):`hu<=4000:=by
 have h1:=`eW;have h2:=I.few;have h3:=I.wl;lia
def Qp0{l:`l}{d:D}(h:`ah3)(hd:`l6):trs `Ja=`d:=by
 induction l with
 | nil=>show (tr d&&`d)=`d;rw[hd];rfl
 | cons a l ih =>
  unfold trs at h;apply `rd;show `aWA;rw[h.1,ih h.2];rfl
theorem fi0{l:`aN}{k:Nat}{f:`wu}{P:α->Prop}{a:α}(h:∀x∈l,P x)(ha:`aXN)(hf:P (f a)):∀x∈`Qj,P x:=λx hx=>by
 let#[i,hi]:=m3.mp hx;rw[`l?] at hi;cases e:`F_ with
 | none=>rw[e] at hi;cases hi
 | some y =>
  rw[e] at hi
  by_cases z:k=i
  ·subst z
   rw[ha] at e;cases e;simp at hi;rw[← hi];exact hf
  ·simp[z] at hi
   rw[← hi];exact h y (C5 e)
def i60{l:`aN}{k:Nat}{f:`wu}{a:α}(ha:`aXN):(`Qj)[k]?=`c (f a):=by
 rw[`l?,ha];simp
structure Aft(S S1:RS)(k:Nat)(d:D):Prop where
 bg:`Qk=`rx
 un:S1.un=`b0
 wt:`nC=`l9
def o30{k:Nat}{u:`i}(hu:`hy)(d:D):(`iA).begun=`rx:=by
 unfold RS.hold;rw[hu]
def Inv.aft(I:`oA){k:Nat}{d:D}(A:Aft S S1 k d){T1:`h}{q:`eB}(hq:`jV)(hl:`Qv){w:`bM}(hw:`di)(hf:`kI)
  (hn:S1.names=T1.map `asv) (h1:T1.Nodup) (h2:∀s∈T1,`eF) (h3:S1.digits=0) (h4:S1.length=0) (h5:`ase=[]) (htr:`l6):Inv `av B T1 S1:=by
 have bl:S1.begun.length=`dC:=by rw[A.bg,`rB]
 refine#[by rw[bl];exact `eW,I.few,hn,h1,h2,h3,h4,h5,`abg,by rw[bl,A.un];exact I.unl,?_,?_,?_,?_]
 ·rw[bl]
  rw[A.un] at hj;exact `ke j hj
 ·rw[A.bg]
  exact fi0 (P:=`aXO) (f:=`VV) `Qu hq (by show (`aq_).length<=30;apply `lc;lia)
 ·rw[bl,A.wt,`Ao]
  have:=I.wl;lia
 ·rw[A.wt,A.un,hw]
  have:=I.wc;rw[hw,`ah7] at this;exact `E
 ·unfold Th
  rw[A.bg];exact fi0 (P:=λq=>`aha) (f:=`VV) `qA hq (Qp0 (`qA q (C5 hq)) htr)
def Tv0{B M:`i}(h:`f2):ix (B++M) j=`ub:=by
 induction B with
 | nil=>cases h
 | cons a B ih =>
  rw[`hE];unfold ix
  by_cases e:a=j
  ·rw[`d0,`d0]
  ·rw[`dg,`dg,ih `PZ]
def Tm0{B M:`i}(h:`no):ix (B++j::M) j=`aS:=by
 induction B with
 | nil =>
  rw[`hF];unfold ix;rw[`bA];rfl
 | cons a B ih =>
  rw[`hE];unfold ix;have h1:a≠j:=λz=>h (z▸A7)
  rw[`_E,ih λz=>h (A6 _ z),`Z]
def ew0{s t:Str}(h:`hw=`Js):s=t:=by
 have:`aE `hw=`aE `Js:=`atj
 exact `E
def Qy0{T:`h}(h:`rH):(`aXM).Nodup:=by
 refine `aUg;exact(T0.mp h).imp λhn e=>hn (ew0 e)
def Qt0(W:`eS)(I:`oA){k:Nat}{u:`i}(hu:`hy){q:`eB}(hq:`jV)(hl:`Qv){w:`bM}(hw:`di)(s:Str)(hs:`eF)
  (hv:w=.cls∨`tZ/\`IM/\`ui ∉M5 q):∃S1,`c3 S (`qB) `aY `uj/\Inv `av B `uf S1/\`aXP:=by
 have ok:=`aiq;have hf:`kI:=by rcases hv with rfl|⟨rfl,_⟩<;>decide
 have M:`Dx:=by rcases hv with h|⟨h,_⟩;exact `LV;exact `p h
 have a1:=I.wlen;have a2:=I.tl W;have Z:`jR=`hA:=by rw[`kK,`K]
 let#[n1,n8,nS]:=f60 (W.pn s hs);show ∃S1,`c3 S (`DN) `aY `uj/\Inv `av B (`wq) S1/\`aXP
 by_cases h:`jX
 ·rw[`cQ,`cQ]
  have U:=Km.pn0 h;have Y:=Km.Ph0 h;let#[c,r]:=V80 S ok w ws hw M I.l0 `j `Qw `qA `j `W1 `j `hw (by
   rw[Z,show `arJ - `W1=`IY by lia,`kK,`bN,Y];rfl) (λz=>by
   rcases hv with h|⟨_,h1,h2⟩
   ·rw[h] at z;cases z
   ·exact#[k,u,q,hu,hq,h1,h2])
  have A:Aft S { `ls (`ui) with count:=c } k `dX:=`aXQ;exact#[_,r,I.aft A hq hl hw hf `kK `wx `wy rfl I.l0 I.s0 rfl,A]
 ·rw[`dI,`dI]
  have O:`hw ∉`b1:=λz=>by
   rw[`kK] at z;let#[t,ht,e]:=`dx z;exact h (ew0 e▸ht)
  have tnd:(`Aj).Nodup:=`P! #[`wx,`a6,`aWi];have tin:∀x∈`Aj,x∈`av:=λx hx=>by
   apply `kH
   ·exact `wy x z
   ·rw[`el];exact hs
  have U:`hA<60:=by
   have:=`wi tnd tin;rw[`O,`ds] at this;have:=W.pl;lia
  have J:∀n∈`b1,`mc/\∀c∈n,`or:=λn hn=>by
   rw[`kK] at hn;let#[t,ht,rfl]:=`dx hn;let#[_,a,b]:=f60 (W.pn t (`wy t ht));exact#[`H,b]
  let#[c,r]:=R10 S ok w ws hw M I.l0 I.s0 `j `Qw `qA `j (λn hn=>(J n hn).1) `hw n1 n8 (by rw[`kK];exact Qy0 `wx) (λn hn=>(J n hn).2) nS O;have A:Aft S { `t5 S `hw with count:=c } k `dX:=by
   refine#[?_,rfl,rfl];show ((`aXR:RS).hold (`ui)).begun=_;exact o30 (S:=`aXR) hu _
  refine#[_,r,I.aft A hq hl hw hf ?_ tnd tin rfl rfl rfl rfl,A];show `asw=_;rw[`kK,`a4];rfl
def bf0(W:`eS)(I:`oA){k:Nat}{u:`i}(hu:`hy){q:`eB}(hq:`jV)(hl:`Qv)(hw:`ag6)(L:`i)(hL:∃M,L=B++M)(d:D)
  (hd:`pv∨(`asi)∨∃j:Nat,`f2/\d=`jZ):∃S1,`c3 S (`nr) `aY `uj/\`aXS/\Aft S S1 k (`aXT):=by
 skip;have ok:=`aiq;have Y:=I.wlen;have fin:∀(N:Nat) (d':D),nrf d'=`d->tr d'=`d->(`fg%4=1/\d'=`aWF∨`fg%4=2/\`aWG/\0<=`fg/\d'=`aWH∨`fg=0/\d'=`x)->∃S1,`c3 S (bs N) `aY `uj/\`aXS/\Aft S S1 k d':=λN d' hn J h=>by
  let#[c,r]:=Wb0 S ok ws hw I.d0 `j `Qw `qA N d' hn J h;have A:Aft S { `ls d' with count:=c } k d':=`aXQ;exact#[_,r,I.aft A hq hl hw `s `kK `wx `wy rfl I.l0 I.s0 J,A]
 rcases hd with rfl|⟨z,rfl⟩|⟨j,hj,rfl⟩
 ·done;exact fin 0 `x rfl rfl (`q (`ax4))
 ·done;refine fin (4*`Qd+1) `jI rfl rfl (`p #[`H,?_])
  rw[show ((4*`Qd+1:Nat):Int)/4=(`Qd:Int) by lia,Yk0]
 ·have O:=Km.pn0 hj
  have U:=`eW;let#[M,rfl]:=hL;done;rw[`ww,Tv0 hj,`D8,`nV];refine fin `arZ (lkd (`ub)) (ji0 _) rfl (`q (`p #[`H,`H,`H,?_]));show `qi (`ub)=_;congr 1;lia
def f80(A:`aN)(x:α)(f:`wu)(n:Nat)(hn:n=A.length):(A++[x]).modify n f=A++[f x]:=by
 subst hn
 induction A with
 | nil=>rfl
 | cons a A ih =>
  rw[`hE,`Z,`hE,← ih];rfl
def Qr0(A N:`aN)(k:Nat)(f:`wu)(h:k<A.length):`aXU=A.modify k f++N:=by
 induction A generalizing k with
 | nil=>cases h
 | cons a A ih =>
  cases k with
  | zero=>rfl
  | succ k =>
   have:=ih k (by rw[`Z] at h;lia);show a::`aXU=_;rw[`E];rfl
def V90(kd n:Nat)(hk:`oq):`aWI:=by
 rw[`aWJ];intro z
 apply `Dt
 ·apply `Qe;cases `E
 ·apply `Qe;cases `E
 ·apply `Qf;apply `Qg;simp at hm
 ·apply `ae6
  ·cases z
  ·apply `Qf
   apply `Qg;simp at hm
def enter(W:`eS)(I:`oA){w:`bM}(hw:`di)(hv:`Dw)(hun:∀k u,`hy->∃q,`jV/\`Qv)(j:Nat)(hj:`f4)(h60:`aS<60) :
  ∃S1,(∃S0,`c3 S (`W4) `aY S0/\`c3 S0 (`W5) (`D_) `uj)/\Inv `av `dF T S1/\S1.un=`air /\
   `Qk=`Qx++[(`nt,if `nt=0 then hl (λx=>x) `ly else [])] /\
   `nC=(if `nt=0 then [] else `Wq (`nt) (cnt `ly))++`iJ:=by
 have ok:=`aiq;have a7:=I.wlen;have Z:=`eW;have a4:`kI:=`DW
 have M:=W.ok _ `D5;generalize `hC=p at M ⊢;have hc:`t7<=(if `ff=0 then 20 else 12):=by
  cases p with
  | text t =>
   have:=(`aXV).1;show t.length<=20;exact `E
  | row vs=>exact M.1
  | table ps=>exact `oz M
  | rcd c ps=>exact `oz M.2
 have a2:`ou:=by split at hc<;>lia
 have a8:=I.unl;let#[c,r]:=T70 S ok w ws hw hv I.d0 `j `j `Qw `qA `Jm `Jn (cx0 p) hc `j;obtain⟨S0,J⟩:∃S0:RS,S0={ rr0 S `Jm `Jn with count:=c }:=`ac;rw[← J] at r;have a3:=`aTz;have b0:S0.begun=`Qx++[(`ff,[])]:=by
  rw[J,← Z];rfl
 have u0:S0.un=`air:=by
  rw[J,← Z];show (`z7).begun.length::`b0=_;rw[a3]
 have w0:S0.wait=`Jo++`iJ:=by
  rw[J];show `Jo++([`b!]++`l9)=_;rw[hw];rfl
 have a1:`DZ=`aY:=by
  have:=I.wc;rw[hw,`Jc a4] at this;exact `E
 have a6:`hu=`Lm+1:=`aWK
 have hh:∀q∈`Qx,`Xn:=by
  cases hu:`b0 with
  | nil =>
   unfold RS.hold;rw[hu];exact `Qu
  | cons k u =>
   let#[q,q1,q2]:=hun k u hu;rw[o30 hu];exact fi0 (P:=`aXO) (f:=`asC) `Qu q1 (by show (q.2++[`Ax]).length<=30;apply `lc;lia)
 have O:(`asx).begun.length=`aS:=by rw[jc0];exact Z
 have I0:Inv `av `dF T S0:=by
  have U:S0.begun.length=`Qy:=by rw[b0,`O,O];rfl
  refine#[by rw[U,`O];rfl,`aob,by rw[J];exact `kK,`wx,`wy,`agX,by rw[J];exact I.l0,by rw[J];exact I.s0,`aXW,?_,`vB,?_,?_,`vB]
  ·rw[U]
   rw[u0] at hk;rcases `bm hk with z|z
   ·lia
   ·have:=`ke k z
    lia
  ·rw[U,u0,`Z]
   lia
  ·rw[b0] at hq
   apply `Qz
   ·exact hh q z
   ·rw[`el];exact `cu
  ·rw[U,w0,`O,`Z]
   have:=n60 `Jm `Jn a2;have:=I.wl;lia
  ·rw[w0,u0,`aWL,V90 _ _ (cx0 p),`rG,`Z,a1]
   simp
  ·rw[b0] at hq
   apply `Qz
   ·exact `aXX
   ·rw[`el];rfl
 by_cases h0:`ff=0
 ·cases p with
  | text t =>
   have a5:=`aXV;let#[c',r']:=Wf0 `Js S0 `aS `b0 (`iJ) (I0.okS W) u0 (by
    rw[w0];rfl) (λq hq=>by have:=I0.held q hq;lia) I0.d0 (by have:=I0.wlen;lia) (E7 I0.wc) I0.th a5.2
   refine#[{ `Xo with count:=c' },#[_,r,by rw[show `ais=`D_ by rw[u0,`Z]] at r';exact r'],?_,u0,?_,?_]
   ·have bb:`ait=`Qx++[(0,`aXY `II)]:=by
     show `aXZ;rw[b0,`aX_];rfl
    have Y:`D9=`Qy:=by rw[bb,`O,O];rfl
    have w1:`aX0<=60*(`Qy)+1:=by
     rw[`Z];have:=I.wl;lia
    refine#[by show `D9=_;rw[Y,`O];rfl,I0.few,I0.nms,I0.tnd,I0.tin,rfl,I0.l0,I0.s0,`aXW,?_,`vB,?_,?_,`vB]
    ·show k<`D9
     rw[Y];have:=I0.un k hk;have:=I0.len;rw[`O,`ds] at this;lia
    ·show `ais<=`D9
     rw[Y,u0,`Z];lia
    ·have hq:q∈`ait:=hq
     rw[bb] at hq;apply `Qz
     ·exact hh q z
     ·rw[`el]
      show (`aXY _).length<=30;rw[`K];lia
    ·show `aX0<=60*`D9+1
     rw[Y];exact w1
    ·show (`Xp).count `b!=`ais
     rw[u0,`rG,`Z,a1];simp
    ·have hq:q∈`ait:=hq
     rw[bb] at hq;apply `Qz
     ·exact `aXX
     ·rw[`el]
      exact u20 λd hd=>by apply `QA;rfl
   ·show `aXZ
    rw[b0,`aX_];rfl
   ·rfl
  | row _=>cases h0
  | table _=>cases h0
  | rcd _ _=>cases h0
 ·have ht:tx p=[]:=by cases p with|text _=>exact `I rfl h0|_=>rfl
  rw[ht,`_F,`_F];exact#[S0,#[_,r,`ahc],I0,u0,b0,w0]
universe zz
universe Rk
namespace Rk
open DL W Rm
open Bw (bs its kn cnt tx)
open Km (hb nB nT nW pk lkd It Wb)
def hdl(ps:`b2)(j:Nat):Nat:=(`W4).length
inductive Pe (ps:`b2):`i->`h->`l->`i->`h->`P->Nat->`i->`i->Prop
 | nil (B:`i) (T:`h) (i:Nat):Pe ps B T [] B T [] i [] []
 | str {B:`i} {T:`h} {s:Str} {ds:`l} {B':`i} {T':`h} {b:`P} {i:Nat} {nb ne:`i} (h:Pe ps B `uf ds B' T' b (i+`aX1) nb ne):Pe ps B T (`cx::ds) B' T' (`qB++b) i nb ne
 | val {B:`i} {T:`h} {d:D} {ds:`l} {B':`i} {T':`h} {b:`P} {i:Nat} {nb ne:`i} (hd:`Qm) (h:Pe ps B T ds B' T' b (i+`aVO) nb ne):Pe ps B T `hx B' T' (`nr++b) i nb ne
 | old {B:`i} {T:`h} {j:Nat} {ds:`l} {B':`i} {T':`h} {b:`P} {i:Nat} {nb ne:`i} (hj:`f2) (h:Pe ps B T ds B' T' b (i+`qH) nb ne):Pe ps B T `D2 B' T' (`lB++b) i nb ne
 | new {B:`i} {T:`h} {j:Nat} {ds:`l} {B1 B':`i} {T1 T':`h} {b1 b:`P} {i:Nat} {nb1 ne1 nb ne:`i} (hj:`no) (h1:Pe ps `dF T `Qn B1 T1 b1 (i+`qH) nb1 ne1) (h2:Pe ps B1 T1 ds B' T' b (i+`qH+`wz) nb ne):Pe ps B T `D2 B' T' (`lB++(b1++b)) i ((i+`Ay)::(nb1++nb)) ((i+`qH+`wz)::(ne1++ne))
section
variable{B B':`i}{T:`h}{b:`P}{ne:`i}
def Pe.pk(h:`D'):`hW:=by
 induction h with
 | nil B T i=>exact `L B T
 | str _ ih=>exact `t ih
 | val hd _ ih=>exact `qx hd ih
 | old hj _ ih=>exact .old hj ih
 | new hj _ _ i1 i2=>exact `qy hj i1 i2
def Pk.pe(h:`hW):∀i,∃nb ne,`D':=by
 induction h with
 | nil B T=>exact λi=>#[_,_,`L B T i]
 | str _ ih=>exact λi=>let #[_,_,h]:=ih _;#[_,_,`t h]
 | val hd _ ih=>exact λi=>let #[_,_,h]:=ih _;#[_,_,`qx hd h]
 | old hj _ ih=>exact λi=>let #[_,_,h]:=ih _;#[_,_,.old hj h]
 | new hj _ _ i1 i2=>exact λi=>let #[_,_,h1]:=i1 _;let #[_,_,h2]:=i2 _;#[_,_,`qy hj h1 h2]
def mp0(hj:`no):`qH=`aX2:=by
 rw[`D8,`nW,`O];rfl
structure Bd(i n:Nat)(nb ne:`i):Prop where
 b:∀x∈nb,`aX3
 e:∀x∈ne,`aX3
 len:`JQ=`XX
theorem Bd.on(h:Bd (i+m) n nb ne):Bd i (m+n) nb ne :=
 #[λx hx=>by have:=h.b x hx;lia,λx hx=>by have:=h.e x hx;lia,`i4]
open T in
def Pe.bd(h:`D'):Bd i `lr nb ne:=by
 induction h with
 | nil B T i=>exact`aX4
 | str _ ih=>rw[`O];exact ih.on
 | val hd _ ih=>rw[`O];exact ih.on
 | old hj _ ih=>rw[`O];exact ih.on
 | new hj h1 h2 i1 i2 =>
  rename_i B T j ds B1 B' T1 T' b1 b i nb1 ne1 nb ne;have e:=`aX5;rw[`O,`O];refine#[`kp,`kp,?_]
  ·rcases `x4 with z|hx
   ·lia
   apply `kH
   ·have:=i1.b x z;lia
   ·have:=i2.b x z;lia
  ·rcases `x4 with z|hx
   ·lia
   apply `kH
   ·have:=i1.e x z;lia
   ·have:=i2.e x z;lia
  ·rw[`Z,`Z,`O,`O,i1.len,i2.len]
def Pe.nbl(h:`D'):`Ar=`aS+`JQ:=by
 induction h with
 | nil B T i=>rfl
 | str _ ih=>exact ih
 | val hd _ ih=>exact ih
 | old hj _ ih=>exact ih
 | new hj _ _ i1 i2 =>
  rw[i2,i1,`Z,`O,`O,`ds];lia
universe zz
def le(l:`i)(x:Nat):Nat:=(l.filter λy=>`z (y<=x)).length
def pe0{l:`i}{x:Nat}(h:∀y∈l,x<y):le l x=0:=by
 unfold le;rw[List.length_eq_zero_iff,List.filter_eq_nil_iff];intro y hy z;have:=h y hy;have:=i6 z;lia
def le_lo{l:`i}{x:Nat}(h:∀y∈l,y<=x):le l x=`aR:=by
 unfold le;rw[`aBr λy hy=>E4 (h y hy)]
def le_app(l m:`i)(x:Nat):le (l++m) x=le l x+le m x:=by
 unfold le;rw[List.filter_append,`O]
def o20(y:Nat)(m:`i)(x:Nat):le (y::m) x=(if y<=x then 1 else 0)+le m x:=by
 rw[show y::m=[y]++m from rfl,`D!];congr 1;unfold le
 by_cases h:y<=x
 ·rw[`cQ];simp[h]
 ·rw[`dI];simp[h]
def Opn(us:`i)(i u:Nat)(nb ne:`i):Prop:=∀j v,us[j]?=`b6->v+le ne `E0=u+le nb `E0
theorem Opn.app{us vs:`i}{u:Nat}{ne:`i}(h1:`aX6)(hn:`eI=n)(h2:`aX7):`aX8:=λj v h=>by
 by_cases q:j<`eI
 ·rw[`g9 q] at h
  exact h1 j v h
 ·rw[`CV] at h
  have:=h2 _ v h;rw[show i+n+(j - `eI)=i+j by lia] at this;exact `E
theorem Opn.const{us:`i}{u w:Nat}{ne:`i}(h:∀x∈us,x=w)(k:∀p,i<=p->p<i+`eI->w+le ne p=u+le nb p):`aX6:=λj v hj=>by
 let#[q,_]:=`UA;rw[h v `adp];exact k _ `j `j
def Opn.item{us vs:`i}{u:Nat}{ne:`i}(h:∀x∈us,x=u)(hn:`eI=n)(h2:`aX7)(bd:Bd (i+n) m nb ne):`aX8:=by
 refine(`aiu h λp h1 h2=>?_).app hn h2;rw[pe0 (l:=ne) λy hy=>by have:=bd.e y hy;lia,pe0 (l:=nb) λy hy=>by have:=bd.b y hy;lia]
def Opn.part{ush ust us vs:`i}{u h t:Nat}{nb1 ne1 ne:`i}(h1:∀x∈ush,x=u)(e1:ush.length=h)(h2:∀x∈ust,x=u+1)(e2:ust.length=t)(h3:Opn us (`Az) (u+1) nb1 ne1)(e3:`eI=m)(b1:Bd (`Az) m nb1 ne1)(h4:Opn vs `aiv u nb ne)(b2:Bd `aiv n nb ne) :
  Opn (ush++(ust++(us++vs))) i u ((i+h)::(nb1++nb)) (`aiv::(ne1++ne)):=by
 refine(`aiu h1 `aX9).app e1 ((`aiu h2 `aX9).app e2 (Opn.app (n:=m) ?_ e3 ?_))
 ·rw[pe0,pe0]
  ·intro y hy
   skip;apply `aiw
   ·done;lia
   apply `D4
   ·have:=b1.b y z;done;lia
   ·have:=b2.b y z;done;lia
  ·intro y hy
   skip;apply `aiw
   ·done;lia
   apply `D4
   ·have:=b1.e y z;done;lia
   ·have:=b2.e y z;done;lia
 ·rw[pe0,o20,`gc,pe0]
  ·intro y hy
   apply `D4
   ·have:=b1.b y z;lia
   ·have:=b2.b y z;lia
  ·intro y hy
   skip;apply `aiw
   ·done;lia
   apply `D4
   ·have:=b1.e y z;done;lia
   ·have:=b2.e y z;done;lia
 ·intro j v hj
  let#[q,_]:=`UA;have:=h3 j v hj;rw[show i+h+t+j=`Az+j by lia,o20,o20,`D!,`D!,`Dn,`gc,pe0 (l:=nb) (λy hy=>by have:=b2.b y hy;lia),pe0 (l:=ne) (λy hy=>by have:=b2.e y hy;lia)];lia
 ·intro j v hj
  have:=h4 j v (by exact hj);rw[show i+h+t+m+j=`Az+m+j by lia,o20,o20,`D!,`D!,`gc,`gc,le_lo (l:=nb1) (λy hy=>by have:=b1.b y hy;lia),le_lo (l:=ne1) (λy hy=>by have:=b1.e y hy;lia),b1.len];lia
universe Rk
namespace Rk
open DL W Rm StrLaws
open Bw (bs sg its two kn cnt tx Vb Gq)
open Km (hb nB nT nW pk lkd It Wb ix)
open K22 (lkv rel)
def Vl0{p:Pt}(h:`Qs):(`Jo).length=`ahJ:=by
 cases p with
 | text w=>exact `Z_
 | row vs=>show (`aXy).length=`cg;rw[`qZ]
 | table ps=>show (`Jp).length=`IV;rw[Tt0,ye0]
 | rcd c ps=>show (Want.cls::`Jp).length=`ahM;rw[`Z,Tt0,`Z,ye0]
def pl0{l:`aN}{a:α}{r:`aN}(h:`AL=a::r):`Jt `fi=r:=by
 rw[← `Jq,h];rfl
def am0(S:RS)(k:Nat)(u:`i)(ws:`a!)(hu:`hy)(hw:`dB=`iJ):`lt=({ S with un:=u,wait:=ws }:RS).ends:=by
 skip;let#[c,b,u',nm,w',dg,l,sp]:=S;have e1:u'=k::u:=hu;have e2:w'=`iJ:=hw;subst e1 e2;done;rfl
theorem du0(W:`eS){p:Pt}(hp:p∈ps):∀s:Str,`Jf∈`fe->`eF:=λs hs=>by
 have hv:=(`Jv).vals;have hn:=W.nm p hp;have J:∀qs:`bI,`aX'->`Jf∈`D?->s∈`Jz:=λqs hv h=>by
  let#[q,hq,hm]:=d5.mp h;unfold two at hm;rcases `PM with e|hm
  ·apply `DJ
   exact e▸`aix
  ·have:=hv q.2 (`aix)
   rw[← `ec hm] at this;cases `E
 cases p with
 | text w=>cases hs
 | row vs=>exact `I (hv _ hs) (λz=>by cases z)
 | table qs=>exact `aX!
 | rcd c qs =>
  rcases `bm hs with e|hs
  ·apply `DJ
   exact hn s (D3 _ (by rw[e];exact `ahN))
  ·exact `aX!
structure Done(ps:`b2)(pool:`h)(L:`i)(S S':RS)(k:Nat)(u:`i)(ws:`a!)(ds:`l)(B B':`i)(T':`h):Prop where
 inv:Inv `av B' T' S'
 un:S'.un=k::u
 wt:S'.wait=`iJ
 bg:S'.begun=`zF k (λq=>(q.1,q.2++ds.map `j5))++(B'.drop `aS).map `Xu
open T in
def sim(W:`eS)(L:`i){B B':`i}{T:`h}{b:`P}{ne:`i}(h:`D'):∀(S:RS) (k:Nat) (u:`i) (ws:`a!) (p:Pt) (pre:`l),`oA->`kG->`oy->(`QB) ->
  `hy->`Wj=`c (`ff,`Xk `j5)->p∈ps->`Qs->`fe=pre++ds->`dB=`ain++`iJ ->
  ∃S' us,`eE `lt b us S'.ends/\Opn us i `aY nb ne/\Done ps `av L S S' k u ws ds B B' T':=by
 induction h with
 | nil B T i =>
  apply `Ea;have e:`ain=[]:=`att (by rw[Vl0 h0,he,`bc];exact `jl);rw[e] at hw;refine#[S,[],`L _,`Xv,I,hu,hw,?_];rw[`n9,`k8,`k8,`bc,modify_id _ `aWZ]
 | str h ih =>
  rename_i B T s ds B' T' b i nb ne;have bd:=h.bd;apply `Ea;let#[w,wr,s1,s2,s3]:=stage p `Ju (`Jv) (`nv hp) h0 pre `dX ds he;rw[s1] at hw;have hl:`QC:=by
   have:=`QD;apply `QE;lia
  have hs:`eF:=du0 W hp s `aX?;have c4:`kI:=by rcases s3 s rfl with rfl|⟨rfl,_⟩<;>decide
  let#[S1,#[us1,a1,r],I1,A]:=Qt0 W I hu hk (`QF) hw s hs (by
   rcases s3 s rfl with z|⟨z,q⟩
   ·exact `e9
   ·exact `q #[z,q `cy])
  let#[S',us2,r',g',D']:=ih S1 k u ws p (pre++`lx) I1 hn hB hL `aiy `aiz hp h0 `D1 `aiA;refine#[S',`Xr,by rw[q50 hw c4];exact `asA,`asB,`Xs,D'.un,D'.wt,?_];apply `aiB;apply `Ql;rfl
 | val hd h ih =>
  rename_i B T d ds B' T' b i nb ne;have bd:=h.bd;have h:=h.pk;apply `Ea;let#[w,wr,s1,s2,s3]:=stage p `Ju (`Jv) (`nv hp) h0 pre d ds he;have U:`jS:=s2 λs e=>by rcases hd with rfl|⟨z,rfl⟩<;>cases e
  subst U;rw[s1] at hw;have hl:`QC:=by
   have:=`QD;apply `QE;lia
  apply `aiC;apply `ail;let#[S1,#[us1,a1,r],I1,A]:=bf0 W I hu hk (`QF) hw L `aYa d (by rcases hd with z|z;exact `e9;exact `q (`e9));let#[S',us2,r',g',D']:=ih S1 k u ws p (pre++[d]) I1 hn hB `aiD `aiy `aiz hp h0 `D1 `aiA;apply `aYb;apply `aiB;apply `Ql
 | old hj h ih =>
  rename_i B T j ds B' T' b i nb ne;have bd:=h.bd;have h:=h.pk;apply `Ea;apply `aYc;apply `aYd
  subst U;rw[s1] at hw;have hl:`QC:=by
   have:=`QD;apply `QE;lia
  apply `aiC;apply `ail;let#[S1,#[us1,a1,r],I1,A]:=bf0 W I hu hk (`QF) hw L `aYa `j_ (`q (`q #[j,hj,rfl]));let#[S',us2,r',g',D']:=ih S1 k u ws p (pre++[`jZ]) I1 hn hB `aiD `aiy `aiz hp h0 `D1 `aiA;apply `aYb;apply `aiB;apply `Ql
 | new hj h1 h2 i1 i2 =>
  rename_i B T j ds B1 B' T1 T' b1 b i c1 d2 nb ne;have a7:=h1.bd;have a8:=h2.bd;have hh:=`aX5;rw[hh] at a7 a8 i1 i2 ⊢;have h1:=h1.pk;have h2:=h2.pk;apply `Ea;apply `aYc;apply `aYd
  subst U;rw[s1] at hw;have hw:`dB=`ee::(`wA):=hw;have hl:`QC:=by
   have:=`QD;apply `QE;lia
  have a2:`f4:=mw0 (`nv hp `j_ `aX?);have Z:=`aia;have Y:∀x∈`hD,`ox:=λx hx=>by
   apply `kH
   ·exact hB x z
   ·rw[`el];exact a2
  have c0:`aS<60:=by
   have:=`nx Z (m:=`j4) λy hy=>`fc (Y y hy)
   apply `aik;have:=`QG;lia
  apply `aiC;let#[N1,a5]:=h1.pre;let#[N2,a4]:=h2.pre;have hπ:`Eb=`aS:=by
   rw[hM,a4,a5,`aV,`aV,`aV];exact Tm0 hj
  have b0:=(`qw a2).2;have hI:=`nv b0;let#[S1,#[S0,#[e1,ah,rh],#[d3,at',rt]],I1,u1,O,w1]:=enter W I hw `u9 (λk' u' e=>by
   rw[hu] at e;cases e;exact#[_,hk,`QF]) j a2 c0
  have b4:=o30 hu (`Ax);have b2:k<`aYe:=by
   rw[`rB];exact `ke k `aq2
  have a3:`aYe=`aS:=by rw[`rB];exact `eW
  have c8:B1.drop `aS=j::B1.drop `DS:=by
   rw[a5,`DE,`aV,`DE];rfl
  have d1:`Iz=`D_:=by rw[u1,`Z]
  obtain⟨S2,us1,r2,g2,I2,u2,w2,e0⟩:∃S2 us1,`aYf/\Opn us1 (i+(`aX2)) (`D_) c1 d2/\Inv `av B1 T1 S2/\S2.un=`air/\S2.wait=`b!::(`wA)/\`aiE=`aYg:=by
   by_cases ht:`nt=0
   ·have hit:`Al=[]:=by
     cases e:`hC with
     | text _=>rfl
     | row _=>rw[e] at ht;cases ht
     | table _=>rw[e] at ht;cases ht
     | rcd _ _=>rw[e] at ht;cases ht
    rw[`acW] at O w1;rw[hit] at h1;cases h1;apply `aYh;rw[O,b4,`DE];congr 1;show[_]=[`aYi];unfold v20;rw[ht];cases e:`hC with
    | text _=>rfl
    | row _=>rw[e] at ht;cases ht
    | table _=>rw[e] at ht;cases ht
    | rcd _ _=>rw[e] at ht;cases ht
   ·rw[`ap ht] at O w1
    rw[b4] at O;let#[S2,us1,r2,g2,D2]:=i1 S1 `aS `b0 (`wA) `ly [] I1 Z Y #[N2++M,by rw[hM,a4,`aV]] u1 (by rw[O,`CV,a3,`gX];rfl) b0 ht rfl w1;refine#[S2,us1,r2,by rw[d1] at g2;exact g2,D2.inv,D2.un,D2.wt,?_];rw[D2.bg,O,f80 _ _ _ _ a3.symm,c8,`_,`aV];congr 1;show (`nt,[]++(`Al).map `j5)::_=`aYi::_;congr 1;unfold v20;cases e:`hC with
    | text _=>rw[e] at ht;exact `aio
    | row _=>rfl
    | table _=>rfl
    | rcd _ _=>rfl
  obtain⟨S3,J⟩:∃S3:RS,S3={ S2 with un:=`b0,wait:=`wA }:=`ac;have e3:`Xt=S3.ends:=by rw[J];exact am0 S2 `aS `b0 _ u2 w2
  have c3:S3.begun.length=`aiF:=by rw[J];exact I2.len
  have I3:Inv `av B1 T1 S3:=by
   have c2:=I2.wc;have l2:=I2.wl;have n2:=I2.unl;rw[w2,u2,`rG,`Z] at c2;rw[w2,`Z] at l2;rw[u2,`Z] at n2;refine#[c3,I2.few,by rw[J];exact I2.nms,I2.tnd,I2.tin,by rw[J];exact I2.d0,by rw[J];exact I2.l0,by rw[J];exact I2.s0,`kp,?_,by rw[J];exact I2.held,?_,?_,by rw[J];exact I2.th]
   ·rw[J] at hx ⊢
    exact I2.un x (by rw[u2];exact A6 _ hx)
   ·rw[J]
    show `aY<=`aiG;lia
   ·rw[J]
    show (`wA).length<=60*`aiG+1;lia
   ·rw[J]
    show (`wA).count `b!=`aY;simp at c2 ⊢;lia
  have b3:S3.begun=`aYg:=by rw[J];exact e0
  have a6:lkv `cy `j_=`Ax:=by rw[`ww,hπ];rfl
  let#[S',us2,r',g',D']:=i2 S3 k u ws p (pre++[`jZ]) I3 (h1.nodup Z) (h1.range `oB Y hI) `aiD (by rw[J];exact hu) (by
   rw[b3,`g9 b2,i60 hk,`a4,`Dr,a6]) hp h0 `D1 (by
   rw[J,`O,`ds,pl0 s1])
  refine#[S',e1++(d3++(`Xr)),?_,.part ah rh.len at' rt.len g2 r2.len a7 (by rw[show S3.un=`b0 by rw[J]] at g';exact g') a8,`Xs,D'.un,D'.wt,?_]
  ·rw[`asz,`D8,`nW,`aV]
   refine rh.app (rt.app (r2.app ?_));rw[e3];exact r'
  ·rw[D'.bg,b3,Qr0 _ _ _ _ b2,w50,`aV]
   congr 1
   ·congr 1
    funext q
    rw[`_,a6,`aV];rfl
   ·rw[← `a4]
    congr 1;rw[a4,`DE,List.drop_append_of_le_length (by rw[a5];simp only[`O];lia)]
universe Rk
namespace Rk
open DL W Rm StrLaws
open Bt (W0 o6 Z3 Z0 zz0 M3 V3 S6 Z6)
open Bw (bs sg its two kn cnt tx Vb Gq)
open Km (hb nB nT nW pk lkd It Wb ix)
open K22 (lkv rel)
structure Whl(q:`eB):Prop where
 kd:q.1<4
 fits:`aUJ
 tr:∀d∈q.2,`l6
 nr:`aUK
def Vj0(S:RS)(k:Nat)(q:`eB)(hq:`jV)(h:`uk):`aUL:=by
 have e2:`aUM:=by
  show `agQ;rw[`bN,hq];rfl
 have e1:`aUN:=by
  unfold W2;rw[`bO,hq];rfl
 rw[e1];unfold u80 T8;simp only[xi0,`n,e2];rw[`R #[rfl,u20 h.tr,h.nr]]
theorem d70(S:RS):∀(ks:`i) (qs:`afV),`gs=`QH->(∀(i k:Nat) (q:`eB),ks[i]?=`e6->qs[i]?=`sX->`jV)->`aYj->`Vc `z3 (ks.map `Iq)=`c (`fh λq=>`WS)
 | [],[],_,_,_=>rfl
 | [],`dJ,h,_,_=>by cases h
 | `dJ,[],h,_,_=>by cases h
 | `hS,`yz,h,hat,hw=>by
  have ih:=d70 S ks qs `hB (λi k' q' h1 h2=>hat `d' k' q' h1 h2) λx hx=>hw x `o?
  rw[`_,`_];unfold partsOf;rw[Vj0 S k q (hat 0 k q rfl rfl) (hw q A7),ih];rfl
theorem jm0:∀(xs:`l),(∀d∈xs,`l6)->∀q∈`Aa,tr q.1=`d/\tr q.2=`d
 | [],_,q,hq=>by cases hq
 | [a],_,q,hq=>by cases hq
 | `Fu,h,q,hq=>by
  rcases `bm (show q∈`afX from hq) with rfl|hq
  ·exact#[h a A7,h b (A6 _ A7)]
  ·exact jm0 r (λd hd=>h d (A6 _ (A6 _ hd))) q hq
def is0(a b:D)(ha:tr a=`d)(hb:tr b=`d):tr (`abT)=`d:=by
 show trs `Gw=`d;exact u20 λd hd=>by
  apply `ov
  ·exact ha
  ·rw[`qz];exact hb
def bp0(xs:`l)(h:∀d∈xs,`l6):tr `aUx=`d:=by
 show trs _=`d;exact u20 λd hd=>by
  apply `aiH;exact is0 _ _ (`aYk).1 (`aYk).2
def Oo0{q:`eB}(h:`uk):tr (`gH q)=`d:=by
 skip;let#[kd,held]:=q;have ht:=h.tr
 rcases k4 h.kd with rfl|rfl|rfl|rfl
 ·done;exact is0 _ _ rfl rfl
 ·done;exact is0 _ _ rfl (show trs `dD=`d from u20 ht)
 ·done;exact is0 _ _ rfl (bp0 `dD ht)
 ·done;show trs [`fZ `tu,held.headD `x,`w ((`aUI).map `qp)]=`d;refine u20 `wn
  skip;apply `ov
  ·done;rfl
  apply `ov
  ·cases `dD with
   | nil=>done;rfl
   | cons a r=>done;exact ht a A7
  ·done;rw[`qz]
   exact bp0 _ λd hd=>ht d (Am0 hd)
def N80(S:RS)(hl:`Pt)(h:∀q∈`eD,`uk)(p:`g):ie0 0 `p1 1 [] `a8 `O2 `eR=`c (`aYl,`eR):=by
 apply `kC
 unfold ie0;rw[Xu0,`n,y50,`n,xp0,`n];show (`Vc `z3 (`tN)).bind _=_;rw[d70 S (`aqR) `eD (by rw[`j0]) (λi k q h1 h2=>by
  let#[a,b]:=`cU h1;rw[List.getElem_range] at b;rw[← b];exact h2) h,`n]
 have e:T4 1 [] (λ_=>`c (`qc `aYm)) `a8 noT `O2 (`a1 ([`qd]:Ds).length .un)=`c (`o `Xw):=by
  refine xa0 rfl `lw ?_;have J:∀qs:`afV,`aYj->za0 `a8 noT `O2 [.un] (`fh `aYm)=`c (`fh `gH):=by
   intro qs
   induction qs with
   | nil=>exact `iI
   | cons q qs ih =>
    intro hq;have h1:=hq q A7;rw[`_];unfold za0;have e1:oA (z7 `jK `zu) K5 [`ahz]=`c (`gH q):=by
     rw[`aUO];exact mf0 q.1 h1.kd q.2 h1.fits
    simp only[show gN 0 (`asE) [.un]=`c [`ahz] from rfl,`n,noT,e1,ih λx hx=>hq x `o?];rfl
  exact J `eD h
 rw[e,`n];simp only[];rw[`R (u20 λd hd=>by apply `aiH;exact Oo0 (h q hq))]
def Zu0(S:RS)(hw:`v')(hl:`Pt)(h:∀q∈`eD,`uk):vb0 `bG []=`c (`aYl,R S):=by
 refine W0 rfl λp=>#[`eR,?_,rfl]
 show ql0 `eR=_;refine o6 (δ':=`eR) ?_ (Z3 (V3 ?_))
 ·have t:ut0 `O1 `eR=`c (`r,`eR):=by
   unfold ut0 R6;apply `ag8;rfl
  unfold ifX;rw[t];rfl
 ·exact N80 S hl h p
def Rc0(W:`eS)(hj:`f4)(π:`c2):Whl (v20 ps π j):=by
 have hp:=`D5;have ho:=W.ok _ hp;have hI:=`nv hp;have J:=q10 ho;unfold v20;generalize `hC=p at ho hI J;have gen:`Qs->(`ff=3->`fe≠[])->Whl (`ff,`ah1):=λh0 h3=>by
  refine#[cx0 p,#[by show (`ar? _).length<=30;rw[`K];lia,λz=>`I z h0,λz=>by simpa using h3 z],`wn,nk0 `wn]
  ·apply `aYn
   exact(`aYo).1
  ·apply `aYn
   exact(`aYo).2
 cases p with
 | text w =>
  have hw:=`aYp;refine#[by show 0<4;lia,#[by show (`aip _).length<=30;rw[`K];lia,λ_ d hd=>?_,λz=>nomatch z],`wn,nk0 `wn]
  ·apply `QA
   exact#[c,rfl]
  ·apply `QA
   rfl
  ·apply `QA
   rfl
 | row vs=>apply `aYq
 | table qs=>apply `aYq
 | rcd c qs=>exact gen `ea λ_ z=>nomatch z
def Qe0(W:`eS){T:`h}{b1:`P}{nb1 ne1:`i}(h:Pe ps [0] [] `Jk L T b1 `uq nb1 ne1)(hp:`aXg):∃S us,`eE `jo (`ug) us S/\Opn us 0 0 `aYr `aYs/\`v'/\`b0=[]/\`Pt/\(∀q∈`eD,`uk)/\`b9 `Xw=`nw:=by
 skip;have M:=`QG;have hB:∀j∈[0],`f4:=λj hj=>by rw[`ec hj];exact M.1
 have hI:=`nv `aYt;have hh:`uq=`aYu:=mp0 `aB;have bd:=h.bd;rw[hh] at h bd;have hr:=h.pk.range `oB hB hI;let#[N,hN]:=h.pk.pre;have I0:Inv `av [] [] `jo:=#[rfl,`a6,rfl,P3,(λs hs=>by cases hs),rfl,rfl,rfl,(λk hk=>by cases hk),`an,(λq hq=>by cases hq),`an,`an,λq hq=>by cases hq];let#[S1,#[S0,#[Y,ah,rh],#[O,at',rt]],I1,u1,J,w1]:=enter W I0 (w:=`tY) (ws:=[]) rfl `gg (λk u e=>by cases e) 0 M.1 `aB;have a1:(start.hold (`qi ([]:`i).length)).begun=[]:=rfl;rw[a1,`hF] at J;obtain⟨S2,us1,r2,g2,I2,u2,w2,U⟩:∃S2 us1,`aYf/\Opn us1 (`aYu) 1 nb1 ne1/\Inv `av L T S2/\S2.un=[0]/\S2.wait=[`b!]/\`aiE=`I! `Xu:=by
  by_cases ht:kn `As=0
  ·have hit:`Xh=[]:=by
    cases e:`Jj with
    | text _=>rfl
    | row _=>rw[e] at ht;cases ht
    | table _=>rw[e] at ht;cases ht
    | rcd _ _=>rw[e] at ht;cases ht
   rw[`acW] at J w1;rw[hit] at h;cases h;apply `aYh;rw[J];show[_]=[v20 ps (ix [0]) 0];unfold v20;rw[ht];cases e:`Jj with
   | text _=>rfl
   | row _=>rw[e] at ht;cases ht
   | table _=>rw[e] at ht;cases ht
   | rcd _ _=>rw[e] at ht;cases ht
  ·rw[`ap ht] at J w1
   let#[S2,us1,r2,g2,D2]:=sim W L h S1 0 [] [] `As [] I1 `aB hB `aW1 u1 (`agX) `aYt ht rfl w1;refine#[S2,us1,r2,by rw[u1] at g2;exact g2,D2.inv,D2.un,D2.wt,?_];rw[D2.bg,J,hN];show[(kn `As,[]++(`Xh).map (lkv (ix ([0]++N))))]++N.map _=v20 ps (ix ([0]++N)) 0::N.map _;rw[List.singleton_append];congr 1;unfold v20;cases e:`Jj with
   | text _=>rw[e] at ht;exact `aio
   | row _=>rfl
   | table _=>rfl
   | rcd _ _=>rfl
 have e2:`Xt=`aYv:=by rw[am0 S2 0 [] [] u2 w2];rfl
 rw[e2] at r2;have Z:`eE `jo (`ug) (Y++(O++us1)) `aYv:=by
  rw[hp,`D8,`kv,`aV];exact rh.app (rt.app r2)
 have hg:Opn (Y++(O++us1)) 0 0 `aYr `aYs:=by
  have:=Opn.part (u:=0) (i:=0) (vs:=[]) (n:=0) (nb:=[]) (ne:=[]) ah rh.len at' rt.len (by rw[`dG];exact g2) r2.len (by rw[`dG];exact bd) `Xv `aX4;simp only[`bc,`dG] at this;rw[hp,`O,hh];exact `E
 done;refine#[_,_,Z,hg,rfl,rfl,by show `aiG<=60;rw[I2.len];exact I2.few,`vB,?_]
 ·have hq:q∈`aiE:=hq
  rw[U] at hq;let#[j,hj,rfl]:=`dx hq;exact Rc0 W (hr j hj) _
 show `b9 (S2.begun.map `gH)=`aYw;rw[U,`bT,`bT];congr 1;refine `aT'
 exact Td0 _ _
universe Rk
namespace Km
open DL W K22
open Bw (bs sg cnt kn its tx fold Vb Gp Gq two)
def Z60{p:Pt}(h:Gq p):p.few/\`QI:=by
 apply `PS
 have hc:=h.cnt;have:`QI:=by
  cases p with
  | text w=>exact `cu
  | row vs=>exact hc
  | table ps=>show `PX<=20;rw[`K];exact hc
  | rcd c ps=>show `PX<=20;rw[`K];exact hc
 exact#[B4 `E `j,`E]
universe Km
namespace Rk
open DL W Rm StrLaws
open Bt (Z6)
open Bw (bs sg its two kn cnt tx Vb Gq)
open Km (hb nB nT nW pk lkd It Wb ix)
open K22 (lkv rel tgs nd)
mutual
def nob:`df
 | `eV=>`QJ
 | `cV=>`QJ
 | `bK=>`r
 | `n!=>`r
 | `n?=>`r
 | _=>`d
def ou0:`Cp
 | []=>`d
 | `lS=>nob x&&`QJ
end
mutual
theorem Tq0:∀(x y:D),nob x=`d->nob y=`d->`qD=`d->x=y
 | `x,y,_,h2,h=>by cases y<;>first|rfl|(apply `Ec)
 | `n1,y,_,h2,h=>by
  cases y with
  | int b=>rw[deq] at h;rw[beq_iff_eq.mp h]
  | bl b=>simp[nob] at h2
  | _=>apply `Ec
 | `hg,y,_,h2,h=>by
  cases y with
  | str b=>rw[deq] at h;rw[beq_iff_eq.mp h]
  | _=>apply `Ec
 | `bK,_,h1,_,_=>`aiI
 | `n!,_,h1,_,_=>`aiI
 | `n?,_,h1,_,_=>`aiI
 | `eV,y,h1,h2,h=>by
  cases y with
  | tup ys =>
   rw[deq] at h;rw[nob] at h1 h2;rw[`aYx]
  | _=>apply `Ec
 | `cV,y,h1,h2,h=>by
  cases y with
  | lst ys =>
   rw[deq] at h;rw[nob] at h1 h2;rw[`aYx]
  | _=>apply `Ec
theorem e40:∀(xs ys:`l),`QJ=`d->ou0 ys=`d->`MK=`d->xs=ys
 | [],[],_,_,_=>rfl
 | [],`dJ,_,_,h=>`aYy
 | `dJ,[],_,_,h=>`aYy
 | `lS,`Ci,h1,h2,h=>by
  rw[wy0,`bz] at h;rw[ou0,`bz] at h1 h2;rw[Tq0 x y h1.1 h2.1 h.1,e40 xs ys h1.2 h2.2 h.2]
end
theorem b70:∀{l:`l},(∀d∈l,`aYz)->ou0 l=`d
 | [],_=>by rw[ou0]
 | d::l,h=>by
  rw[ou0,`Qr,b70 `u?];rfl
theorem md0:∀{l:`l} {n:Nat},(∀d∈l,`mP)->`mM l n=`d
 | [],_,_=>by rw[`mM]
 | d::l,n,h=>by
  rw[`mM,`Qr,md0 `u?];rfl
structure Sm(d:D)(n:Nat):Prop where
 nb:`aYz
 ln:`mP
theorem Sm.tup{l:`l}(h:∀d∈l,Sm d n):Sm (`w l) `fi:=#[by rw[nob];exact b70 λd hd=>(h d hd).nb,by rw[`e'];exact md0 λd hd=>(h d hd).ln]
theorem Sm.str(s:Str)(n:Nat):Sm `dX n:=`aYA
theorem Sm.int(s:Int)(n:Nat):Sm (`f s) n:=`aYA
theorem Sm.two{a b:D}(ha:Sm a n)(hb:Sm b n):Sm (`abT) `fi:=`w λd hd=>by
 apply `ov
 ·exact ha
 ·rw[`qz];exact hb
def Sm.val{v:D}(h:`j1)(n:Nat):Sm v `fi:=by
 cases h with
 | non=>exact#[`asG,by simp[`e']]
 | lk j _=>exact .two `wB (`f _ _)
 | int z _=>exact `f _ _
def Jw0{p:Pt}(hv:∀v∈`j2,`j1)(n:Nat):Sm p.d (n+4):=by
 have pairs:∀qs:`bI,`aX'->Sm (`w (`fh pr)) (n+3):=λqs h=>`w λd hd=>by
  apply `aiH;exact .two `wB (`qx (h q.2 (`aix)) n)
 cases p with
 | text w=>exact .two `wB `wB
 | row vs=>exact .two `wB (`w λd hd=>`qx (hv d hd) `fi)
 | table qs=>exact .two `wB (`aYB)
 | rcd c qs =>
  exact `w λd hd=>by
   skip;apply `ov
   ·done;exact `Xx
   apply `ov
   ·done;exact `Xx
   ·done;rw[`qz];exact `aYB
theorem K20(hw:`em):Sm `ud 50:=Sm.tup (n:=49) λd hd=>by
 let#[p,hp,rfl]:=`gG;exact Jw0 `aWb 45
def Sm.eq{x y:D}(hx:Sm x 50)(hy:Sm y 50)[`iK `E2]:l80 x y=`aYC:=by
 apply `aYD;apply `aiJ
 by_cases h:x=y
 ·rw[`fd,← h,DL.na0 x 50 hx.ln]
 ·rw[`fm]
  cases e:`qD with
  | false=>rfl
  | true=>exact `I (Tq0 x y hx.nb hy.nb e) h
def Sm.ne{x y:D}(hx:Sm x 50)(hy:Sm y 50)[`iK `E2]:uy0 x y=`aYE:=by
 show (if `Jx then `c (`aO (!`qD)) else `e)=_;apply `aiJ;have:=Sm.eq hx hy;have e:l80 x y=`asI:=by
  apply `aYD;apply `aiJ
 rw[e] at this;apply `QK
 apply `QK
 rw[`E]
def fu0(p:Pt)(h:`QI):W8 `t8=`c (`o `j2):=by
 apply `kC
 have hc:∀(X:D) (qs:`bI),`aYF->`QH<=20->T4 2 [] `ru `Vz noT `ab [.sh X]=`c (`o (`qC)):=λX qs hX hl=>by
  apply `aYG
  ·apply `aUE
   apply `aUF;rfl
  ·rw[v50 (λd=>match d with|`w [_,b]=>b|_=>`x) (λd hd=>by
    apply `ahv;exact#[[.sh (`AB),.sh q.2],rfl,rfl,rfl]),`bT]
   rfl
 cases p with
 | text w =>
  refine `wk;rw[`kD];apply `PQ
 | row vs =>
  refine R8 rfl (t7 (δ':=[`PV]) `ge `IK);rw[`kD];apply `PQ
 | table qs =>
  apply `QL;rw[`K] at h;refine R8 rfl (t7 (δ':=`aYH) `ge (t7 (δ':=`aYH) `ge `aYI))
 | rcd c qs =>
  apply `QL;rw[`K] at h;refine R8 rfl (t7 (δ':=[.sh (`aiK).d]) `ge (t7 (δ':=[.sh (`aiK).d]) `ge `aYI))
def eq0(X:D)(s:`af Sl)(qs:`bI)(i:Nat)(hi:gv i s=`c X)(hX:`aYF)(hl:`QH<=20):T4 1 [] (tupI (o2 (gv i) `iu ixD)) `a8 noT `jK s=`c (`JD):=by
 apply `kC
 apply `aYG
 ·show `gE (o2 (gv i) `iu ixD s) _=_
  rw[o4 (x:=X) (y:=`It) hi rfl,hX];rfl
 ·rw[v50 `aUG (λd hd=>by
   apply `ahv;exact#[[.sh (pr q)],rfl,rfl,rfl]),`bT]
  rfl
theorem Zi0:∀(qs:`bI) (vs:`l),(`asR vs).map (`aJZ)=(`XC vs).map pr
 | [],_=>rfl
 | `yz,[]=>rfl
 | `yz,`Cy=>by
  rw[`_,`dh,`_,`_,`dh,`_,Zi0 qs vs];rfl
universe Rk
namespace Rk
open DL W Rm StrLaws
open Bt (Z6)
open Bw (bs sg its two kn cnt tx Vb Gq)
open Km (hb nB nT nW pk lkd It Wb ix)
open K22 (lkv rel tgs nd)
theorem Xp0:∀L:`i,`aiL=`c (`aYJ)
 | []=>rfl
 | k::L=>by
  show (`aiL).map (((k:Nat):Int)::·)=_;rw[Xp0 L];rfl
theorem Xa0(j:Nat):∀L:`i,j∈L->(`aYJ).findIdx? (λy=>`z (y=`b8))=`c (`Eb)
 | [],h=>by cases h
 | k::L,h=>by
  rw[`_,List.findIdx?_cons];unfold ix
  by_cases e:k=j
  ·rw[`d0,`l!]
   rfl
  ·rw[`dg,`f1,Xa0 j L `PZ]
   rfl
def Mz0{v:D}(h:`j1)(L:`i)(hl:∀j:Nat,v=`jZ->j∈L):t60 [v,`AC]=`c (`XJ):=by
 cases h with
 | non=>exact V9 rfl (t7 (δ':=[`Ah,`lC]) `oo (Z4 rfl))
 | int z _=>exact V9 rfl (t7 (δ':=[`b',`lC]) `oo (Z4 rfl))
 | lk j _ =>
  rw[show lkv `cy `nq=lkd (`Eb) from `ww _ _];refine `v7;rw[`Dj];refine Z4 (T9 (xl0 (`ae rfl (`ae (d:=`f (`Eb:Int)) ?_ rfl)) `vM));rw[Ng0 (d:=`AC) (ds:=[`fa]) rfl `jQ];show (`aiL).bind _=_;rw[Xp0,`n,Xa0 j L (hl j rfl)];rfl
def Xb0(a b:`l):tgs `zI=tgs a++tgs b:=by unfold tgs;rw[List.filterMap_append]
def X60{p:Pt}:tgs (`fe)=tgs `j2:=by
 have J:∀qs:`bI,tgs (`D?)=tgs (`qC):=λqs=>by
  induction qs with
  | nil=>rfl
  | cons q qs ih =>
   rw[`kF,Xb0,ih];show tgs [`AB,q.2]++tgs _=tgs ([q.2]++`qC);rw[Xb0];rfl
 cases p with
 | text w=>rfl
 | row vs=>rfl
 | table qs=>exact J qs
 | rcd c qs=>exact J qs
def Zv0(j:Nat)(ds:`l):tgs `D2=j::`JC:=by
 unfold tgs lkd;rw[`Ks];apply `lz
def Vt0{d:D}(h:(∃s,d=`cx)∨`Qm)(ds:`l):tgs `hx=`JC:=by
 rcases h with⟨s,rfl⟩|rfl|⟨z,rfl⟩<;>rfl
theorem fy0(ds:`l):(`JC).length<=`bP:=List.length_filterMap_le ..
def NT:GB:=`aPS
def NB':GS:=(v9 `aPT
 (v9 (ifD `aPU
 (v9 `aPV
 (v9 `aPW
 (v9 `aPX
 t6)))
 t6)
 t6))
def ns5(ps:`b2)(B W:`i)(s3 s4:Sl):Ds:=[`bS,.ow (`aiM),.ow `AD,s3,s4]
def Ws0(ps:`b2)(B W:`i)(d3 s4:Sl):NT `aYK=`c (`z (W≠[])):=by
 have hl:`aYL:=by
  rw[`e'];exact md0 λd hd=>by
   let#[k,_,rfl]:=`gG;simp[`e']
 have he:uy0 `AD `ex=`c (.bl (`z (W≠[]))):=by
  show (if `aYL/\`e' `ex 50=`d then `c (`aO (!deq `AD `ex)) else `e)=_;rw[`R #[hl,by simp[`e',`mM]],deq];cases W with
  | nil=>simp[K22.nd,wy0]
  | cons w W =>
   rw[`eL,`QM];cases e:`Xy with
   | nil=>simp[wy0,K22.nd]
   | cons a r=>simp[wy0,K22.nd]
 show ob `apP (frz `aYK)=_;apply `cS;rw[o4 (x:=`Xz) (y:=`pa) rfl rfl];exact he
def M30(hw:`em)(hj:`f4)(s1 s2 s4:Sl):T4 1 [] `apU `a8 `tw `pZ [`bS,s1,s2,`p6,s4]=`c (`XA):=by
 apply `kC
 let#[w1,w2]:=`Xg;have hq:=`ow;have J:=`aYM;generalize `hC=p at w1 w2 hq J;apply `aYN
 ·show `gE (oA `apT W8 _) cy0=_
  rw[`aV9,fu0 p J];rfl
 ·have M:∀vs:`l,(∀v∈vs,`j1)->za0 `a8 `tw `pZ [.un] vs=`c (nd (tgs vs)):=by
   intro vs
   induction vs with
   | nil=>exact `iI
   | cons v vs ih =>
    intro hv;have ih:=ih λx hx=>hv x `o?
    unfold za0;cases hv v A7 with
    | non =>
     simp only[show gN 0 `nB `Dm=`c [`Ah] from rfl,`n,show ob `pY [`j3 `x]=`bv from rfl];exact ih
    | int x _ =>
     simp only[show gN 0 (`as x) `Dm=`c [`W3] from rfl,`n,show ob `pY [`j3 `Ai]=`bv from rfl];exact ih
    | lk i _ =>
     simp only[show gN 0 (`aYO) `Dm=`c [.sh `I?] from rfl,`n,show ob `pY `aYP=`e5 from rfl,show o2 `ag `aD ixD `aYP=`aUP from rfl,ih];rw[show `aYO=`D3 from rfl,Zv0];rfl
  exact M `j2 `Qb
def Xh0(hw:`em){B W:`i}(hj:`f4)(hB:`rF)(hW:`ue<=200000)(s3 s4:Sl):∃s4',NB' `aYQ=`c (.nx (ns5 ps (`W9) ((if `f2 then [] else `JB)++W) `qE s4')):=by
 have zs:`wm:=`an
 have p1:N6 (qz0 2) `fb `aYQ=`c (.nx (`QN)):=by
  unfold ns5 N6 qz0;rw[`eL,`QM];show `gE (`eQ (λd'=>(d',([`bS,.ow (`aiM),.ow (`o (`aYR).dropLast),s3,s4]:Ds))) (`aYR).getLast?) _=_;rw[`aV2,`Pu];rfl
 have c:ff0 `apR (`QN)=`ahV:=by
  show ob `apQ (frz (`QN))=_;apply `cS;rw[o4 (x:=`fa) (y:=`aiM) rfl rfl];exact K22.J70 B j
 apply `DP
 ·refine#[s4,?_]
  rw[`cQ,`cQ];refine t7 p1 (t7 (δ':=`QN) ?_ rfl);rw[Y0 (by rw[c,`P5])];rfl
 ·rw[`dI,`dI]
  let#[_,w2]:=`Xg;have M:=(Km.Z60 (`ow)).2;have J:=fy0 `asL;refine#[`asM,t7 p1 `aYS];rw[`aTD];refine t7 (δ':=ns5 ps `dF W `qE s4) ?_ (t7 (X8 (d:=`XA) (M30 hw hj _ _ _)) `aYS)
  ·refine(`Pf (l:=nd B) (d:=`fa) rfl rfl (by rw[`QO];lia)).trans ?_
   unfold ns5;rw[`QM];rfl
  ·generalize `JB=E at J
   show zj0 2 `apV [`bS,.ow (`o (nd `dF)),.sh `AD,`p6,.sh (`aYT)]=_;unfold zj0;rw[o4 (x:=`Xz) (y:=`o (nd E).reverse) rfl (by rw[c7 (ds:=[`aYT]) rfl];rfl)];simp only[rc0];rw[`R (by rw[`QO,`iB,`iB,`QO];lia)];unfold ns5;rw[`ag1,`QM `Ak,K22.Lo0];rfl
def rw0{gt:GB}{δ:Ds}(h1:`d!=`e5)(h2:`ad6):U3 gt G `fi δ=`abS:=by
 conv=>lhs;unfold U3
 rw[h1];simp only[h2]
open T in
def Pk.order(hw:`em){B B':`i}{T:`h}{b:`P}(h:`hW):`kG->`oy->`Qo->∃n,`aW6/\∀(f:Nat) (W:`i) (s3 s4:Sl),`ue+`bP+51*`Ar<=51*`aS+100000->∃s3' s4',U3 NT NB' `Jg (ns5 ps B (`QP) s3 s4)=U3 NT NB' f (ns5 ps B' W s3' s4'):=by
 have M:∀{B:`i},`kG->`oy->`rF:=λ{B} hn hB=>by
  have:=`nx hn (m:=`j4) λy hy=>`fc (hB y hy)
  rw[`j0] at this;have:=`Qq;lia
 induction h with
 | nil B T=>exact λ_ _ _=>#[0,`a6,λf W s3 s4 _=>#[s3,s4,`aif]]
 | str _ ih =>
  intro hn hB hd;apply `aiN
  exact#[n,`lA,λf W s3 s4 hl=>by rw[Vt0 (`p `ac)];apply `aYU]
 | val hd' _ ih =>
  intro hn hB hd;apply `aiN
  exact#[n,`lA,λf W s3 s4 hl=>by rw[Vt0 (`q hd')];apply `aYU]
 | old hj p ih =>
  rename_i B T j ds B' T' b;intro hn hB hd;apply `aiN
  let#[N,hN]:=p.pre;have a4:`aS<=`Ar:=by rw[hN,`O];lia
  refine#[n+1,`lA,`aYV];rw[`Z] at hl;have Y:=fy0 ds;let#[s4',e]:=Xh0 hw (B:=B) (W:=`QP) (hB j hj) (M hn hB) `P? s3 s4;let#[a,c,q]:=h2 f W `qE s4' `j;refine#[a,c,?_];rw[Zv0,`hE,`asl,`aYW,`nV,`nV,`hF];exact q
 | new hj p1 p2 i1 i2 =>
  apply `aib;intro hn hB hd;apply `aid;have U:=`aia;have O:∀x∈`hD,`ox:=λx hx=>by
   apply `kH
   ·exact hB x z
   ·rw[`el];exact J
  have hI:=`uh `Jh;let#[n1,a1,a2]:=i1 U O hI;let#[n2,c1,c2]:=i2 (p1.nodup U) (p1.range hw O hI) `Aq
  let#[N1,Z]:=p1.pre;let#[N2,a3]:=p2.pre;have a7:`Qy<=`aiF:=by rw[Z,`O,`O,`ds];lia
  have a6:`aiF<=`Ar:=by rw[a3,`O];lia
  have a5:=`aW8;rw[`O,`ds] at a1 a2;refine#[`Xf,`lA,`aYV];rw[`Z] at hl;have Y:=fy0 ds;let#[s4',e]:=Xh0 hw (B:=B) (W:=`QP) J (M hn hB) `P? s3 s4;rw[`nW,`nW] at e;let#[t3,t4,q1]:=a2 `Ji (`QP) `qE s4' `P?;let#[v3,v4,q2]:=c2 f W t3 t4 `j;refine#[v3,v4,?_];rw[Zv0,`hE,`aW9,`aYW,← X60,q1,q2]
def Ya0(hw:`em){T:`h}{b1:`P}(h:`aXf):`aYX:=by
 have J:=`Qq;apply `aXl;let#[n,a1,a2]:=hp.order hw P3 `aXm `aXn;apply `aXi
 have hl:`aXo:=by
  have:=`nx (`aXk) (m:=`j4) λy hy=>`fc (h.range hw hB (`aXj) y hy)
  apply `DR
 simp only[`Z,`m_] at a1;let#[s3,s4,q]:=a2 `At [] .un .un `Ib;have e:U3 NT NB' `At `aYY=`c (.nx `aYY):=by
  rw[show `Xj=(99999 - n)+1 by lia];unfold U3;rw[Ws0];rfl
 rw[`aXp,e] at q;exact R8 rfl (t7 (δ':=[`bS,`ng,.un,.un,.un]) rfl (t7 (δ':=ns5 ps [] [0] .un .un) rfl `aWj))
def R1:GS:=(v9 `aP0
 t6)
def R2:GS:=(v9 `aP2
 (v9 `aP3
 t6))
def R3:GS:=(ifD `aP_ R1
 (v9 (ifD `aP1 R2 t6) t6))
def I60(p:Pt)(h:`QI)(f:`kq)(a b c d s6:Sl):∃s6',R3 [a,b,c,d,`PU,`aYZ,s6]=`c (.nx [a,b,c,d,.sh (`wo p (`Am f)).d,`aYZ,s6']):=by
 apply `kC
 cases p with
 | text w =>
  refine`aY_;show ifD _ _ _ `aY0=_;rw[`qt];refine t7 (δ':=`aY0) ?_ rfl;rw[`qt];rfl
 | row vs =>
  refine`aY_;show ifD _ _ _ [a,b,c,d,`PV,.sh (`o (`hm f)),s6]=_;rw[`kD];exact t7 (X8 (d:=(`wo (`l7) (`hm f)).d) `agC) rfl
 | table qs =>
  apply `QL;rw[`K] at h;refine`aY1;show ifD _ _ _ [a,b,c,d,`asK,`QQ,s6]=_;rw[`qt];refine t7 (δ':=[a,b,c,d,.sh (`wo (`tA qs) `AF).d,`QQ,`XB]) ?_ rfl;rw[`kD];apply `aY2;rw[o4 (x:=`w [`hq]) (y:=`aY3) rfl (xl0 (`ae (by
   rw[c7 (ds:=`aY4) (`ae (by
    rw[`aY5];apply `aY6;rw[Zi0]) rfl)]
   rfl) rfl) `aY7)]
  rfl
 | rcd cl qs =>
  apply `QL;rw[`K] at h;refine`aY1;show ifD _ _ _ [a,b,c,d,.sh (`IU cl qs).d,`QQ,s6]=_;rw[`qt];refine t7 (δ':=[a,b,c,d,.sh (`wo (`lq cl qs) `AF).d,`QQ,`XB]) ?_ rfl;rw[`kD];apply `aY2;rw[o4 (x:=`w [`hr,`t cl]) (y:=`aY3) rfl (xl0 (`ae (by
   rw[c7 (ds:=`aY4) (`ae (by
    rw[`aY5];apply `aY6;rw[Zi0]) rfl)]
   rfl) rfl) `aY7)]
  rfl
def DB:GS:=(v9 `aPY
 (v9 `aPZ
 (v9 R3
 (v9 `aP4
 t6))))
def Il0{d:D}(h:`JA[j]?=`a7):∃k:Nat,L[j]?=`e6/\d=`pF:=by
 unfold K22.nd at h;rw[`bN] at h;cases e:L[j]? with
 | none=>rw[e] at h;cases h
 | some k=>rw[e] at h;exact#[k,rfl,`adf]
def Pe0(hw:`em)(hn:L.Nodup)(hL:∀k∈L,`DT)(hc:∀k∈L,`aXh)(hnum:`aYX):yo0 `AE=`c `wC:=by
 skip;have zs:(9000:Nat)<=`S:=`an
 have a1:`qu<=60:=by
  apply `aY8
  rw[`j0] at this;have:=`Qq;lia
 let#[δ',l3,l4]:=qa0 (f:=gN 3) (G:=DB) (λi δ=>∃s3 s4 s5 s6:Sl,δ=[`bS,`lC,.ow (`o ((`XD i).map `AG)),s3,s4,s5,s6]) `JA 0 `aY9 (by
  rintro j d δ hj ⟨s3,s4,s5,s6,rfl⟩;let#[k,hk,rfl]:=Il0 hj;have M:=C5 hk;rw[`dG];let#[w1,w2]:=`qw (hL k M);have hq:=`ow;have U:=hc k M;have e1:(`XD `n4).map (`AG)=`asS (`AG)++[(`Xa).d]:=by rw[`aVd,hk,`a4];rfl
  generalize `An=p at w1 w2 hq U e1;have O:=`aYM;have Y:∀i,`D3∈`j2->i∈L:=λi hi=>U i (by
   have J:∀qs:`bI,`D3∈`qC->`D3∈`D?:=λqs h=>by
    let#[q,hq,e]:=`dx h;exact d5.mpr #[q,hq,by unfold two;rw[e];simp]
   cases p with
   | text w=>cases hi
   | row vs=>exact hi
   | table qs=>exact J qs hi
   | rcd c qs=>exact A6 _ (J qs hi))
  let#[Z,hr]:=I60 p O `j5 (`bS) (`lC) (`aY') (`jP) s6;refine#[[`bS,`lC,`aY',`jP,s4,s5,s6],_,rfl,t7 `aVW (t7 (X8 (d:=`aY!) ?_) (t7 hr (t7 (`Pf (l:=`asT) (d:=`aY?) rfl rfl (`aLt)) rfl))),`jP,.sh `aY?,.sh (`aY!),Z,`aMw]
  ·rw[o4 (x:=`uc) (y:=`pF) rfl rfl]
   exact w1
  ·apply `aYN
   ·show `gE (oA `ts W8 _) cy0=_
    rw[`ahW,fu0 p O];rfl
   ·exact v50 `j5 λv hv=>#[[.sh v,`lC],rfl,rfl,by
     rw[c7 (ds:=[v,`AC]) rfl];exact Mz0 (`Qb v hv) L λi e=>Y i (e▸hv)]) #[.un,.un,.un,.un,rfl]
 let#[s3,s4,s5,s6,rfl]:=l4;rw[`QO,`dG,`aVf] at l3;done;refine V9 rfl (t7 (δ':=[`bS,`lC,.un,.un,.un,.un,.un]) (X8 (by apply `X5;exact hnum)) (t7 (δ':=`aY9) rfl (t7 (t50 (items:=nd L) rfl l3) `qm)));show oA `dz xk0 [`bS,`lC,.sh (`aZa),s70 s3,s70 s4,s70 s5,s70 s6]=_;rw[c7 (ds:=[`aZa]) rfl];show `c (`b9 _)=`c (`aYw);rw[`bT];rfl
universe Rk
namespace Hk
open DL W Rk
open Bt (z30 S7 vt0 yi0 ua0 S9 wn0 zx0 vc0 Q8 ub0 ya0 wq0 N5 te0 xd0)
section
def sk0:`h:=[`ez, `JX, `X', `m6]
def xo0:`h:=[`ez, `m6, `JX, `OT, `Ya, `JY, `aPM]
def ww0:GSB:=(p7 (V6 (Y4 `aqg))
 `D)
def tp0:`h:=`a'
def K3:`al:=mkB 1 tp0 0 ww0
def ky0:GS:=(v9 (d8 `tr `aD)
 (v9 (U3 `aZb
 (v9 `aZc
 (v9 `aZd
 t6)) 100000)
 (v9 (V2 `ab)
 t6)))
def j70:`h:=[`nF, `JX]
def z80:`Q:=mkF 1 j70 ky0
def qb0:GSB:=(p7 (ifB (ob (inN 0 `ab (`aiO)))
 (p7 (V6 (Y4 `aD))
 `D)
 `D)
 (p7 (n6 (j4 (yu0 0 (`aiO) `ab)))
 (p7 (V6 (Y4 (o2 `aD (oA `dU V1) m7)))
 `D)))
def qj0:`h:=`wD
def O7:`al:=mkB 2 qj0 0 qb0
def Q3(J1:`al):GSB:=(p7 (ifB `VT
 (p7 (V6 (Y4 (o2 `cZ `aD m7)))
 `D)
 `D)
 (p7 (ifB (xw0 (ob (zy0 `zs `ar)))
 (p7 (n6 (d8 `fY (o2 `c? `ar W5)))
 (p7 (n6 (ifD (ob `aZe)
 (v9 (d8 `fY (o2 (o2 `aX (o2 `c? `ar W5) K7) `aD K7))
 t6)
 t6))
 (p7 (V6 (Y4 (o2 `cZ (oA (z7 (o2 (o2 `eA `ey W5) `aD m7) v5) z80) m7)))
 `D)))
 `D)
 (p7 (ifB (ob (o2 `aiP (J9 0 (`QR)) ltD))
 (p7 (V6 (Y4 (o2 `cZ (oA (z7 (o2 (o2 `eA (o2 (o2 (J9 0 (`QR)) `aD K7) `aiP K7) W5) `c? m7) v5) z80) m7)))
 `D)
 `D)
 (p7 (V6 (S5 0 (z7 `ab (z7 `aiP `m9)) J1))
 `D))))
def P0:`h:=[`ez, `nI, `m', `m7, `nF]
def y40(u40:`al):GSB:=(p7 `aZf
 (p7 `aZg
 (p7 `aZh
 (p7 (n6 (j4 (yu0 0 (`QR) `cZ)))
 (p7 (n6 (j4 (yu0 0 (`aiQ) `lo)))
 (p7 (n6 (ifD (ob (o2 `hp `aX eqD))
 (v9 (d8 `fb (o2 `cZ (oA `aZi V1) m7))
 t6)
 t6))
 (p7 (n6 (ifD (ob (o2 `hp `hn eqD))
 (v9 (N6 (ta0 `cZ (S5 0 `aZi O7) m7) `fb)
 t6)
 t6))
 (p7 (n6 (td0 `aZj `qG
 (v9 (ifD `aiR
 (v9 (N6 (ta0 `cZ (S5 0 (z7 `aZk v5) O7) m7) `fb)
 t6)
 t6)
 (v9 (N6 (S5 0 `aZl u40) `fb)
 t6))))
 (p7 (n6 (N6 `QS (k20 0 (`aiQ) `ar)))
 (p7 (V6 `QS)
 `D))))))))))
def yj0:`h:=[`ez, `nI, `m4, `m7, `VD, "_law_kind", `afb, `m']
def mR2:Nat->(`al)×(`al)
 | 0=>(`ae!,`ae!)
 | k+1=>(mkB 4 P0 0 (Q3 (mR2 k).2),mkB 4 yj0 0 (y40 (mR2 k).1))
def u40:`al:=(mR2 124).1
def J1:`al:=(mR2 124).2
def Pq0:GS:=(v9 (d8 `tr (oA (z7 `ag (z7 `aD v5)) xd0))
 (v9 (d8 `bL (oA `dU o90))
 (v9 (Qi0 3 (im0 (gc (`t `jN)) (im0 `XE (im0 `XF Lb0))))
 (v9 (i10 (R6 (rg0 (S5 3 (z7 `X3 (z7 `aX `zx)) J1) `ll uy0))
 (v9 (V2 `HZ)
 t6)
 t6)
 (v9 (d8 `fY (o2 `aD (o2 (oA (z7 `ag `zx) S7) (gc (`f 6)) m8) m7))
 (v9 (ifD (ob `aZm)
 (v9 (d8 `fY (o2 `ey (gc (`f 40)) m7))
 t6)
 t6)
 (v9 (gp0 5 `G y30)
 (v9 (d8 `HP `aX)
 (v9 (U3 `aZn
 (v9 `aZo
 (v9 `aZp
 (v9 `aZq
 (v9 `aZr
 (v9 (i10 `aZs
 (v9 (V2 `HZ)
 t6)
 t6)
 t6))))) 20000000)
 (v9 (jq0 (rg0 (W7 5 `G p6 v5 vb0) `X3 l80))
 t6))))))))))
def b50:`h:=[`m3, `nI, `OT, `ez, `JY, "_law_reader", `atB, "_law_begun", "_law_ended"]
def kg0:`Q:=mkF 1 b50 Pq0
universe zz
universe Hk
namespace Rk
open DL W Rm StrLaws
open Bt (Z6)
open Bw (bs sg its two kn cnt tx Vb Gq)
open Km (lkd It Wb ix)
open K22 (lkv rel tgs nd)
open Gw (Gd Vk)
def U50{p:Pt}(h:p.Ok):`AA<=12:=by
 cases p with
 | text w=>exact `cu
 | row vs=>exact h.1
 | table qs=>show `aZt;rw[`K];exact `oz h
 | rcd c qs=>show `aZt;rw[`K];exact `oz h.2
def Pj0{v:D}(hn:n<=60)(h:Vk v `ct):`j1/\Bw.Lk n v:=by
 skip;rcases Uf0 h.ok with rfl|⟨i,rfl⟩|⟨i,rfl,hi⟩
 ·done;exact#[`x,λj e=>nomatch e]
 ·done;refine#[`f i ?_,λj e=>nomatch e]
  have h1:=h.bd i rfl;have h2:(10:Nat) ^ 60<`WY:=`aQ
  exact D9 h1 h2
 ·have:=h.lk i rfl
  obtain⟨k,rfl⟩:∃k:Nat,i=`dR:=#[`e1,`H];done;exact#[.lk k `j,Bw.Pn0 `j]
structure Dw(ps:`b2)(pool:`h):Prop where
 len:1<=`aA/\`agD
 pl:`agE<=60
 gd:∀p∈ps,`aSA
def Dw.wf(h:Dw ps `av):Wf ps (pool.filter `aZu):=by
 have hl:=`i4;have J:∀p∈ps,∀s∈`rA,`Pd:=λp hp s hs=>by
  have ho:=`aiS;cases p with
  | text w=>cases hs
  | row vs=>cases hs
  | table qs =>
   have hs:s∈`Jz++[]:=hs;rw[`bc] at hs;apply `aZv;exact `aZw ho q hq
  | rcd c qs =>
   have hs:s∈`Jz++[c]:=hs;rcases `dM hs with hs|hs
   ·apply `aZv
    exact `aZw ho.2 q hq
   ·rw[`ec hs];exact ho.1
 refine#[#[`H,`kd,λp hp v hv=>(`aZx).2],B4 (List.length_filter_le _ _) h.pl,λs hs=>(`A1 hs).2,λp hp=>`aiS,λp hp s hs=>L8.mpr #[(`XG).nms s hs,`aZy]];have ho:=`aiS;refine#[?_,λv hv=>(`aZx).1,λs hs=>B4 (Vn0 (`aZy)) `j,U50 ho];cases p with
 | text w=>exact`aYp
 | row vs=>exact B4 ho.1 `j
 | table qs=>exact B4 (`oz ho) `j
 | rcd c qs=>exact B4 (`oz ho.2) `j
def J00{k:Nat}(hk:`DT):ixD `ud `zQ=`c ps[k].d:=by
 show atI `Ip `dR=_;rw[`ahA,`dE];simp[`bO,hk]
universe Rk
namespace Hk
open DL W Rk Rm
open Bt (W0 o6 Z3 Z0 zz0 M3 V3 S6 Z6 z90 u50)
open Bw (bs hi its sg)
open Km (hb nT ix)
open K22 (nd)
def hk(T:`h)(P Q:`l):D:=`w [`m5,`cj (`p `aiT) [T8 1,T8 2,T8 3],`aZz,`o P,`o Q]
def lh(p:`g)(T:`h)(P Q:`l):Sl:=.ow (v7 p `nA)
def nG:GE:=`aiO
def bG:GE:=`QR
def eG:GE:=`aiQ
def oy0{g:GB}{δ:Ds}(h:`aaI):ifB g Ga `D δ=`ph:=by rw[M3 h];rfl
def h40{g:GB}{δ:Ds}{r:`kw}(h:`aaH)(k:`FQ=r):`afZ=r:=by rw[zz0 h];exact k
def Xv0{ga:GE}{f:`a5}{δ:Ds}{d y r:D}(h1:`cv=`a7)(hf:`ku)(h2:`dw=`c (y,δ'))(h3:`aZA):ta0 ga gx f δ=`Pj:=by
 unfold ta0;rw[h1,`n,`rc,h2,`n,h3];rfl
def b90{gt:GB}{f:Nat}{δ:Ds}(h:`d!=`bv):U3 gt G (f+1) δ=`ph:=by
 unfold U3;rw[h]
def WB:GS:=(v9 `aZc
 (v9 `aZd
 t6))
def WT:GB:=`aZb
theorem Pt0(n k:Nat):WT `aiU=`c (`z (127<n)):=Z6 (by
 show `c (`aO (`z ((n:Int) > 127)))=_;congr 2;apply `hV)
theorem Ik0(n k:Nat):WB `aiU=`c (.nx [.sh (`aU0),.sh (`f ((k+1:Nat):Int))]):=rfl
def Ud0:∀(n k f:Nat),`wE<f->∃n':Nat,U3 WT WB f `aiU=`c (.nx [.sh (`f `aiV),.sh (`f ((k+`wE:Nat):Int))]):=by
 intro n
 induction n using Nat.strongRecOn with
 | ind n ih =>
  intro k f hf;obtain⟨f,rfl⟩:∃g,f=g+1:=`ar7
  by_cases h:127<n
  ·have e:`wE=`aZB+1:=by rw[Bw.Rs0 `nz `j,`O];rfl
   let#[n',h']:=ih `nz `j `fK f `j;refine#[n',?_];rw[rw0 (by rw[Pt0,`fd]) (Ik0 n k),h',show k+1+`aZB=k+`wE by lia]
  ·refine#[n,?_]
   rw[b90 (by rw[Pt0,`fm]),`aWM,Bw.Zw0];rfl
def ft0(n:Nat)(hn:`rE):z80 `IO=`aZC:=by
 have hl:`wE<=2600:=Bw.Tw0 2600 `nz `j;let#[n',h]:=Ud0 n 1 100000 `j;have e:`WW=1+`wE:=by unfold bs;apply `lc;lia
 rw[e];refine V9 rfl (t7 (δ':=[`bp,.sh (`f `arq)]) rfl (t7 h (`Dv)))
section
variable{p:`g}{T:`h}{P Q:`l}{r:Ds}
theorem Kt0:nG `f5=`agI:=rfl
theorem H70:bG `f5=`agJ:=rfl
theorem Kk0:eG `f5=`aSN:=rfl
def gm0:`e? (`um)=`d:=by
 unfold flats;rw[`jb];intro d hd;let#[s,_,rfl]:=`gG;rfl
def Qh0(T:`h)(s:Str):`aZD=`I1:=by
 induction T with
 | nil=>rfl
 | cons t T ih =>
  rw[`_,`km,ih];show ((t==s)||`I1)=_
  by_cases h:t=s
  ·rw[h,`acO,`aEX,`bd A7]
  ·rw[`acN h,`ab_]
   exact `tS #[A6 _,λz=>(`bm z).resolve_left λq=>h q.symm]
def bs0{g:GE}{s:Str}(h:`aZE):inN 0 g nG `f5=`aVw:=by
 unfold inN;rw[h,`n,Kt0,`n];show (if `e? (`um)=`d/\`aZF then xg0 `r `dX (`aZz) else `e)=_;rw[`R #[gm0,rfl]];show (if `aZF/\(`um).all `c!=`d then `c (`aO (xor `r `aZD)) else `e)=_;rw[`R #[rfl,gm0],Qh0,`s5]
def lh0{g:GE}{s:Str}(h:`aZE)(hT:`hA<=1000):j4 (yu0 0 nG g) `f5=`c (.nx (`aZG::r)):=by
 apply `wb;rw[Kt0,`n,h,`n];have hz:`IP:=`an
 show `eQ _ (if nrf `dX=`d/\(`um).length<`S then `c (`nB,`aZH) else `e)=_;rw[`aUn];show `c (`jc (`aZH))=_;have e:`as5=(`Aj).map `fZ:=`aeY
 rw[e];rfl
def Sv0{g:GE}{k:Int}(h:g `f5=`c (`iy))(hP:`j8<=100):j4 (yu0 0 bG g) `f5=`c (.nx (lh p T `aZI Q::r)):=by
 apply `wb;rw[H70,`n,h,`n];have hz:`IP:=`an
 show `eQ _ (if nrf (`iy)=`d/\`j8<`S then `c (`nB,`db 0 2 (`o `aZI) `f5) else `e)=_;rw[`aZJ];rfl
def Ur0(hQ:`eG<=100):j4 (yu0 0 eG `lo) `f5=`c (.nx (lh p T P (`Ed)::r)):=by
 apply `wb;rw[Kk0,`n];have hz:`IP:=`an
 show `eQ _ (if nrf `x=`d/\`eG<`S then `c (`nB,`db 0 3 (`o (`Ed)) `f5) else `e)=_;rw[`aZJ];rfl
def T30{k:Nat}{g:GE}{v:D}(h:g `f5=`c `zQ)(hk:k<`eG)(hv:`aO1):k20 0 eG g v `f5=`c (lh p T P (Q.set k v)::r):=by
 unfold k20;rw[Kk0,`n,h,`n];show (`aZK).bind _=_;have e:`aZK=`e6:=by unfold DL.ixN;rw[`gc,`gc,`dE]
 rw[e,`n];rw[`_t];rfl
universe zz
def l60{T:`h}{P Q:`l}{s:Str}{ps:`b2}{B:`i}(hs:`Pd)(hT:`hA<=60) :
  O7 `nA `lx=`c (`f (`aX1:Int),hk `uf P Q):=by
 let#[n1,n8,nc]:=f60 hs;have J:`ark=`qr:=Dg0;rw[J] at n1 n8;have e1:`qB=`DN:=rfl;have e2:`W7=`wq:=rfl;rw[e1,e2]
 by_cases hm:`jX
 ·rw[`R hm,`R hm,`Qh]
  refine W0 rfl λp=>#[[`hG,`iH],Z3 (h40 ?_ `kE),rfl]
  exact Z6 (by show `aZL;rw[`aZM,`bd hm])
 ·rw[`ap hm,`ap hm,`Qh]
  apply `aiW
  have M:`aU5:=by unfold sg;rw[`K];exact J
  refine W0 rfl λp=>#[[`aZG,`iH],o6 (oy0 (Z6 (by show `aZL;rw[`aZM,`b4 hm]))) (o6 (Z0 (lh0 (s:=s) rfl `j)) `Pp),rfl]
  rw[o4 (x:=`c_) (y:=`ahH) rfl (by
   rw[`aVH];show (if `PT then `c (`as `IR) else `e)=_;rw[`gc])]
  show `c (`as (1+`IR))=`c (`as ((([`aVG]++sg s).length:Nat):Int));congr 2;rw[`O,M,`ds];lia
universe Hk
namespace Hk
open DL W Rk Rm
open Bt (W0 o6 Z3 Z0 zz0 M3 V3 S6 Z6 z90 u50)
open Bw (bs hi its sg kn cnt tx fold two)
open Km (hb nT ix lkd It Wb)
open K22 (lkv rel nd)
section
variable{T:`h}{P Q:`l}{w:D}(g:`al)
theorem J40:mkB 4 P0 0 `JH `nA [w,`x,`gI]=`c (`f ((i+1:Nat):Int),`ul) :=
 W0 rfl λp=>#[[`hG,`j6,`Ah,`j7,.un],Z3 (h40 rfl `kE),rfl]
def plus{δ:Ds}{a b:Nat}(h1:g1 δ=`c (`tF))(h2:g2 δ=`c (`hv)):o2 g1 g2 m7 δ=`c (`f ((a+b:Nat):Int)):=by
 rw[o4 h1 h2];rfl
def sized{δ:Ds}(hn:`rE)(h:g1 δ=`aUi):oA (z7 g1 v5) z80 δ=`aZC:=by
 rw[c7 (ds:=`IO) `ahI];exact ft0 n hn
def Ic0{z:Int}(hz:`DI):mkB 4 P0 0 `JH `nA [w,`fW,`gI]=`c (`f ((i+(bs (`DO)).length:Nat):Int),`ul):=by
 have J:=`aVR z hz;have hN:`DO<`qq:=B6 (show `DO<2 ^ 2505 by
  have:(2:Nat) ^ 2505=2 ^ 2502*8:=by rw[show 2505=2502+3 from rfl,Nat.pow_add]
  lia) `aiX
 obtain⟨F,hF⟩:∃F,F=`t6:=`ac;have hu:`t6=`aU1:=rfl;rw[← hF] at hN hu ⊢;refine W0 rfl λp=>#[`aZN,?_,rfl]
 refine o6 `Ee (Z3 (h40 rfl ?_));refine o6 (δ':=`aZO) `Pl (o6 (δ':=`aZN) `aiY `Pp)
 ·have c:ob `aZe `aZO=`ahG:=`tD
  by_cases y:z<0
  ·rw[`R y] at hu
   rw[R9 (by rw[c,`bd y])];refine t7 (δ':=[`hG,`j6,`b',`j7,.sh (`f (0 - 2*z - 1))]) rfl ?_;rw[show `gC - 2*z - 1=`JG by lia];rfl
  ·rw[`ap y] at hu
   rw[Y0 (by rw[c,`b4 y])];rw[show (2:Int)*z=`JG by lia];rfl
 ·apply `aiZ
  show `c (`as (4*`JG+1))=`c (`as ((4*F+1:Nat):Int));congr 2
def J50(hm:m<`j8)(hP:`j8<=60):`aZP=`c (`f ((i+(bs (`QT)).length:Nat):Int),`ul):=by
 have hN:`QT<`qq:=B6 (show `QT<2 ^ 10 by lia) `aiX;refine W0 rfl λp=>#[[`hG,`j6,`aZQ,`j7,.un],?_,rfl]
 refine o6 `Ee (o6 `Ee (Z3 (h40 (Z6 ?_) `Pp)))
 ·apply `aZR
  rw[`l!]
 ·apply `aiZ
  show `c (`as (4*(`as6 - 1 - `kX)+2))=`c (`as ((`QT:Nat):Int));congr 2;lia
def Jp0(hm:`j8<=m){r:D×D}(h:g `nA `aZS=`ew):`aZP=`ew:=by
 let#[d,b]:=r;refine W0 rfl λp=>#[[`UL,`j6,`aZQ,`j7,.un],?_,rfl]
 refine o6 `Ee (o6 `Ee (o6 (oy0 (Z6 ?_)) (Z3 (V3 ?_))))
 ·apply `aZR
  rw[`f1]
 ·exact z90 (p:=p) (b:=`ul) (ds:=`aZS) rfl rfl h
universe zz
def sy0(a b:`i):`aVp:=`aVq
def Pe.split{B B':`i}{T:`h}{d:D}{b:`P}{ne:`i}(h:Pe ps B T `hx B' T' b i nb ne):∃B1 T1 b1 b2 nb1 ne1 nb2 ne2,Pe ps B T [d] B1 T1 b1 i nb1 ne1/\Pe ps B1 T1 ds B' T' b2 (i+`wz) nb2 ne2/\b=b1++b2/\nb=nb1++nb2/\ne=ne1++ne2:=by
 cases h with
 | str h=>exact#[_,_,_,_,_,_,_,_,`t `Ef,`ai_,`Eg,rfl,rfl]
 | val hd h=>exact#[_,_,_,_,_,_,_,_,`qx hd `Ef,`ai_,`Eg,rfl,rfl]
 | old hj h=>exact#[_,_,_,_,_,_,_,_,.old hj `Ef,`ai_,`Eg,rfl,rfl]
 | new hj h1 h2=>exact#[_,_,_,_,_,_,_,_,`qy hj h1 `Ef,by rw[`bc,`O,← `JP];exact h2,by rw[`bc,`aV],`aeO,`aeO]
def Pe.str_inv{B B':`i}{T:`h}{s:Str}{b:`P}{ne:`i}(h:Pe ps B T `lx B' T' b i nb ne):B'=B/\T'=`W7/\b=`qB/\nb=[]/\ne=[]:=by
 cases h with
 | str h=>cases h;exact#[rfl,rfl,`Eg,rfl,rfl]
 | val hd h=>rcases hd with z|⟨_,z⟩<;>cases z
def VE(ps:`b2)(pool:`h)(L:`i)(w:D)(m:Nat)(f:`al):Prop :=
 ∀(B B1:`i) (T T1:`h) (d:D) (b1:`P) (i:Nat) (nb ne:`i) (P Q:`l),`Qp->`kG->`oy->`rH->`aie->`nu->(∀s,d≠`cx)->Pe ps B T [d] B1 T1 b1 i nb ne->(∃M,L=B1++M)->`QU->`ai0 ->
  f `nA [w,`aXT,`gI]=`c (`f ((i+`wz:Nat):Int),hk T1 `AJ `aZT)
def itm:`JI->`l
 | `XL=>[v]
 | (`c s,v)=>[`cx,v]
def Nv0{v:D}(h:It n v)(hv:Bw.Vb v):`aXv:=by
 cases hv with
 | non=>apply `ai1
 | lk j _=>apply `ai1
 | int z _=>apply `ai1
def nmG:GE:=`aZk
def HB(f:`al):GS:=(v9 (ifD `aiR
 (v9 `aZU
 t6)
 t6)
 (v9 (N6 (S5 0 `aZl f) `fb)
 t6))
def s8(p:`g)(T:`h)(P Q:`l)(w:D)(k i:Nat)(pd:D)(kd:Nat)(a b:Sl):Ds:=[`hG,`j6,`jP,`j7,`XT,.sh (`f (kd:Int)),a,b]
theorem gt1{p:`g}{T:`h}{P Q:`l}{w:D}{k:Nat}{pd:D}{kd:Nat}{a b:Sl}:ob `as_ (s8 p T P Q w k i pd kd a b)=`c (`XH):=Z6 (by
 show `c (`aO (`z ((kd:Int) > 1)))=_;congr 2;apply `hV)
def rf0(π:`c2):Nat->`md->`l
 | _,[]=>[]
 | n,`vL=>`w [`ib,`ai2]::`aZV
structure Nms(pd:D)(full:`md):Prop where
 ex:∃qs:`l,`aZW=`c (`w qs)/\∀(j:Nat) (s:Str) (v:D),`aZX->∃x,atI qs `b8=`c (`aZY)
def Jl0{pd:D}{full:`md}(h:`aZZ){p:`g}{T:`h}{P Q:`l}{w:D}{k:Nat}{kd:Nat}{b:Sl}{s:Str}{v:D}(hj:`aZX):nmG (s8 p T P Q w k i pd kd `qE b)=`JF:=by
 let#[qs,e1,e2]:=h.ex;let#[x,e3]:=e2 j s v hj;unfold nmG;rw[o4 (x:=`aZY) (y:=`fX) ?_ rfl]
 ·rfl
 rw[o4 (x:=`w qs) (y:=`fa) ?_ rfl]
 ·exact e3
 rw[`aZ_];exact e1
section
variable{w:D}{f:`al}
theorem hit(W:`eS):∀(j:Nat) (s:Str),`aW4:=λj s hs=>by
 by_cases hj:`f4
 ·exact du0 W `D5 s hs
 ·rw[`bO,`aZ0] at hs
  cases hs
def loop(W:`eS)(hf:`aZ1)(p:`g)(kd k:Nat)(pd:D)(full:`md)(hn:`aZZ):∀(as done:`md) (B B':`i) (T T':`h) (b:`P) (i:Nat) (nb ne:`i) (P Q:`l) (s6 s7:Sl),full=done++as->(∀a∈as,`aZ2)->(∀a∈as,`aZ3)->(∀a∈as,`aZ4) ->
  `Qp->`kG->`oy->`rH->`aie->`aZ5->(`QB)->`QU->`ai0 ->
  ∃s6' s7',J2 `qG `uo (rf0 `cy `AH as) `ai3=`c (.nx (s8 p T' `AJ `aZT w k `JL pd kd s6' s7')):=by
 intro as
 induction as with
 | nil =>
  intro done B B' T T' b i nb ne P Q s6 s7 _ _ _ _ _ _ _ _ _ h _ _ _;cases h;refine#[s6,s7,?_];show `c (`jc `ai3)=`c (`jc (s8 p T (P++[]) (Q++[]) w k (i+0) pd kd s6 s7));rw[`bc,`bc,`aZ6]
 | cons a as ih =>
  intro done B B' T T' b i nb ne P Q s6 s7 a8 c2 hI hp hm hB c1 hT a1 h hL hP hQ;let#[o,v]:=a;let#[a3,e6]:=hI _ A7;have a5:=Nv0 a3 e6;have c4:`vx=`XH:=c2 _ A7;have e4:full[`AH]?=`c (o,v):=by rw[a8,`kz,`gX];rfl
  obtain⟨T1,b1,b2,B2,T2,b3,J,O,U,Y,i1,d3,hv,hr,rfl,rfl,rfl,c3,Z,d2⟩:∃T1 b1 b2 B2 T2 b3 J O U Y i1,i1=i+`wz/\Pe ps B T1 [v] B2 T2 b2 i1 J O/\Pe ps B2 T2 `as8 B' T' b3 `XK U Y/\b=`aZ7/\nb=J++U/\ne=O++Y/\T1.Nodup/\(∀s∈T1,`eF) /\
    ifD `aiR (v9 `aZU t6) t6 `as9=`c (.nx (s8 p T1 P Q w k i1 pd kd `JJ `JK)):=by
   cases o with
   | none =>
    rw[`kF] at h;let#[B1,T1,b1,b2,a6,c0,J,O,h1,h2,e,e',a2]:=`QV (show Pe ps B T (`aZ8) B' T' b i nb ne from h);refine#[T,[],b1,B1,T1,b2,a6,c0,J,O,i,rfl,h1,h2,e,e',a2,hT,a1,?_];rw[Y0 `aZ9];rfl
   | some s =>
    rw[`kF] at h;let#[B1,T1,b1,b2,a6,c0,J,O,h1,h2,e,e',a2]:=`QV (show Pe ps B T (`cx::`aZ8) B' T' b i nb ne from h);apply `aZ';let#[B2,T2,b3,b4,U,Y,e0,e5,h3,h4,f1,f2,f3]:=`QV h2;subst f1;subst e;have b0:=hp _ A7 s rfl;have hs:=l60 (P:=P) (Q:=Q) (ps:=ps) (B:=B1) (W.pn s b0) (B4 (`wi hT a1) W.pl);let#[t1,t2]:=`aZ! W.nm `ai4 hT a1 (λt ht=>by
     have:=`ai5;apply `QK
     rw[`E];exact b0)
    refine#[_,_,b3,B2,T2,b4,U,Y,e0,e5,_,rfl,h3,h4,rfl,by rw[e',f2];rfl,by rw[a2,f3];rfl,t1,t2,?_];rw[R9 `aZ9];refine t7 (u50 (Xv0 (d:=`gI) rfl rfl (z90 (p:=p) (b:=`ul) (ds:=`lx) rfl (`ae (Jl0 hn e4) rfl) hs) rfl) ?_) rfl;show `qS=`qS;congr 1
  have e1:∃M,L=B2++M:=by
   let#[N,e]:=hr.pk.pre;let#[M,e']:=hL;exact#[N++M,by rw[e',e,`aV]]
  have c8:=hf B B2 T1 T2 v b2 i1 J O P Q hm hB c1 c3 Z a3 a5 hv e1 hP hQ;have hl2:=hv.nbl;have e3:=hv.pk.nodup hB;have d1:=hv.pk.range `oB c1 (λd hd=>by rw[`qz];exact a3);let#[t3,t4]:=hv.pk.told W.nm `ai4 c3 Z (λt ht=>`I (`ai5).symm (a5 t));have a7:∀l:`i,`aZ?:=λl=>`a_a
  have e7:=hv.bd.len;let#[u6,u7,hu]:=ih (done++[(o,v)]) B2 B' T2 T' b3 `XK U Y (P++nd J) (Q++nd O) `JJ `JK (by rw[a8,`aV];rfl) (λa ha=>c2 a (A6 _ ha)) (λa ha=>hI a (A6 _ ha)) (λa ha=>hp a (A6 _ ha)) `j e3 d1 t3 t4 hr hL `a_b `a_b;refine#[u6,u7,?_];have a4:`a_c=`c (.nx `a_d):=by
   unfold HB;refine t7 d2 (t7 (u50 (z90 (p:=p) (b:=hk T1 P Q) (ds:=[w,`XJ,`f (i1:Int)]) rfl rfl c8) rfl) rfl)
  have st:J2 `qG `uo (rf0 `cy `AH ((o,v)::as)) `ai3=J2 `qG `uo `as' `a_d:=by
   conv=>lhs;unfold rf0 J2
   show (match `a_c with|`dv=>`a_e|`BV=>`a_e|`BW=>`dv|r=>r)=_;rw[a4]
  rw[`O,`ds] at hu;have ei:i1+`XI+b3.length=i+(`aZ7).length:=by
   rw[d3,`O,`O];lia
  rw[st,hu,ei,sy0,sy0,`aV,`aV]
universe zz
def Sa0(vs:`l):(`a_f).flatMap itm=vs:=by
 induction vs with
 | nil=>rfl
 | cons v vs ih=>rw[`_,`kF,ih];rfl
def dr0(qs:`bI):(`atg).flatMap itm=`D?:=by
 induction qs with
 | nil=>rfl
 | cons v vs ih=>rw[`_,`kF,`kF,ih];rfl
def P70(π:`c2)(as:`md):sg0 (`yU λa=>`ai2)=rf0 π 0 as:=by
 have J:∀(as:`md) (n j:Nat),(rf0 π n as)[j]?=`a_g λa=>`b9 [`f ((n+j:Nat):Int),`ai2]:=by
  intro as
  induction as with
  | nil=>intro n j;rfl
  | cons a as ih =>
   intro n j;cases j with
   | zero=>rfl
   | succ j =>
    show (`aZV)[j]?=`a_g _;rw[ih `fi j,show n+1+j=n+`n4 by lia]
 apply Al0;intro j;rw[J as 0 j];unfold sg0;rw[`bN,`K]
 by_cases h:j<`gv
 ·rw[`aHc h,`hc h,`gx,`gx,`bO,`bN,`hc h,`dG]
  rfl
 ·rw[`F3 (by rw[`j0];lia),`aZ0]
  rfl
def TLG(f:`al):GSB:=(p7 (n6 (td0 `aZj `qG `uo))
 (p7 (n6 (N6 `QS (k20 0 eG `ar)))
 (p7 (V6 `QS)
 `D)))
section
variable{w:D}{f:`al}
def kh0(W:`eS)(hf:`aZ1)(p:`g)(kd:Nat)(pd:D)(as:`md)(hn:Nms pd as∨as=[])(hvals:W8 [pd]=`c (`a_h))(B B':`i)(T T':`h)(b:`P)(i:Nat)(nb ne:`i)(P Q:`l)(hk:∀a∈as,`aZ2)(hI:∀a∈as,`aZ3)(hp:∀a∈as,`aZ4)
  (hm:`Qp) (hB:`kG) (hBr:∀j∈B,`f4) (hT:`rH) (hTp:∀s∈T,`eF) (h:`aZ5) (hL:`QB) (hP:`QU) (hQ:`eG+1=`aS) :
  ∃δ',TLG f `QW=`c (.rt (`ai6) δ')/\δ'[0]?=`c (lh p T' `AJ `ata):=by
 have J:∃s6' s7',J2 `qG `uo (rf0 `cy ([]:`md).length as) `QW=`c (.nx (s8 p T' `AJ (`Ed++`qF) w `eG `JL pd kd s6' s7')):=by
  have O:(`XN).length=`aS:=by rw[`O];exact hQ
  rcases hn with hn|hn
  ·exact loop W hf p kd `eG pd as hn as [] B B' T T' b i nb ne P `up .un .un rfl hk hI hp hm hB hBr hT hTp h hL hP O
  ·subst hn
   cases h;refine#[.un,.un,?_];show `c (`jc `QW)=`c (`jc (s8 p T (P++[]) (`Ed++[]) w `eG (i+0) pd kd .un .un));rw[`bc,`bc,`aZ6]
 let#[u6,u7,hu]:=J;have es:(`XN++`qF).set `eG (`ai6)=`as?:=by
  rw[`aV,List.set_append_right _ _ `bi,`gX];rfl
 refine#[`a_i,?_,rfl];unfold TLG;refine o6 (Z0 (t50 (items:=rf0 `cy 0 as) ?_ hu)) (o6 (Z0 (u50 (S6 (d:=`ai6) rfl) (δ2:=`a_i) ?_)) `kE)
 ·rw[← P70]
  show `gE (z7 `VE v5 `QW) go0=_;rw[`ae (d:=`a_h) (by rw[c7 (ds:=[pd]) rfl];exact hvals) rfl];rfl
 ·rw[← es]
  exact T30 (k:=`eG) rfl (by rw[`O,`O,`ds];lia) rfl
def ps0(π:`c2)(qs:`bI):`l:=(`fh λq=>(q.1,`a_j)).map pr
def gb0(π:`c2)(pt:Pt):`ai7=match pt with
  | `on=>`aQ2
  | `l7=>`w [`pX,`a_k]
  | `tA qs=>`w [`hq,`JN]
  | `lq c qs=>`w [`hr,`e7,`JN]:=by
 cases pt with
 | text w=>rfl
 | row vs=>rfl
 | table qs =>
  show `b9 [`hq,`a_l]=_;rw[`Xm];rfl
 | rcd c qs =>
  show `b9 [`hr,`e7,`a_l]=_;rw[`Xm];rfl
def jr0(π:`c2)(qs:`bI):`atd=`QH:=by unfold ps0;rw[`K,`K]
def gt0(π:`c2)(pt:Pt)(hc:`XO<=20):∃x,ixD `ai7 `z2=`dk/\V1 [x]=`a_m:=by
 rw[gb0];apply `aiW
 cases pt with
 | text w =>
  refine#[`t w,rfl,?_];have hc:`ahL:=hc;show (if `dV<=`S then `c (`as (`dV:Int)) else `e)=_;rw[`gc];rfl
 | row vs =>
  refine#[`a_k,rfl,?_];show `c (`as (`aWm:Int))=_;rw[`K];rfl
 | table qs =>
  refine`a_n;show `a_o;rw[jr0];rfl
 | rcd c qs =>
  refine`a_n;show `a_o;rw[jr0];rfl
def Mh0(π:`c2)(pt:Pt)(δ:Ds)(h:gv 4 δ=`c `ai7):`a_p=`c (`XU):=by
 have e0:∀s:Str,o2 `ey `aX ixD δ=`JF->`a_p=jf0 (`o [`jJ,`pX,`hq,`hr]) `lx:=λs e=>by
  unfold xj0;rw[`ae e rfl];rfl
 rw[gb0] at h;cases pt with
 | text w=>rw[e0 `zo `Do];kernel_rfl
 | row vs=>rw[e0 `zp `Do];kernel_rfl
 | table qs=>rw[e0 `zq `Do];kernel_rfl
 | rcd c qs=>rw[e0 `tu `Do];kernel_rfl
theorem dk0(pd:D)(π:`c2)(qs:`bI)(h:`aZW=`c (`JN)):Nms pd `ai8:=#[_,h,λj s v hj=>by
 rw[`bN] at hj;cases e:qs[j]? with
 | none=>rw[e] at hj;cases hj
 | some q =>
  rw[e] at hj;cases hj;let#[hl,_]:=`cU e;refine#[`a_j,?_];rw[vp0 `j (by rw[jr0];lia) `x,`dE,`bO];unfold ps0;rw[`bN,`bN,e];rfl]
universe zz
section
variable{f:`al}
def kd0(W:`eS)(hf:VE ps `av L `wC m f)(B B':`i)(T T':`h)(b:`P)(i j:Nat)(nb ne:`i)(P Q:`l)(hj:`f4)(hjB:`no)
  (hm:`aA - `DS<=m) (hB:`ah_) (hBr:∀x∈`hD,`ox) (hT:`rH) (hTp:∀s∈T,`eF) (h:Pe ps `dF T `Qn B' T' b (i+`qH) nb ne) (hL:`QB) (hP:`QU) (hQ:`ai0) (h60:`rF) :
  mkB 4 yj0 0 (y40 f) `nA [`nw,`AK,`gI]=`c (`f ((`a_q:Nat):Int),hk T' (P++nd ((i+`Ay)::nb)) (Q++nd ((`a_q)::ne))):=by
 obtain⟨w,ew⟩:∃w,w=`nw:=`ac;rw[← ew] at hf ⊢;have b4:L[`aS]?=`u4:=by
  let#[M,e]:=hL;let#[N,e']:=h.pk.pre;rw[e,e',`aV,`aV,`kz,`gX];rfl
 have U:=`D5;have hh:=mp0 (ps:=ps) (T:=T) hjB;obtain⟨pt,a5⟩:∃pt,pt=`hC:=`ac;have a7:`Ay=(bs (`ai9)).length:=by unfold hdl;rw[← a5]
 rw[hh] at h ⊢;obtain⟨hd,eh⟩:∃hd,hd=`Ay:=`ac;rw[← eh] at h a7 ⊢;rw[← a5] at h U ⊢;obtain⟨pd,O⟩:∃pd,pd=(`ai').d:=`ac;have a8:ixD w (`AK)=`c pd:=by
  have e0:(Km.laid ps L)[`aS]?=`c (rel `cy `ly):=by
   unfold Km.laid;rw[`bN,b4];rfl
  let#[hl,e]:=`cU e0;rw[ew,J00 hl,O,a5,e]
 have a3:=(`ate).cnt;have c2:=cx0 pt;have ok:=W.ok pt U;have hI:∀v∈pt.vals,It `aA v/\Bw.Vb v:=λv hv=>#[Km.It.of (`a_r) (W.wb.lk pt U v hv),`a_r]
 have c1:=U50 ok;have hN:`ai9<`qq:=B6 (show `ai9<2 ^ 10 by lia) `aiX;have a6:(`ai').vals=`a_s:=K22.Z30 _ _ (by rw[`K]);have J:W8 [pd]=`c (`o (`a_s)):=by
  rw[O,fu0 (`ai') (by rw[a6,`K];lia),a6]
 let#[lx,l1,l2]:=gt0 `cy pt a3;rw[← O] at l1;refine W0 rfl λp=>?_
 have Y:∀G:GSB,∀r,G (s8 p T `kL `up w `aS `QX pd (kn pt) .un .un)=r ->
   (p7 `aZf
 (p7 `aZg
 (p7 `aZh
 (p7 (n6 (j4 (yu0 0 bG `cZ)))
 (p7 (n6 (j4 (yu0 0 eG `lo))) G))))) [`hG,`j6,`XS,`j7,.un,.un,.un,.un]=r:=λG r hG=>by
  refine o6 (δ':=[`hG,`j6,`XS,`j7,`XT,.un,.un,.un]) (Z0 (X8 (by rw[o4 (x:=w) (y:=`AK) rfl rfl];exact a8))) ?_;refine o6 (δ':=`a_t) (Z0 (X8 (Mh0 `cy pt _ (by rw[← O];rfl)))) ?_;refine o6 (δ':=s8 p T P Q w `aS `QX pd (kn pt) .un .un) (Z0 `JE) ?_
  ·rw[a7]
   apply `aiZ;have e1:oA `asY V1 `a_t=`a_m:=by
    rw[c7 (ds:=[lx]) (`ae (by rw[`aZ_];exact l1) rfl)];exact l2
   rw[o4 (x:=`f (4*(4*`JM+`XP))) (y:=`HK) (by
    rw[o4 (x:=`pW) (y:=`f (4*`JM+`XP)) rfl (by
     rw[o4 (x:=`f (4*`JM)) (y:=`XU) (by
      rw[o4 (x:=`pW) (y:=`atc) rfl e1];rfl) rfl]
     rfl)]
    rfl) rfl]
   rfl
  ·refine o6 (δ':=s8 p T `kL Q w `aS `QX pd (kn pt) .un .un) (Z0 (Sv0 (k:=`XQ) rfl `j)) ?_
   exact o6 (Z0 (Ur0 `j)) hG
 have a1:(`XR).length=`DS:=by rw[`O,`O,hP];rfl
 have a2:`eG+1=`DS:=by rw[`O,hQ];rfl
 have eP:∀nb,`kL++`un=P++nd (`QX::nb):=λnb=>by rw[`aV];rfl
 rw[← hQ] at Y ⊢;skip;cases pt with
 | text u =>
  cases h;have hw:`lD<=20:=a3;apply `aiW
  have b3:(tx (`H1 u)).length=`lD:=by show (sg u).length=_;unfold sg;rw[`K];exact Dg0
  done;rw[b3,← `JP];let#[δ',t1,t2]:=kh0 W hf p 0 pd [] `u9 J `dF `dF T T [] `a_u [] [] `kL Q `ai! `ai! `ai! hm hB hBr hT hTp `Ef hL a1 a2;rw[eP] at t2;refine#[δ',Y _ _ ?_,t2];refine o6 (δ':=s8 p T `kL `up w `eG `a_u pd 0 .un .un) `aiY `atf;rw[R9 rfl];refine t7 (X8 (plus (a:=i+hd) (b:=`lD) rfl ?_)) rfl;rw[c7 (ds:=[`t u]) (`ae (by rw[`a_v,O];rfl) rfl)];show (if `lD<=`S then `c (`as (`lD:Int)) else `e)=_;rw[`gc]
 | row vs =>
  have Z:(Pt.row vs).vals.map `j5=(`a_f).map `XM:=by rw[`bT];rfl
  rw[Z] at J;let#[δ',t1,t2]:=kh0 W hf p 1 pd (`hm λv=>`XL) (`p #[_,by rw[O];rfl,λj s v hj=>by
   rw[`bN] at hj;cases e:vs[j]? with
   | none=>rw[e] at hj;cases hj
   | some q=>rw[e] at hj;cases hj]) J `dF B' T T' b (`JO) nb ne `kL Q (λa ha=>by
   apply `ai?;rfl) (λa ha=>by
   apply `wF;exact hI v hv) (λa ha s e=>by
   apply `wF;cases e) hm hB hBr hT hTp (by rw[Sa0];exact h) hL a1 a2
  rw[eP] at t2;done;apply `a_w
 | table qs =>
  have Z:(`IT qs).vals.map `j5=`a_x:=`a_y
  rw[Z] at J;let#[δ',t1,t2]:=kh0 W hf p 2 pd `ai8 `a_z J `dF B' T T' b (`JO) nb ne `kL Q (λa ha=>by
   apply `ai?;rfl) (λa ha=>by
   apply `wF;apply `a_A) (λa ha s e=>by
   apply `wF;cases e;apply `a_B) hm hB hBr hT hTp (by rw[dr0];exact h) hL a1 a2
  rw[eP] at t2;done;apply `a_w
 | rcd c qs =>
  have Z:(`aiK).vals.map `j5=`a_x:=`a_y
  rw[Z] at J;have hc:c∈`av:=W.nm _ U c (by unfold Pt.all Pt.cls;exact D3 _ A7);let#[B1,T1,b1,b2,c3,c4,b0,c0,h1,h2,e,e',a4]:=`QV (show Pe ps `dF T (`e7::`D?) B' T' b (`JO) nb ne from h);apply `aZ';subst e;have e':nb=b0:=e';have a4:ne=c0:=a4;rw[← e',← a4] at h2;have hs:=l60 (P:=`XR) (Q:=`Ed) (ps:=ps) (B:=`hD) (W.pn c hc) (B4 (`wi hT hTp) W.pl);let#[t3,t4]:=`aZ! W.nm `ai4 hT hTp (λt ht=>by
   have:=`ai5;apply `QK
   rw[`E];exact hc)
  let#[δ',t1,t2]:=kh0 W hf p 3 pd `ai8 `a_z J `dF B' _ T' b2 `a_C nb ne `kL Q (λa ha=>by
   apply `ai?;rfl) (λa ha=>by
   apply `wF;apply `a_A) (λa ha s e=>by
   apply `wF;cases e;apply `a_B) hm hB hBr t3 t4 (by rw[dr0];exact h2) hL a1 a2
  rw[eP,`a_D,← `O] at t2;rw[`a_D,← `O] at t1;done;refine#[δ',Y _ _ (o6 `XV (o6 (δ':=s8 p (nT T (`e7)) `kL `up w `eG `a_C pd 3 .un .un) `aiY t1)),t2];rw[R9 rfl];refine t7 (u50 (Xv0 (d:=`f `XQ) rfl rfl (z90 (p:=p) (b:=hk T `kL `up) (ds:=[`e7]) rfl (`ae (by rw[`a_v,O,gb0];rfl) rfl) hs) rfl) ?_) rfl;show `qS=`qS;congr 1
universe zz
def step(W:`eS){g:`al}(hg:∀m',m=m'+1->∃f,g=mkB 4 yj0 0 (y40 f)/\VE ps `av L `wC m' f):VE ps `av L `wC m (mkB 4 P0 0 `JH):=by
 intro B B1 T T1 d b1 i nb ne P Q hm hB Z hT a1 hI hs h hL hP hQ;skip;have a2:`aWf:=by
  have:=`nx hB (m:=`j4) λy hy=>`fc (Z y hy)
  apply `DR
 have a3:=W.wb.len.2;have n0:∀l:`l,l++nd []=l:=λl=>`bc l
 cases h with
 | str h=>done;exact `I rfl (hs _)
 | val hd h =>
  cases h;done;rw[`bc,n0,n0];rcases hd with rfl|⟨z,rfl⟩
  ·exact J40 g
  ·have hz:`DI:=by
    skip;rcases hI with⟨s,e,_⟩|e|⟨z',e,hz⟩|⟨j,e,_⟩
    ·cases e
    ·cases e
    ·cases e;done;exact hz
    ·cases e
   exact Ic0 g hz
 | @old _ _ j _ _ _ _ _ _ _ hj h =>
  cases h;done;rw[`bc,n0,n0,`ww];have a4:=Km.pn0 hj;have e1:`lB=`ar_:=by rw[`D8,`nV]
  let#[M,rfl]:=hL;rw[e1,Tv0 hj,← hP];exact J50 g `j `j
 | @new _ _ j _ _ _ _ _ bb _ _ nb1 ne1 _ _ hj h1 h2 =>
  cases h2;have Y:`f4:=mw0 hI;have U:=tz0 hB hj;have J:∀k∈`hD,`DT:=λk hk=>by
   rcases `dM hk with z|z
   ·exact Z k z
   ·rw[`el];exact Y
  have a5:`aS<`aA:=by
   have:=`nx U (m:=`j4) `aWg
   apply `aik;lia
  obtain⟨m',rfl⟩:∃k,m=k+1:=#[m - 1,`H];let#[f,rfl,hf]:=hg m' rfl;have e4:`Eb=`aS:=by
   let#[M,eM]:=hL;let#[N,eN]:=h1.pk.pre;rw[eM,eN,`aV,`aV];exact Tm0 hj
  have O:=kd0 W hf B B1 T T1 bb i j nb1 ne1 P Q Y hj `NF U J hT a1 h1 hL hP hQ `j;done;rw[`ww,e4,`bc,`bc,`bc,`O,← `JP];exact Jp0 _ `j O
def Ho0(W:`eS):∀(m q:Nat),2*m+1<=q->VE ps `av L `wC m (mR2 q).1:=by
 intro m
 induction m with
 | zero =>
  intro q hq;apply `a_E;exact step W (λq' e=>`I e `j)
 | succ m ih =>
  intro q hq;apply `a_E;exact step W (λm' e=>by
   cases e;obtain⟨q',rfl⟩:∃k,q=k+1:=`ati;exact#[_,rfl,ih q' `j])
def Ow0(W:`eS){T:`h}{b:`P}{ne:`i}(h:Pe ps [0] [] `Jk L T b `uq nb ne) :
  J1 `X2 `a_F=`c (`f ((`a_G:Nat):Int),hk T (nd (`Jw::nb)) (nd ((`a_G)::ne))):=by
 have J:=`QG;have hf:VE ps `av L `wC 60 (mR2 123).1:=Ho0 W 60 123 `j;have:=kd0 W hf [] L [] T b 0 0 nb ne [] [] J.1 `aB `lP `aB (λx hx=>by rw[`ec hx];exact J.1) `L (λs z=>nomatch z) (by rw[`dG];exact h) #[[],`Eg] rfl rfl `aB;simp only[`dG,`hF] at this;exact `E
theorem ic0{S:RS}:∀{a b:`P} {us:`i},`eE S `zI us S'->∃S1,(∃vs,`eE S a vs S1)/\`eE S1 b (`y7 `H6) S'
 | [],b,us,h=>#[S,#[[],`L S],h]
 | x::a,b,_,h=>by
  cases h with
  | cons hb ht hl hc hr th hk =>
   let#[S1,#[vs,h1],h2]:=ic0 hr;exact#[S1,#[_,`ai hb ht hl hc h1 th hk],h2]
def Y90(S:RS)(hw:`v')(b:Int):`Wx=`c (`xt,R S):=by
 refine W0 rfl λp=>#[`iD,?_,rfl]
 show `PG;refine `zL;have t:`aTS=`c (`d,`iD):=by
  unfold R6;apply `ag8;rfl
 unfold ifX;rw[t,`n,`bA];apply `Pa
def do0{S:RS}{us:`i}(h:`DB)(hl:l≠[]):`ma/\us[0]?=`c `aY:=by
 cases h with
 | nil=>exact `I rfl hl
 | cons hb ht hl hc hr th hk =>
  refine#[`mK,rfl];rw[Y90 S z] at ht;cases ht
theorem O40(S:RS):K3 `bG []=`c (`agM,R S):=W0 rfl λp=>#[`eR,show ww0 `eR=_ from Z3 (V3 (S6 (kx0 p S []))),rfl]
def k90{k:Nat}{f:`al}{gA:GA}{S:RS}{δ:Ds}{r:D}(h:δ[k]?=`c (.ow `bG))(hA:`lW)(hf:`aS7):W7 k `G p6 gA f δ=`c (r,`bj k (.ow (R S'))):=by
 have hF:`Wo:=`cM
 unfold W7;rw[h];show `aS8;rw[`R hF,hA,`n];show `eQ _ (`Wn)=_;rw[hf];rfl
def lq0{gb:GE}{f:`a5}{δ:Ds}{d y r:D}(h1:`O5)(h2:gb δ'=`ep)(h3:`aZA):rg0 gx gb f δ=`Pj:=by
 unfold rg0;rw[h1,`n,h2,`n,h3];rfl
def Ua0{gt:GTX}{Ga Gb:GS}{δ:Ds}(h:`d!=`a_H):i10 gt Ga Gb δ=Gb δ':=by unfold i10;rw[h];rfl
def jj0{δ:Ds}{t:`aa}(h:`dw=`c (.bl t,δ')):R6 gx δ=`c (t,δ'):=by unfold R6;rw[h];rfl
def Jb0{g g':GTX}{δ:Ds}(h:`ax=`a_H):orT g g' δ=g' δ':=by unfold orT;rw[h];rfl
theorem be0(n:Nat):∀l:`i,za0 `a8 `ny `ag `aja (nd l)=`c (nd (l.filter `ajb))
 | []=>rfl
 | a::l=>by
  have ih:=be0 n l;have t:ob `as2 `a_I=`c (`z (a<=n)):=Z6 (by
   show `c (`aO (`z (`sM<=`ct)))=_;congr 2;apply `hV)
  show za0 `a8 `ny `ag `aja (`tF::nd l)=_;unfold za0;simp only[show gN 0 (`as `sM) `aja=`c `a_I from rfl,t,ih]
  by_cases h:a<=n
  ·rw[`aBq (by rw[`fd]),`fd]
   rfl
  ·rw[`aBp (by rw[`fm];decide),`fm]
def bq0(l:`i):`e? (nd l)=`d:=by
 unfold flats nd;rw[`jb];intro d hd;let#[k,_,rfl]:=`gG;rfl
def ux0(l:`i):`aZ?:=`a_a
def st9(a b c:D)(T:`h)(nb ne:`i)(q:Int)(S:RS)(n:Nat)(s7 s8:Sl):Ds:=[.sh a,.sh b,.sh c,`AM,.sh (`f q),.ow `bG,`bp,s7,s8]
section
variable{a b c:D}{T:`h}{ne:`i}{q:Int}{S:RS}{s7 s8:Sl}
def Ly0(h:`ajc):sj0 3 `as3 1 [6] `a8 `ny `ag (`QY)=`c (`f (le nb n:Int)):=by
 have hz:`zO:=`an
 unfold sj0;show (if `e? (`un)=`d then `gE (T4 1 [6] (λ_=>`c (`un)) `a8 `ny `ag ((`QY).map flS)) _ else `e)=_;rw[`R (bq0 nb),xa0 (items:=`un) rfl `a_J (be0 n nb)];show `c (`as ((nd (nb.filter `ajb)).length:Int))=_;rw[ux0];rfl
def Kw0(h:`ajd):sj0 3 `as4 1 [6] `a8 `ny `ag (`QY)=`c (`f (le ne n:Int)):=by
 have hz:`zO:=`an
 unfold sj0;show (if `e? (`qF)=`d then `gE (T4 1 [6] (λ_=>`c (`qF)) `a8 `ny `ag ((`QY).map flS)) _ else `e)=_;rw[`R (bq0 ne),xa0 (items:=`qF) rfl `a_J (be0 n ne)];show `c (`as ((nd (ne.filter `ajb)).length:Int))=_;rw[ux0];rfl
universe zz
def ne_int(x y:Int):uy0 `Ai `ae0=`aYE:=by
 apply `a_K
 rw[(`a_L).ne (Sm.int y 50)];congr 3;exact `a_M
def eq_int(x y:Int):l80 `Ai `ae0=`aYC:=by
 apply `a_K
 rw[(`a_L).eq (Sm.int y 50)];congr 2;exact `a_M
def Io0(x:`aa):uy0 (.bl x) (.bl x)=`ve:=by cases x<;>rfl
def LWB:GS:=(v9 `aZo
 (v9 `aZp
 (v9 `aZq
 (v9 `aZr
 (v9 (i10 `aZs
 (v9 (V2 `HZ)
 t6)
 t6)
 t6)))))
def LWT:GB:=`aZn
def Oi0(l:`P)(n c:Nat)(hn:`QZ):`a_N=`atp `as:=by
 unfold cutD sIx;simp only[];rw[`Dn,`Dn,`dE,`dE,`K,`Pq (a:=n) (b:=`aR) `j,← `aSK,← List.map_take];congr 1
 by_cases h:`a_O
 ·rw[`Pq h,show n+c - n=c by lia]
 ·rw[`aSy,`a_P,`a_P]
section
variable{a b:D}{T:`h}{ne:`i}{c:Nat}{S:RS}{n':Nat}{s7 s8:Sl}
def i30{δ:Ds}(h:`Wb=`c `lv):oA `dz V1 δ=`c (`Q_):=by
 rw[c7 (ds:=[`IB]) `ahI];show `c (`as ((`XY).length:Int))=_;rw[`K]
theorem Ul0:LWT `aje=`c (`z (`QZ)):=Z6 (by
 rw[o4 (x:=`ib) rfl `Eh];show `c (`aO (`z (`ct<`JS)))=_;congr 2;apply `hV)
def Lk0(hn:`QZ)(hn':n'=`a_Q)(hnb:`ajc)(hne:`ajd)(hg:zs0 `bG `a_R=`c (`x,R S1))(hz:`a_S)(hc:c<=100)
  (ho:`a_T) (hw:`a_U):LWB `aje=`c (.nx (`ajf)):=by
 unfold LWB;refine t7 (δ':=st9 a b `lv T nb ne `iE S1 n s7 s8) ?_ ?_
 ·unfold j4
  rw[k90 (k:=5) (S:=S) (S':=S1) (ds:=`a_R) rfl (`ae ?_ rfl) hg]
  ·rfl
  ·have e0:o2 `lm `ey m7 `aje=`c (`a_V):=rfl
   rw[Bt.oe0 (d:=`IB) (l:=`c `ct) (h:=`atm) rfl rfl (by show (o2 `lm `ey m7 _).bind _=_;rw[e0];rfl)];show `c (`f0 (`a_N))=_;rw[Oi0 l n c hn]
 refine t7 (δ':=st9 a b `lv T nb ne `iE S1 n' s7 s8) `JE ?_
 ·rw[c7 (ds:=[`a_V,`Q_]) (`ae rfl (`ae `Eh rfl))]
  show `c (`as (if `JS<`JR then `JS else `JR))=`c (`as `aiV);congr 2;split<;>lia
 refine t7 (X8 (Ly0 hnb)) (t7 (X8 (Kw0 (s7:=`X0) hne)) ?_);refine `Pg;refine(Ua0 (δ':=`ajf) ?_);rw[Jb0 (δ':=`ajf) (jj0 (lq0 (k90 (k:=5) (S:=S1) (S':=S1) (ds:=[]) rfl rfl (O40 S1)) (y:=`f (`ats - `X1)) rfl (by rw[ne_int,`l!];rfl)))];refine jj0 (lq0 (k90 (k:=5) (S:=S1) (S':=S1) (ds:=[]) rfl rfl (nd0 S1)) (y:=.bl (`z (`nC=[]))) ?_ (Io0 _));rw[o4 (x:=`f `aiV) rfl `Eh,eq_int];congr 2;exact `tS (by rw[hw];lia)
universe zz
def jv0{S:RS}{us:`i}(h:`eE S [] us S'):S=S':=by
 cases h;rfl
def Nr0{a b:D}{T:`h}{ne us:`i}{c:Nat}{S:RS}(hc:1<=c)(hc':c<=100)(hnb:`ajc)(hne:`ajd)(hz:`a_S)(hu:`eI=`aR)(hg:Opn us 0 0 nb ne)(hw:`v')(hun:`b0=[])(he:`a_W):∀(f n:Nat) (S0:RS) (s7 s8:Sl),n<=`aR->`aR - n<f->`eE S0 (`AL) (`y7 n) S ->
  ∃s7' s8',U3 LWT LWB f (st9 a b `lv T nb ne `iE S0 n s7 s8)=`c (.nx (st9 a b `lv T nb ne `iE S `aR s7' s8')):=by
 intro f
 induction f with
 | zero=>intro n S0 s7 s8 _ h;exact `I h `j
 | succ f ih =>
  intro n S0 s7 s8 hn hf hr
  by_cases h:`QZ
  ·skip;obtain⟨n',J⟩:∃k,k=`a_Q:=`ac
   have e1:`AL=`XZ++`Jt n':=by
    have:`Jt n'=(`AL).drop c:=by
     rw[`Jq]
     by_cases q:`a_O
     ·rw[J,`Pq q]
     ·rw[`a_X,`a_X]
    rw[`E,List.take_append_drop]
   have e2:(`XZ).length=n' - n:=by rw[`dS,`iF];lia
   rw[e1] at hr;let#[S1,#[vs,r1],r2]:=ic0 hr;rw[e2,`Jq,show n+(n' - n)=n' by lia] at r2;have M:`a_U:=by
    constructor
    ·intro z
     by_cases q:`X_
     ·exact q
     ·exact `I z (`a_Y).1
    ·intro z
     rw[z,`n9] at r2;rw[jv0 r2];exact hw
   have ho:`a_T:=by
    by_cases q:`X_
    ·rw[q,`n9] at r2
     rw[jv0 r2,hun,q,he];exact `dG _
    ·have:=(`a_Y).2
     rw[List.getElem?_drop] at this;have:=hg _ _ `E;rw[`dG,`dG] at this;exact `E
   let#[s7',s8',q]:=ih n' S1 (`X0) (.sh (`f `X1)) `j `j r2;done;refine#[s7',s8',?_];rw[rw0 (by rw[Ul0,`fd]) (Lk0 h J hnb hne (N30 r1) hz hc' ho M),q]
  ·have e:n=`aR:=`H
   subst e;rw[`n9] at hr;have e:=jv0 hr;subst e;exact#[s7,s8,b90 (by rw[Ul0,`fm])]
def Qm0(ns:`P)(hl:`eY<=63):`a_Z:=by
 skip;have zs:`aV_:=`an
 let#[ps,Y,h1,b4,e3,b2,U]:=Bt.Zu0 ns `j 1 `j;have U:Bt.xd0 `a__=`c `ud:=U;have D1:Dw ps Y:=#[#[h1,b4],`H,b2];have W:=D1.wf;obtain⟨pool,a5⟩:∃pool,`av=Y.filter `aZu:=`ac
 rw[← a5] at W;let#[L,T,b1,h,hp,hn,hL,hc,N,hN]:=Pa0 `oB;have c2:∀k∈L,∀i∈K22.tgs `aWt,i∈L:=λk hk i hi=>by
  skip;rw[← X60] at hi;let#[v,hv,e]:=k7.mp hi;let#[_,w2]:=`qw (hL k hk);have hI:=`nv w2 v hv;rcases hI with⟨s,rfl,_⟩|rfl|⟨z,rfl,_⟩|⟨j,rfl,_⟩
  ·cases e
  ·cases e
  ·cases e
  ·simp only[`dE] at e
   cases e;done;exact hc k hk i hv
 have b0:`aWs:=by
  apply `aY8
  rw[`j0] at this;have:=`QG;exact#[by rw[hN];simp,`H]
 have wl:=Km.Ov0 `oB b0 hL c2;have a7:=Pe0 `oB hn hL hc (Ya0 `oB h);let#[Z,c8]:=Km.On0 `oB;have Z:o90 `AE=`c (`o ((`ug).map `f)):=Z;let#[c1,d1,hE]:=h.pe `uq;let#[S,us,hr,hg,hw,e1,c3,b3,a6]:=Qe0 W hE hp;have M:=Ow0 W hE;obtain⟨l,el⟩:∃l,l=`ug:=`ac;rw[← el] at Z c8 hp hr hg;have d2:`aR=`uq+`wz:=by rw[hp,`O]
 rw[← d2] at M;have a1:=hE.bd;have e0:=hE.nbl;have e7:=mp0 (ps:=ps) (B:=[]) (T:=[]) (j:=0) `aB;rw[`ds] at e0;have e4:=a1.len;obtain⟨nb,a3⟩:∃nb,nb=`Jw::c1:=`ac;obtain⟨ne,a2⟩:∃ne,ne=`aR::d1:=`ac;rw[← a3,← a2] at M hg;have e6:`JQ=`qu:=by rw[a3,`Z];lia
 have e5:`XX=`qu:=by rw[a2,`Z];lia
 have he:`a_W:=by
  rw[le_lo (l:=ne) (λy hy=>by
   rw[a2] at hy;rcases `Xq with z|z
   ·lia
   ·have:=a1.e y z;lia),le_lo (l:=nb) (λy hy=>by
   rw[a3] at hy;rcases `Xq with z|z
   ·lia
   ·have:=a1.b y z;lia)]
  lia
 have d3:=hr.len;let#[z,J]:=Gw.Xy0 ns 0 `j;have J:Bt.S7 `a_0=`O8:=J;obtain⟨c0,c4⟩:∃c0:Nat,`sn+z%6=`atv:=#[(1+z%6).toNat,`H];obtain⟨c,O⟩:∃c:Nat,c=if `ajg then c0+40 else c0:=`ac;have a8:1<=c/\c<=100:=by split at O<;>lia
 let#[s7,s8,a4]:=Nr0 (a:=`iz) (b:=`uc) (l:=l) (T:=T) (nb:=nb) (ne:=ne) (us:=us) (c:=c) (S:=S) a8.1 a8.2 `j `j `j d3 hg hw e1 he 20000000 0 `jo .un .un `q2 `j hr;have sl:=K20 wl;done;refine V9 rfl ?_;refine t7 (δ':=[`gD,`bS,.un,.un,.un,.un,.un,.un,.un]) (X8 (by rw[c7 (ds:=`a__) rfl];exact U)) ?_;refine t7 (δ':=[`gD,`bS,`jU,.un,.un,.un,.un,.un,.un]) (X8 (by apply `X5;exact Z)) ?_;refine t7 (δ':=`X4) ?_ ?_
 ·show (if ((`aiT:`eb).Nodup/\(`aiT:`eb).length<=15)/\nrQ [`e,`e,`e]=`d then `c (`jc `X4) else `e)=_
  rw[`R #[#[`aQ,`an],rfl]]
 refine t7 (δ':=[`gD,`bS,`jU,`AM,.un,.un,.un,.un,.un]) ?_ ?_
 ·refine Ua0 (jj0 (lq0 (d:=`Q_) (y:=`Q_) ?_ `Eh (by rw[ne_int,`ahd];rfl)))
  have hA:`a_1=`c `a_F:=`ae `a_2 rfl;unfold S5;show ((`a_1).bind λds=>(J1 `X2 ds).map λr=>(r.1,[`j3 (`iz),`bS,`jU,`atu,.un,.un,.un,.un,.un].set 3 (.ow r.2)))=_;rw[hA,`n,M];rfl
 refine t7 (δ':=`a_3) `JE ?_
 ·rw[o4 (x:=`c_) (y:=`f (z%6)) rfl (Bt.yy0 (i:=z) (j:=6) (by rw[c7 (ds:=`a_0) rfl];exact J) rfl `s)]
  show `c (`as (1+z%6))=_;rw[c4]
 refine t7 (δ':=[`gD,`bS,`jU,`AM,`WC,.un,.un,.un,.un]) ?_ ?_
 ·have t:ob `aZm `a_3=`c (`z (`ajg)):=Z6 (by
   rw[o4 `Eh rfl];show `c (`aO (`z ((`aR:Int) > 600)))=_;congr 2;apply `hV)
  by_cases q:`ajg
  ·rw[`qY] at O
   rw[R9 (by rw[t,`bd q]),O];rfl
  ·rw[`nY] at O
   rw[Y0 (by rw[t,`b4 q]),O];rfl
 refine t7 (δ':=[`gD,`bS,`jU,`AM,`WC,.ow (R `jo),.un,.un,.un]) (by
  unfold gp0;rw[Md0];rfl) ?_
 refine t7 (δ':=st9 (`iz) `ud `lv T nb ne `iE `jo 0 .un .un) rfl ?_;refine t7 a4 ?_;refine Z4 ?_;unfold jq0
 haveI:`iK (`nw=`nw):=.isTrue rfl
 rw[lq0 (k90 (k:=5) (S:=S) (S':=S) (ds:=[]) rfl rfl (Rk.Zu0 S hw c3 b3)) (y:=`nw) `a_2 (by rw[a6,sl.eq sl,`ahd])];rfl
universe Hk
namespace Hk
open L2 DL Rk
open Bt (z30 S7 vt0 yi0 ua0 S9 wn0 zx0 vc0 Q8 ub0 ya0 wq0 N5 te0 xd0)
def top(i:Nat):`bq:=PySem.Challenge.pw_graphpack_k33_parts_open.main.body.getD i `a_4
def b_bool:`fB `vs=`c (`bD `vs):=`aQ
def b_int:`fB `iU=`c (`bD `iU):=`aQ
def b_list:`ac4:=`aQ
def b_min:`fB `Bq=`c (`cT `Bq):=`aQ
def b_ord:`fB `Br=`c (`cT `Br):=`aQ
def b_str:`fB `iX=`c (`bD `iX):=`aQ
def b_tuple:`aNC:=`aQ
def b_zip:`aOQ:=`aQ
structure Txt(mg:`bJ):Prop where
 b_bool:mg `vs=`e
 b_enumerate:mg `mr=`e
 b_int:mg `iU=`e
 b_isinstance:mg `vt=`e
 b_len:mg `sr=`e
 b_list:mg `d4=`e
 b_min:mg `Bq=`e
 b_ord:mg `Br=`e
 b_range:mg `rX=`e
 b_reversed:mg `mR=`e
 b_str:mg `iX=`e
 b_tuple:mg `d3=`e
 b_zip:mg `g7=`e
 c_BASE:∃t,mg "BASE"=`c (`f 128 t)
 c_MOST_NAMES:∃t,mg `a_5=`c (`f 60 t)
 c_MOST_NAME_SIGNS:∃t,mg `a_6=`c (`f 8 t)
 c_MOST_PARTS:∃t,mg `a_7=`c (`f 60 t)
 c_MOST_VALUES:∃t,mg `a_8=`c (`f 12 t)
 c_MOST_WORD_SIGNS:∃t,mg `a_9=`c (`f 20 t)
 c_NAME_SIGNS:∃t,mg `a_'=`c (`t `zz t)
 c_WORD_SIGNS:∃t,mg `a_!=`c (`t `zA t)
def meth(i k:Nat):`bq:=match top i with
 | .ClassDef _ _ _ `gk _ _ _ _ _ _ _=>body.getD k `a_4
 | s=>s
theorem fsc{P:`h}(a:`axP)(b:`axQ)(c:`axR)(d:N.take `j8=P)(e:`KE/\(∀x∈P,`YW)/\∀y∈`Lf,`axS):`ak N P sc:=#[a,b,c,e.1,d,e.2.1,e.2.2]
theorem cok(a:scope.kind=`mt)(b:`aAg)(c:(∀y∈`gq,`aAd)/\(∀y∈`gq,`aAe)/\(∀y∈`gq,`aAf)/\N'.Nodup/\∀k∈`bw `sx,`aAh):`ob:=#[a,c.1,c.2.1,c.2.2.1,c.2.2.2.1,b,c.2.2.2.2]
section
variable{P:`aw}{w:`X}
theorem v30:`ak yd0 `gK (t8 `ajh):=`ao
theorem g40(F:Fun K `JU `JU `ajh fa fd)(T:`am)  : `T P w K mg `m CX0 1 fa fd `gK (spN K V4) :=
 okN (k:=0) (G:=yc0) F v30 (λcdv A outer s H E hr=>(w6 (yv0 1 (G5 (z9 (Z8 `aH `me) u5)) v30.nd)
   (w6 (b8 (V0 `aH `me) (o5 2 v30.nd))
   (w6 (uq0 100000 D5 (o7 t00 vg0 `a9 v6)
   (w6 (Y9 (qd0 1 (b7 `me (Z8 `a9 `me))))
   (w6 (b8 (V0 `a9 `me) (o5 2 v30.nd))
   u9)))
   (w6 (Ue0 (ow0 `qJ `Q0 `az))
   u9))))) `jd
theorem Up0:`ak sa0 `gK (t8 `aji):=`ao
theorem S50(F:Fun K `Q1 `Q1 `aji fa fd)(T:`am)  : `T P w K mg `m CX0 1 fa fd `gK (spD K v90) :=
 okD (k:=0) (G:=tx0) F Up0 (λcdv A outer s H E hr=>(w6 (X3 (o7 sl0 uc0 `aH v6)
   (w6 (Y6 (O8 (T3 `AN `aH) v6))
   u9)
   u9)
   (w6 (Y6 (T3 v6 `aH))
   u9))) `dj
theorem Yh0:`ak h80 `gK (t8 `ajj):=`ao
theorem Yo0(F:Fun K `Q2 `Q2 `ajj fa fd)(T:`am)  : `T P w K mg `m CX0 1 fa fd `gK (spD K rv0) :=
 okD (k:=0) (G:=gr0) F Yh0 (λcdv A outer s H E hr=>(w6 (X3 `Ei
   (w6 (Y6 (O8 (zf0 `uu) v6))
   u9)
   u9)
   (w6 (Y6 `uu)
   u9))) `dj
theorem Ym0:`ak i90 `om (t8 `ajk):=`ao
theorem Ys0(F:Fun K `Q3 `Q3 `ajk fa fd)(T:`am)  : `T P w K mg `m CX0 1 fa fd `om (spD K u10) :=
 okD (k:=0) (G:=g60) F Ym0 (λcdv A outer s H E hr=>(w6 (Y6 (bc0 (tg0 Ni0 b_int `us T.b_int `aH) (g00 (Kc0 (tg0 Re0 b_bool `us T.b_bool `aH)))))
   u9)) `dj
theorem cj0:`ak K4 `c1 (t8 `Q4):=`ao
theorem dy0(F:Fun K `Q5 `Q5 `Q4 fa fd)(T:`am)  : `T P w K mg `m CX0 1 fa fd `c1 (spN K vd0) :=
 okN (k:=0) (G:=my0) F cj0 (λcdv A outer s H E hr=>(w6 (X3 (`oC (o50 `oD (py0 `oD)))
   (w6 `Q6
   u9)
   u9)
   (w6 (M4 (jd0 (sc:=t8 `Q4) (N:=K4) (N':=[`VH]) (n:=1) (caps:=[]) `gL `s `ajl (λcl s H ex=>o5 0 (`aQ:([`VH]:`h).Nodup)) `rI `ajm))
   u9))) `jd
theorem Vb0:`ak db0 `om (t8 `ajn):=`ao
theorem Ww0(F:Fun K `Q7 `Q7 `ajn fa fd)(T:`am)(C_is_whole:FnD P w K mg `m `Q3 1 `om u10):`T P w K mg `m CX0 2 fa fd `om (spD K vn0) :=
 okD (k:=1) (G:=dj0) F Vb0 (λcdv A outer s H E hr=>(w6 (Y6 (bc0 (M7 C_is_whole hr `s `ur) (g00 (Qc0 ia0 li0 ia0 li0 v6 `aH v6))))
   u9)) `dj
theorem he0:`ak es0 `Yh (t8 `ajo):=`ao
theorem Wz0(F:Fun K `J6 `J6 `ajo fa fd)(T:`am)  : `T P w K mg `m CX0 1 fa fd `Yh (spD K vh0) :=
 okD (k:=0) (G:=eu0) F he0 (λcdv A outer s H E hr=>(w6 (tu0 D5 rfl (Yz0 `az) (o5 2 he0.nd)
   (w6 (X3 (o7 W3 Z7 (v40 Z40 Ug0 T.b_ord b_ord `eH) `aH)
   (w6 (Y6 `a9)
   u9)
   u9)
   u9))
   (w6 (Y6 sp0)
   u9))) `dj
theorem Zp0:`ak kz0 `OZ (t8 `ajp):=`ao
theorem Zr0(F:Fun K `Q8 `Q8 `ajp fa fd)(T:`am)  : `T P w K mg `m CX0 1 fa fd `OZ (spD K u90) :=
 okD (k:=0) (G:=j80) F Zp0 (λcdv A outer s H E hr=>(w6 (X3 `rJ
   (w6 (Y6 `a_?)
   u9)
   u9)
   (w6 (Y6 (z40 T.c_MOST_VALUES))
   u9))) `dj
theorem ho0:`ak o40 `O_ (t8 `ajq):=`ao
theorem g90(F:Fun K `Q9 `Q9 `ajq fa fd)(T:`am)  : `T P w K mg `m CX0 1 fa fd `O_ (spD K vw0) :=
 okD (k:=0) (G:=pw0) F ho0 (λcdv A outer s H E hr=>(w6 (X3 `rJ
   (w6 `a0a
   u9)
   u9)
   (w6 (X3 `rJ
   (w6 `a0a
   u9)
   u9)
   (w6 (X3 `rJ
   (w6 (Y6 `a0b)
   u9)
   u9)
   (w6 (Y6 (b7 (ud0 `AO) `a0b))
   u9))))) `dj
theorem av0:`ak j20 `J5 (t8 `ajr):=`ao
theorem ad0(F:Fun K `J4 `J4 `ajr fa fd)(T:`am)(C_made_pairs:FnD P w K mg `m `Q' 1 `O0 vo0):`T P w K mg `m CX0 2 fa fd `J5 (spD K K5) :=
 okD (k:=1) (G:=j40) F av0 (λcdv A outer s H E hr=>(w6 (X3 `rJ
   (w6 (Y6 (yn0 (z9 o8 (z9 (Xs0 o8 `ef) u5))))
   u9)
   u9)
   (w6 (X3 `rJ
   (w6 (Y6 (yn0 (z9 o8 (z9 (wc0 G7 qr0 `iM `iL `ef) u5))))
   u9)
   u9)
   (w6 (X3 `rJ
   (w6 (Y6 (yn0 (z9 o8 (z9 (M7 `a0c hr `s `ef) u5))))
   u9)
   u9)
   (w6 (Y6 (yn0 (z9 o8 (z9 `Q! (z9 (M7 `a0c hr `s (z9 (vu0 `az `X6 v60) u5)) u5)))))
   u9))))) `dj
theorem dx0:`ak m70 `O0 (t8 `ajs):=`ao
theorem c10(F:Fun K `Q' `Q' `ajs fa fd)(T:`am)  : `T P w K mg `m CX0 1 fa fd `O0 (spD K vo0) :=
 okD (k:=0) (G:=lm0) F dx0 (λcdv A outer s H E hr=>(w6 (Y6 (Vw0 fe0 Uo0 `iM T.b_zip `iL b_zip (z9 `a0d (z9 `a0d u5))))
   u9)) `dj
theorem rp0:`ak mb0 `Yi (t8 `Q?):=`ao
theorem V00(F:Fun K `J7 `J7 `Q? fa fd)(T:`am)  : `T P w K mg `m CX0 1 fa fd `Yi (spD K xh0) :=
 okD (k:=0) (G:=d20) F rp0 (λcdv A outer s H E hr=>(w6 (b8 v6 (o5 3 rp0.nd))
   (w6 (tu0 D5 rfl (vv0 `wG (z9 (O8 `az `oE) u5)) (o5 4 rp0.nd)
   (w6 (b8 (T3 `dc (N8 `dY `a0e)) (o5 3 rp0.nd))
   u9))
   (w6 (Y6 (qh0 sl0 uc0 (N8 `dY (z9 (f00 (sc:=t8 `Q?) (N:=mb0) (N':=`a0f) (n:=1) (caps:=[1,2]) `gL `s (qt0 `aH) (λcl s H ex=>o5 0 (`aQ:(`a0f:`h).Nodup)) (λcl s H ex=>(lv0 (`oC (gx0 (o7 W3 Z7 `ajt `az) (jp0 (z20 (Q60 PySem.F.slot_str_startswith PySem.F.type_str_startswith Vv0 U00 Vk0 `aH `eH))))))) `atD) u5)) `dc))
   u9)))) `dj
theorem q30:`ak ix0 [`hs] (t8 `aju):=`ao
theorem Mm0(F:Fun K `Ra `Ra `aju fa fd)(T:`am)(C_held_items:FnN P w K mg `m `Rb 1 `c1 K6)(C_is_new:`a0g)(C_item_bytes:FnN P w K mg `m `Rc 3 `ajv ze0):`T P w K mg `m CX0 4 fa fd [`hs] (spN K o90) :=
 okN (k:=3) (G:=ii0) F q30 (λcdv A outer s H E hr=>(w6 (yv0 1 `qI `Ej)
   (w6 (yv0 2 ds0 `Ej)
   (w6 (yv0 3 ds0 `Ej)
   (w6 (yv0 4 (G5 (z9 (yn0 (z9 o8 `uy)) u5)) `Ej)
   (w6 (uq0 100000 D5 (o7 t00 vg0 (ar0 `ajw) v6)
   (w6 (G4 (T10 4) (sw0 (o5 5 `Ej)))
   (w6 (Y9 (aw0 1 (`Ek (Rm0 (q70 C_item_bytes hr `s (z9 `aH (z9 `j' (z9 `a9 `oF))))))))
   (w6 (X3 (z20 (tg0 W30 b_str `us T.b_str `j'))
   (w6 (Y9 (Ks0 3 `j' (ar0 (v40 pa0 ls0 `dY P1 `oF))))
   u9)
   (w6 (X3 (z20 (Om0 (M7 C_is_new hr `s (z9 `j' `eH))))
   (w6 (G4 (Z5 (ar0 (v40 pa0 ls0 `dY P1 `eH))) (lx0 2 `hH `a0h))
   (w6 (Y9 (aw0 4 (`Ek (ow0 `qJ `Q0 (vi0 C_held_items hr `s (z9 (d9 `aH `a0h) u5))))))
   u9))
   u9)
   u9))
   u9))))
   (w6 `ajx
   u9))))))) `jd
theorem To0:`ak tw0 `j9 (t8 `ajy):=`ao
theorem Uj0(F:Fun K `JT `JT `ajy fa fd)(T:`am)  : `T P w K mg `m CX0 1 fa fd `j9 (spD K z60) :=
 okD (k:=0) (G:=n00) F To0 (λcdv A outer s H E hr=>(w6 (Y6 (bc0 `aty (g00 (Oq0 `hH `nE `az))))
   u9)) `dj
theorem ny0:`ak t80 `ajv (t8 `ajz):=`ao
theorem c00(F:Fun K `Rc `Rc `ajz fa fd)(T:`am)(C_is_new:`a0g)(C_known_head:FnD P w K mg `m `Rd 2 `j9 zk0)(C_name_bytes:FnN P w K mg `m `Re 2 `Dd w00)(C_number_bytes:`a0i)(C_part_number:FnD P w K mg `m `Rf 1 `c1 G6)(C_text_bytes:FnN P w K mg `m `Rg 2 `c1 zd0):`T P w K mg `m CX0 3 fa fd `ajv (spN K ze0) :=
 okN (k:=2) (G:=uu0) F ny0 (λcdv A outer s H E hr=>(w6 (X3 (z20 (tg0 W30 b_str `us T.b_str `az))
   (w6 (M4 (q70 C_name_bytes hr `s (z9 `az `oF)))
   u9)
   u9)
   (w6 (X3 (z20 (M7 C_is_new hr `s `ajA))
   (w6 (b8 (d9 `aH `Q!) (o5 4 ny0.nd))
   (w6 (M4 (ea0 (vi0 `Rh hr `s (z9 (b7 (T3 v6 (M7 C_part_number hr `s `AP)) v6) u5)) (vi0 C_text_bytes hr `s `AP)))
   u9))
   u9)
   (w6 (M4 (q70 `Rh hr `s (z9 (M7 C_known_head hr `s `ajA) u5)))
   u9)))) `jd
theorem c60:`ak t20 `Dd (t8 `ajB):=`ao
theorem cn0(F:Fun K `Re `Re `ajB fa fd)(T:`am)(C_number_bytes:`a0i)(C_sign_bytes:`a0j):`T P w K mg `m CX0 2 fa fd `Dd (spN K w00) :=
 okN (k:=1) (G:=tl0) F c60 (λcdv A outer s H E hr=>(w6 (X3 (Nq0 `hH `aH `az)
   (w6 (M4 (q70 `Rh hr `s (z9 (T3 v6 (O8 `a0k (X90 `hH `az `aH))) u5)))
   u9)
   u9)
   (w6 (M4 (ea0 (vi0 `Rh hr `s (z9 (b7 (T3 v6 `ajt) v6) u5)) (vi0 `a0l hr `s `ur)))
   u9))) `jd
theorem dv0:`ak yl0 `ut (t8 `Ri):=`ao
theorem co0(F:Fun K `JV `JV `Ri fa fd)(T:`am)  : `T P w K mg `m CX0 1 fa fd `ut (spN K Q6) :=
 okN (k:=0) (G:=xz0) F dv0 (λcdv A outer s H E hr=>(w6 (M4 (jd0 (sc:=t8 `Ri) (N:=yl0) (N':=[`nb]) (n:=1) (caps:=[]) `gL `s (Yz0 `aH) (λcl s H ex=>o5 0 (`aQ:([`nb]:`h).Nodup)) `rI (λcl s H ex=>(v40 Z40 Ug0 T.b_ord b_ord `ur))))
   u9)) `jd
theorem fw0:`ak yx0 `c1 (t8 `ajC):=`ao
theorem f70(F:Fun K `Rf `Rf `ajC fa fd)(T:`am)(K_KINDS:`ajD):`T P w K mg `m CX0 1 fa fd `c1 (spD K G6) :=
 okD (k:=0) (G:=yz0) F fw0 (λcdv A outer s H E hr=>(w6 (Y6 (b7 (T3 v6 (N8 `dY (z9 `atw u5))) (Mj0 K_KINDS `Rj)))
   u9)) `dj
theorem cd0:`ak w70 `c1 (t8 `ajE):=`ao
theorem dz0(F:Fun K `Rg `Rg `ajE fa fd)(T:`am)(C_sign_bytes:`a0j):`T P w K mg `m CX0 2 fa fd `c1 (spN K zd0) :=
 okN (k:=1) (G:=w40) F cd0 (λcdv A outer s H E hr=>(w6 (X3 `oD
   (w6 (M4 (q70 `a0l hr `s `Rj))
   u9)
   u9)
   (w6 `Q6
   u9))) `jd
theorem c90:`ak tm0 `j9 (t8 `ajF):=`ao
theorem c30(F:Fun K `Rd `Rd `ajF fa fd)(T:`am)(C_folded:FnD P w K mg `m `Q1 1 `gK v90):`T P w K mg `m CX0 2 fa fd `j9 (spD K zk0) :=
 okD (k:=1) (G:=uw0) F c90 (λcdv A outer s H E hr=>(w6 (X3 (o7 i70 ki0 `aH sp0)
   (w6 (Y6 v6)
   u9)
   u9)
   (w6 (X3 `ajG
   (w6 (Y6 (b7 (T3 v6 (O8 `a0k (X90 `hH `az `nE))) v6))
   u9)
   u9)
   (w6 (Y6 (b7 (T3 v6 (M7 C_folded hr `s `ur)) v6))
   u9)))) `dj
theorem rk0:`ak w80 `c1 (t8 `ajH):=`ao
theorem cg0(F:Fun K `Rb `Rb `ajH fa fd)(T:`am)  : `T P w K mg `m CX0 1 fa fd `c1 (spN K K6) :=
 okN (k:=0) (G:=wb0) F rk0 (λcdv A outer s H E hr=>(w6 (X3 `oD
   (w6 `Q6
   u9)
   u9)
   (w6 (X3 `oD
   (w6 `a0m
   u9)
   u9)
   (w6 (yv0 1 `qI rk0.nd)
   (w6 (X3 `oD
   (w6 (Y9 (qd0 1 `nE))
   u9)
   u9)
   (w6 (tu0 D5 rfl `ajl (o5 2 rk0.nd)
   (w6 (Y9 (aw0 1 (wc0 lo0 Mk0 `qJ `X8 `eH)))
   u9))
   (w6 `ajx
   u9))))))) `jd
theorem iu0:`ak xy0 `ux (t8 `ajI):=`ao
theorem ip0(F:Fun K `JZ `JZ `ajI fa fd)(T:`am)  : `T P w K mg `m CX0 1 fa fd `ux (spD K S7) :=
 okD (k:=0) (G:=z30) F iu0 (λcdv A outer s H E hr=>(w6 (X3 (o7 sl0 uc0 `az `ajt)
   (w6 (Y6 (d9 `aH `az))
   u9)
   u9)
   (w6 (Y6 v6)
   u9))) `dj
theorem q80:`ak pp0 `fj (t8 `ajJ):=`ao
theorem bg0(F:Fun K `AQ `AQ `ajJ fa fd)(T:`am)  : `T P w K mg `m CX0 1 fa fd `fj (spB K 0 S9) :=
 okB (k:=0) (G:=ua0) F q80 (λcdv A outer s H E hr=>(v8 (j8 (b8 `wH (o5 1 q80.nd)))
   (v8 (j8 (G4 (Z5 `ajK) (R70 0 `hH o8)))
   (v8 (j8 (b8 `wH (o5 2 q80.nd)))
   (v8 (R0 (o7 sl0 uc0 `az `oE)
   (v8 (Z1 (Z5 (Z8 (d9 `a9 `az) `a0n)))
   p8)
   p8)
   (v8 (Z1 (Z5 (Z8 (T3 (b7 (b7 (Z8 (d9 `a9 (Z8 `az `oE)) v6) (T3 (T3 v6 `az) `az)) v6) v6) v6)))
   p8)))))) `cq
theorem O9:`ak qy0 `ajL (t8 `ajM):=`ao
theorem ci0(F:Fun K `Rk `Rk `ajM fa fd)(T:`am)  : `T P w K mg `m CX0 1 fa fd `ajL (spN K yi0) :=
 okN (k:=0) (G:=vt0) F O9 (λcdv A outer s H E hr=>(w6 (b8 o8 (o5 2 `qK))
   (w6 (b8 o8 `a0o)
   (w6 (tu0 D5 rfl (vv0 `wG `uy) (o5 4 `qK)
   (w6 (b8 (b7 `dc (d9 `a9 (Z8 (V0 `aH (b7 (T3 `f6 `f6) v6)) v6))) `a0o)
   u9))
   (w6 (b8 `atz (o5 5 `qK))
   (w6 (yv0 6 `qI `qK)
   (w6 (tu0 D5 rfl (vv0 `wG `ef) (o5 7 `qK)
   (w6 (b8 (d9 `a9 (Z8 (b7 `aH `wI) v6)) `a0p)
   (w6 (b8 (b7 `El (d9 `a9 (Z8 (b7 `uu (V0 `wI v6)) v6))) `a0p)
   (w6 (X3 `Ei
   (w6 (Y9 (qd0 6 (b7 (vu0 `dc v60 (zu0 `j')) `El)))
   u9)
   (w6 (X3 `Ei
   (w6 (Y9 (qd0 6 (b7 (vu0 `dc v60 (zu0 (Z8 `wI v6))) `El)))
   u9)
   (w6 (Y9 (qd0 6 (vu0 `El v60 (zu0 (b7 v6 (wc0 Tr0 Ll0 T.b_int b_int (z9 (qh0 t00 vg0 `wI v6) u5)))))))
   u9))
   u9))
   u9))))
   (w6 (op0 6)
   u9)))))))) `jd
theorem fm0:`ak ri0 `Db (t8 `ajN):=`ao
theorem ej0(F:Fun K `Rl `Rl `ajN fa fd)(T:`am)  : `T P w K mg `m CX0 1 fa fd `Db (spD K zx0) :=
 okD (k:=0) (G:=wn0) F fm0 (λcdv A outer s H E hr=>(w6 (X3 (z20 `az)
   (w6 (Y6 (b7 (O8 (Z8 `aH `a0q) `JW) v6))
   u9)
   u9)
   (w6 (X3 `Ei
   (w6 `a0r
   u9)
   u9)
   (w6 (X3 `Ei
   (w6 `a0r
   u9)
   u9)
   (w6 (Y6 (b7 (O8 (Z8 `uu `a0q) `JW) v6))
   u9))))) `dj
theorem m20:`ak t70 `fj (t8 `ajO):=`ao
theorem cl0(F:Fun K `Em `Em `ajO fa fd)(T:`am)(C__law_next:`ajP)(C__law_number:FnD P w K mg `m `Rl 1 `Db zx0):`T P w K mg `m CX0 2 fa fd `fj (spB K 0 Q8) :=
 okB (k:=1) (G:=vc0) F m20 (λcdv A outer s H E hr=>(v8 (j8 (G4 `ajQ (sw0 (o5 1 m20.nd))))
   (v8 (R0 `oG
   (v8 (Z1 (Z5 sp0))
   p8)
   p8)
   (v8 (R0 (o7 sl0 uc0 `atA v6)
   (v8 (Z1 (Z5 (M7 C__law_number hr `s (z9 `nG (z9 `wH u5)))))
   p8)
   p8)
   (v8 (Z1 (Z5 (yn0 (z9 o8 (z9 (Z8 `nG `wH) u5)))))
   p8))))) `cq
theorem p00:`ak sk0 `En (t8 `Rm):=`ao
theorem Zy0(F:Fun K `Eo `Eo `Rm fa fd)(T:`am)(C__law_next:`ajP):`T P w K mg `m CX0 2 fa fd `En (spB K 0 ya0) :=
 okB (k:=1) (G:=ub0) F p00 (λcdv A outer s H E hr=>(v8 (j8 (b8 o8 (o5 2 p00.nd)))
   (v8 (j8 (G4 `ajQ (sw0 (o5 3 p00.nd))))
   (v8 (Z1 (Z5 (Xs0 o8 (z9 (f00 (sc:=t8 `Rm) (N:=sk0) (N':=`a0s) (n:=1) (caps:=[2,3]) `gL `s (vv0 `wG `ef) (λcl s H ex=>o5 0 (`aQ:(`a0s:`h).Nodup)) `rI (λcl s H ex=>(d9 `az (Z8 (b7 (V0 `a9 (b7 `aH v6)) (T3 `aH `aH)) v6)))) u5))))
   p8)))) `cq
theorem zi0:`ak xo0 `fj (`ajR):=`ao
theorem ak0(F:Fun K `Ep `Ep `X! fa fd)(T:`am)(C__law_next:`ajP)(C__law_value:FnB P w K mg `m `Em 2 `fj 0 Q8)(C__law_word:FnB P w K mg `m `Eo 2 `En 0 ya0):`T P w K mg `m CX0 3 fa fd `fj (spB K 0 N5) :=
 okB (k:=2) (G:=wq0) F zi0 (λcdv A outer s H E hr=>(v8 (j8 (G4 `ajQ (sw0 (o5 1 `uw))))
   (v8 (j8 (b8 `AR `a0t))
   (v8 (j8 (X3 (ol0 (z20 `wH))
   (w6 (b8 (d9 (ud0 (z9 `AR (z9 `AR `a0u))) `AR) `a0t)
   u9)
   u9))
   (v8 (R0 `oG
   (v8 (Z1 (Kf0 o8 (yh0 0 C__law_word `uv hr `s (pab 0 `a0u))))
   p8)
   p8)
   (v8 (j8 (R40 0 0 3 rfl `uw (sc:=`ajR) (N:=xo0) (N':=`X?) (n:=1) (caps:=[0]) `gL `s (vv0 `wG `eH) `a0v (λcl s H ex=>(yh0 1 C__law_value `uv hr `s `a0w))))
   (v8 (R0 `oG
   (v8 (Z1 (Z5 (yn0 (z9 o8 (z9 (wc0 G7 qr0 `iM `iL `oF) u5)))))
   p8)
   p8)
   (v8 (j8 (b8 `wH (o5 4 `uw)))
   (v8 (j8 (b8 (b7 v6 (Z8 `nG (O8 `ajw v6))) (o5 5 `uw)))
   (v8 (j8 (b8 (wc0 G7 qr0 `iM `iL (z9 (f00 (sc:=`ajR) (N:=xo0) (N':=`a0x) (n:=2) (caps:=[1,4,5]) `gL `s (ag0 `a0y `oF) (λcl s H ex=>jw0 0 1 (`aQ:(`a0x:`h).Nodup) `s) `rI (λcl s H ex=>(yn0 (z9 (d9 `dc (Z8 (b7 `J_ (T3 `aH `f6)) (N8 `dY `oF))) `ef)))) u5)) (o5 6 `uw)))
   (v8 (R0 `oG
   (v8 (Z1 (Z5 (yn0 (z9 o8 `a0z))))
   p8)
   p8)
   (v8 (Z1 (Z5 (yn0 (z9 o8 (z9 (d9 `f6 (Z8 `nG `ajw)) `a0z)))))
   p8)))))))))))) `cq
theorem pq0:`ak rs0 `ajS (t8 `Rn):=`ao
theorem Yj0(F:Fun K `Ro `Ro `Rn fa fd)(T:`am)(C__law_cell_at:`a0A)(C__law_names:FnN P w K mg `m `Rk 1 `ajL yi0)(C__law_part:FnB P w K mg `m `Ep 3 `fj 0 N5):`T P w K mg `m CX0 4 fa fd `ajS (spD K xd0) :=
 okD (k:=3) (G:=te0) F pq0 (λcdv A outer s H E hr=>(w6 (b8 (M7 `a0B hr `s (z9 `aH `ef)) (o5 2 pq0.nd))
   (w6 (yv0 3 (U20 (jh0 o8 v6 (jh0 o8 (b7 (vu0 `aH (zu0 `ajK) v60) (ud0 `eH)) (jh0 o8 (qh0 W3 Z7 `ajT v6) Me0)))) pq0.nd)
   (w6 (G4 (Z5 (b7 v6 `a0C)) `ajU)
   (w6 (X3 (z20 (vr0 3 `hH o8))
   (w6 (G4 (Z5 (b7 v6 `ajT)) `ajU)
   u9)
   u9)
   (w6 (G4 (Z5 (vi0 C__law_names hr `s (z9 (Z8 `J_ `a0n) (z9 (d9 (ud0 `a0D) `ajT) u5)))) `ajU)
   (w6 (Zt0 (Vz0 G7 qr0 `iM `iL (Ob0 3 0 rfl (sc:=t8 `Rn) (N:=rs0) (N':=`X?) (n:=1) (caps:=[3]) `gL `s (vv0 `wG (z9 (vr0 3 `hH o8) u5)) `a0v (λcl s H ex=>(yh0 1 C__law_part `uv hr `s `a0w)))))
   u9))))))) `dj
theorem eb0:`ak rd0 `J1 (t8 `Rp):=`ao
theorem fb0(F:Fun K `J0 `J0 `Rp fa fd)(T:`am)  : `T P w K mg `m CX0 1 fa fd `J1 (spN K W8) :=
 okN (k:=0) (G:=nw0) F eb0 (λcdv A outer s H E hr=>(w6 (X3 `oD
   (w6 `Q6
   u9)
   u9)
   (w6 (X3 `oD
   (w6 `a0m
   u9)
   u9)
   (w6 (M4 (jd0 (sc:=t8 `Rp) (N:=rd0) (N':=`a0E) (n:=2) (caps:=[]) `gL `s `ajl (λcl s H ex=>jw0 0 1 (`aQ:(`a0E:`h).Nodup) `s) `rI (λcl s H ex=>`az)))
   u9)))) `jd
theorem z70:`ak ti0 `wJ (t8 `Rq):=`ao
theorem jo0(F:Fun K `Rr `Rr `Rq fa fd)(T:`am)(C__law_values:`ajV):`T P w K mg `m CX0 2 fa fd `wJ (spN K xn0) :=
 okN (k:=1) (G:=p90) F z70 (λcdv A outer s H E hr=>(w6 (yv0 1 `qI `Eq)
   (w6 (yv0 2 (G5 `uy) `Eq)
   (w6 (uq0 100000 D5 (Xi0 (o7 `Rs lr0 `a9 (ud0 u5)))
   (w6 (G4 (T10 2) (sw0 (o5 3 `Eq)))
   (w6 (X3 (Xi0 (o7 bh0 (mo0 `d) `dc `az))
   (w6 (Y9 (qd0 1 `dc))
   (w6 (jg0 4 `Eq (sc:=t8 `Rq) (N:=ti0) (N':=[`m']) (n:=1) (caps:=[]) `gL `s (qt0 (vi0 `ajW hr `s (z9 (d9 `aH `dc) u5))) (λcl s H ex=>o5 0 (`aQ:([`m']:`h).Nodup)) (λcl s H ex=>(lv0 `ajG)) `ajm)
   (w6 (Qu0 2 (yv0 2 (ea0 `a9 (`Ek (ow0 `qJ `Q0 `f6))) `Eq))
   u9)))
   u9)
   u9)))
   (w6 `ajx
   u9))))) `jd
theorem Yl0:`ak hh0 `v2 (t8 `ajX):=`ao
theorem Yc0(F:Fun K `Rt `Rt `ajX fa fd)(T:`am)  : `T P w K mg `m CX0 1 fa fd `v2 (spD K t60) :=
 okD (k:=0) (G:=gc0) F Yl0 (λcdv A outer s H E hr=>(w6 (X3 `ajG
   (w6 (Y6 (yn0 (z9 o8 (z9 (Oe0 `az `Rj) u5))))
   u9)
   u9)
   (w6 (Y6 `aH)
   u9))) `dj
theorem K8:`ak t40 `wJ (`ajY):=`ao
theorem ck0(F:Fun K `Ru `Ru `Yb fa fd)(T:`am)(C__law_led:FnD P w K mg `m `Rt 1 `v2 t60)(C__law_numbered:FnN P w K mg `m `Rr 2 `wJ xn0)(C__law_values:`ajV):`T P w K mg `m CX0 3 fa fd `wJ (spD K yo0) :=
 okD (k:=2) (G:=l70) F K8 (λcdv A outer s H E hr=>(w6 (b8 (vi0 C__law_numbered hr `s `ur) (o5 1 `uz))
   (w6 (yv0 2 `qI `uz)
   (w6 (tu0 D5 rfl (qt0 `az) (o5 3 `uz)
   (w6 (b8 (d9 `aH `dc) `ajZ)
   (w6 (jg0 5 `uz (sc:=`ajY) (N:=t40) (N':=`v2) (n:=1) (caps:=[1]) `gL `s (qt0 (vi0 `ajW hr `s `AP)) (λcl s H ex=>o5 0 (`aQ:(`v2:`h).Nodup)) `rI (λcl s H ex=>(M7 C__law_led hr `s (z9 `aH `ef))))
   (w6 (X3 (o7 W3 Z7 `Yc o8)
   (w6 (b8 (yn0 (z9 o8 (z9 (wc0 G7 qr0 `iM `iL `a0F) u5))) `ajZ)
   u9)
   (w6 (X3 (o7 Ip0 L40 `Yc o8)
   (w6 (jg0 6 `uz (sc:=`ajY) (N:=t40) (N':=["_law_pair"]) (n:=1) (caps:=[]) `gL `s (lz0 `aj_) (λcl s H ex=>o5 0 (`aQ:(["_law_pair"]:`h).Nodup)) `rI `ajm)
   (w6 (b8 (b7 (vu0 `f6 v60 (zu0 `AN)) (yn0 (z9 (wc0 G7 qr0 `iM `iL (z9 (`Ek (Te0 `qJ T.b_zip `X8 b_zip (z9 `nH `a0F))) u5)) u5))) `ajZ)
   u9))
   u9)
   u9))
   (w6 (Y9 (qd0 2 `f6))
   u9)))))
   (w6 (Rr0 (wc0 G7 qr0 `iM `iL `eH))
   u9))))) `dj
theorem t30:`ak j70 [`nF] (t8 `aj0):=`ao
theorem bj0(F:Fun K `uA `uA `aj0 fa fd)(T:`am)  : `T P w K mg `m CX0 1 fa fd [`nF] (spD K z80) :=
 okD (k:=0) (G:=ky0) F t30 (λcdv A outer s H E hr=>(w6 (b8 v6 (o5 1 t30.nd))
   (w6 (uq0 100000 D5 (o7 t00 vg0 `aH v6)
   (w6 (b8 `uu (o5 0 t30.nd))
   (w6 (b8 `ajK (o5 1 t30.nd))
   u9)))
   (w6 (Y6 `az)
   u9)))) `dj
theorem kq0:`ak qj0 `wD (t8 `aj1):=`ao
theorem kn0(F:Fun K `Er `Er `aj1 fa fd)(T:`am)  : `T P w K mg `m CX0 1 fa fd `wD (spB K 0 O7) :=
 okB (k:=0) (G:=qb0) F kq0 (λcdv A outer s H E hr=>(v8 (R0 (Ou0 `az `rK)
   (v8 (Z1 (Z5 v6))
   p8)
   p8)
   (v8 (j8 (Y9 (q20 `rK `az)))
   (v8 (Z1 (Z5 (b7 v6 (N8 `dY `ef))))
   p8)))) `cq
theorem ve0:`ak P0 `uF (t8 `aj2):=`ao
theorem me0(F:Fun K `wK `wK `aj2 fa fd)(T:`am)(mp:`al)(kk:Nat)(hkk:1<=kk)(C__law_part_ends:FnB P w K mg `m `rL kk `qM 0 mp)(C__law_size:`a0G):`T P w K mg `m CX0 (kk+1) fa fd `uF (spB K 0 (mkB 4 P0 0 (Q3 mp))) :=
 okB (k:=kk) (G:=Q3 mp) F ve0 (λcdv A outer s H E hr=>(v8 (R0 `aj3
   (v8 (Z1 (Z5 (b7 `dc v6)))
   p8)
   p8)
   (v8 (R0 (ol0 (z20 (tg0 sx0 `iL `us `iM `a9)))
   (v8 (j8 (b8 `a0H (o5 4 ve0.nd)))
   (v8 (j8 (X3 (o7 sl0 uc0 `a9 v6)
   (w6 (b8 (O8 (O8 v6 `a0H) v6) (o5 4 ve0.nd))
   u9)
   u9))
   (v8 (Z1 (Z5 (b7 `dc (M7 `aj4 hr `wL (z9 (b7 (T3 v6 `f6) v6) u5)))))
   p8)))
   p8)
   (v8 (R0 (o7 sl0 uc0 `aj5 (yg0 `dY `rK))
   (v8 (Z1 (Z5 (b7 `dc (M7 `aj4 hr `wL (z9 (b7 (T3 v6 (O8 (O8 (yg0 `dY `rK) v6) `aj5)) v6) u5)))))
   p8)
   p8)
   (v8 (Z1 (yh0 0 `a0I `aj6 hr `bi (pab 0 (z9 `az (z9 `aj5 `oF)))))
   p8))))) `cq
theorem R5:`ak yj0 `qM (t8 `aj7):=`ao
theorem ks0(F:Fun K `rL `rL `aj7 fa fd)(T:`am)(mp:`al)(kk:Nat)(hkk:1<=kk)(C__law_value_ends:FnB P w K mg `m `wK kk `uF 0 mp)(C__law_name_size:FnB P w K mg `m `Er 1 `wD 0 O7)(C__law_size:`a0G)(C__law_values:`ajV):`T P w K mg `m CX0 (kk+1) fa fd `qM (spB K 0 (mkB 4 yj0 0 (y40 mp))) :=
 okB (k:=kk) (G:=y40 mp) F R5 (λcdv A outer s H E hr=>(v8 (j8 (b8 (d9 `az `a9) (o5 4 `J3)))
   (v8 (j8 (b8 (Ls0 (ud0 (z9 o8 (z9 o8 `atx))) `aj8) (o5 5 `J3)))
   (v8 (j8 (b8 (b7 `dc (M7 `aj4 hr `wL (z9 (b7 (T3 v6 (b7 (T3 v6 (N8 `dY (z9 `aj_ u5))) `j')) v6) u5))) `Yd))
   (v8 (j8 (Y9 (q20 `rK `dc)))
   (v8 (j8 (Y9 (q20 `rK sp0)))
   (v8 (j8 (X3 `a0J
   (w6 (b8 (b7 `dc (N8 `dY `aj8)) `Yd)
   u9)
   u9))
   (v8 (j8 (X3 `a0J
   (w6 (G4 (Xz0 `dc (yh0 0 `a0K `uv hr `wL (pab 0 `aj8))) `aj9)
   u9)
   u9))
   (v8 (j8 (tu0 D5 rfl (ag0 `a0y (z9 (vi0 `ajW hr `wL `AP) u5)) (jw0 6 7 `J3 `s)
   (w6 (X3 (o7 t00 vg0 `j' v6)
   (w6 (G4 (Xz0 `dc (yh0 0 `a0K `uv hr `wL (pab 0 (z9 (d9 (d9 `aj_ `nH) v6) u5)))) `aj9)
   u9)
   u9)
   (w6 (G4 (yh0 0 C__law_value_ends `aj6 hr `bi (pab 0 (z9 `az (z9 `wI `oF)))) `aj9)
   u9))))
   (v8 (j8 (G4 `a0L (U90 `rK `a9)))
   (v8 (Z1 `a0L)
   p8))))))))))) `cq
theorem vj0:`ak b50 [`m3] (`Ye):=`ao
theorem Le0(F:Fun K `nL `nL `AS fa fd)(T:`am)(M_Reader:FnI P w K mg `m `G 1 `a' y30)(C_Reader_give:FnT P w K mg `m `G `wM 7 `Es p6 zs0)(C_Reader_open_parts:FnT P w K mg `m `G `wN 1 `a' p6 K3)(C_Reader_web:FnT P w K mg `m `G `hs 3 `a' p6 vb0)(C_Reader_whole:`aj')(C__law_cell_at:`a0A)(C__law_drawn:FnD P w K mg `m `Ru 3 `wJ yo0)(C__law_part_ends:FnB P w K mg `m `rL 125 `qM 0 J1)(C__law_web:FnD P w K mg `m `Ro 4 `ajS xd0)(C_pack:FnN P w K mg `m `Ra 4 [`hs] o90):`T P w K mg `m CX0 126 fa fd [`m3] `a0M :=
 okD (k:=125) (G:=Pq0) F vj0 (λcdv A outer s H E hr=>(w6 (b8 (M7 C__law_web hr `s (z9 `aH `uy)) (o5 1 `nJ))
   (w6 (b8 (vi0 C_pack hr `s `ef) (o5 2 `nJ))
   (w6 (Ro0 3 `nJ (e80 o8 (e80 o8 (e80 o8 O70))))
   (w6 (Yu0 (ju0 `Rs lr0 (yh0 3 `a0I `aj6 hr `s (pab 3 (z9 `a0N `a0D))) `oE)
   (w6 (Y6 zl0)
   u9)
   u9)
   (w6 (b8 (b7 v6 (Z8 (M7 `a0B hr `s (z9 `aH `uy)) v6)) `a0O)
   (w6 (X3 (o7 t00 vg0 `oE v6)
   (w6 (b8 (b7 `f6 v6) `a0O)
   u9)
   u9)
   (w6 (T20 5 `nJ M_Reader hr `s)
   (w6 (b8 v6 `a0P)
   (w6 (uq0 20000000 D5 (o7 sl0 uc0 `nH `oE)
   (w6 (Y9 (O5 5 C_Reader_give hr `s (z9 (vu0 `a9 (zu0 `nH) (zu0 (b7 `nH `f6))) u5)))
   (w6 (b8 (v40 (Vx0 rfl) K40 T.b_min b_min (z9 (b7 `nH `f6) (z9 `oE u5))) `a0P)
   (w6 (b8 `a0Q (o5 7 `nJ))
   (w6 (b8 `a0Q (o5 8 `nJ))
   (w6 (Yu0 (`Rv (al0 (ju0 `Rs lr0 (vl0 5 C_Reader_open_parts hr `s) (O8 `wI `El)) (gv0 (ju0 `Rs lr0 (vl0 5 `atE hr `s) (qh0 (T00 `J2) Xo0 `nH `oE)))))
   (w6 (Y6 zl0)
   u9)
   u9)
   u9))))))
   (w6 (Zt0 (Oz0 (T00 `J2) Xo0 (vl0 5 C_Reader_web hr `s) `a0N))
   u9))))))))))) `dj
theorem ln0:`ak rm0 `a' (t8 `wO):=`ao
theorem ld0(F:Fun K `xD `aj! `wO fa fd)(T:`am)(CN_Reader:`en):`T P w K mg `m CX0 1 fa fd `a' (spB K 0 y30) :=
 okB (k:=0) (G:=rn0) F ln0 (λcdv A outer s H E hr=>(v8 `aj?
   (v8 `aka
   (v8 `aka
   (v8 `aka
   (v8 (j8 (p60 0 (G5 `AO) `j!))
   (v8 `aj?
   (v8 `aj?
   (v8 (j8 (n70 0 o8 `j!))
   p8))))))))) `cq
theorem oh0:`ak nz0 `Es (t8 `wP):=`ao
theorem ef0(F:Fun K `wM `akb `wP fa fd)(T:`am)(CN_Reader:`en)(C_Reader_end_parts:FnT P w K mg `m `G `wQ 1 `a' p6 J3)(C_Reader_takes:FnT P w K mg `m `G `wR 6 `cb p6 V5)(C_is_byte:FnD P w K mg `m `Q7 2 `om vn0):`T P w K mg `m CX0 7 fa fd `Es (spB K 0 zs0) :=
 okB (k:=6) (G:=rl0) F oh0 (λcdv A outer s H E hr=>(v8 (Nb0 D5 rfl (qt0 `az) (o5 2 oh0.nd)
   (v8 (om0 (`Rv (al0 (ay0 (ol0 (z20 (M7 C_is_byte hr `s `eH)))) (gv0 (ee0 (k70 (O5 0 C_Reader_takes hr `s `eH))))))
   (v8 (j8 dh0)
   p8)
   p8)
   (v8 (j8 (Ru0 0 v6 `j!))
   (v8 (j8 (Y9 (vl0 0 C_Reader_end_parts hr `s)))
   p8))))
   p8)) `cq
theorem h90:`ak og0 `a' (t8 `wS):=`ao
theorem iz0(F:Fun K `uB `akc `wS fa fd)(T:`am)(CN_Reader:`en):`T P w K mg `m CX0 1 fa fd `a' (spB K 0 U4) :=
 okB (k:=0) (G:=s40) F h90 (λcdv A outer s H E hr=>(v8 (Z1 (Z5 (qh0 W3 Z7 `lE v6)))
   p8)) `cq
theorem nj0:`ak tp0 `a' (t8 `wT):=`ao
theorem ox0(F:Fun K `wN `akd `wT fa fd)(T:`am)(CN_Reader:`en):`T P w K mg `m CX0 1 fa fd `a' (spB K 0 K3) :=
 okB (k:=0) (G:=ww0) F nj0 (λcdv A outer s H E hr=>(v8 (Z1 (Z5 `lE))
   p8)) `cq
theorem ch0:`ak qu0 `a' (t8 `rM):=`ao
theorem cf0(F:Fun K `hs `ake `rM fa fd)(T:`am)(CN_Reader:`en)(C_Reader_whole:`aj')(C_made_part:`a0R):`T P w K mg `m CX0 3 fa fd `a' (spB K 0 vb0) :=
 okB (k:=2) (G:=ql0) F ch0 (λcdv A outer s H E hr=>(v8 (om0 (ee0 `a0S)
   (v8 (j8 dh0)
   p8)
   p8)
   (v8 (Z1 (Qg0 0 `iM `iL (sc:=t8 `rM) (N:=qu0) (N':=`c1) (n:=1) (caps:=[]) `gL `s `fk (λcl s H ex=>o5 0 (`aQ:(`c1:`h).Nodup)) (λcl s H ex=>(M7 `a0T hr `s (z9 `nE `Rj)))))
   p8))) `cq
theorem pc0:`ak oa0 `cb (t8 `wU):=`ao
theorem h70(F:Fun K `wR `akf `wU fa fd)(T:`am)(CN_Reader:`en)(C_Reader_takes_digit:FnT P w K mg `m `G `wV 4 `cb p6 Q4)(C_Reader_takes_letter:FnT P w K mg `m `G `wW 2 `cb p6 R7)(C_Reader_takes_name_number:FnT P w K mg `m `G `wX 5 `cb p6 U6)(C_Reader_takes_sign:FnT P w K mg `m `G `wY 2 `cb p6 M8)(C_Reader_whole:`aj'):`T P w K mg `m CX0 6 fa fd `cb (spB K 0 V5) :=
 okB (k:=5) (G:=yb0) F pc0 (λcdv A outer s H E hr=>(v8 (om0 `a0S
   (v8 `d1
   p8)
   p8)
   (v8 (j8 (b8 `Yg (o5 2 pc0.nd)))
   (v8 (R0 (`oC (o50 `akg (py0 `akg)))
   (v8 (Z1 (O5 0 C_Reader_takes_digit hr `s `ef))
   p8)
   p8)
   (v8 (R0 `akg
   (v8 (Z1 (O5 0 C_Reader_takes_sign hr `s `ef))
   p8)
   p8)
   (v8 (R0 (o7 t00 vg0 `nK v6)
   (v8 (Z1 (O5 0 C_Reader_takes_letter hr `s `ef))
   p8)
   p8)
   (v8 (Z1 (O5 0 C_Reader_takes_name_number hr `s `ef))
   p8))))))) `cq
theorem um0:`ak uz0 `cb (t8 `wZ):=`ao
theorem px0(F:Fun K `wV `akh `wZ fa fd)(T:`am)(CN_Reader:`en)(C_Reader_goes_on:FnT P w K mg `m `G `w_ 1 `v5 p6 z50)(C_Reader_takes_head:FnT P w K mg `m `G `w0 3 `Et p6 R4):`T P w K mg `m CX0 4 fa fd `cb (spB K 0 Q4) :=
 okB (k:=3) (G:=y80) F um0 (λcdv A outer s H E hr=>(v8 (j8 (b8 (b7 (T3 `nK `me) (Z8 `az `me)) (o5 2 um0.nd)))
   (v8 (R0 (o7 sl0 uc0 `az `me)
   (v8 (Z1 (O5 0 C_Reader_takes_head hr `s `eH))
   p8)
   p8)
   (v8 (om0 (`Rv (al0 (ay0 `a0U) (gv0 (ee0 (k70 (O5 0 C_Reader_goes_on hr `s `eH))))))
   (v8 `d1
   p8)
   p8)
   (v8 `a0V
   (v8 `d1
   p8)))))) `cq
theorem ko0:`ak qw0 `v5 (t8 `w1):=`ao
theorem kr0(F:Fun K `w_ `aki `w1 fa fd)(T:`am)(CN_Reader:`en):`T P w K mg `m CX0 1 fa fd `v5 (spB K 0 z50) :=
 okB (k:=0) (G:=uk0) F ko0 (λcdv A outer s H E hr=>(v8 (Z1 (Z5 (I20 (qh0 W3 Z7 `Yg o8) (g00 (qh0 ia0 li0 (T3 `az `me) (b7 (T3 v6 (T3 v6 `a_?)) v6))))))
   p8)) `cq
theorem uv0:`ak tq0 `Et (t8 `w2):=`ao
theorem oz0(F:Fun K `w0 `akj `w2 fa fd)(T:`am)(CN_Reader:`en)(K_KINDS:`ajD)(C_Reader_hold:`Eu)(C_Reader_takes_part:FnT P w K mg `m `G `w3 2 `Ev p6 G8)(C_unfolded:FnD P w K mg `m `Q2 1 `gK rv0):`T P w K mg `m CX0 3 fa fd `Et (spB K 0 R4) :=
 okB (k:=2) (G:=yr0) F uv0 (λcdv A outer s H E hr=>(v8 (j8 (b8 `nG (o5 2 uv0.nd)))
   (v8 (R0 `oG
   (v8 (Z1 (O5 0 C_Reader_takes_part hr `s (z9 (Kg0 K_KINDS `a0C) (z9 `J_ u5))))
   p8)
   p8)
   (v8 (R0 `akk
   (v8 `d1
   p8)
   p8)
   (v8 (R0 `oG
   (v8 (j8 (Y9 (O5 0 `uE hr `s (z9 (M7 C_unfolded hr `s `eH) u5))))
   p8)
   (v8 (R0 (`oC (gx0 `oG (jp0 (o7 sl0 uc0 `a9 `lE))))
   (v8 (j8 (Y9 (O5 0 `uE hr `s (z9 (yn0 (z9 o8 (z9 (O8 `a0W `a9) u5))) u5))))
   p8)
   (v8 (R0 (o7 W3 Z7 `az v6)
   (v8 (j8 (Y9 (O5 0 `uE hr `s (z9 sp0 u5))))
   p8)
   (v8 `d1
   p8))
   p8))
   p8))
   (v8 `d1
   p8)))))) `cq
theorem tc0:`ak tn0 `Ev (t8 `w4):=`ao
theorem or0(F:Fun K `w3 `akl `w4 fa fd)(T:`am)(CN_Reader:`en)(C_Reader_hold:`Eu)(C_most_held:FnD P w K mg `m `Q8 1 `OZ u90)(C_wanted_items:FnD P w K mg `m `Q9 1 `O_ vw0):`T P w K mg `m CX0 2 fa fd `Ev (spB K 0 G8) :=
 okB (k:=1) (G:=ws0) F tc0 (λcdv A outer s H E hr=>(v8 (R0 (`oC (o50 (o7 t00 vg0 `a9 (M7 C_most_held hr `s `ef)) (py0 (o7 W3 Z7 `lE (z40 T.c_MOST_PARTS)))))
   (v8 `d1
   p8)
   p8)
   (v8 (j8 (Y9 (O5 0 `uE hr `s (z9 (yn0 (z9 o8 (z9 `lE u5))) u5))))
   (Z00 0 3 `s (Wj0 0 3 tc0.nd `az) (i80 0 3 `fk) (i80 0 3 `fk)
   (v8 (j8 (Y9 (q20 `fk o8)))
   (v8 (j8 (Y9 (Oy0 `fk (`Ek (ow0 `qJ `Q0 (M7 C_wanted_items hr `s `ajA))))))
   (v8 `d1
   p8))))))) `cq
theorem fg0:`ak nv0 `uD (t8 `w5):=`ao
theorem e00(F:Fun K `uC `akm `w5 fa fd)(T:`am)(CN_Reader:`en):`T P w K mg `m CX0 1 fa fd `uD (spB K 0 X7) :=
 okB (k:=0) (G:=rh0) F fg0 (λcdv A outer s H E hr=>(v8 (R0 `a0X
   (v8 (j8 (Y9 (q20 (ru0 `Yf v6) `az)))
   p8)
   p8)
   (v8 (j8 (je0 `fk))
   (v8 `a0Y
   p8)))) `cq
theorem m40:`ak sq0 `a' (t8 `w6):=`ao
theorem m30(F:Fun K `wQ `akn `w6 fa fd)(T:`am)(CN_Reader:`en):`T P w K mg `m CX0 1 fa fd `a' (spB K 0 J3) :=
 okB (k:=0) (G:=va0) F m40 (λcdv A outer s H E hr=>(v8 (j8 (uq0 100000 D5 (`oC (gx0 `a0X (jp0 `akk)))
   (w6 (je0 `fk)
   (w6 (je0 `fk)
   u9))))
   p8)) `cq
theorem tb0:`ak tr0 `cb (t8 `w7):=`ao
theorem nu0(F:Fun K `wY `ako `w7 fa fd)(T:`am)(C_Reader_hold:`Eu)(C_sign_of:`a0Z):`T P w K mg `m CX0 2 fa fd `cb (spB K 0 M8) :=
 okB (k:=1) (G:=wx0) F tb0 (λcdv A outer s H E hr=>(v8 (j8 (b8 (M7 C_sign_of hr `s (z9 `az (z9 (fo0 T.c_WORD_SIGNS) u5))) (o5 2 tb0.nd)))
   (v8 (R0 `aj3
   (v8 `d1
   p8)
   p8)
   (v8 `a0_
   (v8 `d1
   p8))))) `cq
theorem wd0:`ak wo0 `cb (t8 `w8):=`ao
theorem ss0(F:Fun K `wX `akp `w8 fa fd)(T:`am)(CN_Reader:`en)(C_Reader_takes_known_name:FnT P w K mg `m `G `w9 4 `Ew p6 O1)(C_is_left:`a00):`T P w K mg `m CX0 5 fa fd `cb (spB K 0 U6) :=
 okB (k:=4) (G:=K9) F wd0 (λcdv A outer s H E hr=>(v8 (R0 `oG
   (v8 (Z1 (O5 0 C_Reader_takes_known_name hr `s (z9 `nG u5)))
   p8)
   p8)
   (v8 (j8 (b8 `nG (o5 2 wd0.nd)))
   (v8 (R0 (`oC (o50 `a0U (o50 (o7 t00 vg0 `a9 (z40 T.c_MOST_NAME_SIGNS)) (py0 (o7 W3 Z7 `lE (z40 T.c_MOST_NAMES))))))
   (v8 `d1
   p8)
   p8)
   (v8 (R0 (ol0 (z20 (d10 C_is_left hr `s `fk (z9 `a9 `AO))))
   (v8 `d1
   p8)
   p8)
   (v8 `a0V
   (v8 `d1
   p8))))))) `cq
theorem wl0:`ak v00 `Ew (t8 `w'):=`ao
theorem rj0(F:Fun K `w9 `akq `w' fa fd)(T:`am)(CN_Reader:`en)(C_Reader_hold:`Eu)(C_Reader_names_here:FnT P w K mg `m `G `w! 3 `a' p6 M9):`T P w K mg `m CX0 4 fa fd `Ew (spB K 0 O1) :=
 okB (k:=3) (G:=y60) F wl0 (λcdv A outer s H E hr=>(v8 (R0 (o7 Jx0 Kn0 `az `lE)
   (v8 `d1
   p8)
   p8)
   (v8 (j8 (b8 (wh0 (ru0 `fk (O8 `a0W `az)) `atF) (o5 2 wl0.nd)))
   (v8 (om0 (`Rv (N40 (ay0 `akk) (P90 (Qx0 dl0 (mo0 `r) `a9 (vl0 0 C_Reader_names_here hr `s)))))
   (v8 `d1
   p8)
   p8)
   (v8 `a0_
   (v8 `d1
   p8)))))) `cq
theorem t10:`ak to0 `a' (t8 `w?):=`ao
theorem ng0(F:Fun K `w! `akr `w? fa fd)(T:`am)(CN_Reader:`en)(C_made_part:`a0R)(C_pair_names:FnN P w K mg `m `Q5 1 `c1 vd0):`T P w K mg `m CX0 3 fa fd `a' (spB K 0 M9) :=
 okB (k:=2) (G:=yp0) F t10 (λcdv A outer s H E hr=>(Wq0 0 1 t10.nd `Yf (q70 C_pair_names hr `s (z9 (M7 `a0T hr `s (z9 `Q! (z9 `Q! u5))) u5)))) `cq
theorem u60:`ak un0 `cb (t8 `xa):=`ao
theorem pt0(F:Fun K `wW `aks `xa fa fd)(T:`am)(CN_Reader:`en)(C_Reader_hold:`Eu)(C_is_left:`a00)(C_sign_of:`a0Z):`T P w K mg `m CX0 2 fa fd `cb (spB K 0 R7) :=
 okB (k:=1) (G:=zm0) F u60 (λcdv A outer s H E hr=>(v8 (j8 (b8 (M7 C_sign_of hr `s (z9 `az `a0e)) (o5 2 u60.nd)))
   (v8 (R0 (`oC (o50 `aj3 (py0 (ol0 (z20 (d10 C_is_left hr `s `fk (z9 `nK (z9 (b7 `nK `a9) u5))))))))
   (v8 `d1
   p8)
   p8)
   (v8 (j8 (s80 0 (b7 `nK `a9) `j!))
   (v8 (R0 (o7 W3 Z7 (N8 `dY `a01) `nK)
   (v8 (j8 (Y9 (q20 `fk `nK)))
   (v8 (j8 (Y9 (O5 0 `uE hr `s `a01)))
   (v8 `a0Y
   (v8 (j8 (s80 0 o8 `j!))
   p8))))
   p8)
   (v8 `d1
   p8)))))) `cq
universe zz
theorem us1:∀{us:`aN},`eI=1->∃a,us=[a]
 | [a],_=>#[a,rfl]
theorem us2:∀{us:`aN},`eI=2->∃a b,us=`Gw
 | `Gw,_=>#[a,b,rfl]
theorem us3:∀{us:`aN},`eI=3->∃a b c,us=[a,b,c]
 | [a,b,c],_=>#[a,b,c,rfl]
theorem us4:∀{us:`aN},`eI=4->∃a b c d,us=[a,b,c,d]
 | [a,b,c,d],_=>#[a,b,c,d,rfl]
def Hd(K:`B)(x:Str)(st:`bq):Prop:=∃f fd,`a02/\`akt
theorem T7{st:`bq}{f:`g}{osl:`n_}{kV:`J}(a:`akt)(l:`Lk=`c #[oc,od,`co `AT,osl])(c:`c9 K cdv x=`d)(k:`K8):Hd K x st:=#[f,_,G3 l c k,a]
section
variable(P9:`aw)(w9:`X)(b9:`W){h:`W}{st:`bq}{f:`g}{ps:`h}{m:`Q}(X9:`rZ h)(G9:`LP)(F9:`a02)(a9:`akt)
include X9 G9 F9 a9
theorem cD1(o:`aku)(hl:`aA=1)(b:`a03):`akv:=`a04
theorem cD2(o:`aku)(hl:`aA=2)(b:`a05):`akv:=`a06
theorem cD3(o:`aku)(hl:`aA=3)(b:∀(kV doc pm:`J) (an:`fl) (cdv ct u v w:`J),`qL `AT #[[u,v,w],[]]=`b3 (`o2 [u,v,w])):`akv:=#[f,fd,o,`J8,`J9,`J' λ_ _ _ _ _ _ us h=>by let#[u,v,w,rfl]:=us3 `J!;exact b _ _ _ _ _ _ _ _ _]
theorem cN1(o:`akw)(hl:`aA=1)(b:`a03):`akx:=`a04
theorem cN2(o:`akw)(hl:`aA=2)(b:`a05):`akx:=`a06
theorem cN4(o:`akw)(hl:`aA=4)(b:∀(kV doc pm:`J) (an:`fl) (cdv ct u v w y:`J),`qL `AT #[[u,v,w,y],[]]=`b3 (`o2 [u,v,w,y])):`akx:=#[f,fd,o,`J8,`J9,`J' λ_ _ _ _ _ _ us h=>by let#[u,v,w,y,rfl]:=us4 `J!;exact b _ _ _ _ _ _ _ _ _ _]
universe zz
def all_mk{l:`aad}{w:`X}{h:`W}(X:`rZ h)(G:`LP)(hfa:mg `nL=`Fw)
  {f37 f38 f39 f40 f41 f42 f43 f44 f45 f46 f47 f48 f49 f50 f51 f52 f53 f54:`g}
  {od37 an37 od38 an38 od39 an39 od40 an40 od41 an41 od42 an42 od43 an43 od44 an44 od45 an45 od46 an46 od47 an47 od48 an48 od49 an49 od50 an50 od51 an51 od52 an52 od53 an53 od54 an54:`fl} {sl37 sl38 sl39 sl40 sl41 sl42 sl43 sl44 sl45 sl46 sl47 sl48 sl49 sl50 sl51 sl52 sl53 sl54:`n_} {oc37 kV37 dc37 pm37 cd37 ct37 oc38 kV38 dc38 pm38 cd38 ct38 oc39 kV39 dc39 pm39 cd39 ct39 oc40 kV40 dc40 pm40 cd40 ct40 oc41 kV41 dc41 pm41 cd41 ct41 oc42 kV42 dc42 pm42 cd42 ct42 oc43 kV43 dc43 pm43 cd43 ct43 oc44 kV44 dc44 pm44 cd44 ct44 oc45 kV45 dc45 pm45 cd45 ct45 oc46 kV46 dc46 pm46 cd46 ct46 oc47 kV47 dc47 pm47 cd47 ct47 oc48 kV48 dc48 pm48 cd48 ct48 oc49 kV49 dc49 pm49 cd49 ct49 oc50 kV50 dc50 pm50 cd50 ct50 oc51 kV51 dc51 pm51 cd51 ct51 oc52 kV52 dc52 pm52 cd52 ct52 oc53 kV53 dc53 pm53 cd53 ct53 oc54 kV54 dc54 pm54 cd54 ct54:`J}
  {t_BASE t_MOST_NAMES t_MOST_NAME_SIGNS t_MOST_PARTS t_MOST_VALUES t_MOST_WORD_SIGNS t_NAME_SIGNS t_WORD_SIGNS:Tok}
  {cT_Reader:`g} (aT_Reader:`bQ K `bf `G=`c (`c `d2)) (bT_Reader:Va0 K `dH p6=`d)
  (h0:Hd K `JU `ajh)
  (h1:Hd K `Q1 `aji)
  (h2:Hd K `Q2 `ajj)
  (h3:Hd K `Q3 `ajk)
  (h4:Hd K `Q5 `Q4)
  (h5:Hd K `Q7 `ajn)
  (h6:Hd K `J6 `ajo)
  (h7:Hd K `Q8 `ajp)
  (h8:Hd K `Q9 `ajq)
  (h9:Hd K `J4 `ajr)
  (h10:Hd K `Q' `ajs)
  (h11:Hd K `J7 `Q?)
  (h12:Hd K `Ra `aju)
  (h13:Hd K `JT `ajy)
  (h14:Hd K `Rc `ajz)
  (h15:Hd K `Re `ajB)
  (h16:Hd K `JV `Ri)
  (h17:Hd K `Rf `ajC)
  (h18:Hd K `Rg `ajE)
  (h19:Hd K `Rd `ajF)
  (h20:Hd K `Rb `ajH)
  (h21:Hd K `JZ `ajI)
  (h22:Hd K `AQ `ajJ)
  (h23:Hd K `Rk `ajM)
  (h24:Hd K `Rl `ajN)
  (h25:Hd K `Em `ajO)
  (h26:Hd K `Eo `Rm)
  (h27:Hd K `Ep `X!)
  (h28:Hd K `Ro `Rn)
  (h29:Hd K `J0 `Rp)
  (h30:Hd K `Rr `Rq)
  (h31:Hd K `Rt `ajX)
  (h32:Hd K `Ru `Yb)
  (h33:Hd K `uA `aj0)
  (h34:Hd K `Er `aj1)
  (h35:Hd K `wK `aj2)
  (h36:Hd K `rL `aj7)
  (a37:`bQ K `bf `nL=`c (`c `a07)) (l37:`cd f37=`c #[oc37,od37,`co (`a08),sl37]) (c37:`c9 K cd37 `nL=`d) (k37:`cs K `a07=`d)
  (a38:`cD K `d2 `xD=`c (`c (`C f38))) (l38:`cd f38=`c #[oc38,od38,`co (`cW `xD `aj! (V8 `wO) (W4 `wO) (t8 `wO) `aJ kV38 dc38 pm38 an38 cd38 ct38),sl38]) (c38:`c9 K cd38 `aj!=`d) (k38:`cs K (`C f38)=`d) (i38:`dN K (`C f38)=`d)
  (a39:`cD K `d2 `wM=`c (`c (`C f39))) (l39:`cd f39=`c #[oc39,od39,`co (`cW `wM `akb (V8 `wP) (W4 `wP) (t8 `wP) `aJ kV39 dc39 pm39 an39 cd39 ct39),sl39]) (c39:`c9 K cd39 `akb=`d) (k39:`cs K (`C f39)=`d) (i39:`dN K (`C f39)=`d)
  (a40:`cD K `d2 `uB=`c (`c (`C f40))) (l40:`cd f40=`c #[oc40,od40,`co (`cW `uB `akc (V8 `wS) (W4 `wS) (t8 `wS) `aJ kV40 dc40 pm40 an40 cd40 ct40),sl40]) (c40:`c9 K cd40 `akc=`d) (k40:`cs K (`C f40)=`d) (i40:`dN K (`C f40)=`d)
  (a41:`cD K `d2 `wN=`c (`c (`C f41))) (l41:`cd f41=`c #[oc41,od41,`co (`cW `wN `akd (V8 `wT) (W4 `wT) (t8 `wT) `aJ kV41 dc41 pm41 an41 cd41 ct41),sl41]) (c41:`c9 K cd41 `akd=`d) (k41:`cs K (`C f41)=`d) (i41:`dN K (`C f41)=`d)
  (a42:`cD K `d2 `hs=`c (`c (`C f42))) (l42:`cd f42=`c #[oc42,od42,`co (`cW `hs `ake (V8 `rM) (W4 `rM) (t8 `rM) `aJ kV42 dc42 pm42 an42 cd42 ct42),sl42]) (c42:`c9 K cd42 `ake=`d) (k42:`cs K (`C f42)=`d) (i42:`dN K (`C f42)=`d)
  (a43:`cD K `d2 `wR=`c (`c (`C f43))) (l43:`cd f43=`c #[oc43,od43,`co (`cW `wR `akf (V8 `wU) (W4 `wU) (t8 `wU) `aJ kV43 dc43 pm43 an43 cd43 ct43),sl43]) (c43:`c9 K cd43 `akf=`d) (k43:`cs K (`C f43)=`d) (i43:`dN K (`C f43)=`d)
  (a44:`cD K `d2 `wV=`c (`c (`C f44))) (l44:`cd f44=`c #[oc44,od44,`co (`cW `wV `akh (V8 `wZ) (W4 `wZ) (t8 `wZ) `aJ kV44 dc44 pm44 an44 cd44 ct44),sl44]) (c44:`c9 K cd44 `akh=`d) (k44:`cs K (`C f44)=`d) (i44:`dN K (`C f44)=`d)
  (a45:`cD K `d2 `w_=`c (`c (`C f45))) (l45:`cd f45=`c #[oc45,od45,`co (`cW `w_ `aki (V8 `w1) (W4 `w1) (t8 `w1) `aJ kV45 dc45 pm45 an45 cd45 ct45),sl45]) (c45:`c9 K cd45 `aki=`d) (k45:`cs K (`C f45)=`d) (i45:`dN K (`C f45)=`d)
  (a46:`cD K `d2 `w0=`c (`c (`C f46))) (l46:`cd f46=`c #[oc46,od46,`co (`cW `w0 `akj (V8 `w2) (W4 `w2) (t8 `w2) `aJ kV46 dc46 pm46 an46 cd46 ct46),sl46]) (c46:`c9 K cd46 `akj=`d) (k46:`cs K (`C f46)=`d) (i46:`dN K (`C f46)=`d)
  (a47:`cD K `d2 `w3=`c (`c (`C f47))) (l47:`cd f47=`c #[oc47,od47,`co (`cW `w3 `akl (V8 `w4) (W4 `w4) (t8 `w4) `aJ kV47 dc47 pm47 an47 cd47 ct47),sl47]) (c47:`c9 K cd47 `akl=`d) (k47:`cs K (`C f47)=`d) (i47:`dN K (`C f47)=`d)
  (a48:`cD K `d2 `uC=`c (`c (`C f48))) (l48:`cd f48=`c #[oc48,od48,`co (`cW `uC `akm (V8 `w5) (W4 `w5) (t8 `w5) `aJ kV48 dc48 pm48 an48 cd48 ct48),sl48]) (c48:`c9 K cd48 `akm=`d) (k48:`cs K (`C f48)=`d) (i48:`dN K (`C f48)=`d)
  (a49:`cD K `d2 `wQ=`c (`c (`C f49))) (l49:`cd f49=`c #[oc49,od49,`co (`cW `wQ `akn (V8 `w6) (W4 `w6) (t8 `w6) `aJ kV49 dc49 pm49 an49 cd49 ct49),sl49]) (c49:`c9 K cd49 `akn=`d) (k49:`cs K (`C f49)=`d) (i49:`dN K (`C f49)=`d)
  (a50:`cD K `d2 `wY=`c (`c (`C f50))) (l50:`cd f50=`c #[oc50,od50,`co (`cW `wY `ako (V8 `w7) (W4 `w7) (t8 `w7) `aJ kV50 dc50 pm50 an50 cd50 ct50),sl50]) (c50:`c9 K cd50 `ako=`d) (k50:`cs K (`C f50)=`d) (i50:`dN K (`C f50)=`d)
  (a51:`cD K `d2 `wX=`c (`c (`C f51))) (l51:`cd f51=`c #[oc51,od51,`co (`cW `wX `akp (V8 `w8) (W4 `w8) (t8 `w8) `aJ kV51 dc51 pm51 an51 cd51 ct51),sl51]) (c51:`c9 K cd51 `akp=`d) (k51:`cs K (`C f51)=`d) (i51:`dN K (`C f51)=`d)
  (a52:`cD K `d2 `w9=`c (`c (`C f52))) (l52:`cd f52=`c #[oc52,od52,`co (`cW `w9 `akq (V8 `w') (W4 `w') (t8 `w') `aJ kV52 dc52 pm52 an52 cd52 ct52),sl52]) (c52:`c9 K cd52 `akq=`d) (k52:`cs K (`C f52)=`d) (i52:`dN K (`C f52)=`d)
  (a53:`cD K `d2 `w!=`c (`c (`C f53))) (l53:`cd f53=`c #[oc53,od53,`co (`cW `w! `akr (V8 `w?) (W4 `w?) (t8 `w?) `aJ kV53 dc53 pm53 an53 cd53 ct53),sl53]) (c53:`c9 K cd53 `akr=`d) (k53:`cs K (`C f53)=`d) (i53:`dN K (`C f53)=`d)
  (a54:`cD K `d2 `wW=`c (`c (`C f54))) (l54:`cd f54=`c #[oc54,od54,`co (`cW `wW `aks (V8 `xa) (W4 `xa) (t8 `xa) `aJ kV54 dc54 pm54 an54 cd54 ct54),sl54]) (c54:`c9 K cd54 `aks=`d) (k54:`cs K (`C f54)=`d) (i54:`dN K (`C f54)=`d)
  (z_bool:`bQ K `bf `vs=`c8)
  (z_enumerate:`bQ K `bf `mr=`c8)
  (z_int:`bQ K `bf `iU=`c8)
  (z_isinstance:`bQ K `bf `vt=`c8)
  (z_len:`bQ K `bf `sr=`c8)
  (z_list:`bQ K `bf `d4=`c8)
  (z_min:`bQ K `bf `Bq=`c8)
  (z_ord:`bQ K `bf `Br=`c8)
  (z_range:`bQ K `bf `rX=`c8)
  (z_reversed:`bQ K `bf `mR=`c8)
  (z_str:`bQ K `bf `iX=`c8)
  (z_tuple:`bQ K `bf `d3=`c8)
  (z_zip:`bQ K `bf `g7=`c8)
  (y_BASE:`bQ K `bf "BASE"=`c (`c (`f 128 t_BASE)))
  (y_MOST_NAMES:`bQ K `bf `a_5=`c (`c (`f 60 t_MOST_NAMES)))
  (y_MOST_NAME_SIGNS:`bQ K `bf `a_6=`c (`c (`f 8 t_MOST_NAME_SIGNS)))
  (y_MOST_PARTS:`bQ K `bf `a_7=`c (`c (`f 60 t_MOST_PARTS)))
  (y_MOST_VALUES:`bQ K `bf `a_8=`c (`c (`f 12 t_MOST_VALUES)))
  (y_MOST_WORD_SIGNS:`bQ K `bf `a_9=`c (`c (`f 20 t_MOST_WORD_SIGNS)))
  (y_NAME_SIGNS:`bQ K `bf `a_'=`c (`c (`t `zz t_NAME_SIGNS)))
  (y_WORD_SIGNS:`bQ K `bf `a_!=`c (`c (`t `zA t_WORD_SIGNS)))
  {kA_KINDS:`g} {kn_KINDS:Nat} {ks_KINDS:`n_} {kt_KINDS_0 kt_KINDS_1 kt_KINDS_2 kt_KINDS_3:Tok}
  (kN_KINDS:`bQ K `bf "KINDS"=`c (`c (`C kA_KINDS))) (kL_KINDS:`cd kA_KINDS=`c #[`gf,`e,`b5 ⟨`t `zo kt_KINDS_0,`t `zp kt_KINDS_1,`t `zq kt_KINDS_2,`t `tu kt_KINDS_3⟩ kn_KINDS,ks_KINDS])
  : ∃fd:`hI,(∀(s:`y) (v:`J),`Fy s fd #[[v],[]] [(`m3,v)])/\∀base:`W,`YU->`A2->`T `aj w K mg `m CX0 126 fa fd [`m3] `a0M:=by
 skip;have e:=hfa.symm.trans (C1 X G a37);cases e;have T:`am:=#[D7 X G z_bool,D7 X G z_enumerate,D7 X G z_int,D7 X G z_isinstance,D7 X G z_len,D7 X G z_list,D7 X G z_min,D7 X G z_ord,D7 X G z_range,D7 X G z_reversed,D7 X G z_str,D7 X G z_tuple,D7 X G z_zip,#[_,C1 X G y_BASE],#[_,C1 X G y_MOST_NAMES],#[_,C1 X G y_MOST_NAME_SIGNS],#[_,C1 X G y_MOST_PARTS],#[_,C1 X G y_MOST_VALUES],#[_,C1 X G y_MOST_WORD_SIGNS],#[_,C1 X G y_NAME_SIGNS],#[_,C1 X G y_WORD_SIGNS]];have n2:`ajD:=#[_,_,_,_,C1 X G kN_KINDS,kL_KINDS,rfl,rfl,rfl,(by show 4<=`S;decide),`ai `ac (`ai `ac (`ai `ac (`ai `ac (`L))))];let#[f0,g0,F0,a0]:=h0;let#[f1,g1,F1,a1]:=h1;let#[f2,g2,F2,a2]:=h2;let#[f3,g3,F3,a3]:=h3;let#[f4,g4,F4,a4]:=h4;let#[f5,g5,F5,a5]:=h5;let#[f6,g6,F6,a6]:=h6;let#[f7,g7,F7,a7]:=h7;let#[f8,g8,F8,a8]:=h8;let#[f9,g9,F9,a9]:=h9;let#[f10,g10,w2,z3]:=h10;let#[f11,S2,q8,D2]:=h11;let#[f12,g12,w1,z6]:=h12;let#[f13,g13,s6,N1]:=h13;let#[f14,g14,y3,y7]:=h14;let#[f15,S3,r6,N0]:=h15;let#[f16,g16,t3,z1]:=h16;let#[f17,g17,w4,I3]:=h17;let#[f18,g18,r5,y5]:=h18;let#[f19,g19,t2,H3]:=h19;let#[f20,g20,y2,H5]:=h20;let#[S0,g21,w3,H0]:=h21;let#[I0,g22,q2,I6]:=h22;let#[f23,g23,v4,D1]:=h23;let#[f24,g24,r1,I4]:=h24;let#[H9,g25,q5,B1]:=h25;let#[I2,g26,q6,z5]:=h26;let#[z4,g27,q7,N2]:=h27;let#[f28,g28,r7,I9]:=h28;let#[f29,g29,w7,H7]:=h29;let#[f30,g30,v3,H8]:=h30;let#[f31,g31,u2,I7]:=h31;let#[f32,g32,s4,I8]:=h32;let#[f33,g33,t4,I5]:=h33;let#[H6,g34,q3,H4]:=h34;let#[v0,I1,p1,r2]:=h35;let#[t1,B2,p3,v1]:=h36;have z2:=G3 (x := `nL) (st:=`AS) l37 c37 k37;have x4:=G3 (x := `xD) (st:=`wO) l38 c38 k38;have x7:=G3 (x := `wM) (st:=`wP) l39 c39 k39;have w5:=G3 (x := `uB) (st:=`wS) l40 c40 k40;have s0:=G3 (x := `wN) (st:=`wT) l41 c41 k41;have u7:=G3 (x := `hs) (st:=`rM) l42 c42 k42;have r3:=G3 (x := `wR) (st:=`wU) l43 c43 k43;have u0:=G3 (x := `wV) (st:=`wZ) l44 c44 k44;have s9:=G3 (x := `w_) (st:=`w1) l45 c45 k45;have u6:=G3 (x := `w0) (st:=`w2) l46 c46 k46;have s5:=G3 (x := `w3) (st:=`w4) l47 c47 k47;have u1:=G3 (x := `uC) (st:=`w5) l48 c48 k48;have v2:=G3 (x := `wQ) (st:=`w6) l49 c49 k49;have w0:=G3 (x := `wY) (st:=`w7) l50 c50 k50;have q9:=G3 (x := `wX) (st:=`w8) l51 c51 k51;have y1:=G3 (x := `w9) (st:=`w') l52 c52 k52;have r0:=G3 (x := `w!) (st:=`w?) l53 c53 k53;have r4:=G3 (x := `wW) (st:=`xa) l54 c54 k54;have J:`en:=M10 `dL `atH;done;refine#[`a08,λs v=>.of_eq rfl,λbase _ _=>?_];have b2:=cN1 `aj w `m X G F0 a0 (g40 F0 T) rfl `bC;have q1:=cD1 `aj w `m X G F1 a1 (S50 F1 T) rfl `bC;have n8:=cD1 `aj w `m X G F2 a2 (Yo0 F2 T) rfl `bC;have n7:=cD1 `aj w `m X G F3 a3 (Ys0 F3 T) rfl `bC;have k4:=cN1 `aj w `m X G F4 a4 (dy0 F4 T) rfl `bC;have e7:=cD2 `aj w `m X G F6 a6 (Wz0 F6 T) rfl `bC;have n1:=cD1 `aj w `m X G F7 a7 (Zr0 F7 T) rfl `bC;have e5:=cD2 `aj w `m X G F8 a8 (g90 F8 T) rfl `bC;have j2:=cD1 `aj w `m X G w2 z3 (c10 w2 T) rfl `bC;have e8:=cD3 `aj w `m X G q8 D2 (V00 q8 T) rfl `bC;have k9:=cD2 `aj w `m X G s6 N1 (Uj0 s6 T) rfl `bC;have d1:=cN1 `aj w `m X G t3 z1 (co0 t3 T) rfl `bC;have e9:=cD1 `aj w `m X G w4 I3 (f70 w4 T n2) rfl `bC;have k3:=cN1 `aj w `m X G y2 H5 (cg0 y2 T) rfl `bC;have b1:=cD2 `aj w `m X G w3 H0 (ip0 w3 T) rfl `bC;have b0:FnB `aj w K mg `m `AQ 1 `fj 0 S9:=#[I0,_,bg0 q2 T ,C1 X G I6,q2.kp,q2.binds (ps:=`fj) `mf];have l3:=cN2 `aj w `m X G v4 D1 (ci0 v4 T) rfl `bC;have i0:=cD2 `aj w `m X G r1 I4 (ej0 r1 T) rfl `bC;have U:=cN1 `aj w `m X G w7 H7 (fb0 w7 T) rfl `bC;have n4:=cD2 `aj w `m X G u2 I7 (Yc0 u2 T) rfl `bC;have d2:=cD1 `aj w `m X G t4 I5 (bj0 t4 T) rfl `bC;have e1:FnB `aj w K mg `m `Er 1 `wD 0 O7:=#[H6,_,kn0 q3 T ,C1 X G H4,q3.kp,q3.binds (ps:=`wD) `hX];have q0:FnI `aj w K mg `m `G 1 `a' y30:=#[#[`dH,f38,_,ld0 x4 T J,`dL,#[(`Yj).2.2.1,a38,i38,(`Yj).2.2.2],x4.binds (ps:=`a') `mf,C1 X G `dL]];have O:FnT `aj w K mg `m `G `uB 1 `a' p6 U4:=#[#[`dH,f40,_,iz0 w5 T J,`dL,`eT,#[a40,i40,k40],w5.binds (ps:=`a') `mf,`an]];have c0:FnT `aj w K mg `m `G `wN 1 `a' p6 K3:=#[#[`dH,f41,_,ox0 s0 T J,`dL,`eT,#[a41,i41,k41],s0.binds (ps:=`a') `mf,`an]];have e3:FnT `aj w K mg `m `G `w_ 1 `v5 p6 z50:=#[#[`dH,f45,_,kr0 s9 T J,`dL,`eT,#[a45,i45,k45],s9.binds (ps:=`v5) `hX,`an]];have M:FnT `aj w K mg `m `G `uC 1 `uD p6 X7:=#[#[`dH,f48,_,e00 u1 T J,`dL,`eT,#[a48,i48,k48],u1.binds (ps:=`uD) `hX,`an]];have c8:FnT `aj w K mg `m `G `wQ 1 `a' p6 J3:=#[#[`dH,f49,_,m30 v2 T J,`dL,`eT,#[a49,i49,k49],v2.binds (ps:=`a') `mf,`an]];have o1:=cD1 `aj w `m X G F5 a5 (Ww0 F5 T n7) rfl `bC;have d3:=cD2 `aj w `m X G F9 a9 (ad0 F9 T j2) rfl `bC;have m2:=cN2 `aj w `m X G r6 N0 (cn0 r6 T b2 d1) rfl `bC;have l0:=cN1 `aj w `m X G r5 y5 (dz0 r5 T d1) rfl `bC;have l8:=cD2 `aj w `m X G t2 H3 (c30 t2 T q1) rfl `bC;have l4:FnB `aj w K mg `m `Em 2 `fj 0 Q8:=#[H9,_,cl0 q5 T b0 i0,C1 X G B1,q5.kp,q5.binds (ps:=`fj) `mf];have m6:FnB `aj w K mg `m `Eo 2 `En 0 ya0:=#[I2,_,Zy0 q6 T b0,C1 X G z5,q6.kp,q6.binds (ps:=`En) `hX];have e4:=cN1 `aj w `m X G v3 H8 (jo0 v3 T U) rfl `bC;have c2:FnT `aj w K mg `m `G `w3 2 `Ev p6 G8:=#[#[`dH,f47,_,or0 s5 T J M n1 e5,`dL,`eT,#[a47,i47,k47],s5.binds (ps:=`Ev) λ_ _ _ _ _ _ us hl=>by let#[_,_,_,rfl]:=us3 hl;rfl,`an]];have c1:FnT `aj w K mg `m `G `wY 2 `cb p6 M8:=#[#[`dH,f50,_,nu0 w0 T M e7,`dL,`eT,#[a50,i50,k50],w0.binds (ps:=`cb) `hX,`an]];have b3:FnT `aj w K mg `m `G `wW 2 `cb p6 R7:=#[#[`dH,f54,_,pt0 r4 T J M e8 e7,`dL,`eT,#[a54,i54,k54],r4.binds (ps:=`cb) `hX,`an]];have k5:=cN4 `aj w `m X G y3 y7 (c00 y3 T k9 l8 m2 b2 e9 l0) rfl `bC;have n0:FnB `aj w K mg `m `Ep 3 `fj 0 N5:=#[z4,_,ak0 q7 T b0 l4 m6,C1 X G N2,q7.kp,q7.binds (ps:=`fj) `mf];have m0:=cD1 `aj w `m X G s4 I8 (ck0 s4 T n4 e4 U) rfl `bC;have m1:FnT `aj w K mg `m `G `hs 3 `a' p6 vb0:=#[#[`dH,f42,_,cf0 u7 T J O d3,`dL,`eT,#[a42,i42,k42],u7.binds (ps:=`a') `mf,`an]];have c3:FnT `aj w K mg `m `G `w0 3 `Et p6 R4:=#[#[`dH,f46,_,oz0 u6 T J n2 M c2 n8,`dL,`eT,#[a46,i46,k46],u6.binds (ps:=`Et) `hX,`an]];have c4:FnT `aj w K mg `m `G `w! 3 `a' p6 M9:=#[#[`dH,f53,_,ng0 r0 T J d3 k4,`dL,`eT,#[a53,i53,k53],r0.binds (ps:=`a') `mf,`an]];have q4:=cN1 `aj w `m X G w1 z6 (Mm0 w1 T k3 k9 k5) rfl `bC;have n3:=cD2 `aj w `m X G r7 I9 (Yj0 r7 T b1 l3 n0) rfl `bC;have b4:FnT `aj w K mg `m `G `wV 4 `cb p6 Q4:=#[#[`dH,f44,_,px0 u0 T J e3 c3,`dL,`eT,#[a44,i44,k44],u0.binds (ps:=`cb) `hX,`an]];have Z:FnT `aj w K mg `m `G `w9 4 `Ew p6 O1:=#[#[`dH,f52,_,rj0 y1 T J M c4,`dL,`eT,#[a52,i52,k52],y1.binds (ps:=`Ew) `hX,`an]];have Y:FnT `aj w K mg `m `G `wX 5 `cb p6 U6:=#[#[`dH,f51,_,ss0 q9 T J Z e8,`dL,`eT,#[a51,i51,k51],q9.binds (ps:=`cb) `hX,`an]];have e6:FnT `aj w K mg `m `G `wR 6 `cb p6 V5:=#[#[`dH,f43,_,h70 r3 T J b4 b3 Y c1 O,`dL,`eT,#[a43,i43,k43],r3.binds (ps:=`cb) `hX,`an]];have j1:FnT `aj w K mg `m `G `wM 7 `Es p6 zs0:=#[#[`dH,f39,_,ef0 x7 T J c8 e6 o1,`dL,`eT,#[a39,i39,k39],x7.binds (ps:=`Es) `hX,`an]];have CR:∀q,FnB `aj w K mg `m `wK (1+q) `uF 0 (mR2 q).1/\FnB `aj w K mg `m `rL (1+q) `qM 0 (mR2 q).2:=by
  intro q
  induction q with
  | zero=>exact#[#[#[v0,I1,kw0,C1 X G r2,p1.kp,`a09]],#[#[t1,B2,kw0,C1 X G v1,p3.kp,`a0']]]
  | succ q ih=>exact#[#[#[v0,_,me0 p1 T _ (1+q) (E1 _ _) ih.2 d2,C1 X G r2,p1.kp,`a09]],#[#[t1,_,ks0 p3 T _ (1+q) (E1 _ _) ih.1 e1 d2 U,C1 X G v1,p3.kp,`a0']]]
 have p4:FnB `aj w K mg `m `wK 125 `uF 0 u40:=(CR 124).1;have e0:FnB `aj w K mg `m `rL 125 `qM 0 J1:=(CR 124).2;exact Le0 z2 T q0 j1 c0 m1 O b1 m0 e0 n3 q4
theorem aa0:∀ns:`P,Rps K H B `af7 `x0
 | []=>by rw[`k8,`k8,m9]
 | `oj=>by
  rw[`_,`_,o9];exact#[_,_,rfl,`F6,aa0 ns]
def U40{ns:`P}(hK:`adW)(hS:`aab)(hm:`a_Z):spD K kg0 `fP H `LN `lO:=by
 refine#[`y3,[`iz],`dt,`aet,?_,hm,λv H' _ r=>`am_];rw[o9];refine#[_,[],rfl,?_,`gU];rw[X4];exact#[a,`mA `xZ,rfl,script_at hK hS,aa0 ns]
universe Hk
open PySem.W PyProof.Rows
end
set_option maxRecDepth 100000 in
theorem PySem.Challenge.cw_graphpack_k33_parts_open_holds : PySem.Challenge.rw_graphpack_k33_parts_open.Holds := by
 w_on;o_law;k_head;(case hw=>w_witness2)
 k_fill
 refine DL.Q20 (l:=PySem.Challenge.rw_graphpack_k33_parts_open) (n:=63) (k:=126) (x := "_law_script") (CX:=L2.CX0) (sp:=λK=>DL.spD K Hk.kg0) rfl (by decide) rfl ⟨rfl,by decide,by decide⟩ (λw h Y=>W.kIn_of Y) ?F ?S ?C
 case F =>
  intro w mg fa h KX G hmg;refine' Hk.all_mk KX G hmg ?aT_Reader ?bT_Reader ?h0 ?h1 ?h2 ?h3 ?h4 ?h5 ?h6 ?h7 ?h8 ?h9 ?h10 ?h11 ?h12 ?h13 ?h14 ?h15 ?h16 ?h17 ?h18 ?h19 ?h20 ?h21 ?h22 ?h23 ?h24 ?h25 ?h26 ?h27 ?h28 ?h29 ?h30 ?h31 ?h32 ?h33 ?h34 ?h35 ?h36 ?a37 ?l37 ?c37 ?k37 ?a38 ?l38 ?c38 ?k38 ?i38 ?a39 ?l39 ?c39 ?k39 ?i39 ?a40 ?l40 ?c40 ?k40 ?i40 ?a41 ?l41 ?c41 ?k41 ?i41 ?a42 ?l42 ?c42 ?k42 ?i42 ?a43 ?l43 ?c43 ?k43 ?i43 ?a44 ?l44 ?c44 ?k44 ?i44 ?a45 ?l45 ?c45 ?k45 ?i45 ?a46 ?l46 ?c46 ?k46 ?i46 ?a47 ?l47 ?c47 ?k47 ?i47 ?a48 ?l48 ?c48 ?k48 ?i48 ?a49 ?l49 ?c49 ?k49 ?i49 ?a50 ?l50 ?c50 ?k50 ?i50 ?a51 ?l51 ?c51 ?k51 ?i51 ?a52 ?l52 ?c52 ?k52 ?i52 ?a53 ?l53 ?c53 ?k53 ?i53 ?a54 ?l54 ?c54 ?k54 ?i54 ?z_bool ?z_enumerate ?z_int ?z_isinstance ?z_len ?z_list ?z_min ?z_ord ?z_range ?z_reversed ?z_str ?z_tuple ?z_zip ?y_BASE ?y_MOST_NAMES ?y_MOST_NAME_SIGNS ?y_MOST_PARTS ?y_MOST_VALUES ?y_MOST_WORD_SIGNS ?y_NAME_SIGNS ?y_WORD_SIGNS ?kN_KINDS ?kL_KINDS
  (case aT_Reader=>k_is)
  (case bT_Reader=>kernel_rfl)
  (case h0=>exact Hk.T7 (by k_is) (by k_is) (by k_is) (by k_is))
  (case h1=>exact Hk.T7 (by k_is) (by k_is) (by k_is) (by k_is))
  (case h2=>exact Hk.T7 (by k_is) (by k_is) (by k_is) (by k_is))
  (case h3=>exact Hk.T7 (by k_is) (by k_is) (by k_is) (by k_is))
  (case h4=>exact Hk.T7 (by k_is) (by k_is) (by k_is) (by k_is))
  (case h5=>exact Hk.T7 (by k_is) (by k_is) (by k_is) (by k_is))
  (case h6=>exact Hk.T7 (by k_is) (by k_is) (by k_is) (by k_is))
  (case h7=>exact Hk.T7 (by k_is) (by k_is) (by k_is) (by k_is))
  (case h8=>exact Hk.T7 (by k_is) (by k_is) (by k_is) (by k_is))
  (case h9=>exact Hk.T7 (by k_is) (by k_is) (by k_is) (by k_is))
  (case h10=>exact Hk.T7 (by k_is) (by k_is) (by k_is) (by k_is))
  (case h11=>exact Hk.T7 (by k_is) (by k_is) (by k_is) (by k_is))
  (case h12=>exact Hk.T7 (by k_is) (by k_is) (by k_is) (by k_is))
  (case h13=>exact Hk.T7 (by k_is) (by k_is) (by k_is) (by k_is))
  (case h14=>exact Hk.T7 (by k_is) (by k_is) (by k_is) (by k_is))
  (case h15=>exact Hk.T7 (by k_is) (by k_is) (by k_is) (by k_is))
  (case h16=>exact Hk.T7 (by k_is) (by k_is) (by k_is) (by k_is))
  (case h17=>exact Hk.T7 (by k_is) (by k_is) (by k_is) (by k_is))
  (case h18=>exact Hk.T7 (by k_is) (by k_is) (by k_is) (by k_is))
  (case h19=>exact Hk.T7 (by k_is) (by k_is) (by k_is) (by k_is))
  (case h20=>exact Hk.T7 (by k_is) (by k_is) (by k_is) (by k_is))
  (case h21=>exact Hk.T7 (by k_is) (by k_is) (by k_is) (by k_is))
  (case h22=>exact Hk.T7 (by k_is) (by k_is) (by k_is) (by k_is))
  (case h23=>exact Hk.T7 (by k_is) (by k_is) (by k_is) (by k_is))
  (case h24=>exact Hk.T7 (by k_is) (by k_is) (by k_is) (by k_is))
  (case h25=>exact Hk.T7 (by k_is) (by k_is) (by k_is) (by k_is))
  (case h26=>exact Hk.T7 (by k_is) (by k_is) (by k_is) (by k_is))
  (case h27=>exact Hk.T7 (by k_is) (by k_is) (by k_is) (by k_is))
  (case h28=>exact Hk.T7 (by k_is) (by k_is) (by k_is) (by k_is))
  (case h29=>exact Hk.T7 (by k_is) (by k_is) (by k_is) (by k_is))
  (case h30=>exact Hk.T7 (by k_is) (by k_is) (by k_is) (by k_is))
  (case h31=>exact Hk.T7 (by k_is) (by k_is) (by k_is) (by k_is))
  (case h32=>exact Hk.T7 (by k_is) (by k_is) (by k_is) (by k_is))
  (case h33=>exact Hk.T7 (by k_is) (by k_is) (by k_is) (by k_is))
  (case h34=>exact Hk.T7 (by k_is) (by k_is) (by k_is) (by k_is))
  (case h35=>exact Hk.T7 (by k_is) (by k_is) (by k_is) (by k_is))
  (case h36=>exact Hk.T7 (by k_is) (by k_is) (by k_is) (by k_is))
  (case a37=>k_is)
  (case l37=>k_is)
  (case c37=>k_is)
  (case k37=>k_is)
  (case a38=>k_is)
  (case l38=>k_is)
  (case c38=>k_is)
  (case k38=>k_is)
  (case i38=>k_is)
  (case a39=>k_is)
  (case l39=>k_is)
  (case c39=>k_is)
  (case k39=>k_is)
  (case i39=>k_is)
  (case a40=>k_is)
  (case l40=>k_is)
  (case c40=>k_is)
  (case k40=>k_is)
  (case i40=>k_is)
  (case a41=>k_is)
  (case l41=>k_is)
  (case c41=>k_is)
  (case k41=>k_is)
  (case i41=>k_is)
  (case a42=>k_is)
  (case l42=>k_is)
  (case c42=>k_is)
  (case k42=>k_is)
  (case i42=>k_is)
  (case a43=>k_is)
  (case l43=>k_is)
  (case c43=>k_is)
  (case k43=>k_is)
  (case i43=>k_is)
  (case a44=>k_is)
  (case l44=>k_is)
  (case c44=>k_is)
  (case k44=>k_is)
  (case i44=>k_is)
  (case a45=>k_is)
  (case l45=>k_is)
  (case c45=>k_is)
  (case k45=>k_is)
  (case i45=>k_is)
  (case a46=>k_is)
  (case l46=>k_is)
  (case c46=>k_is)
  (case k46=>k_is)
  (case i46=>k_is)
  (case a47=>k_is)
  (case l47=>k_is)
  (case c47=>k_is)
  (case k47=>k_is)
  (case i47=>k_is)
  (case a48=>k_is)
  (case l48=>k_is)
  (case c48=>k_is)
  (case k48=>k_is)
  (case i48=>k_is)
  (case a49=>k_is)
  (case l49=>k_is)
  (case c49=>k_is)
  (case k49=>k_is)
  (case i49=>k_is)
  (case a50=>k_is)
  (case l50=>k_is)
  (case c50=>k_is)
  (case k50=>k_is)
  (case i50=>k_is)
  (case a51=>k_is)
  (case l51=>k_is)
  (case c51=>k_is)
  (case k51=>k_is)
  (case i51=>k_is)
  (case a52=>k_is)
  (case l52=>k_is)
  (case c52=>k_is)
  (case k52=>k_is)
  (case i52=>k_is)
  (case a53=>k_is)
  (case l53=>k_is)
  (case c53=>k_is)
  (case k53=>k_is)
  (case i53=>k_is)
  (case a54=>k_is)
  (case l54=>k_is)
  (case c54=>k_is)
  (case k54=>k_is)
  (case i54=>k_is)
  (case z_bool=>k_is)
  (case z_enumerate=>k_is)
  (case z_int=>k_is)
  (case z_isinstance=>k_is)
  (case z_len=>k_is)
  (case z_list=>k_is)
  (case z_min=>k_is)
  (case z_ord=>k_is)
  (case z_range=>k_is)
  (case z_reversed=>k_is)
  (case z_str=>k_is)
  (case z_tuple=>k_is)
  (case z_zip=>k_is)
  (case y_BASE=>k_is)
  (case y_MOST_NAMES=>k_is)
  (case y_MOST_NAME_SIGNS=>k_is)
  (case y_MOST_PARTS=>k_is)
  (case y_MOST_VALUES=>k_is)
  (case y_MOST_WORD_SIGNS=>k_is)
  (case y_NAME_SIGNS=>k_is)
  (case y_WORD_SIGNS=>k_is)
  (case kN_KINDS=>k_is)
  (case kL_KINDS=>k_is)
 case S=>exact λw H a ns hl hS=>Hk.U40 (by kernel_rfl) hS (Hk.Qm0 ns hl)
 case C=>exact λ_ _ _ _ z=>z
#print axioms PySem.Challenge.cw_graphpack_k33_parts_open_holds
