import PyProof.Rows.All
import Wide.All
import OpenK.AllK
import Wide.FinOn
import Lean
import PyProof.EqAt
import PyProof.EqKinds
import PyProof.TupleCall
import PyProof.NeKinds
import PyProof.Rows.SetFrom
import KE.KRevIter
import PyProof.ZipIter
import PyProof.TupleOfGen
import PyProof.Rows.ZipGen
import PyProof.EnumMake
import PyProof.EnumFor
import PyProof.ListRange
import PyProof.LayNew
import KE.KDictOf
import KE.KIntText
import KE.IntTextLaws
import PyProof.StrCalls2
import PyProof.Rows.StrNews2
import PyProof.StrLawsTight
import PyProof.ExcArgsOwn
import PyProof.ExcAttrAll.ValueError
import PyProof.IsInstanceT
import PyProof.RulesAs
import PyProof.Rows.Tup
import OpenK.KOwn
import PyProof.ExcInit
import OpenK.KCls
import OpenK.KMake
import PyProof.InstStoreFacts
import PyProof.FactsAll.object
import PyProof.IsiStr
import KE.KIsAll
import PyProof.ListMulRight
import PyProof.AttrMissHeap
import PyProof.RaisesMany
import PyProof.RulesTry
import PyProof.NsDelKeeps
import PyProof.Rows.FStr
import OpenK.KWalk
import PyProof.AutoListH
import PyProof.CallFns
import PyProof.Rows.SortStr
import KE.KDictSum
import PyProof.Draws
import PyProof.Rows.CallKwBuiltin
import PyProof.SumWalkG
import KE.KDictLaws
import PyProof.DictTruth
import PyProof.Rows.SortShellK
import PyProof.Rows.SortWalk
import KE.KDictList
import PyProof.SliceList
import PySem.Challenge.RW_graphpack_k31_packs_in_pieces
set_option maxHeartbeats 0
set_option bootstrap.genMatcherCode false
set_option genSizeOf false
set_option compiler.postponeCompile true
set_option compiler.extract_closed false
set_option linter.all false
set_option tactic.hygienic false
set_option linter.all false
open Lean in
def xi(s:List Char):Nat:=match s.map λc=>"abcdefghijklmnopqrstuvwxyzABCDEFGHIJKLMNOPQRSTUVWXYZ_0123456789'!?".toList.idxOf c with
|[a]=>a
|[a,b]=>53+a*66+b
|[a,b,c]=>3551+(a*66+b)*66+c
|_=>0
open Lean in
def xr:Nat→Syntax→Syntax
|0,s=>s
|n+1,s=>if s.getKind==``Lean.Parser.Term.anonymousCtor then .node .none ``Lean.Parser.Tactic.rcasesPat.tuple (List.toArray [mkAtom "⟨",mkNullNode (s[1].getArgs.map λx=>if x.isAtom then x else .node .none ``Lean.Parser.Tactic.rcasesPatLo (List.toArray [.node .none ``Lean.Parser.Tactic.rcasesPatMed (List.toArray [mkNullNode (List.toArray [xr n x])]),mkNullNode])),mkAtom "⟩"]) else
 if s.getKind==``Lean.Parser.Term.hole then .node .none ``Lean.Parser.Tactic.rcasesPat.ignore (List.toArray [mkAtom "_"]) else .node .none ``Lean.Parser.Tactic.rcasesPat.one (List.toArray [s])
open Lean in
def xp(t:Array Syntax)(o:Syntax):Nat→Syntax→Syntax
|0,s=>s
|n+1,s=>s.rewriteBottomUp λs=>match s with
 |.node _ k a=>if k==``Lean.Parser.Command.open&&s[1][0][0].getId==`T then o else if k==``Lean.Parser.Term.quotedName then xp t o n (t.getD (xi s[0][0].getAtomVal.toList.tail) s) else
  if k==`«term#[_,]» then .node .none ``Lean.Parser.Term.anonymousCtor (a.setIfInBounds 0 (mkAtom "⟨")|>.setIfInBounds 2 (mkAtom "⟩")) else
  if k==``Lean.Parser.Term.anonymousCtor then .node .none `«term#[_,]» (a.setIfInBounds 0 (mkAtom "#[")|>.setIfInBounds 2 (mkAtom "]")) else
  if k==``Lean.Parser.Tactic.tacticLet__ then let p:=s[2][0];if p[0].getKind==``Lean.Parser.Term.anonymousCtor then .node .none ``Lean.Parser.Tactic.obtain (List.toArray [mkAtom "obtain",mkNullNode (List.toArray [.node .none ``Lean.Parser.Tactic.rcasesPatMed (List.toArray [mkNullNode (List.toArray [xr 99 p[0]])])]),mkNullNode,mkNullNode (List.toArray [mkAtom ":=",mkNullNode (List.toArray [p[4]])])]) else .node .none k a else
  if k==``Lean.Parser.Command.declaration then let d:=s[1];.node .none k (if d.getKind==``Lean.Parser.Command.definition then if d[3][1].getKind==``Lean.Parser.Term.byTactic then a.setIfInBounds 1 (.node .none ``Lean.Parser.Command.theorem (List.toArray [mkAtom "theorem",d[1],.node .none ``Lean.Parser.Command.declSig (List.toArray [d[2][0],d[2][1][0]]),d[3]])) else a.modify 0 λm=>m.setArg 4 (mkNullNode (List.toArray [.node .none ``Lean.Parser.Command.noncomputable (List.toArray [mkAtom "noncomputable"])])) else a) else .node .none k a
 |.atom _ v=>.atom .none v
 |.ident _ r v p=>.ident .none r v p
 |s=>s
open Lean in
local macro_rules
|`(command|mutual $cs* end)=>do
 let l:=(cs.getD 0 default).raw[1]
 if l[1][0].getId != `T then Lean.Macro.throwUnsupported
 let t:=l[3][1][1].getSepArgs
 let o←`(command|set_option tactic.hygienic true)
 return mkNullNode ((cs.drop 1).map λc=>let c:=xp t o.raw 99 c.raw
  if c.getKind==``Lean.Parser.Command.universe then .node .none ``Lean.Parser.Command.end (List.toArray [mkAtom "end",if c[1][0].getId==`zz then mkNullNode else mkNullNode (List.toArray [c[1][0],mkNullNode])]) else c)
mutual
def T:=[some,kQ ?_,true,none,cQ λGQ kQ=>?_,Addr,.int,Option.bind_some,pins,`ah Str,(`J),base,`ah Nat,`ah D,.lst,false,wpAny,(`aa),.inr,.inl,.str,Shared,X.env,.non,.tup,.ref,W.Frag,decide,Inv X `i σ H s,Heap,this,"Reader",Value,nilB,Expr,by lia,`ah `G,B₀,Bool,absurd,H₀,List.length_map,World,sizeLine,`ah V,`n->`d5,s.heap.objs.size,if_pos,FnOk,.nil,List.length_cons,List.length_append,`ah Int,by decide,List.map_cons,(gv 1),#[_,rfl],cons_of,.none,(`RN),List,FnScope,`G->`eO,l.prog,if_neg,(`xS `aR X.w),(gv 0),Program,`a o,.cons,s.heap,Txt mg,0,fsc rfl rfl rfl rfl `cZ,g δ,`ah (`akR),(`a4),xs.length,(gv 2),`ah Pt,d::ds,(z8 1),ps.length,strOf,D->`n->`Vk,by decide +kernel,X.xe,Bool.and_eq_true,`ps `G,en.ex,Option,pool,(`WW),(z8 0),[`c9],(x==`ld)=`p,X.prog,`ah `f,`ah α,Or.inl rfl,.Call,List.replicate,δ.set,eval,List.map_append,mainGlobals,D.bl,Stmt,Str->`gz,rest,by simp,`aL Int,(gc (`ea)),D.int,D->Ds->`aL Ds,as.zip sos,Env K H B σ δ,.type,`a u,items,`dw H H',`V rfl,(R S),`ah `bX,s.toks,I.hok,.Name,`g i,(`ho),(gc `Im),(z8 2),`aL `f,D->`yM,.builtin,Rps K H B ds xs,`u _,Runs,(ha B δ),`z a,(`em),its.toArray,`a d,X.calm=`c,0,X.mg,`ah `I,List.append_assoc,`a `p,List.getD_eq_getElem?_getD,K.lookup,List.range,decide_eq_true,(by intros;rfl),pure,Vals,(·.1),`a v,List.size_toArray,.bl _,W.nsIn,(gN 0),`t rfl,ds.length,Paired,Around,A.in1,(gN 2),l.length,Want,.ow `arm,B.length,`o _,X.N[i]?=`dn,`u x,outer,S.names,[`bY],`ah `a1,List.map_map,.seq,`a `d,decide_eq_false,False,starEach,`s rfl,cpos,δ[i]?,.sh `IP,String,.func,A8.mp,W.keepIn,`y ds,`o ds,EnvS,`cj K `O `L H σ δ,by kernel_rfl,.fin,.sh `re,`g _,List.getElem?_map,Ds->`d5,`ah (`z3),Y6 ?_,[`c9, `qN],W.findIn,flat,(j:Int),S.un,Int.toNat_natCast,Scope,D->`M,(`av).bind,PD X e g,`TE (`aU),`TE (`fp),name,ObjOk,X.base,.Attribute,r.length,vs.length,W.fnOf,caps,B8 _,gA δ,items.length,.dct,Rp K H B d v,if_false,Frag,`al `r,`V h,PD X a ga,(λb ds r b' h=>O6 h),#[h,g,d,t,os],(`aG),H b=`d,I.len,`o xs,(`bt),W.codeIn,.bl `c,"at",(`TG),
List.length_singleton,D.tup,"self",.sh `j4,Gl X x,x=`bt,(T5 I q `ax),`d9 hd,I.kIn,scope,ga δ,r.mono,List.length_take,List.append_nil,[`zZ],(c7 (Z2 G4)),"tuple",h.objs.size,s.heap.get?,`a x,0,RelV,`aL V,I.loc,B9.mp,I.list,start,(`gL),Same,l.map,(λz=>nomatch z),nm.length,cT_Reader,Vis `m_ x,(x==`Si)=`p,_::_,PD X b gb,`dR=`ut,(λds d h=>J9 h),aT_Reader,SubO,A5 e,.bl b,W.isFn,(n:Int),s₁,(`GG H),I.free,dpN i δ,S.wait,S.begun.length,S.begun,held,Unit->`eO,`bJ xs us,List.zip_cons_cons,(`z `dA),"__init__",call,backTo,body,compareOp,items.size,[`bt],`aL D,`a (.nx δ'),`g n,H p=`d,A6.mp,z.elim,I.bare,.value,`g 1,(z7 `az v6),(gc (`t8)),(j7 0),`b9 `k,.sh `q7,`u s,many,meth,`al h,X.N.Nodup,ClsN K `F u9,`z C,`a! `eS,`a c,B5.mp,qual,ys.length,(i+1),gb δ,gt δ,(`a9),`a r,q.to,gx δ,(`anL),K.In h,(z7 `ac v6),w.length,D.lst,j∈B,`ah Env,∀x,foldedSetIterable `jC `w x=`bI x,`SG=`pI::`sZ,List.replicate_succ,Gr H H' B B',`al e,List.mem_cons,Wb ps,(`YD).1,`v->Prop,(`EZ),`a! `dk,.ret,"list",`y xs,(·.2),apos,`a k,(k:Int),if_true,.sh (`IR),Option.bind,(v5 `bl u5),FuncData,Model,hbase,List.reverse_cons,CoeFun,`a `c,List.cons_append,setN,`fv z,(V3 (Z8 (gc `tk))),Value.ref,h.get?,`pt=`ap,`pv=`ap,`a y,bootBuiltins,I.cell,`bI `p,ns.length,attributeBase,value,(`alv),False.elim,CallR,i.toNat,(`amC),G1 δ,`TE rfl,en.same,(Z5 hp),lean,2 ^ 62,k.toNat,List.mem_singleton.mp,I.os,`g `cw,List.length_nil,`g 0,.sh (`hS),Option.map,pre.length,its p,kn p,(N:Int),Nat.zero_add,(z8 4),(v5 `aC u5),[`lY],(W4 (W2 0) `kq),HOk P w H h,Ends,`dp y u,(apos.endLine==cpos.line)=`c,`m_=sc,Ds->`ti,`f->Prop,by rw[m9],RpW K H B ns a as sos,(hb B δ),hidx,`T2=`pI::`hE,`V e,(`dQ).bind,Ok S,codeAny,C7 _ rfl,.own,H' b,(`bQ),X.env.locals,`dp v u,(`bi),"zip",s1.heap.objs.size,I.tok _,`g j,(k+1),first,List.getElem?_append_left,.sh d,`t z,`ah J3,es.length,λp hp=>?_,closed,y60 `cb,at'.sl,(gv 4),D.str,C1.mpr,S.length,(`eg),.sh (`Ke),PE X e te,A.handled=`d,hline,List.lookup_cons,Ds->`pZ,List.nil_append,ev.ex,bm.1,inst S,
(by rw[`rc];rfl),`aL `G,.bool,h'.get?,s.heap.push,`e! a,X.stack,I.freeC,D.nx,swapsWith,`z `U,Room,(`Ft),`z p,scope.names,ks.length,`jK K H B as ds xs,`fq s1,λa z=>?_,(`ak9),EnvV.mk',List.length_zip,(`qn),(`k7),`ah (Key×V),(`cO).bind,(`pV),(gc (`qE)),(gv 3),(gc (`zP)),(unG U4 `a6),(`cl),`lU `bK,(0:Int),(`ae rfl rfl),S.count,.sh (`iZ),made,List.length_drop,(z8 3),[`z_],True,`ah (`E6),CmpOp,(I.ok.hd hc),`dt hq,args,(`SH).any `bK=`p,PID X tg `jC gi,`hI h1,List.not_mem_nil,or_false,Nat->Nat,(1000:Nat)<=`R,Th S,(by exact cok rfl rfl `cZ),A3 _,`ah Key,.ins,`a `sR,k _ _ `f3 e,hs.2,I.tuple,{ s with heap:=h' },`aY o `w,assign,.Assign,`dp x u,0<=i,NodeOk,as.length,e.all,`b! [] `w,its.toArray.size,n.toNat,cutD,get_set,b≠a,`u a,opened,h.nd,someO,(gv 5),"web","length",Nat×`n,`o (`no `g),S.wait.length,S.un.length,s.cps.toList,`cx=k::u,((128+r%128:Nat):Int),`lU `eU,(`and),`JD j `JE,(lkv π),lkd j,(ix L),j<`aD,(`Bc),T.b_len,`ps (`gz),List.all_eq_true,`ah (Str×V),(he `i s σ H _ I h),`N (show `s4 from hs) B6,"int",List.lookup,by simp at h,V->`ni,`al hb,Option.map_some,Loc `m_ y,0,X.fn y=`c∨`Sc y=`la,`av=`bw,∀cl s H ex,PGD `pX tg idx f,`tF hi,(h.go `O `L δ),`qv s1,`dR≠[],0,(n+1),`e? a,A2 ?_,.frz,0,X.fs,I.pin,λb hb=>?_,Hp->Prop,j.toNat,(`s6),HT.sIx,(`Gt),v=`bt,env.same,List.getElem?_eq_getElem,Pd.app,e.bad,Gr.less,(`gI),flats,.Constant,CloseOk,ns[k]?,`u c',`g z,(gN 4),(gc `x),(j4 0 `F `uc `ed),pairsOf,(`WA),`l4 d,List.length_reverse,`bG h,`g b,[`bY,`ef,.un],w=`d?,`g `n9,ps.flatMap two,λ_=>rfl,`cm::ws,qs.map,"NoPack",[`bY,`Yg,`go,`Kf,.sh (`A?),.sh (`Yh)],`a (`c4),(z8 5),Cl h C tl,`b9 h,`ay<=`R,(ha `i s σ H _ I h),Sem `M,"str",hfew,#[_,q],`V hb,Ds->`yL,signs,`cQ ks ds,RpO K H B d a,RpN K H B as d v,p1.isList,yc0 r,(`G_).any `bK=`p,`ep hx,`al `ax,`an? z TI TO i1 i2 l1 l2,0<=k,D->`n->`aL DXB,(λds d h=>vj0 h),λ_ _ _ _ _ _ us hl=>by let#[_,rfl]:=us1 hl;rfl,λ_ _ _ _ _ _ us hl=>by let#[_,_,rfl]:=us2 hl;rfl,root,(`E_),kvs.length,`a `sT,.free,`R8 x=`eo,.bl `p,pos.line,St->`iw,
iter,{ s with toks:=`sE },z.length,`u z,`g `dM,(t6 st),δ[j]?,`a a,RpNs,yq0 ds,`amY=`sy,s1.trans,r1.length,`Fd=`yV,G δ,en.b0,items.drop,λz=>?_,`aL `I,`iC s1,(by rw[V6]),`o es,`ps GenState,Value.type,`g k,[`c9, `c5],`zB b,PSsB,vs.map,(`iN),"_law_script",(gN 3),(o2 `an `bk ixD),"begun",(gc (`Wj)),(j4 0 `F `ub `ed),cs.length,.sh `zz,.sh (`ug),S.names.length,.sign,(`aB),`W3=`qf,(r:Int),T.length,pd `uP,(`l8),(`h1),Vb v,p.vals,[`Iz, `j8],b_tuple,T.b_tuple,(yy0 hr),CN_Reader,(yz0 `fK fun δ d h=>we0 h),a==b,us.length,`ah (`hp×V),H b=`a?,α->β->Prop,`iu p hp,by simpa using hb,I.un,`Fo op b=`p,PE X a ta,`hu hq,`dp x v,I.laid,kindOf,#[_,ho,rfl],hplain,List.flatten_cons,names,λx hx=>?_,X.N[i]?=`fc,D->D,`cO=`p1,(hr.mono hk),k::ks,`anA+1<`lr,`hI h2,Nat.sub_self,`HZ=n,nrf d=`c,`a `H2,tr d=`c,`ah (`m),[`qQ,`c'],(`uf),O4 `g2,List.length_range,w≠`cm,Pk ps B T ds B' T' b,Wf ps `aM,I.nms,PWD.pt,prog,`z e,.fields,o.cls,`a (`f1 a),KV kvs vs,x ≠`Fc,`a .local,I.ok.kind,List.getElem?_set_ne,("__debug__" : Str),(`bh x pos),assignEach,.Subscript,SqL K H a xs,binaryOp,(g i j),`hq C dx fs,True.intro,(vs++dvs),#[rfl,rfl],(`s'),typeLookup,.call,cLine,`a `jx,λ_ _=>`b',f2 b hb,`ah β,`u c,RpL K H B d a,∀a,`nC->B a,∀a,B a->`nC∨`O a=`d,PSsD,List.map_nil,xo0 kvs k,`ah (V×V),trivial,(`za hb),s1.free,(`am4),Value.none,.Tuple,I.ok,(Q5 N j p b ds),(`ao9),`g `eX,J.w.openOk,h.len,as++[L],(`lQ),`Ts=`eo,δ.length,ps.map,keys,(z7 `an v6),`u `c5,"_law_book",`u `Is,`u `Iu,`u `zT,(gc (`lX)),"digits",`dR=[],S.hold,S.ends,.sh (`Xh),s∈T,B++[j],by rw[`Y];lia,Whl q,Sl.sh,K22.u60,.sh (`A4),(`eh:Int),(j+1),T.b_isinstance,(w40 `h5 `fK),Result->`eO,`aq r t,`ah (`f×`dI),(D8 _),`t q,Inv X `i σ H' s',(`b1),(`x8 a [op] [b] pos),h.elim,SqT K H a xs,`V hj,`al hj,x::xs,`fk hq,pl.isList,List.all_cons,as.Nodup,RpG K H B d a,λ_ _=>rfl,`V hl,`al z,hq.to,(`d0 `ca (`hE)).any `bK=`p,`G4 κ,`ah κ,PX X e gx,p::ps,`iK H a sub,(`gg H a sub),`aL ResB,w50 eb,`z4 ps,S.wait.tail,`bG `k,List.getElem?_modify,`ars<=`hU,
`uD<=100,(zb0 T.c_BASE),ui0.nd,`D->Prop,.cls,(`a! T),h1.get?,A1 ?_,Sum.inl,o.data,`a `sV,X.env.scope,X.s₀.heap.objs.size,b≠`f4,`f2=`d,(`dJ),{ s with heap:=h',toks:=t' },λ_ _ _ q=>q,Q v H',`bz x,holding,(`c1),Inv X `i σ' H' s',"enumerate",`RW=`dn,s'.heap,`a (`lk),r2.length,(`bh x p),.function,(m:Int),getItem,s.TypeIs,`S->`FD,sliceBounds,its.length,xs=[`gL],(`hw),s₁.heap,ns.map,A.units,`ah (Str×`G),(`Gl elt [#[tg,`jC,ifs,0]] `dd pos),[`amP],DL.Ds,.deep,`a b,NB (H a),`a `c2,Pd.get,e.own,t σ H Q,`jN s2,`L a,[a,b],leans,(·++·),putK,`fs d n=`c,"reversed",pos2,(`nB),rv.same,A4 h,`u b,a::as,H0.mpr,u40 d,Pd.get',`Tw=`tX,(gc (`g 8)),(U5 v6),"spelled",(j4 0 `F `qM `ed),"sign",.rcd,.name,`o (cs.map `g),(Z3 ?_),.sh `IS,.sh (`lN),.ow `gY,(np:Int),`arh `Am,`a (r,R S'),`u (`q2 kd),[`iW],(b:Int),`a 0,(W6 nm),(r/128),.sh `gn,(Bw.small `k),(`AG),.sh `oc,(`h_),0,kn `oe,It `aD d,W.wb.its,`bF `aD,env.mutB,(Z0 `aO v7),(v5 `aO u5),"_law_many",(W9 `aC v7),(v5 v7 u5),"law","__getattribute__",Drawn,beq_iff_eq,K.In `ar,`s x,`bJ xs its,I.base,`lc (A9 hj),A4 e,`m7=`d,`al B6,rawInt,hf it `ax,(`Fz),vals1 r,`yj X.K fd ps ds,`bJ dvs ds,`Fp apos.atName,slice,`g a,List.any_cons,Bool.false_eq_true,(`lt),CompOk sc `dd X.N N' n `cM,G2 δ',.fn ks ds,by unfold RpN at h ⊢;exact h,Pd.set,m5 z,(`yW),PDA X `gK gA,∀cl s H ex,PD `pX elt ge,`cQ _ _,.fn _ _,p2.isList,(`d0 `ca (`T2)).all `G0&&`G1,CompOk sc `dd N N' n `cM,`cv d=`c,`lc n1,X.N[j]?=`fc,`Hi s3,T7 `aoV z50 `i s σ H D I `TI,wr0 f4,n::ns,#[r,J,e1,k],(ob `zX),(Q7 `nU),["thing"],.row vs,(`aq5),`dS<=60,`I' `k,(va0 S kd),kd<4,(`uA),c∈Q4,(`Jo),Gw.pl0 _ _ `r,`uK<=20,`cf hd,hw.it _ w2,PsOk.len,Inv `aM B T S,K22.t70,(n6 X8 Z1 `ol j5),(λcl s H ex=>wg0),(n6 X8 Z1 `atw v7),Array,`e? b,`sC=`ap,`dm b,RelO,.ext,X.outer,σ.length,λb o e n hb hx=>?_,.BoolOp,(`z it),Turn,hf b hb,B3 _ e,.BinOp,x.length,(`p,`Sh),ps.zip,I.hok.fresh,`z b,ht.typeIs,(eqU x),`z l,`a n,vs.toArray,λ_ _ _=>`b',(`xS P w),(Y8 st),(A7 _ hx),`o [],(`z D),(Y5 X `dd cl N' s H ex),
z.symm,`aL `M,`a [],`a δ',`a ds,¬B a,B' a,`bS F l m,`o fs,`a dx,`u y,λv σ H Q=>∃B d δ,tDG X.K idx f B d δ v σ H Q,¬B b,en.fr,d=`x,`a (.rf d),(frz δ),g `qa,owL i δ,kv.1,(`f9),`a q,`a (`tC),(`anr),rv.length,k _ H `dO `tt,Obj.mapSeq,Nat.min_self,Rps.snoc,`z z,J.extBut,as.map `e!,{ s with heap:=h',toks:=tk },Noted,s.heap.update,(-1),f b ds,at'.same,R9.mp,Pd.len,go δ,Cls K C,[dp],`a i,vals,"_law_k",`g 3,"_law_cell",(z7 `gj v6),(gN 5),(z80 `Iw `an),(o2 `an `a6 ixD),(plN (J2 0 `j' `g1)),(j4 0 `F `j8 `ed),"names","byte","count",bk `f! cs sm m `aM,.ow (z9 p (`qP)),parts,(s:Int),(p:Int),code N k,isName,.sh (`IT),[.un,.un],(0,[]),λw=>`gk (b8 w),(`dS:Int),S.begun.map,Sl.ow `arm,kindS,`W9 kd n,X7 (by rw[c];rfl),Z3 (T9 ?_),link,(`iW),[`bY,`ef,`uy],.ow (z9 p `W1),(`q5),`g `uE,.sh (`q!),λq=>`aq_,`uJ<=20,X7 `g2,(x:Int),(`AO),hb ps B T d,`uI S nm,Km.M4,`JD 0 `JE,I.th,`i2 `eU,A.bg,W.wb,l.drop,st N `re l l2 `h4 `u5 `du `du .un .un .un,(J8 u5),(z90 v7),T.b_list,N5.nd,(λb ds q h=>u90 `r h),bindArgs,`gz->`eO,0,λ_ _ x=>x,λ_=>`d,`aL HO,`ah (`ale),Loc `m_ x,`Sd∨`Fh,`bJ vs us,(`Sm (`a e) pos),`t e,`gJ k X.A,`m8 [ov] (`FS ov m pl),List.getElem?_replicate,r.get,V->`a5->`a5->`FD,`ah (Str×`f),`cf hx,(`cN),(`av).map,`a `Gr,`cP<=`R,(y==`ld)=`p,r.live,∀cl s H ex,PFD `pX ifs gt,X.N=N,(hN▸ok),yi0 ks q,p.1=k,decide_eq_true_eq,λj=>`anU,updateSeq,`zm<=`R,`ah (`UQ),`a (.ok (.nx δ')),`zB c,(ha.go `O `L δ),`Vn=`Vo,(`gh).bind,R9.mpr,AtN K H B σ δ i a ns as sos,env.bad,`s9 `bj,trs ds,(gc (`t6)),(tupI `aqb),(V3 (Z8 (gc (`c4)))),.text w,`z7 k `Wx,.bl sm,cs≠[],Gw.qb0,s∈`aM,List.length_modify,Res.nx,(2000:Nat)<=`R,[`bY,`eZ,`Ax],B.Nodup,x<`aD,List.count_cons,.ok d b',.sh N,(n6 X8 Z1 `aO j5),T.b_range,(v5 `g' u5),(`ei 27 5),(`EW::tl).contains,nsIn,`sw K `a_ c,`a (`xR),(`ak2),"function",rest.length,`gB b,.done,`bf+1,`a! `sA,(`sF),Sum.inr,by simpa using h1,H dx,`jv<=`R,(a==`E9)=`p,(J6 P w),xs.map,`ip=`ap,H p.1,"range",(`eT),`fd x,.cell,X.ex,(`bL),`a p.2,X.pn++`i,Heap.SameBut,
`b! es `w,`bI `d,λb o e=>`pF,I1.hok.fresh,(hi - lo).toNat,((0:Nat):Int),`p=`c,.bl k,`U+1,v=`x,scope.names.lookup,List.getElem?_append_right,`z t,(i:Int),Str.ofString,B3 _ q,s3.heap.objs.size,"len",`jE<=`R,V.int,(`amv),caps.length,σ[j]?,`aL (`n),(`gb),(`jz),(`ch),(`eu).bind,f d δ,gi δ,`u #[⟨c⟩],H a=`ap,`gN=`ay,(`Tr s),(`GH),`GJ s2,en.grow,(`GO),Sl.un,`df g,(`ane),`a (.rt d),"isinstance",.ow d,DGet,[e,f],env.at,Pd.imp,`aY `ez `w,(`tH),IsPair,D3 ?_,xs.size,(`a! `f7),h1.objs.size,(H 0 `r),H a=`d,Inv X `i σ H `hv,λx c e=>?_,.val,(.xd [(`c5,`d7)]),forIn,(by rw[`bM];lia),`zB a,`a so,But p H H',en.mutB,(`hL H `ev),`z L,at'.w.hd,at'.bad,(`eQ),(n+k),(`z S),`u "",(gv 8),`g 2,(oA `eb T8),(z7 `g_ v6),(gc (`zS)),(ob `qI),"name","waiting","unended",.sh (`j_),(by rfl),Z6 ?_,`u O8,nmF N w a k,`u (`aE (`qU)),`u `z8,`o (`aq1 `u),.sh (`Ah),S.spelled,`arg `Am,`aE n,`u (`aE `um),`ark `qZ,`g `qt,(`W2),w::ws,wa0 `F u9 `bd=`c,.sh (`n7),wd w,rq0 S kd n,.sh (`d7),.root,Z6 (V7 (R6 rfl)),w=`nZ,(c:Int),n.length,(L:Int),left,(`Jj),S.spelled.length,named,s.length,cnt p,[p.d],(V9 rfl),(kt T),pd `uN,(kb B),ix B j,.sh `x,W.length,hw.its,`fv hd,W6 `hV,S1.ends,`X _,(`j?),[`AO],K22.sub_len,(lkv `h2),`B (`Yf),L++[c],(·<=·),nd cs,(`Yi),xs.drop,(v5 `fH u5),[`Wk],(W9 `aO v7),zn0.nd,[`j5, `qD],J1.nd,"open_parts","whole",(z8 8),"hold",[`c9, `IC],C_Reader_hold,(top 54),OsState,oe.data=`xU,b≠x,sizeLine_eq,typeLookup_type,builtinLookup_eq_fast,`aq _ t,`ah (κ×`G),`z c,b∉`it,s.gens,`fe x c e,frs `gE,(`pB .And (`Sj) pos),(`pB .And `aly pos),p.isList,`x! `bj (`FB),(∀b∈fp,`m2),`G->`St,PE X b tb,Bool.eq_iff_iff,.NotIn,OpR X (`d2 op) r,NoAttr K C f,Cls X.K C,PE X o ta,PA X es t,`W `aR X.w X.K `bz `cH CX k f fd ps sp,qj0 CX X E,F.run,λr s' hq=>?_,PA X `gK t,List.length_replicate,ws.length,eq_of_beq,xs=[],i<`ay,.bl a,n<=`R,(`pR),λx hx=>h x `pU,λ_ _ h'=>h'.elim,(`de).bind,`a `tk,`bR<=`R,(`to).bind,∀a,`p3->B a,h.at',`Sf hl,#[x,en,e1,`am7],oe0 _,PDA X es gA,L2.PI.imp,List.drop_length,PDF X e g,
(λcl s H ex pins s' σ H v u Q I r #[B,d,δ,h]=>hg cl s _ ex B d δ `i s' σ H v u Q I r h),"bool",Decidable,by assumption,`gJ m X.A,(`ey).map,deq x y,`bR=n,KT H kvs xs,.dK [],`V hf,λq hq=>?_,Bool.false_xor,q1.to,zf0 0 n,D->`T,Builtin.List.listSameRef,`Hn l1 xs,`Hn l2 ys,st.hTI,`hC=`zm,(`UX),hs.extBut,`iI ds=`c,n.natAbs.log2<1920,(`akV),(`HR),(A4 q),j<=`bR,c1 x `anJ,Vis `m_ y,(y==`Si)=`p,(ha.go B δ),at'.dp,(`qy).bind,(`zF).bind,en.setN,`gJ n X.A,`Ta=`qB,[`zV, `Wf],(N8 1 `nU),(m30 1),[`c9, `l2],U3 rfl `n0,p.all,`Af hj,(t:Int),k<`dS,(ww0 S),g `aN,S1.wait,`hT<100000,O4 (by rw[c];rfl),(by rw[`q4];rfl),J0 (ds:=[]) rfl (s30 S),[`bY,s1,`ef],[`bY,`g7,.un],[`bY,`g7,`Az],[`bY,`ef,`q?],Q3 rfl `Jn,[`bY,`g7,`Xz],(1000000:Nat)<=`R,λd hd=>?_,Pn.put,`bZ<=60,Bw.fw0,nB B d,`WT=0,{ S with digits:=`asw,count:=c },α->α,(∀j∈B,`h3),ih B T hm hn hB J,I.tnd,I.tin,wr++`i1,(`X8),`a (.ex c n δ'),.ex c n b',(zp0 `h5 `e0),(vt0 0 `kp j5),[`Ku],"taken","give",(`ei 27 0),(`ei 27 1),"end_parts","takes",(`ei 27 2),(`ei 27 3),(`ei 27 4),(`ei 27 6),"takes_digit","takes_letter","takes_name_number","takes_sign",(`ei 27 7),"goes_on","takes_head",(`ei 27 8),(`ei 27 9),"takes_part",(`ei 27 10),(`ei 27 11),(`ei 27 12),(`ei 27 13),(`ei 27 14),"takes_known_name",(`ei 27 15),"names_here",(`ei 27 16),(`ei 27 17),(`z W),cd.mro,`a `bu,model,`a oe,`k8 vs,vs[1]?,F a b,b≠e,λz=>z,sc.names.lookup,I.base.keep,I.base.free,I.base.slot,I.base.there,(λ_ q=>q),(`R3),σ.set,(`x5 i `sV),AllBare,.Compare,ok.kind,h.IsListIter,I1.fpOk,(b,o),again,V->`FD,(`RU),2 ^ 64,[x,y],`a (`Sy),`gC `SA,Str.empty,Inv X `i σ H s',Binds,(us++ds),callWith,A.deeper,`FW `eq `dd `U f cd,(`aV `nd `gK [] pos),(ha pos `i s σ H _ I h),IsPart,IsTup,(1:Int),`iz `ay 0 lo,atI xs i,`o ys,(`yv),h'.objs.size,.dK kvs,(`z fa),(`F?),callerA,(`no `te),Value.bool,(`amv).In,cl.lookup,NameKind.cell,T.obj,X.env.kindOf x,(`amI).names.lookup x,(`a `Go),`aL Res,D->`d5,`a (`Gs),t=`c,Gb δ,(`Tm),SqL' K H B a xs,Rp K H B d x,`t ks,List.zip,`a (`nx),
∀a,B a->`nw,(`am5),λv2 H2 s2 r2=>?_,w.oth,B b/\¬`L b,`jS `es,(T4 n `cM gi f gt ge),G `GU,V.str,(`TX),([]:`amr).length,(if ([]:`amr).isEmpty then 0 else 1),λv H1 s1 r1=>?_,`yj K fd ps [],yi0 ks k,gl δ,gh δ,q::qs,Gr.own,Pd.impI,en.frz,en.mut,O.length,(`en),Builtin.List.listExtendWith,(E7 _ _ (A9 hb)).trans,`fb->`pu,O.extBut,pyNext,ys.size,min `tL `zl,(v00 H l),(`aow),(s1.mono g2).to,(`Uh hp),s.heap.FunFrames,RawAt,I1.kIn,(`aoN),`cj X.K `O `L H σ δ,(`Vb (`sX) W),"BaseException.__getattribute__",List.range',(`fx),(`jF),sub.lookup,other,hb.go,`y (`b1::ns),gv δ,env.atN,at'.w.len,(`apw),`E7<1000,nm++[f],(`Ui),subscripted,(gc (`In)),(gN 1),`g 4,(o2 `ac `g0 d7),(o2 `ac `g0 m7),`u `It,"record",putAt,"_law_value_here",(gc (`lZ)),(o2 `j7 `zW eqD),(z7 `qJ v6),"part","number","kind","0123456789abcdefghijklmnopqrstuvwxyz"," 0123456789abcdefghijklmnopqrstuvwxyz",Str×D,.table,`lU pr,`aE l,S.begun.modify,(`z6),(`f'),(a++b),(`dK),X7 `ue,Y6 rfl,`cw*`cw,names.map,[`eZ,s1,`ka,`n1,s4,`qW,`WK,`n2,`WL],List.length,C1.mp,bk k' cs sm m `aM,`o vs,vs.getD j `x,.sh (`uk),.sh (`g `qS),.sh (`g f),(W5 S),`u (b8 w),nodes,`Ao S,(`kb:Int),`ari `W0,(`Ap),ok.un,(`An),`o (`ari `arj),`l4 (`W!),.sh (`Jb),`g6+1,.sh (`Jf),`u (`Xn),.sh (`AA),`iR xs,`dx `Jl,W5 S k,`g `s!,`y `arT,fold z,.sh (`Jx c ps).d,A6.mpr,`cf h,j∉B,(kt T).length,Bw.web,`AN ps,W.reverse,its `oe,p.vals.map,`JD k `JE,L.map,L.length,List.length_tail,`kb<=100,λd m=>hd d (A7 _ m),(`XY),pre++d::`a3,`XZ `h0,`q6 `bZ,(W0 `Ww),p.vals.length,`u q.1,`o `J',(`X'),((`rk).map f),λk=>(`XR).d,(`If s3),isBool,(cnt:Int),`g `A',`g `W_,[`bY,`Yg,`go,`Kf,.un,.un],`bG rfl,`AN q,(d - c),(`arF),(.sh (`g `Kj)),cs.getD,(v5 j5 u5),"_law_next",(Z4 `oo v7),"_law_reader",(`cL x x (V4 st) `pT `jH `af kV doc pm an cdv ct),(`a2)->`mS,`Q->`mS,checkBuiltinCall,h.Ns `a_ mg,λc hc=>?_,Bool.or_false,`V `r,oe.cls,`fa->`pu,(λfin s'=>match fin with|`sD f=>R (.ok f) s'|.again c'=>c'.quiet=`c/\`f_ `ag A c' R s'),(λe s'=>R (.error e) s'),o.slots,(`ak8),`aq r ih,`px φ,
by rw[m5 (V5 q hn)];exact q,b∉ex,P4.mp,base.Ns `a_ mg,X.base.get? b=`ap,`Fd=`mZ,`U<=a,b∉ch,`x2 b o e hx,`Sb b ps e,N.Nodup,Q () s',`M->`iw,spliced,PT X a tA,(`pB .Or (`Sj) pos),(`pB .Or `aly pos),(`Sk .Not a pos),(st::`a3),(ho `i s σ H _ I h),PassesOwn `am X.A `w `aH,λh' eb=>#[rfl,`Fx (t':=`bf) (λb o hb e=>eb b o hb e) f0 f1 f3 f4 f5],I1.list,[`f8],(hi `i s σ H _ I h),V->`yb,x=`bi,(`li .Add),"max","min","ord",`V hk,`E8 m=`d,`al q,H1 a=`nb,`gJ k A,(`pJ us),#[us,[]],bindL,bindC,N.length,`bE f,(`ST),y=`pL,xs≠[],pw0 b,(`lg a b pos),r'.length,(by simp only[`bM]<;>lia),(`b?),H l=`F!,IntsAre vs ns,`fg<=n,#[t,rfl],oq0 `nn H,`ai N ps `jH,`np+1<`lr,x.cps.size,`al hc,noteFrame,s2.heap.objs.size,by subst O;rfl,`y _,gt δ',Ds->`amQ,[`ci],by simpa using hj,∀o,`tq->H' a=`ap,`s ks,v=`bi,`cQ `Gx ds,`ah `dI,h.ins,(RpL.toO rfl h),`GD=`jJ,`am1 `TA,∀v H',`bb->`am3,f ds=`bw,(o2 ga gb f),Op2 X.K r f,PTD X a gt,PD X `yo `GL,(`ly),(`lz),PGD X tg idx f,(.If c as bs pos),i<`cP,#[v,e,`ty],hf ds d h,y::ys,PDA X [e] gA,(`ey).bind,`n->`M,k<`ft,(j3 ..),`d9 hx,q80 e,o.isSome,H b=`a (`y (k.map kV)),H a=`S1,`jv<`R,ly0 `bg e,(nt0 ry),gn0 `bg e,`ah (TE×TE),`ah (`jU),`cb=`anE,m5 `E,`lc n2,EnvV K `O `L H σ δ d v,Nat.mul_comm,#[q1,q2],not_or,IsZ `ar z TI TO a f,`Fk=`a oa,`nh `gU `f7,st.h1,st.h2,lo<=z/\lo<=TO/\lo<=i1/\lo<=i2,by rw[`Z,`c7];lia,`hC=(xs.zip ys).length,H t=`d,A1 (D7 he hd q ?_),(`z Wc),`a (`nu sub),J.at e',vd0.mp rl,∀x,B x->B' x,A4 e3,`g p,`aY `Vu `w,oz0 ns d,J.w.back,(`nQ).bind,PN X i o go,ClsN X.K c F,f∈F,hc.ok C hC,s20 nk,`o `H!,w.opAt,`fv q,env.free,`VW ns ps,gP δ,PTX X a gt,l5.mp,sm0 ds,List.filterMap_cons_some,[`qF, "_law_small"],(ob `Ix),[`ua, `IA],`nY c ps,c∈`II,[`qQ,`ud,`IK],.ow (z9 p `iS),[s0,`ud,`IK],l.take,O4 `ue,[`WD,.sh `tk],zf0 0 `dM,`V `k,[`tx],`d9 hp,(Y4 rfl),[`fA,`Ak,`Al,.un],`o (`un),List.map_singleton,(.ow (z9 p (N0 b u))::δ),[`bY,`uv,`cc,.un],Z6 (V7 (J0 `g5 h)),w=`uz∨`iY,`uB∨w=`mT,U3 rfl `q',[`g7,s1,`Xj],`G4 α,List.drop_left,
{ S with spelled:=w,names:=`Xt },((n%128:Nat):Int),n<`Jt,List.flatMap_cons,`y [_,`f'],(kb B).length,nW ps B W d,hb ps B T `kj,Runs.one,by rcases hv with rfl|rfl<;>decide,{ S2 with count:=c },`hT<90000,ws.count `cm,(`asz),lkd i,h.pre,w.cps.toList.length,(`X1).begun.length,`y `X7,`N h (by simp[deq]),(CXE P w),Ds->`aL (DXB×Ds),(V0 (gc `tk)),.sh (`o (l2.map `g)),(n6 X8 Z1 (Z4 `aO v7) v7),q50.nd,PDF.pd,"_law_value",[`lY, `Iv],"_law_word","_law_part",zd0.nd,[`Bk],"_law_refused",[`Bk, `atx, `on, `Yx],"_law_stands",PWX.pt,[`c9, "some"],[`c9, `z_],FnT P w K mg `l `F `vd 1 `ve u9 W7,[`c9, `z0, `Wr],[`c9, `atA],`e! C,(`akU),cd.ns,`z f,`z x,(`iq),"__setattr__","dict",#[hh,gg,dd,tt,oo],"__class__",Value.str,κ×V,fs.length,fs.lookup,sysModules,SubOk,H b=`k',H b=`hr,`a o',k b u q,"__name__",σ[i]?,b∈`sU,`R9=`ap,I.ok.above,`Sc x=`la,X.env.scope.kind,(`ds hi).1,`dm a,λb o e hx=>?_,I.base.frzs,isTrue,behindInMarks,standAt,its.size,its.toList,.Expr,e::es,setItem,qp0 X `i H b,`ay<=i,I.turned,I.list_inj,by simp;lia,I1.kept,`s1 `bj,(`p,`Ss),Hp->VK->Prop,Sem `G,`g (i+j),r x y H Q,[`bi,`f'],I.kept,(k,x)::r,(k,v),∃t,u=`RV i t,getAttr,(`Sh),I1.laid,sp vs H Q E,r.append,F.len,getMethod,(`SI pos `SJ),`pK `bj,V.ref,envOfC,(`du N vs),(`bo id),sIx `d3 0 lo,(`z sl),`amj _,lj0 xs lo hi,(`FU),(xs++ys),xs[j]?,[`jF],(`pO),`y ys,(`F7),(`yy),a::b::r,`a `m9,`gA `c,`a `yz,s₁.heap.get?,`x7 s'.gens,BindsTo,`a (`ir o `m9),`s8 y,env.cells.lookup,(n,k),`alp x,ForInStep.yield,target,.ListComp,`S->`iw,{ cls:=`en,data:=`b7 ([]:`K).toArray },(`amP),`bI `c,`ah DL.D,(`ci),.nx δ,zl0 n `cM δ,ge δ',`a `ba,SqT' K H B a xs,(`yT),r.same,`yU ns xs,λ_ _ z=>z,sos.length,(a:Int),l[i]?,(SlR K H B),`a (`Ty),Same.refl,by rw[j6],(`am6),r1.same,k H' s,(oA gA f),λi H2 g2 hi=>?_,rs.length,`GG _,by rw[`GN];exact hi,(hi B δ),if `y_ then `d else H1 b,en.same.nf,s1.nf,(S7 N ds),isL d=`p,u=`gD,`bh Tn p2,k _ H `dO ?_,rr.length,`d0 pos (`hE),(λx=>!x.1),(`SI `ca `SJ).all (λx=>x.1.isSome),λvs H2 s2 r2=>?_,xg0 d,DecidableEq,
gw0 i δ,`qd=k,valueAt,kvs.map,atKey,ks.map kV,(by rw[e];exact `ll),dd.typeIs,λb z=>?_,#[a,rfl,hb,r],(`pL),b≠p,λa z=>z.1,(`t hx),Rp X.K H B d x,SeqAt.EqAt,(`nB).trans,(z7 g v6),(`z I),(`tu),(`Uj s1),s.heap.IsList,c≠z,xs[k1]?,Around.under_plainId,·.push,hG.above,(`qp).toArray,Prod.fst,(t,HO.tup `zo)::G5 as `aox,(`y `ye),PySem.Str,A.frames,g.objs.size,·.setIfInBounds,Q () `hv,(`R? b xs e),y.length,(`Sa),(`R!),(`p6),(`p7),dx≠e,`sJ=`d,`bO X.K `a_ c=`sy,X.hand,(`bh x p0),`bh y px,Gr.but,gk δ,xg0 dk,λ_=>`b',L2.closed,OpenOk,`a so.ho,I.closed c,us.take,.ow (z9 p b'),(λa=>if a=p then `d else H a),`bR+1,ev.same,rv.mono,sos.set k so',(`jX),`apd f1 f2,λv1 H1 s1 r1=>?_,(`qw rx),w.all,"append",J.w.hd,q2 f hf,nm.map,(`H' `u),"pop",i≠j,`dQ=`a ns,E6.mpr,(`VQ),ns++[`pV],s2.trans,`Tl (`V_),(`zD `O `L q.2),(`hL H3 `ev),(`qk (λ_=>(⟨⟩:`aJ))),(L,`V4 (`apC))::G5 as' `aox,l.filterMap,(`fz),`g 36,(gv 7),(gc (`g 10)),(gc (`V9)),(o2 `ac `nT m7),"text","row","table","_law_size",isTup,(o2 `j7 `t! eqD),(z7 `an `eB),"value","told",[`Is, `It, `Iu, `zT],"item",(gc (`u `Iz)),(zc0 0 `qL),(plN `aqS),(`g 255),(oA (z7 `j7 `zY) O2),nameS.cps.toList,`a `f6,.sh (`n_),b.length,(gc `z9),λc=>[c],(z/(`cw+1)+`Ab),(`jG),w.take,`g N,(`aq?),`g `GC,(by simp only[`Y,`fy];lia),.sh (`g (z/4%4)),z/4%5,(st:Int),`WQ+`cw*`IX,pool.getD,(k+1+n),.ow (z9 p (bk `I_ cs sm m `aM)),`n4 - 1,.sh (`WP),`y (`z5),(`ae rfl `g5),(by show 2<=`R;lia),z/300,`lU Pt.d,(`g6:Int),`g `WU,E3.mpr,`dT++[(kd,[])],await,(`Aw),`g (N/4),b<=255,(`dx `arD),`g `uC,`u (`aE [b]),`l4 (W6 [b]),`Wz n,l6.mpr,`um++[b],(`a 2),λc=>W6 [c],codes,(V9 ?_),V9 (K1 ?_),Held q,`l4 `n!,n/128,2 ^ m,2 ^ 2600,[`iN],[`eg],4*`uK+`fE,Pt.rcd,(`i_).length,.sh (`XD ps).d,`gk c,ix T s,(2*`uJ+1),ps.getD,(.row []),(`s s),(`uO),.sh `JG,(`kh),.sh `JI,(`g x),[`AG,`kh],rel π p,`lU λp=>(p.1,lkv π p.2),(`y `ar2),(l++[d]),ok.few,count_tail,q.2.length,λ(k:Nat)=>`eX,ih h `AX,B'.length,(n+f),(`rh J).2,(n2+f),(nT T `gn),its (`ri),[lkd 0],(`fE),(`uK),`W9 `J1 `J2,pw `aD,
t.cps.toList,(W.ok p hp),W.wb.it p hp,`gk q.1,`i2 `bK,(nd L),tgs `asZ,tgs ds,`o (`i2 λq=>`A3),[(`p,`aY ae `w)],EndBX,`z ea,`g `mb,.sh due,(`u2),nd `Kg,`o (`Kh),(d:Int),[`o l],(`rn c).take `Bd,`Bg `mc 0,(M5 v7),"is_new","number_bytes","sign_bytes",(oh0 v7 v7),"_law_cell_at",(W9 `bl v7),"_law_web_here","_law_values",[`aqc],[`i3],"made_part",[`z0, "held"],"sign_of","is_left",C5 X9 G9 a9,F9.kp,F9.binds,(h.trans hl),beq_iff_eq.mp,X _ _ ho,beq_self_eq_true,Fin->`eO,E9 hC ?_,(`mW),#[rfl,?_],1<vs.size,`a cd,`u `cF tk,A1 `E0,dx≠x,`gC `RT,y.cls=`sF,(`xS P W),(`u x t),by simp at e,L2.SubO,`k9=`eQ,o.dict=`d,entryOfKey,∃o,`sO,∀b xs,`E?->`alj,∀b u,`R1,`a ob,Un.kept,`gE=`w::`py,I.ok.bs b o e,List.filterMap_cons,A7 _ hb,(U b o e hx),(`x_ b o e n hb hx),`x1 b o e n hb hx,id `dr,I.step,s.drawn,(`iv),λb u e=>?_,∀b u,`alt,`Sf hiσ,`gA b,x=.bl c,c=`c,`bE a=`ap,Array.length_toList,It->`iw,(by simpa using hu),λb hb=>(`pE).1,`FA (t':=`Sq) `s0,#[_,`f0,rfl,rfl],`b! [a] `w=[`FC],r xs H Q,Int->Int->V,Operator,(tOp r ta tb),0<j/\`alL,(`li .Mult),W.hasDictIn K C=`c,[(f,v)],`al hk,(show `b' from r).elim,H a=`nb,`al4=`b8,`cg K `eP=`c,`V q,A.depth,`SE (`bo `SF #[`em::us,kw]),sc.names,Str->`aL `al',((p,w)::`SL),by simpa using h2,`t h,`ga `al?,ws.toArray,if v<0 then (v+`dM).toNat else min v.toNat n,((`amc:Nat):Int),s.heap.IsSliceOf sl vl vu `af,`yq vl lo,`yq vu hi,Subscript_,by rw[J];exact hw,q _ `F2,IsTupN.new _ _,r1.append r2,`aL Nat,`a j,x=`gL,SqL K H p xs,P3 `k,`N (show `s4 from fx) B6,xs.all un0=`c,(λw hw=>uq0 rx fx r fs w `SY),#[`bN,H,I,rfl,?_],show its.toArray.any `pN=its.any `pN by simp,oi0 r fs,`er<=`R,xs.reverse,List.foldl_cons,Builtin.List.listTooLong,x=`pO,rv.one,l.most=`pP,(λv _=>v=`c4),`yD `c,`cL x `eq (V4 st) `pT `jH `af kV doc pm an cdv ct,hr.units,`dw H1 H2,{ s with heap:=h',toks:=`sE },v=`b1,`s h,List.forIn_cons,by rw[← hs3],#[?_,?_],`gH `nr `yK `Tg `w=`Gp,`a `tl,(`aX i `tj),`a (.ct δ'),`a (.bk δ'),`aL Sl,`n->`ti,(`aB).length,v8 G1 G2 δ,`to=`Gv,xs.getD,g _ _ n h,
.dK `yQ,by unfold Rp at h ⊢;exact h,by unfold Rp;rfl,by conv=>lhs;unfold Rp,#[x,rfl,h1],`Gy s,`hB K H B as n so,`hC=`GB,(RpG.toO rfl h),od=`p6,SlR K H B o s,h.same,`nz j k a ds es h1 h2 h3 h4,∀σ H Q,t' σ H Q->`nA,k _ H `dO `GI,FnR X.K r f,Rps K H B ds vs,`dw `O H,`jQ=`ew,o70 (i:=i) hN hi hx hf,sg0 `i s σ H D I (k σ H en),T7 (h1 `O `L δ) z50 `i s σ H D I `TI,PTD X c gt,#[r,`tv s',e1,k],`anc hlt,`iD hlt,k H `dO,en.bad,(`Tr s2),fun σ H Q=>∃B δ,tDT X.K B δ gt σ H Q,fun σ H Q=>∃B δ,tD X.K B δ ge σ H Q,(λcl s H ex pins s' σ H Q I #[B,δ,h]=>he cl s _ ex B δ `i s' σ H Q I h),Fun K x `eq st fa fd,λK d=>by cases d<;>kernel_rfl,(show `GW from ru),λ_ _ _ _=>`GH,(`o (xs++zs)),λ_ _ _ _=>`am5,`B ([e].length+`y5+`y6<30),(`G3).bind,qy0 ds,v10 xs ys,List.nodup_append,(kvs.any `T4),(`lC),Rd H a `S2,(show u=`e! b from ry),(v0 hu),(l30 `bg eb),(`T9).isSome_eq,h _ `qe,PE X o td,keys.length,e.at hi,`hI e2,#[_,hi],#[_,h],`N rfl n3,`t `anJ,#[B,`anm,`ann,e],`al hf,[`anL],.of_wp,#[_,rfl,h],its.toArray.isEmpty,`B (([e]:`bA).length+`y5+`y6<30),(`jV).mut,"extend",jl0 z n,2 ^ 40,(`Ul),`nE ds n=`c,Rps X.K H B ds xs,Bool.true_xor,k6.mp hn.symm,hz.2.1,(he B δ),dxs.length,Int.zero_add,(`a! `Ut),(hT 0 _ st),`a `Uv,(λ_=>⟨⟩),by simp[hh],(`Fq:Int) - 1,Heap.size_push,(wf0 rr).2 hl,yi0 pr.1 q,#[rfl,λe u he ru=>?_],`tJ `ar TI `UB `UC,`aoa i1 l1 k1,`aoa i2 l2 k2,(∀c o,`Ho->`aod),A1 (`UG),`q `ag A (`zk `gU) Q E s,ZLow z TI TO i1 i2 l1 l2 S,st.hl1,st.hl2,∃f0,IsZip `ar z TI TO f0,(`qk (`Hr `lI)),(`qk `UN),hl p hp,by simp[G5] at h,t∉as,(`UW).symm,(`lJ elts x1 tpos),nd.keep,nd.slot,∃o,`U4,Gl X cn,(cn==`ld)=`p,(`x5 i o),(λd z=>nomatch z),`Vc h a o C od,findObj K C od f=`a (`d? v),ys[m]?=`fc,y'::ys,m<`er,"index",[`HN],But a H H',"setdefault",(`HP).bind,(`tW).isSome=`c,`zC b _ q `dy `dy,c.root,h.go `O `L δ `i s σ H D I `TI,`s9 `k,uy0 hj h1,λd=>d,Env X.K H' B σ `apa,by unfold RpN at h;unfold Rp;exact h,by unfold Rp at h;unfold RpN;exact h,(`GA),k<`GB,b∉as,PN X i e g,
`qx `H5,(U9 (ho.go B δ)),#[d,a,ns,as,sos,env,e2,at',`H4],`apf r1 e6 hnode,(λ_ _ _ z=>nomatch z),`yl pos f `f? (`G_) `FT,um0 fs ds f,`apg::_,`zG e3,(λ_ _ _ _=>rfl),x9.mpr,`iI es=`c,decide_eq_true_iff,w.back,(U9 `lH),w.openOk,`fv hy,k=`hC,`ga hk',b∈`lQ,`ep hb,(`o (es++`qA)),k9 (A4 ec),∀cl s H ex,PX `pX elt gx,`ah (D×D),c.other,(`apx),`Tj `te,List.filterMap_cons_none,zv0 its l u c,(V0 `bk),(o2 `an `gZ d7),(ob (o2 `V7 `bk eqD)),(yn0 (ob `apX)),(Z7 `bV (o2 `ap0 `ap1 ixD)),(Q7 (oA `zY wu0)),(j8 (v40 1 (oA `eb wu0))),(ob (o2 `az `bk gtD)),(j8 (z60 1 (o2 `j9 (o2 `az `j9 m7) d8))),(Z7 `bV (o2 `az `j9 d7)),[`z0],[`z0, `Wr],["held"],.text _,O8.cps.toList.getD,`ey=`a (d,δ'),(`j!:Int),ue0 _ _ `k,10 ^ 60,Vk v m,Z3 (T9 `g2),`bG h1,Z6 (V7 (R6 ?_)),`aE sep,[`j?,`WH,`c'],`eC=8,t8 ?_ rfl,(by rw[cl];lia),z/52%3,np=13∨np=53,by rw[s00];lia,[`I0,`c',`cc,`ul,.un,.un,.un],[`I0,`c',`cc,`ul,`Aj,`I2,.sh (`I3)],`al `k,List.drop_of_length_le,`g `q_,`g `Aq,`W5 _ _,List.dropLast_concat,`y [`n7,O5 (`dS+5)],`hU<=1000,[.sh (`l0),`cc],(qz0 p S _),Z3 (T9 rfl),[`arz,`eZ,`Ax],show (`Wn : Str)=b8 `uz from rfl,[`bY,`uy],`Xa+b%128,DL.liftT,`g (`Xa+b),[`bY,`ef,`Xc],y90 `iX=_,`gm=0,0<=b/\`Jc,{ S with count:=`Ay },S1.wait.count `cm<=S1.un.length,`br S l S',y70 `bV SB `Jd δ',`cf hm,Nat.pow_succ,sub_len',b∈Q4,[.sh (`l0),.sh (`o `kd)],`a ((1:Nat):Int),V9 (K1 rfl),(`Jr),((r/128:Nat):Int),(100000:Nat)<=`R,.sh p.d,.sh (Pt.row vs).d,`aD<=20,N4.mpr rfl,ix l a,(`ar4),k∈ks,ix ks k,by injection e,if `l7 then bs `ar7 else bs `JC++sg s,(`JD `ix `JE),(`t `cw),kb_mem B j,`b9 `hZ,`kg<=100000,[`oa,`JH],pn0 _ `ob,`a (`a7 _)=_,[`cn,`od,`JJ,`JH,.un],(`ast),(`JM),hq.vals,((N%128:Nat):Int),Bw.fold z,(N9.mp z).2,y8.mp z,(N9.mp hl).2,(`XT),`asB k f,S1.begun,(∀d∈ds,`oh),show n+1+f=`JW+1 by lia,hw.len,h d B0,Km.od0,`fE≠0,(`J4).drop `fC=_,List.drop_drop,I.held,`JS<30,(K2 I.wc),Km.ct0,(`asO).begun,`bZ+1,`ep hq,`fC<25,rs0 `J6,by show (`XZ _).length<30;rw[`P];lia,ix L j,`A2<=20,nk0 xs,(`rk).length<=20,
ns5 ps B W `uY s4,`J?++W,.sh (`as1),#[h',g,d,t',os],[`k7,`g n tk],#[q,en,e2,`as9],`z aL,(T6 0 v6 M3),[`bY,`uR,.un],`a (`c4,`i4),Mid l E S c,(`a `uC),(`a `Kj),T.b_reversed,"folded","unfolded","is_whole",b_bool,T.b_bool,(top 18),"pair_names",(M6 `rp),"is_byte","most_held","wanted_items","made_pairs",(Z0 `aC v7),(top 26),"pack","held_items","item_bytes","known_head","name_bytes","part_number","text_bytes",C_number_bytes,(top 33),(v5 `ol u5),"_law_names",(z8 7),"_law_number",(top 44),(top 46),"_law_web",(top 47),(top 48),"_law_numbered","_law_led","_law_drawn",(top 51),"_law_cuts",fI_NoPack,"object",`em::tl,`mT cd,"ValueError.__new__",`jt::cs,`xS `k6 w,`gA `p,oe.dict,"ValueError.__init__",findIn,"object.__setattr__",{ cls:=`a! `E2,data:=.dict ⟨⟩ },`g i t,Value.int,xs[i]?,`b7 `bv n,fs.map `bK,h.Ns1 dx mA,∀f,`pw (`E8 f) (mA f),b=a∨`E!,`pt=`a?->`sC=`a?,`ir ob u,λ_ _ q=>q,`a (`ir o u),.tbl ps,`a (`R5),`xZ x=`jw,X.env.cells.lookup,`a1W b,(`alq)/\∀p∈`sX,p.1≠b,`gF x c e,I.base.tups,`x0 b o e n hx,I.base.tbls,X.env.scope.names.lookup,X.fn x=`c,X.env.globals,List.getElem?_set_self,`ah L2.V,`aY e `w,("__classdict__" : Str),b::`a3,.UnaryOp,`Fq<=`R,.Return,swapsWithSole,swappedStores,(`a2r),s1.toks,{ cls:=`a! `sQ,data:=`k8 ⟨`g lo t,`g hi u,`g 1 v⟩ },`aY a `w,`G->`FE,`B (x=y),`g (if k then 1 else 0),mA `cF,W.plainGet,`a `eP,`a (`a `ak5),W.emptyDict,`ak' C `U,ys0 f v fs,RelO.some_of,A.under,"type.__call__",`b! `gK `w,`d0 pos (`sZ),backToKw,(`a3q),(`a3k),P.zip vs,E6.mp nd,b∈([]:`aS),sIx `d3 `d3 hi,`SO - `FZ,(`ami==0&&`ys==1&&(`SP)==`d3)=`c,(`a3M),`iz `ay `ay hi,λb ob q=>`ta,-`dM<=i,operate,2 ^ 63,eqV y x,(`a3C),`g `jE,SqL X.K H p ys,SqT X.K H p ys,`a `F9,(`amq),`a { cls:=`en,data:=`RX },xs.dropLast,{ cls:=`en,data:=`b7 `pQ },d.name,#[[u],[]],#[`d4,[]],by rw[q];simp,Params,l.row.toRowW,N'[n+k]?,`cM[k]?,(`th).join,NameKind.free,k==`Tc,`a `yw,s2.toks,spos.line,Sum Int Str,zk0 f gt ge `iA `ba,ys.map,`a (.nx δ2),ks.zip,`Tl xs,`tr/\`bp,Rp K H' B' d v,Rps.mono,`Tp g r,
Gr.same,as[k]?,`Ts=`jJ,Rp.mono,`no `u,sos[k]?,RpD K H B ns a,.ow ds,`a `tj,(`a4r),Rp K H' B d v,(`a4s),(`a4t),Or.inr,(`gP).same s2,h B δ,`gG σ H,#[_,en,e1,k],#[`GM,λi H2 x H3 g2 y hi=>?_,`GM],(q.mono g2).to,(C4 hi),(b1 a z),by rw[a1 b n];exact h,`cP - `es,it.yld,it.stop,(`a4k),(gN i),`ah `ani,`gJ k (`ym (`FW `eq `jH `U fa cdv)),`ank/\`GV,L2.start,`Tj `y3,`b! [`GX] `w,(g' i j),k _ H `dO `yX,L2.atI,Env X.K H B σ δ,`b! [e] `w,`ay+`er<=`R,λkv=>`B (`G6),List.find?_cons,`nG kvs k v,`a4N e,λz=>e (h1.trans z),rel.val k,h _ ?_,Pd.setR,δ[k]?,λj ds b h1 h2=>?_,(`a `dv),en.same.trans,λj k a ds es h1 h2 h3 h4=>?_,λj ds a h1 h2=>?_,∃(i:Nat) (d:D),`anI,#[v,e,`df (`iG `He)],Gr.fresh,xs++[v],rx.same,`bh y p3,`SW - 1,`fs e m=`c,`dp y w,deq d e,A.in1.units,`y `an_,λp=>`Uq,Txt.startswith,"list_reverseiterator","__length_hint__",{ cls:=`en,data:=`b7 ⟨⟩ },`aV (`bh `nI p2) [e] [] `nJ,xq0 ks q,(`a5n),s1 _ _ hx,(`a5o),(`z i1),(`z i2),c≠i1,c≠i2,`dm c=`ap,A1 (`tK),D.l2i1,`RW=`d,acc.toList=`qp,(`e! `dl),ZSt `ar z TI TO i1 i2 l1 l2 S xs ys 0,`gC `Gn,(·.pop),D4 _ 4,D4 _ 3,`f×HO,v00 H l b,(A5 q),by rw[J c `aor];exact q,`aV (`bh x2 p2) `gK [] `nJ,G5 as ps,A4 `E,by show 2<=`R;decide,λp=>`c8 `an_,`aY b `w,`a `F8,env::`b2,Obj.mapFields,setFlight,(`a6a),`Fk=`ap,(`a6g),λb ps e=>?_,λb u q=>?_,oth c _ z,`a (`d7),(`a6h),`px (`zs e C `d),`a (`U!),t D σ H,X.body,InstAt,en.all,XC.Tab,2 ^ 20,H p=`S1,q.symm.trans,(wk0 l),(A4 z).symm,`aL (D×D),us.drop,`a (r,b'),δ'[j]?,`a (`HX),`HW j++`gL::`Vl j,(`a6I),en'.same,mkB n N j G b ds,`cQ ks vs,(`HN),vo0 ds,(`am0).imp,(`a6P),ns.set,J.w.node,`t (`ape),`t #[rfl,xs,`VA],(`a6V),(`a6Z),(`a6_),`cv r=`c,(`a62),(`a64),`a (`zE,mk),.List [] lp,O5 `fg,PartAt,(`a68),`cv dk=`c,[v1,`t0],SubO.lst,sos++[`VP []],`Ic #[y0,U1],`apo b q,at'.w.all,¬B' b,`aW `lT .un,partsOf,(.ow b'),(`a7s),(`a7o),`j3 `eU,r.1=`c,#[q,en,e2,λH' J=>?_],(`a7z),(ns++[`jX]),HO.lst,(`a7F),(`a7I),(`a8b),(`a7_),`g 60,"_law_at",(`a9u),"many",(`a9Y),(`a'c),(`a'n),"_law_some",(`a9y),
"_law_order",(`a!c),(`a'R),"pair",`g 128,"signs",(`baR),(`a44),"root",(`bct),(`bcm),(`a'Q),"size",(`bcW),(`bc2),(`bdk),(`bdK),(`bdX),λp=>(p.1,p.2++[d]),[`nZ,`d?],pre.isPrefixOf,bk k cs sm m `aM,(`g3).zip,a.length,.sh (`g c),.ow `iS,[`gb,`WE],(`bF n).map,.sh (`u S),(`bez),cg ((N+`eX)%36),.ow (`o (`Ac `u)),.sh (`ui),(T6 1 v6 f),y20 `bP `WM 1 `qX `ba `iS,nm.getD,`g `IX,z/1000,z/4%21,`I6%`n4,S.digits,(`gm:Int),`u (`uo),`bY::δ,`g `I8,`g `WT,(`hT:Int),(`hU:Int),λn=>`gk (`uo),(R S'),put S k d,`dT[k]?,`q0 `aro,Gw.sb0,Want.fin,f `bd ds,`o (`ark `arl),wanted,(wd ws).reverse,`q6 `dS,`bfi+3,`WT*128,Bt.ue0 _ _ `r,.sh `Au,U8 `bd `n8,b8 `d?,S1.count,(`arC),`o `Xg,`u (`aE [c]),.sh (`Xi),`g ((36 ^ m:Nat):Int),.sh (`g `nf),`Ac `arj,`aE pre,L - `fC,words A k,names.filter,d6.mpr,{ S with spelled:=`Jj },`b3++[w],`o `dU,.sh (`Xu),[`arO,`o q.2],`y `Xw,O5 (k+5),.sh `n!,`o (M7 q),.ow (`o (o.map `g)),2 ^ 2500,Pt.table,ps.take,`WB vs,(`hY).length,(`sH s:J3),(`bfS),(`bZ:Int),.sh `JK,T++[s],.ow `JG,(o++`asj),if `eE then B else `l8,by show `kg<=_;lia,`fv hb,rel `h2 (`AS),ok.held,sp++[b],(ds++W),n1+n2+1,`rh hj,Km.pak ps 0,100000 - n,pre.map,`gk p.1,`JS<=30,xp0 S0 `bZ `J5 (`i1),`W6::ws,r.app r',D'.inv,S2.ends,(`bgy),(`q0 `g8),`u _ _,nd `AP,`o (`X9),`o (nd (`J!)),.sh (`Ka),L.take,`bh z pz,(`bhw),(gv 9),(`a `I8),cnt=`eh,.sh (`A!),.bl (`u1),`o (`u4),(`ar3),h.gd p hp,.ow `bd,(`Kl).map `g,st N w l l2 `h4 cu S' T' `Be `Bf (`atp),(`biK),`Bg j 0,"beginning",b_list,"_law_number_here","_law_signs",(top 45),[`qD, `lY],(top 50),"_law_due",(z8 9),(`bjw),(`bjx),[`qN, `Wk],[`qM, `hQ, `Yq],K4 `atB,`a! "ValueError",`a! `RI,Row h tl,List.contains_cons,typeLookup_eq,`M->`eO,isSubtype,E9 hx ?_,c.sub ?_,`a #[`akV,_,`RK,sl],sl.toList,Bool.not_eq_true',`ak0 (`ak1 X hok),Bool.not_true,Ri h C tl f,Heap.MadeExcOf h h' e `bu `a3,#[h',g,d,t,os],`mV b=`ap,`e? e=`xT,`RP=od,[`k7,v],X1 J hd `k ?_,`aL Obj,clsIn K C,cd.hasDict,`a `U,isSubtype_type,`bo "object.__class__",`ak6 `eP `sA,#[_,e,c],(`mX a:Key),(`sH a:Key),
Paired.length,`aq r _,by simp at e;subst e;exact`ak7,#[u,`sI,h2],#[_,`f0,rfl,_,rfl,rfl],`sJ=`k',`E7<=1000,`sK/\`sL/\∃vs,`k!/\`alc `sM a vs,o.ExactDict,`mY=.dict es ep,(`alf),`cG P w H h a o,∀a b,`ali,`a (`R2),`dl<=a,(x b u e).stay,Mut (H x),e=x∨H e=`a (`f1 x),∃u,`gB e=`a?,`a (`f1 y),by subst z;rw[r] at mu;exact mu,`a (`all),∃sl,`sC=`a { o with slots:=sl },∃o',`sC=`Fa,∀b o u,H b=`R4->`f2=`R4,k b ob q,λb u q _ _ _=>`Fb,λb u q _ _ _=>#[u.slots,`Fb],λb u q _=>#[u,`Fb],(upd H x o),K.In `l,builtinsNs,`alo∨`R7,X.A.frames,b∉`sU,`ah (`dq),I.ok.stk,I.stkSub,(`Fe∨`m0<=b)/\`m1/\`R',HOk `aR X.w H' h',∀b o,`Ff->`m1,λi x v e1 e2 e3=>?_,Inv X `i σ H `m4,k b o (λz=>hc (`als)) e,λ_ _ e=>e,σ'.length=`pz,λj y v' e1 e2 e3=>?_,by simpa using `c0,(`ht b (B4 (B7 `m3 `Fg))).trans,#[u',r',?_],I.ok.has,(`ht b (B4 (B7 `m3 (I.ok.cab x c U hc)))).trans,s'.os=s.os,V->`iw,Q vs H',(`a12),(`a13),#[v,H,I,r,h],wpAny_Name,(`a16),∀whole,`alx=(do let v ← whole;`Fp e.pos;`m8 [v] (truthy v)),(`a17),(`a1!),(`a1?),r.inj r',#[σ',H',`alB,q],λf s1 q=>?_,`gH e `d `jA `w=`ff,(`Fs e pos),`lf es `w,(B4 `m3),PE X o to,(`a2e),`Fp pos,`m8 `alD (`Fu ov iv v),release `alD [],`Sn [tg] e `jA `w=`ff,`So [tg] e `w=`s_,(`lf [tg] `w).map `eU=[`hx tg `w],(`a2g),qp0 X `i H' b,λx c e z=>?_,λp hp z=>?_,Nat->`mS,tn i `ar,J.go i H,(`a2j),Inv X `i σ H' s2,J.yld i H x H',J.stop i H,∀xs,`lh->`m?,`g (lo+i),#[o,e,λv z=>by rw[d] at z;cases z],rv.get hx,(`a2t),(`gC `Sr).objs.size,by simpa using q,PI X tg `jC wi,(`a2w),I7.unpinned,(f v u),Int->Int->Prop,(`a2z),0<=j/\j<=1000000/\`alM<`yd,O20 x y=`c,λi j=>.bl (`B (i<j)),λi j=>`alR,λi j=>.bl (`B (j<i)),λi j=>`alS,`N rfl h,(`R:Nat),`a od,ObjM `ar x dx C mA,`dL K `eP=`c,`alZ=`Sz,`al0=`c,show ys0 f v (`FJ)=(if k=f then `FK::r else (k,x)::`al2) from rfl,`E8 f=`bL,fk0 `bg e,I.write,`aY e env,(`a3e),PE X `fi tv,Around.under,Code.isFrame,H1 p=`d,(`a3j),∀vs H Q E,`FP->`cK=`aD,Env0 P w K mg `l A `b2 s H,e.frames,H1 dx=`d,(us++ds).length=`aD,`FQ hd,
Meth X.K C m f,n90 I1 ea c hm l ?_,`cg K `bu,`gJ `f! X.A,`al9::us,vs[i]?=`bL,`s9 `al?,`c3 K cdv `eq=`c,(`a3w),`fl X `mU r,`sS=`a `mU,#[_,J,rfl],(`a3B),Builtin.Slice.slicePlaces,tupleItemsOf_,(`a3P),{ s3 with heap:=s3.heap.push { cls:=`a! "slice",data:=`k8 ⟨vl,vu,`af⟩ } },tail_any,`y `F3,`hu ha,`V h1,`al h1,`al h0,IxR X r,SqT K H p xs,Au0.lookup,(`a3V),-(`SW:Int),`nj lo hi `d n,(if a then 1 else 0)==b,a==(if b then 1 else 0),un0 x=`c,(`bo `tc),`gB `U,h'.push,`bg p _ hk,typeOf `FY=`bI (`a! "method_descriptor"),MtR X id r,`fh o `cF `w `nm=`hw,(`a32),(`Ft).length,acc++its,(`a33),I.lstM hH,#[_,e,rfl],(`o `S4),List.length_dropLast,Nat.succ_mul,OpenLaw,d.params.defaults=[],mg `S6=`Ga,s₁.heap.Ns,`gJ k `yB,∀(s:`v) (u:`G),`Gd s fd `S7 [(x,u)],SqL K H a `yC,H b≠`d,(`a39),W.OpenLaw,.FunctionDef,x.cps[i]?,`yF y=`eo,x.2=`jx->∃c,`yF x.1=`eo,`Gh::r,λ(n,k)=>if `amF then (n,`yG) else `Gh,if (`amE&&`Gi==`jw)=`c then `yG else k,Nat->`eO,`th=`mZ,newList [],h₁.get? b=`ap,(x,`jx),(`lu).2.1,as.2.2.2.1,`a (`hx `Go `w),`ah (`Th),(`et).bind,y70 f G `ba δ,D->`ti,`a (`g (i%j)),`a (`B (i=j)),sIx `ay 0 lo,`tn=`p0,by simp[hp],`fo=`d6,by unfold v8;rw[h],T4 n `cM gi f gt ge δ,.dT `yQ,`bp->Rps K H' B' ds xs,xs++[x],by simp[m9],by rw[m9] at h;subst h;simp[m9],s _ _ e,RpNs.mono,by unfold RpN at h ⊢;exact `Tu g h,so=`c1,`df g `GA,H a=`a `amZ,(show `b' from h).elim,∀o xs,H a≠`Ge,`a5->Prop,m[i]?=`nv,l.set i a,(upd H p o),Rp K H B dx x,(`TF).bad,fun σ H Q h=>he0 hf h,#[x,en,e,λv H' s r=>?_],k _ H' s (by rw[← h,Z9]),`al hl,`t m8,(`gP).bad,fun σ H Q h=>az0 hf h,(vs++[]),∀a,`nC->NB (`O a),`O p=`d,PSD X st G,e.same.trans,λj hj=>?_,`iC s',Gr H₁ H B B,#[_,en,e2,λv H' s' r=>?_],#[xs,xs[i],`TK,by simp[`E]],rs.get (i:=i) (d:=_) `TL,y xs `TK,#[`GO,_,C4 hi,λB' gB _=>r'.mono gB],#[xs,`TK,`GP],#[_,en,e2,λvs H' s' r=>?_],i<=`cP,fun σ' H' en'=>#[δn,en',ei],hS.trans,λi j a ds es h1 _ _ _=>(us0 h1).elim,(`a4C),okT T f,J.toArray,eqS dx dy,`T0 xs i,SqL K H p ys,SqT K H p ys,`t `ex,
`s `ex,PD X o g,#[_,en,e1,`y7],mg x=`Ga/\`cg K `yz=`c/\`y8,(`qb).bind,(`qc).bind,u30 ks ds q,S6 gt G n δ',`y `nD,`nE xs n,`fs x 50=`c/\`fs y 50=`c,#[(`aW `hG x.cps).foldl `nF ⟨⟩],-(`ft)<=n,`y `anv,`hH xs lo hi,(`y').bind,(`y!).bind,{ s with toks:=`bf+knd.draws k },knd.keeps,Option.isSome_map,Rd H a `F9,upd H a (.dK (`T6)),dd.mapOf,`tD H a y o,∃q,`gB a=`qf,`ah (Key×`G),`anz<=`R,by have:=si0 kvs k v;lia,let #[q,_,_,hq,_]:=J;#[q,hq],PE X i ty,(`a4T),λkv=>(kV `qd,kv.2),RpG.mono,(`a4_),`t `lE,`s #[d,rfl,e],`iF b z,en.same.free hp,`p' j ds a h1 h2,DL.fz d,(λo h=>h),Array.size_append,by rw[`bM,`bM];lia,Bool.and_false,List.dropLast_eq_take,`t #[rfl,xs,`t `Hf],rx.length,`lf `anN `w,`jE*`hG,Int.natCast_mul,`V h3,"tuple.__mul__",`dm l=`a { cls:=`eQ,dict:=dd,data:=`anO,slots:=sl },items.isEmpty,beq_eq_false_iff_ne.mpr,(`d3:Int),`hF*`fu,by unfold deq;simp,by unfold v10;simp,List.all_map,v1.length,v2.length,`np<`lr,view I ld hx rx,view I le hy ry,by rw[in1_units];lia,`hF=`bR,by rw[`bM,← `qi,`GZ],by rw[`bM,← `anW,`ze],(`a4'),by rw[`jO,`nc];exact hz,PDO X lo gl,PDO X hi gh,(`tu).same s3,(`TF).same s3,(`a5d),ea0 r l u,[`ci,`jX],(`an0 `Ur),trees ds,tree d=`c,`V ht,∀i s,St i s->`nh `Hk `Ut,ItemsOf P acc' n,λb o hb e=>`zh e,its.reverse,(`a5i),(`gC _).objs.size,`fd `eS=`an5,`bz `eS=`d,Gl X `eS,λ_=>?_,(`Tm).map `an9,DGet.k hp,DGet.t hp hb,pr.1.length,`aX i (.ow (`cQ (`t (`an!)) `UA)),ds.all `cv,(`nM).symm,IsZ h' z TI TO a `c,`tJ h' `U x y,(`a5w),(`a5y),Y.extBut,#[_,hz,rfl],ys[i]?=`fc,`gB S=`aog,ZG xs ys S h' as,{ s with heap:=h,toks:=tk },M1 hlo.1 L.z,c9 k8 _,B90 _ _,`Hs a ha,(`a5R),"tuple.__new__",#[[`eQ,`qn],[]],call_zip_2,List.nodup_cons,G5 as (xs.zip ys),fr p hp,k b o hc e,SqL K H b ys,[z,TI,TO,i1,i2],`fd `f7=`a `tM,Gl X `f7,`bz `f7=`d,t1.length,(s2.mono g2).to,λv H3 s3 r3=>?_,Tbk ok h e v,`Hy=`a (`U0),`zr `l (`U0),env.frame=`a L,∀b,`U<=b->ok b,`qr ok (`aoD) `ar h',(`a5!),Lie ok `ar C od e,`q M A `U3 Q E s,nd.there,`pv=`d,FpW X `i H b,fh0 X `i H `ar C od e,
I1.free,(`ht b `aoI).trans,strLen_append,`bz cn,`a (`a (`bo "type.__getattribute__")),RawAt.stay,`z r::XC.bmV,[`k7,`d7],H e=`U?,(`a6q),T7 `aoV (h2.go `O `L δ') `i s σ H D I `aoW,∀d,s≠`tC,(`a6t),.ex c m,`ny `Vd hδ,∃C,`jM/\ErrG K C `c5,#[tk,rfl],List.range'_succ,(`ds hj).1,C4 `k,`iD hj,of_decide_eq_true,`lC=`d,aj0 K=`c,(all _ (wk0 lc)).1,H c=`k',#[_,e],`HS H a sub c,SubO.no_tup,`alg/\`E' `aR X.w H `ar a p.1 p.2,#[σ',_,`HV,k],`qu=`Vm,RpG K H' B b' p,(.rt r δ'),`jQ=`d6,∀p,EndB G `lL j p r b',λ_ z=>z.1,`Vs=`Vm,`a (.ow (z9 p b)),(`jV).bad,(`a6M),by unfold RpN at h;exact h,`Vv=`c,by unfold RpN;exact h,(`jL).bind,λk=>`iL,(`dQ).isSome=`c,#[ad,`a9,`lO,?_],`zG e5,`Uj s2,PD X `fi gv,`gH `fi (`a (`aph)) `jA `w=`ff,(`a6W),`nR J.w.all (i:=0) rfl,#[Z,z1,`apj],`g (n1+n2),J.w.backS,wa0 c F b.1=`c,sos[0]?=`nb,`df g l,[ke,`VJ],(`ds q1).1,(`apq `Id),b0 b hb n,by rw[xj0],`VL X.K `O `L H σ δ i j dp,∀H',`VL X.K `O `L H' σ δ' i j dp->`gG σ H',uf0 ns d,`Gl elt `apv `dd lpos,fun σ H Q=>∃B δ,tDT X.K B δ noT σ H Q,(`a7n),(`HO hB s2),#[q,en,e2,λv H' ev=>?_],`tv s1,λd=>(d,r.2),List.any_eq_true,fun δ=>`tm λr=>if `V0 then Ga r.2 else Gb r.2,PTX X c gt,ig0 (hc.go `O `L δ) (ha.go `O `L q.2) `Ih `i s σ H D I `V1,OpR X (`d2 op) rr,Op2 X.K rr f,a2 b hb n,(`a7E),`aV (`bh `f7 p2) `tE [] `nJ,sliceRange,`nj lo hi st `ay,`Il `apE,(`a8l),(`a9q),"abcdefghijklmnopqrstuvwxyz 0123456789",(`a95),(`a!a),(`a?i),(`a?k),[`zZ, "items", `Wi],mkN 1 wc0 w90,(`a?s),(`a?z),(`a?C),mkF 1 sf0 s90,(`a?0),(`a?3),(`a?8),[`z_, "out", "rest"],mkN 1 yb0 ya0,(`a??),mkN 1 yj0 w70,(`baH),mkF 1 yt0 yu0,(`baJ),mkN 1 wd0 w60,(`baM),(`bbr),(`bbs),(`bbE),(`bbH),(`bbM),(`bbS),(`bb_),(`bb!),(`bca),(`bcA),(`bcX),(`hN `a6),(`bdZ),(`bd3),(j9 mr0),(`pH:Int),`B (`hA),Pt->`n,`nY _ ps,e90 v=`c,PsOk ps,`ah (`hR),(`aW n `Wy).flatten,(a,b)::`iR r,`a `aq0,`s `c5,`s `apJ,`s `apU,`a (`g c),k<1000000,(Y4 `g2),G0 _ `k,(`aq3+3*k*k),`a `j4,(`beo),(`aq4),c∈cq0.cps.toList,λj=>`Aa,T6 i gA f δ,(`d_ p),`bG q0,`b9 q0,
(λv hv=>by cases hv),by simp[hl],`WG at',[`qQ,`cc,`WH,`c'],`bF 13,(`qU).take (if 35<k then 2 else 1),`qV s=`c,`u (`aE [`WJ]),fd0 _ `k `k,Gw.gd0 _ _ `IU,app _ _ ?_,bv0 _ `k `k,by split<;>lia,(`Ab+3),λk=>`ara,List.range_succ,`d9 hs,`a (r,δ'),`WO `fm "",PoolB np `aM,((ix j:Nat):Int),k80 P (ix j) `k (by have:=J j;lia),by rw[e],`beV=_,[`qQ,`c',`cc,.un,.un,.un,.un],(`WR).toNat,z/156%(`I1),`g `n4,(`beX),Nat.min_eq_left,List.take_nil,`aD<=60,pool.length,[`hS,`g `qS],10 ^ 30+57,`o (`n5),`g `WZ,(`uq).length,`kb<=1000,(`Ap).set,(`W4)[k]?=_,[`bY,`gb],`a `Au,`I' jt0,{ ww0 S with un:=u },by rw[hw];simp,u.length,`be?=_,`bfa=_,[`bY,`uv,s2,s3],by rw[J];rfl,(`uw).length,[`n7,`jG],[.sh (`l_),`cc],(`arv).flatten.length,List.reverse_append,List.map_reverse,`hT<=10000,n<=`arw,`dS≠60,`dR=`d?::ws,O3 (by rw[cm,`ee]),`Xd=`n6,show (`Iz : Str)=`Xe from rfl,(lm0 p S _),trs q.2=`c,`Xd=`a (`c4,R S1),S1.wait.length<100000,`bft a,[s0,s1,s2,.sh (`Xk),`Xl],.sh (`arG),`uE - `arI,[.sh (`WV),`q?,`AB],`B (`uD=L),w::`Xq λn=>`B (`uD=`eC)&&`Jh,`kb<60,(lq0 p S _),`gm<=8,`uF `b3 `gm `uG=`c,[.ow (z9 p (R `Xs)),`g7,`Az],`nj (`n') `d `Jk n,`nj (`a 1) `d `Jk n,`Jm (`AD),(kd,`dU),hd d B0,λx hx=>hd x `pU,[.sh (`l_),`Xv],`g8 (2,`dU),`g8 (3,`dU),[`bY,.un],.sh (`Xx),`b3[`arQ]?=`a nm,`uB->∃k u q,`hW/\`ke/\`Jp/\W6 nm∉M7 q,((2*b:Nat):Int),o.length,D->Prop,z.natAbs<`XC,`uJ<=`R,(`fD).length,(`uK:Int),`fv hm,(`ar1).length,sub_len,(`bfR),idx_map,`ix∈B,hb ps B T `gn,(`kg:Int),`g `s3,[`cn,`uR,`JJ,`JH,.un],[`cn,`XK,`JJ,`JH,.un],`a `ar?,d9 (ds:=`uL) rfl,if `l7 then T else `XL,.ow `JI,[a,b,c,`XM,e,`oa],(o++`rf),(16000000:Nat)<=`R,List.getLast?_concat,.ow `anK,`asu `h0,nB B `kj,trs l=`c,#[c+1,?_],{ S1 with digits:=`kf },#[`At,`JQ,`XS,ok.wait,`asx],`JR hf,ux0 th rfl,sp.length,{ `rg with count:=c },{ S with length:=`dz },`aW `bW `kc++ws,`p!∨`asC,q60 hn hj,λh hd=>`JU,if0 (hd _ B0),by rw[`fG];rfl,#[n+1,`l9,`asD],(`bgj),(`XW).2,Pk ps [0] [] (`J_) L T b1,h.range,(`J3).drop `fC,Km.q10 `h0 (fl0 π),`N rfl ht,
w.cps.toList.map,I.okS W,`bZ::`cx,(`X1).begun,qs.flatMap two,`AJ #[q,hq,rfl],(`bgA),(`bgB),(`bgC),#[M,hM],W.wb.len,S2.begun,B1.length,S2.begun.length,qs.length,Q0 `bd [],Z6 (V7 ?_),`cx=[],by simp[nob] at h1,sm0 `J',`o (nd B),ih hn hB `AX,d9 (ds:=`uZ) rfl,jc0 e2 e4,(pr0 f),PX X a gx,`HL (`as? (`a (`Kd))),∀b xs,`p9->`E?->`VU,qr0 g' hn r,(`bhR),(`bhW),sk0 G1 G2 δ,f `bd [],[`bY,.ex `i3 `Ye,.un],.ow (`Ki),x/3%(2+`mb/4),λx=>`atl,Q.length,Q++[`eh],`o (nd Q),(`Yk).ok,`cb=`a (`Yl),`g (`bW:Int),`j! - 1,(`J:j<`j!),.sh `h4,(`biN),(top 5),(top 6),(top 7),(top 17),T.b_int,(`biP),(`biQ),(top 20),(top 21),(top 22),(top 23),(top 24),(top 25),T.b_zip,(`bi1),(top 29),[`hP, `IC, `j8, `IA],(`bi2),(nz0 1),(top 30),(top 31),(`bi4),(top 32),(top 34),ah0 K mg "KINDS" `IB,(top 35),(top 36),(`bi8),(top 37),(top 39),(top 40),[`Ys, `on],(top 41),(top 42),(top 43),FnB P w K mg `l `Bi 1 `fJ 0 S8,(`bjc),t6 `Yu,[`j5, `aqa],C__law_cell_at,(`bjh),(Z4 `Kt v7),(`bji),(top 49),t6 `Yw,(o7 4 `u?),[`on, `j5],(top 52),"WebError",FnTX P w K mg `l `F `hP 3 `aP u9 Q0,(top 53),FnT P w K mg `l `F `vb 1 `aP u9 W8,(X4 G4),"Reader.__init__",(`bjr),(`bju),"Reader.give","Reader.whole","Reader.open_parts","Reader.taken","Reader.web","Reader.takes",(`bjy),"Reader.takes_digit","Reader.goes_on","Reader.takes_head",(`bjA),"Reader.takes_part","Reader.hold","Reader.end_parts","Reader.takes_sign","Reader.takes_name_number","Reader.takes_known_name","Reader.names_here","Reader.takes_letter",`bO K `a_ x=`yf,`W P9 w9 K mg b9 CX0 n f fd ps (spD K m),FnD P9 w9 K mg b9 x n ps m,`W P9 w9 K mg b9 CX0 n f fd ps (spN K m),FnN P9 w9 K mg b9 x n ps m,`f×Obj,"BaseException",lookupAlong,`a! `akS,`a! "type",excClassObj,`a (`bo n),`xQ==`RJ,!cd.hasDel,nsOkIn K `EY,.of_isNs,isNs_of_in,`z r::bmV,`a (`z r),`em::`ak2,(`bo `RS),(`E3:`v).TypeIs,#[_,rfl,r],by simpa using e,upd H a o,W.instObj,(`ak' C dx),`a `ak!,PySem.Within,`ala mA (`RY),h.DictOf,`f×`G,`hp×`ald,`a1T `sM,(p.1=a∨`sP=`k'),TabOk H h a (qOf ps),`xW->G a b,`f2=`hr,W.methodObj,
`ir ob u',m5 (hm b _ q `xY),`a1V b,`xZ x=`la,env.kindOf,∀x c,`jy->c≠b,s.heap.IsCell c v,by simp[z],`pv=`a?->`sC=`a?,z.sameBut hs (cne y c e),EP X `i σ Q,I.mod.glob.keeps I.bk,`Fn e `w whole,(a::`Sj),`mY=`b7 its n,Array.toList,I.unwish,Q σ' H',[v,ov,iv],letOwnedTupleGo,k it `ax o e,(sb.2 b hb).trans,s.heap.IsTuple a `bv,(`a2y),Int->Int,`q `am X.A (f `yc (`g j u)) Q E s,j<1073741824,i.natAbs,-(`yd)<i/\i<`yd,-(`yd)<j/\j<`yd,`g (i/j),`g (i ^ `ix),.bl (`B (i<=j)),.bl (`B (j<=i)),`B (x=`x),[op,op'],`u (i++j),(`a2P),(`a2W),W.lookIn `cF od,`cu K `bu `E1,`a3c K C,W.makesIn K C,(`yg).push (`SB),ys0 f v r,∃t,u=`E5 x t,`cu K `bu f,ys0 f y fs,`cI o f pos',(`a3m),(`a3n),`e! `iy,NameKind,cellsFrom,(`a3u),`a `FY,hc `i s1 σ H1 vs us Q I1 r1 q1,sIx n 0 lo,sIx n n hi,(`s!+`nf*1).toNat,(items.toList.drop (`FZ)).take (`SP),"__getitem__",Builtin.Tuple.tupleItemsOf,((`FZ:Nat):Int),Builtin.Tuple.tupleExact,.Slice,(`a3O),(i+n).toNat,ixN `ay i,(1:Int) > 0,∀l,H l=`d->Q `F6 (upd H l `F8),.dT kvs,`ah Keyword,`aW k xs,`a `S5,(`a37),K w.params,(`a38),H b=`ap->`f2=`ap,x.cps[i],`s8 y.1=`la,N'.length,caps.map,G3 n `cM σ,Str×`al',`Td&&env.scope.kind==`ne,(`a3!),s2.heap.push `Gn,(`lu).2.2.2.2.1,relabel `dd `w,`Fi==`ne,`yI==`jw,PG `pX tg g,PF `pX ifs tt,PE `pX elt te,(`a4j),`bh y py,`aL (`a5),ob ga δ,(·.length),sep.length,Txt.join,Rd H a `m9,H a=`a (dOb ks xs)/\dLn ks=`ay/\`bp,`p4->`bS G l m,`bO K `a_ c,(`nu `ev),`Tw=`nb,h.own b hb,List.getElem?_eq_none,`ir ob `m9,`TB->`m6,R0 (i:=i) hN hv hd hcd,by rw[Z9],by rw[X5],λv1 H1 s1 r1=>#[y,`gP,e2,`yY],by rw[Z9] at r;exact r,by rw[`jO];exact hl,λvs H1 s1 r1=>?_,`cb=`GF,(`a4u),k _ H' s' `TJ,λi ds a h1 h2=>?_,List.drop_eq_getElem_cons,by simpa using h,λa=>B a∨a=p,RpO K H' `tz d p,B a∨a=L,(`a4A),PySem.Env,(qc0 CX0 P w K mg `l N `eq `jH fa cdv A `b2 s H E).nox,`y2=`p?,`y2=`tA,λ_ z=>z,λ_ z=>`gc,(pf0 h1).elim,Txt.slice,`hF+J.toArray.size,`aX i (`tC),(ds++es),ds.dropLast,`cv x=`c,(`aW `fu xs).flatten,`G9 xs k,`a `S2,rel.length,(`T6).length,
X.A.units,(·.isSome),`b! `tE `w,`d0 `ca (`anC),`a (.ow d0),λj k b ds es h1 h2 h3 h4=>?_,ro.plain,`cb=`qg,`anH/\`jP,#[z,q],(`a43),`bh x px,`bh x p2,[`anM,`Uk],`b7 `ba n,(`aW `fu `ba).foldl `nF ⟨⟩,r1.nil_iff.mp,foldl_rep,ds.getD j `x,es.getD j `x,deq (`anS) (`anT),Rp X.K H B' e y,U.length,(`a4!),(`a5b),(`a5c),[p.1,p.2],(ds.zip es).map,`G->Prop,s'.heap.get?,`a `a5g,`gC `Uv,`a `zf,(`p,`aY (`Uw) `w),`d0 `nJ (`hE),(`a5l),λp=>if p.1=q then v else p.2,by rw[`gT,← hl,`ql];exact hz,xq0 pr.1 q,ZipApart,s.heap.IsListIter,h'.IsListIter,`gB c=`ap,`UD->`UE->`UF->`aoc,Builtin.SmallTypes.ownedTupleIsFree `gU,Builtin.SmallTypes.nextOf,`a `a5J,"list.extend.loop",hG.pairs,specialOf,(`s? `Uu),List.Pairwise.nil,ys[j]?=`fc,as[j]?=`jJ,h1.IsList,λo e=>hk _ o e,zipApart_new,(`a5Y),J b `aor,by rw[`aos];exact q,(`a1U),(`p,`aY (`UU) `w),as.map `FV,(us.zip ws),{ cls:=`eQ,data:=`b7 ⟨u,w⟩ },(`p,`UZ),(`a5f),(`a57),(·.frame),(`U0).filterMap `aoC,(`a5'),{ cls:=`a! "traceback",dict:=`d,data:=`k8 ar },D5 _ hT (i5 (X2 J _)),λb o e n hx=>?_,(up b o e),(`bo `RQ),XC.Cl h C tl,∀h:`D,X.K.In h->`aoK,`c_->`m2,`px (`zs e C `HG),(`a6n),.JoinedStr,.FormattedValue,[`bh `c9 p3,`aoP [`iJ `HH j p4,`aoQ (`bh `c5 p5) `qt `d p6] p7],`a (`U9),(`a6m),tl.contains,(`a6s),#[_,en,e1,fun σ' H' en'=>#[r,en',e,k]],o.frames,(`a4q),`u f tk,Value.builtin,`ao_ `zx,"object.__getattribute__",ys.findIdx?,λy=>`B (y=z),(`HO hb hh),SubO.ins,`ao5 C dx fs,(λa=>B a/\a≠p),(`a6H),by rw[`P];lia,λH' B' b' r'=>r'.toL,(f b.1 ds).map,(r.1,`aX i (.ow (b.2 r.2))),(`a6L),#[v,_,I'.opened o,r,k],`iD `k,J.w.opAt,`t (`H3),J.w.nodeK,`y [`iM,`p5,`ci],`cI `ez f pos',`apd `H8 Y,kk _ _ z2.s,(`a65),sh0 i `gY δ,(`a66),`gG σ' H',at'.w.own,at'.w.ins,(`lQ).zip,(D6 _ z),(`a6R),(`a7j),λ_=>`Gv,[`a7l],sos++[`VP xs],sh0 i `H2 δ,ys0 f v (nm.zip xs),(`a7B),[`a7D],h1.push `Uv,as'.map `FV,`T0 ys i,(xs[·]?),(`a7G),`SV [o,i] (`ng o i),(`a8D),(`a8N),"cells",`u `apJ,(`a8S),(`a8U),(`a8W),(`a85),(`a89),(`a8?),`g 48271,(`a9o),(`a9p),"small",`u `apU,
(`a9z),(`a9v),(`a9G),(`a9J),(`a9H),(`a9S),(`a9V),(`a98),(`a'I),"_law_pool","_law_step",(`a8P),(`a'U),(U5 `eb),(`a'Y),(`a8R),(`a'3),(`a'!),"_law_start",(`a!b),"_law_part_here",(`a!f),(`a!k),(`a!l),(`a!n),(`a!o),(`a!r),(`a!x),(`a!G),(`a!K),(`hN `g1),(`a?H),(`a?9),(vr0 `p),(`baa),(`bax),(`baB),(f60 `IB),(`baN),(`baS),(`baU),(`bbD),(`bbK),(`bbL),(`bbR),(`bbY),(`bbX),(`bbZ),(`bb'),(`bcb),(`bcc),(`bcf),(`bcn),(zc0 0 `iQ),(`bcI),(z7 `ID v6),`u `z1,(`bc8),(sl0 `an `eb s40),(`bc!),(`bdh),(`bdj),(`bdl),(`bdm),(`bdi),(z7 `IF v6),(`bdC),(`bd0),(`bd6),(`bed),`y [q.1,q.2],(.rt d δ'),pool.map,`a (`g (i*j)),c%2147483647,`no `a7,by rw[`z?];rfl,f (`Vt) ds,parts.map,(`bev),(`beB),(`beE),`IQ (k%7),`u (`aE w),`aE (`uh),`IZ (ix j) "",k'<=k+14,Gd p m `aM,S.begun.getD,`bF `dS,(`arf).map,S.un.reverse.map,S.names.map,λn=>`WV,S.wait.reverse.map,λw=>`An,(z9 p `bd),q.2++[d],λp=>`eD p.2,(`o (`arn)),(`be4),`u (b8 v),S.wait.count `cm,λ(p:`hR)=>`eD p.2,`B (a=b),`aW n [Want.name,`d?],(`bfd),(`bfe),`dS - 1 - (N/4).toNat,.ow `be2,Q6 `bd `n8,.ow (z9 p (R S1)),`dx `g,λc=>`Xi,[`g7,s1,s2],.sh (`Je),`o (`Xm),((36 ^ (`Xo):Nat):Int),(`fC:Int),F.length,m.length,`b3++[`um],zv0 xs (`n') `d `Jk,(`bfv),`u (`q2 q.1),`As[k+5]?,`kb - 1 - b,.ow `bfF,.sh (`g `kf),[`lX,`fx],(`AH:Int),`g `arU,((sg s).map `g),`o `arW,(`uJ:Int),((`Jw:Nat):Int),`g `arZ,`o ((tx p).map `g),`JA::`i_,[`lX,`AF],`g `rd,(`AK).resolve_left λz=>e `pY,`kg - 1,2*`XI,(`ar6),qw0 T s,(kk0 _ _).mpr,(`bfU),(`bfZ),(`B (`AL)),(`JB:Int),(`uQ:Int),`bf1+2,d9 (ds:=[`x,`kh]) rfl,kc0 rfl B,d9 (ds:=[`g x,`kh]) rfl,d9 (ds:=`JL) rfl,(`asc),bs (4*(4*cnt `oe+`og)+3)++tx `oe,hb ps B T `oc,if `eE then W else `AQ++W,st ps `XN B T W (`od),o6 (x:=`AO) (y:=`fx) rfl rfl,st ps `XN `ki T (`fD++W) (`od),hw.it p hp,`aD - `bZ,`uS+51*(`asp)<=M,by show `asq;lia,(e▸ha),by rw[`Z];lia,(`fD).map,(`i_).map,((N/128:Nat):Int),ok.names,S1.spelled,by rw[`bB];exact he,`asy++[b],l.modify,∃z:Int,d=`iN,λf W=>?_,hb ps [] [] (lkd 0),`h1∈its (`AS),λp=>`X_,Want.value,J.length,
(`iR (`A_)).map `bK,`asv `h0,(`hY).map,λs=>`hV,`b3++[`hV],`l4 (`A0),q00 hw `r,λp=>(p.1,p.2++[`A0]),`z7 k `asQ,`c8 `Xw,#[`b4,?_,rfl],zz0 `A1 `b4,`AT λk=>`XR,by simp[nob],ixD X (`ur),.sh `bgD,(`h_).vals,.sh (`X!),(`bfy),`o `A6,(`J9).zip,(`bgP),(`i2 λq=>`J8).zip,(`Ya j).map,`as5 `A7,lw0 X σ H' C od,m5 (A9 n1),λv H1 ev=>?_,ev.s.grow,(`bha),X.A.mark,(`bhh),(`bhi),(`bhg),(`bhE),(`bhQ),(`bhS),(pr0 Q0),(`bhY),(`bh8),(`bh9),(`biw),min x `eh,max c' (`eh - 1),List.take_of_length_le,(by rw[`g9];lia),.ow `biC,(`biD),(`biH),(`biO),(`bi3),(Z4 `u9 v7),(`bja),(Z4 `aC v7),"_law_count",(`bjm),fun δ d h=>oo0 h,"behind",bT_Reader,"__getattr__",`K->Prop,Row h (`RJ),`a1M=b,`akT bmV n=`bI y,lookupAlong_cons,wpAny_mroOf_exc,.tail _ (.head _),Q () `cY,`sv `EX=`c,c.hasT `cZ,`sv `xP,nsMap_none_of_in,`e? C=`a (`akW nm q C N bs tl hdct sn sub ab col dd k0 k1 k2 k3 k5 `RL),OwnTail h bmV tl,[_,_,_,_,`akX,_],`akY&&n == `RL&&`akZ&&tailIn K bmV tl&&`ak_,`sw K `EY `dZ,sl=`a1N,tail_of_in X ht,`sw K `a_ `jt,`a (`ak3),(`RM).all,`sw K `a_ c',mg c=`xR,`sx=`sy,At K mg c C `sz,Tab K mg `jt r cs rs,(`a1O),`sB<=`R,#[`em::`a3,[]],{ cls:=`eQ,data:=`b7 rest.toArray },{ cls:=`em,data:=`k8 ⟨`z `dl,`af,`af,`af,`RO,`af⟩ },(`a1Q),codeAny_of_tree ?_,A10 _ `cZ,`xV=`a `af,`a1R _ _,by simp[U],Heap.get?_update_other _ _ (A9 n),`xQ=`ak4,`RR K `bu `cF=`b8,looks_clsIn X hc,I.type.here,refuseLoop_ref,`RR K `bu `E1,`q `ag A (setAttr `ju `cF v) Q E s,wpAny_loadPart,Heap.get?_update_ne,λe he=>`N he `ax,wpAny_nsSet1,Heap.Ns1.of_empty,wpAny_lookBehind,pastItsLine_dict,(`eR `sG),Builtin.«object.__getattribute__»,`u `E4 tk,hh.get? f=`fc,`a `sG,`G->`M,Value.isInt,Value.isStrOf,`ah L2.Key,`t #[i,t,rfl,e],P3 `a1S,(J6 `k6 w).is,`ps UInt8,`ah (`aL L2.V),`ah (L2.Key×L2.V),∃t,u=Value.bytes b t,∃t,u=Value.float b t,`bJ ys ws,(xs.take n),`dp p.2 q.2,upd H a o b,cont.toList,`ip=`ak?,∃mA,`RZ/\(`R_)/\`alb,p.1=q.1/\H q.2.1=`a (`y (p.1.map kV))/\`dp p.2 q.2.2,(`sN `bK).Nodup/\ep=es.size,`alg/\`E' P w H h a p.1 p.2,
∀h1 h2:`D,φ h1->(∀o,`mV a=`ap->h2.get? a=`ap)->φ h2,(show `alh from x),∀b u,(`R0)->`R1,∀b,`E!->`f2=`k',k _ _ hb e,#[od,es,ep,k _ _ (`s d) e2,c],Paired.mapP,#[z.1,ht _ _ z.2.1,z.2.2],k a _ `f3 e,`a (`alk `eP (`z y)),#[o,`hs],`cG P w H h a u,∀b u,`xX->`R1,∀b ps,H b=`R6->∃more,`f2=`a (.tbl (ps++more)),k b u (hb b n) q,by rw[`alm];exact q,`aln=`ap,∀x:Str,`k?->mb x=`sS,Mod X.K `bz `cH,`R8 y=`eo,X.env.frame=`a `f4,X.H₀ b=`d,X.s₀.heap.FunFrames,s.heap.Ns `f4 m,`dm p.1=`sW/\`sP=`d/\p.1≠`f4/\p.1∉`it/\∀v,p.2.data≠`sT v,`fb/\`c_,(I.ok.noex b o e),I.ok.funs.mem hb,Inv X `i σ H' { s with heap:=h',gens:=g',drawn:=d',toks:=t' },λb o e=>B4 (B7 `m3 `Fg),∀x c,`jy->∀v,`alr->h'.IsCell c v,λz=>(hch c z).2.2.1 x c e rfl,#[_,q,hd],hl i x v e1 e2 e3,#[u,r,?_],λz=>(hch _ z).2.1 rfl,(λ_ z=>nomatch z),#[_,U,O,hL,r'],(λ_ _ _ _ n=>n),(`a1Y),(`bg b u e).stay (λc v hc q=>k c v ?_ q) `x3 `x4 `m5,(`ep hp).elim,Inv X `i `x6 H s',`q M A (storeName `w x u) Q E s,`a11=`p,by rw[`lb];rfl,by rw[`c0];exact`Fj,`sY a `ar h',HOk `aR X.w H h',(`ht c ?_).trans,#[`pA,`pA,`x0,`Fl,`R?,`Fm,`Sb],λy c e=>?_,hl j y v' e1 e2 e3,λe=>hj (jh0 hN e1 (e▸hi)),`s #[k,c,e,`alu],#[w',`alu],#[(`ht p.1 ne).trans e,n,ne,nf,d],hn.sameBut,`Sg->L2.Hp->L2.VK->Prop,`f5/\`m6,Calls.Constant_str,`q `am X.A (`aY `le `w) Q E s,(`a14),PE X `le (tC v),PC X op a b t,nobehind _ `r `r,wpAny_Compare1,(`a15),wpAny_isTrue_Compare1,P5 #[H1,I1,q],λc H1=>Q (!c) H1,isTrue_and,(`a1'),hb wh `i s1 σ H1 Q I1 q1,#[H1,I1,q1],tb σ H1 Q,hb `i s1 σ H1 Q I1 q1,`alz/\`Sl/\`bJ xs `Fr,SqL X.K H a xs,h.ok `bg,`dc a o hk,by simpa using hs,SqT X.K H a xs,by simpa using C8 `alA d1,(X.wish E).Ok,#[ok.mod,`x9,ok.glob,ok.blt,ok.above,ok.inj,ok.has,ok.cab,ok.hd,ok.frames,ok.stk,ok.exf,ok.bs,ok.bsz,ok.noex,ok.exfs,ok.funs,ok.frf],Inv (X.wish E) `i σ H s,SP X `i D f s',{ D with nx:=u D },#[σ,H,I,h],interactive,`gG σ H1,St->Hp->(`jB)->Prop,t v σ H Q,(`a2b),V->`a2d,wpAny_assign_Name,by simpa using rv,(`a2f),`bh x pos',
Nat->`jB,{ D with nx:=N,ct:=N,bk:=`gG },PSs X `d1 tb,(`a2h),hN σ3 H3 n3,#[m',hm,σ3,H3,I3,w3],Nat->`iw,(`a2i),∀v,`mY≠`sT v,(∀b∈fp,`Fv),`pD `aR X.w X.K tg J fp it tn,tn 0 s2.heap,(`a2k),`a2q n,wpAny_load,λi H=>∃xs x,`lh/\`m?,λi H=>∃xs,`lh/\`Fw,`x' it a i,λi h h' st k=>st.at λo e=>`alF,λh' J sb=>?_,`Fx (t':=`bf) `Sp f0 f1 f3 f4 f5,λys hy=>by rw[`Fy hy hq];exact hx,(show `alH from p),I.tuple_inj,IsRangeIter,Data.fields,(`a2u),{ s with heap:=`gC `Sr,toks:=tk },((`s2:Nat):Int) - `s3,Gl X `sQ,`bz `sQ=`d,PA X [a] ta,(`a2v),by rw[e];rfl,tn i `na,I7.pin `x? `alI,`ya I7 n7,Inv X `i σ H2 s2,OpR X (`li op) r,(`pG a op b pos),(`a2C),Int->`alJ,Q (`g `lj `bf) `jD->`alK,λi j=>`g `lj,#[`g `lj,H,`f9,`ad,q],(`alN)∨(`alO),(`a2D),λi j=>`FF,λi j=>`g (i - j),λi j=>`g (i*j),λi j=>`alP,λ_ j=>0<j,λi j=>`g (i%j),λi j=>`alQ,`g (g i),(.bl (`Su)),(`a2F),(T5 I q ?_),(`a2I),(`a2K),(`a2L),OpR X (`d2 op') r',lastMarks `alU [b,c]=`p,(`a2M),∃i j,x=`u i/\y=`u j/\i.length+j.length<=`R/\Q (`alV) H,`bJ [x] us,∃u,us=[u]/\`hz,`bJ `ye us,(`a2T),λh' tk k=>#[_,H,`FI k,?_,q],(`a2_),(`a26),(`a3b),∀name,`alY=`a (`Sw),Array.find?_toList,es.toList.any (·.refKey),`Sx K C `cF=`c,`cu K `bu `cF,W.handedIn,(Ai0 hg).1,W.findObj_own,`G×`K->`eO,`al_=`c,`fg<=`R,`cu K `bu `dZ=`yf,{ s with heap:=`al1 },(g==f)=`p,(`SC).map `bK,by simp[ys0],(show `FL from r),(show `al3 from r),`Sx K C `yh,NoAttr X.K C f,∀u s',`yi->`f5->Q u s',`q `am A (`FM `c2 f b) Q E s,`SD (v:=v) (o:=mA f) (by rw[← l];exact r f),(`hq C dx (`al5)),(`a3d),lc0 f y fs,`f1 `iy,`hq C `U [],`fh e f `w `FN=`Sh,`gH `fi (`a (`al6)) `jA `w=`ff,(`a3f),(`a3g),(`a3h),.AugAssign,recursionLimit,by have:=r.dp;lia,by have:=r.un;lia,`gJ `f! A,Code.frames,#[[],H,I,`X,h],(`a3i),#[by rw[← `cJ];exact z,?_],H1 `f8=`d,`z `f8,`FO (t':=`Sq) (λb u e=>`pF) `bj ?_,Un (frs `b2) [] H H' `ar `na,HOk P w H' `na,CE `b2 P w H s Q u s',I.ok.frames,(`E_::`lm),(`a3l),`q `am X.A (`d_ `eP us) `fj `aH s,`bJ `lm `yk,by rw[← `nc];exact `FR _ _ _ _ h,
(hb s us `dc hl),I.after hq,M0 `al7,W.callWith_K,I.ok.mod.kin,(`a3o),`yl pos f `f? (`d0 pos (`SG)) `FT,Mk X.K C f,upd (upd H dx (`f1 x)) x `SK,`FV `iy,(`al9::`yk),sc.kind=`ne,sc.isCoroutine=`p,sc.isGenerator=`p,N.take P.length=P,y.2≠`jx,(`a3r),λw hw=>h w (A7 _ hw),by rintro rfl;exact h v B0,P[i]?=`dn,λv hv=>(`SM).1 (Al0 hv).1,`ym (`yn),W.cellsFrom_some,`ai N ps `dd,(`yn).kindOf,`al! `iy `gM [],qc0 CX P w K mg `l N `eq `dd f cd A `b2 s H E,`N (show `SN from z) `ax,`s `ln,λb z=>`N z (J b),e0.hok.fresh,K0 `a3t,(`a3v),t { nx:=λ_ H'=>Q `x H',rt:=Q } `FX H,λb o e=>(e0.bs b o e).1,`fl X `FY r,`sS=`ama,PE X `yo (tCB r t),M0 `a3y,(`a3A),(vs++ws).toArray,`a5->Nat,(`a3D),Builtin.Slice.sliceAdjust lo hi 1 `dM,((`amd:Nat):Int),slicePart_none,λ(m:Nat)=>xs[`ame]?,λm=>xs[i+m]?,`yr `ar t `ba,`FZ=0/\`SO=`d3,`b7 (`amf).toArray,`q `ag A (`ng `lo `F_) Q E s,`nh `F_ "slice",A1 `a3E,`s? `amg,(`a3J),`q _ _ (`amh `lo>>=_) _ _ s,A1 `a3K,`q _ _ (if `SQ then _ else _) _ _ s,A1 (m:=`F0) (L4 `SR J),(`a3N),`a5->`iw,evalPart_none,r x lo hi H Q,`lp `mU `amg=`bI (`ama),PO X lo tl,PO X hi th,wpAny_Slice,(`a3Q),(`a3R),(`a3T),subscriptTail,`z `tb,(`yt=0/\`SS=`ay),`y (`F1),by rw[`bM];exact r.length.symm,C0 (kx0 xs lo hi) hz,(r.drop (`yt)).take (`SS - `yt),SqT K H b ys,by rw[`Z];exact hz,if `hA then (if i<n then `a `fm else `d) else if `SU then `a `amm else `d,(`amn).bind λj=>`F4,seqIndex_of,seqIndex_neg,r x xs H Q,`q `am X.A (`d_ `FY (v::us)) `fj `aH s,`yu=`bL/\Q v H,atI z.cps.toList i,EP X `i σ Q w s,#[z,H,I,J,q],(`a3U),subscriptTail_builtinR,pl.isList.typeIs,λr s'=>r=w/\EP X `i σ Q r s',#[rfl,fin],Option.getD_none,show `amo by decide,`iz `nk 0 lo,`o (`F1),ht.isList.typeIs,un0 y=`c,xs.any λy=>`SX,Q (`g `er) H,#[`g `er,H,`f9,#[`sE,by rw[`bM,J]],q],∃z,xs=`F5/\`td/\Q (`SZ) H,∀l,H l=`d->Q `F6 (upd H l `yw),`bJ ys its,call_list_seq,(`a3X),(`a31),`z `yx,ob.dict=`d,#[o,e,ex],#[#[o,e,ex.1],λa e2=>?_],#[o,e,ex.2.1],tyV K T x H1,Slot T `cF id,Sl0 I1 r1 ty,(`d0 `ca (`sZ)).any `bK,Vals.append,
(`ams).flatten,l.dropLast,(`F').length,(b::r).length,acc.toArray,(`aW k its).flatten,`dm l=`S3,"list.append",#[e,?_],Array.getElem?_toList,Nat.add_comm,`ah WData,pre_splitW hpre,(`c==`c),WShape.has,`Gb a=`amt,s₁.gens=⟨⟩,`f_ `pS `yB (`lq `yz `S8) `amu `dN,hA b (`S9),λb o e=>?_,`N rfl z,`S'->`A,∀(w:`Q) (h:`D),YP w h->`yE h,SqL `tf H a `yC,W.WalkO q loose XP YP `S! d [] `amw,Fun K x `eq st f fd,∀b o,`amx,`f2=`Ge->H b=`Ge,Option.none,"str_ascii_iterator","str_iterator",#[⟨`amy⟩],λh' J sb=>fin h' J sb,fp default,y.2≠`sT,y.2=.local->`amz,y.2=`jx->`xZ y.1=`jw∨`xZ y.1=`ls,`amA=n+`tg,`S?=(`Ta).bind (N[·]?)/\(`S?).all (λy=>`Gf==`ls)=`c,`amB λj=>`Tb,(`amC).length,`ah (`amD),x.2=`jx->∃c,`Gg x.1=`eo,acc.lookup y=`eo,λy d hy=>?_,λx hx hf=>?_,h2 x hx hf,closureFor,`amF=`c,by simpa using hx,(.ok .next),`bI (`Gj ok),`bI (`Gj r),(`a4b),Nat->Nat->`Gm,W i m ys H2,(`a4c),J.yld i H2 x H3,Wk `fn σ4,if b=`c then te σ4 H5 λy H6=>H6 D=`Te/\`er<`R/\∃m',m'<m/\W `es m' (ys++[y]) (upd H6 D (`o (ys++[y]))) else ∃m',m'<m/\W `es m' ys H5,{ s2 with heap:=`amG },s3.heap.get? b=`ap,`yH _ _ st2 b hb,(a7 b o e),Y5 X `dd cl N' s3 H3 fp,B4 (d2 b hb),λx c e=>`amH x c (hcl1 x c e),`yJ=`a4h,(`lu).2.2.2.1,`cf (I3.stkSub b hf),{ s3 with heap:=h₁,toks:=`Tf+([]:`nq).length },`s9 `ax,Nat.add_sub_cancel_left,(`a4i),old _ o ho,by subst O;exact e,`N hp (by simp[Y5]),(K2 `pY),Ia.pin `x? `alI,∀cl s H ex,`amL,∀cl s H ex,`amM,∀cl s H ex,`amN,ok.free x hx hf,`t `amO,`s `amO,as.2.2.2.2,λv H'=>`gG `x6 H',λ_ s'=>SP X `i D .next s',Nat×`Gq,DL.D->`nt->`aL `nt,`nt->`aL DL.D,`nt->`pZ,`nt->`aL (`Gq),`nt->`amQ,(`amR).bind,λ_=>`p_,fun δ=>`yN,fun δ=>`tm λt=>if `yO then Ga δ else `yP,(`tn).bind,y70 f G ds δ',λc=>`tp,`aW n .un,`amB λj=>lz0 `jI,zk0 f gt ge δ ds,(`Ti).map,`a (`alP),(eqS x y).map,sIx `ay `ay hi,`a (`g `ay),(`Tj `amS).sum+`er*`amT<=16777216,(`a4l),`Gu=`a (h d),zk0 f gt ge δ `ba,jx0 `a4n,`ba[j]?=`bw,`tn=`a δ1,G δ1=`Tk,ifD g Ga Gb δ,by unfold ifD;rw[h];rfl,
o2 ga gb f δ,λz=>(by cases z),`p2/\`amV,g _ _ h.1 h.2,Gr H H' B B,fd.scope.names.lookup,TelO K H B p kvs,D->V->Prop,∃a xs,`iB/\`Gw/\`bp,∃a xs,`iB/\`yR/\`bp,∃a xs,`iB/\`p2/\`amW,∃a xs,`iB/\FnAtH K H B a `yQ/\`Tn,`n->`S->Prop,∃x r,xs=x::r/\`yS/\Rps K H B ds r,`cR->`To,#[a,xs,e,q.mono g,`Tq],by simpa using e1,Rps K H B es ys,Rps.append,List.take_succ_cons,(λ_ _=>λz=>nomatch z),(∃k a,`jL=`eW/\`Tt/\`iB)∨`jL=`d/\∃a xs,`iB/\`Gw/\`gO,∃x r,xs=x::r/\RpN K H B as d x/\`jK K H B as ds r,∀(k:Nat) a,`Tt->as'[k]?=`jJ,∀{l:`aT} {m:`lv},`amX,`y [`lw,`p5,`ci],∃C dx ns xs,so=`hq C dx (`Gz)/\fs=`Tv/\`fg=`ay/\`jM/\dx∉as/\`gO,as[0]?=`jJ,∀(k:Nat) C dx fs,`am_->k=0,(λ_ _ z=>nomatch z),∃x ns,es=`b1::ns/\`Tx,#[x,ns,e,`df (λo z=>s _ _ z) `ts],RpL K H' B d a,Oe0 H B od n,XcR K H B c n a,g _ _ h1 h2,g _ _ q1 q2,B a/\`lx,(m.set i b),`bS `GE σ δ,`a (.ow es),`cb=`Tz,`ny `hD h,#[v,rfl,r],`lc (A9 hk),∀ob xs,o≠`am2,∀B δ,PE X e (tD X.K B δ g),∀B δ,PT X e `TC,∀B δ,PW X e `TC,∀B δ,PA X es (tDA X.K B δ g),Rp K H B dy y,λpins s σ H Q I z=>h `i s σ H Q I `TD,(`am4).imp,`a (`u y t),#[_,en,e,λv H' s r=>#[t,`am8,`GK]],#[b,en,e,λH' s=>?_],#[t,`fq s,h,λJ s'=>k J (s.trans s')],PTD X e gt,#[c,r,?_],#[d,`fq s,h,λv J s'=>k v J (s.trans s')],#[ds,en,e1,λvs H1 s1 r1=>#[`am9,λp hp=>k _ _ (`jN `fr) ?_]],(a80 `c6).imp,λv H' s r=>k v H' (`jN s) r,`yj X.K fd ps [],#[ds,en,e1,`am'],∀(i:Nat) (ds:D) (a:`f),`am!->`jP->`O a=`d,∀σ H,`ck->`TH,∀H₀ B₀ δ,PS X st `am?,∀H₀ B₀ δ,PSs X st `am?,Wr idx σ σ' δ δ',∀B d δ,PG X tg (tDG X.K idx f B d δ),`lc (A9 `E),`cj K `O `L H' σ' δ',`yZ i hi,e.fr i ds a h1 h2,`lA X as Ga,`lA X bs Gb,#[t,env,e2,λH' s'=>?_],∀B δ,PI X tg e (tDI X.K B δ g),#[a,rfl,#[xs,`ex],`ana],PDA X [a] gA,`lA X `d1 G,PG X tg (`p8),λpins s σ H v u Q I r #[B,d,δ,h]=>hg B d δ `i s σ H v u Q I r h,tDS X.K `O `L δ G D σ H,hb `O `L δ `i s σ H D I h,Q20 hp hc `GQ b3 a8 hs `i s σ H D I #[`ba,env,e2,λJ H1 s1 it=>?_],
Hh=λb=>`GR,∀b,`p9->Hh b=H1 b,λb n=>by rw[U];exact `al λz=>n z.1,∀b,B b->¬`L b->Hh b=`d,λb n n'=>by rw[U];exact `V #[n,n'],∀b,`L b->Hh b=H1 b,λb n=>by rw[U];exact `al λz=>z.2 n,`dw Hh H1,Y b z.1 z.2,(`GR)=`ap,`GS b o xs (`GT b o xs h),`a4v z.2,`dw `O Hh,s1 b o (`fq b o h),λb o xs h=>`GS b o xs (`GT b o xs (a4 b _ h)),`cj X.K Hh `L H1 σ δ,#[a4,#[B,b1,`gQ,Z],`anb,`gQ],`s (Y a z q),`p' i ds a h1 h2,λz=>`jR a z hn,`ny Z.all h1,Z.bad a `TM,`cj X.K Hh `L H σ δi,#[_,rfl,`cN,δ,`du,e1],Gr H1 Hi B B,λb o n h=>#[n,O.same b o (`TN)],it.go i Hi gr hlt,`cj X.K Hh `L H' σ' δn,fun σ' H' #[δn,en',e']=>#[`TO,`J,rfl,hlt,δn,en',e'],λx H' y=>?_,`TP i Hi x H' gr y hlt,Rp X.K H' B' d x,#[`jT,sm b o (O.same b o h')],n (b1 b q),env0.same sm,`jS i=d::`y0,#[B',d,δi,δ2,a6,a5,e3,fun σ' w en'=>?_],`cj X.K Hh `L H' σ' δ2,O.wr c1 c2 `tw w en',#[Hh,`L,δ2,rb,a7,e4,?_],`t #[`TQ _ Hi gr `bj,?_],k σi Hi (O.lower hS `jR),∀B δ,PF X ifs `TC,`aW n `tx,∀(i:Nat) (ds:D),`cb≠`GF,(`a4w),∀p H',`d8->`bb->`anf->Q `dv H',∀B δ,PE X e (tDF X.K B δ g),(`a4z),λJ H1 s1 it=>λL hL=>?_,λa=>`ang,Gr H1 H2 B Bp,H2 L=`Te,Rps K H2 Bp pre ys,(λi ds z=>us0 z),λx H3 y=>?_,Rp K H3 Bp dx x,λH5 s5=>?_,en4.same s5,H6 L=`Te,Gr H6 `anh Bp Bp,([]:`n)=`a3,PDF X `nr `y1,PD X `nr `y1,PSD X `TR (Z7 `TS `y1),∀(cdv:`G) (A:`bT) (outer:`TT) (s:`v) (H:Hp) (E:XK),`TU->`lA `anj `pT G,(`a4G),F.ok S (λvs H Q E #[B,ds,d,_,r,h,_]=>?_) (λcdv A outer s H vs Q E hr #[B,ds,d,hb,r,h,q]=>?_),#[_,`d1 cdv A `b2 s H E hr H B `GU,?_],`cj K H B H (`TW N vs) `GU,#[`GG H,#[B,`anm,`ann,#[?_,hb,λi j a J es h1 _ _ _=>`ano]],λi J a h1 _=>`ano,hb],`iE (vn0 (N:=N) r) (pz0 _),`bJ `y4 us,by rw[`lB] at r;cases r;exact `X,λt' k=>#[`bq,H,I.tok k,#[t',rfl],q],(`a4H),#[o,h1,h2],`bg a _ hq,L6 W.kitx_dict `dc #[o,h1,h2.1] e `dy fin,`fd Tn=`a `mU,`bz `tB=`d,`bz Tn=`d,Gl X `tB,Tn ≠`Fc,(Tn==`ld)=`p,`b! [e,`GX] `w=`pI::`TY,`TY=(`p,`aY (`GX) `w)::`hE,(`d0 pos (`TY)).any `bK=`p,(`a4I),(`a4L),Int->Int->D,
∀i j H B,Rp K H B `TZ `lj,k _ H `dO (hg i j H B),SqL K H b zs,`ay+zs.length<=`R,`anq<=`R,q _ I.fresh,`Gy (Z5 h),Tt0 rx ry e,#[h1,by rw[h2];exact `T_],#[ry,`GY],`t #[a,xs,_,v,rfl,rfl,`ex,hv,k _ H `dO rv],∀B δ,PO X e (fun σ H Q=>∃o,`T1/\`av=`ap/\∀H',`bb->Q o H'),by rw[j6] at r;exact r,k _ H `dO (by rw[j6,`GZ]),`bz `tc=`d,Gl X `tc,(`a4M),F.plainAttrs_str,#[rfl,_,`gP,e2,`G2],FnD `aR X.w X.K `bz `cH x k ps f,(hN▸hnd),fun δ=>`qb,`a (.ow `Gr),`aX i (.ow (`o (ds++[d]))),`aX i (.ow (`o `ans)),ds.getLast?,`aX i (.ow (`o `ant)),`aL (`gd),(`Tl ds).map,`gd×`n,(`G5).bind,λk=>u30 ks ds k,λk=>.bl (xor neg (`y9)),if `anu/\ys.all `cv=`c then `a (.bl (xor neg (ys.any λy=>eqF y x))) else `d,if isL d=`c then `d else `bw,mkF n N G ds=`bw,#[hl,?_],#[e,Cr0.mpr hn],mkN n N G ds=`bw,if `T3 then `a (`o `F3) else `d,`ay*`fu<=`R,HeapKind `k6 w K,`ah (K×`ald),knd.is `ar k a,At knd `ar d xs,∀h',At knd h' d (storedH xs k a v)->`sY d `ar h'->Q () { s with heap:=h',toks:=`bf+knd.draws k },dictSet d `c2 v,Obj.isFreed_of_dict,Obj.data_mapDictKeys hd _,List.mem_singleton,Obj.data_mapDict hd _,"__setitem__",slot_dict_setitem,xo0 (p::r) k,by simp[xo0,`T5,e],`G7 vs k,`G7 (`y?) k,by simp[`G7,`T5,e'],vs.any `T4,(`a4Q),`aq ?_ ih,`V (`T7),`al (`T8),#[h1,h2],r.repl k ry,Paired.snoc,`dp (kV k) u,(`anw).map `eU,`G9 (`y?) k,by simp[`G9,`T5,e'],(`anw).isSome,(`y (`G')),(`alf).is,H a=`anx,(`a4R),h w' _ `qe J,b00 `bg e,`cK<=`R,by rw[← `any];exact z,λh' J hs=>`T',ka0 I `G! hs he (av0 hl hd (rel.put k rv) J),A2 (A1 fin),`nh `c2 `E2,`tD H2 a y o,(`a4S),(.Dict [] [] pos),`lD->`iw,`ah (`G×`G),ix0 trs σ H Q,sq0 kvs more,sq0 [] kvs,keys.all `anB=`c,J6 `aR X.w,(`anD).all `G0&&`G1,`B `a4Y,`anD=[`pI,(`p,`aY f `w)],#[`G?,λb q=>?_,hd],#[ob,h1,h2.2.1],#[x,ns,e,`df s g],Env K `gR B σ `qh,#[?_,`Ha,`anF],`t #[v,e,`df `lF],`T! (i:=i) (b:=Sl.ow d) (`t `Hb) hs h0,`zb (λj o' s e1 e2 h=>?_) h1,`N (`nz i j a d0 d' hi e3 hs e1) O,∃d,`jI=`qg,∃d,`T?=`qg,`nz j k b d1 d2 q1 q2 h3 h4,`p' i d0 a hi hs,
#[#[λb u h=>?_,λb ob xs h=>?_],#[B,b1,b2,env],`Ua,`jR],(`fq b u h),`tF (i:=i) (by rw[`Sf J]),`N h (`anG ob xs),`p' j ds b h h2,`cj K `O `L H' (`x5 i `Ub) `qh,Gr H H' B `tz,λb u n h=>#[λz=>`d' n (V5 h hp),s _ _ h],∀{j:Nat} {d':D} {b:`f},`jI=`a (.ow d')->`th=`a (`a `Hc)->`Hd,λz=>`iF _ q2 (by rw[z];exact hp),#[`Uc s,#[`ane,λa z=>`t `TM,`gQ,?_,`gQ,`Ud],`Ue,`jR],(`a40),#[b,e,`t O,`df (λo h=>s _ _ h) g],(`iF a z).same s,`N rfl (live h2 h4),`N rfl (live h1 h3),`N rfl n4,(DL.frz δ),λa=>B a/\¬`Uf,λi j a ds es h1 _ _ _=>?_,(go0 (A4 h1)).elim,#[B',`gQ,λa z=>b2 a (c1 a z),J],c2 a `TM,`N (`p' i d a q1 q2) (`jR a z),λb=>B b/\`hJ,λb z=>z.1,`t `Ug,λz=>z.2 rfl,(b30 q).elim,#[r,`zc,hq,k],AutoSeq1.idx_int,∀H₀ B₀ δ,PE X e (tX X.K `O `L δ gx),∀H₀ B₀ d δ,PG X tg (tTG X.K `O `L ft d δ),PTG X tg ft,k _ _ (`gS (`zd s1 b1 b2 hi O J) b1 b2 J `jW),List.getLast?_eq_getElem?,S6 gt G m δ'=`ew,fun σ' H' en'=>#[δn,en',e2],(`lf [`Uk] `w).map `eU,`lc (A9 h2),`lc (A9 h1),#[_,U,rfl],z.cps.size,"tuple.__rmul__",D20.lookup,D30.lookup,PySem.seqSlot_of,`b7 (`anP),`N (`anQ rfl) hx,by rw[`bM,← hl];exact hz,(`aW `fu its).flatten.toArray,`anR its `fu [],(λs'=>Q1 s' k t),F.fills_int_mul,F.slot_int_index.lookup,(Q1 s k t),F.entry_int_rmul,(`a46),#[ho,?_],r1.rep `fu,by unfold lean at h;unfold deq;exact mp0 ds n h,min `bR `ge,`bR==`ge,List.range_succ_eq_map,Rps.inj I ld le r r',`N z `r,`nE es m=`c,`nE ds m=`c,`nH->`Um->`Hg->`anV->`hz->`Un->`Hh A s u w (`Uo),us.toArray[j],ws.toArray[j],`np+n<`lr,n9 _ _ _ _,o3 _ _ _ _,i6 _ _ _ _,i7 _ _ _ _,SeqAt.EqAt.none_list p' J,SeqAt.EqAt.bool_list _ p' J,SeqAt.EqAt.int_list _ _ p' J,SeqAt.EqAt.str_list _ _ p' J,SeqAt.EqAt.bool_tuple _ p' J,Aa0 _ _ p' J,Ab0 _ _ p' J,Rp.inj I ld le hx hy,nd0 _ _ ld,Ac0 hab ?_,(`a49),SeqAt.RcAt.lists,Df0 (A:=A) p p' `anX J,`Up+n'<`lr,ov0 (A:=`bU) a3 a1 rr O rv U λd e x y u w h1 h2 h3 h4 h5 h6=>Re0 I n' m' d e x y u w `bU a2 h1 h2 h3 h4 h5 h6,Z.toArray.size=`ge,`anA+64<`lr,
T80 I 50 50 dx dy x y v u X.A `k lx ly hx hy rx ry,‹`n ›,(`a4?),λz=>hz.1 ?_,by rw[`jO];exact hz.2.2.2,(gx0 r1 _),(`a5a),#[x,en,e1,λv H1 s1 r1=>#[l,`gP,`anY,λH2 s2=>#[u,`TF,`anZ,λH3 s3=>?_]]],by rw[`cJ,o80,o80];exact hw,#[_,_,rfl,`qj],#[_,rfl,`qj],λl hl=>k _ _ (Z5 hl) (om0 hb hl rr),(`bF `hG).map,(`nB).free,(`a5e),λl hl=>k l _ (`lG hl) (`jN (Z5 hl)) #[_,m8,rr.mono (`Uh hl)],FnN `aR X.w X.K `bz `cH x k ps f,ds.reverse,oA `Hj T8 δ,(`bR:Int),(`ae h rfl),`jY->`jY->Prop,Nat->`an1,WalksS `k6 w `bU I fp wr G n P St,`a { cls:=`en,data:=`b7 ⟨⟩ c0 },Moved (C::wr) G s s',`an2 C=`an3,`jZ `Ut,`al `cZ,Builtin.«list.__init__»,Builtin.List.listItems,Builtin.List.listUpdate,letGo old.toList.reverse,`zg `bu `Hk `af,letGo (⟨⟩:`aJ).toList.reverse,wpAny_letGo,{ s with heap:=`an4 },(`a5h),#[_,gC,rfl],(`a5k),`bz `nI=`d,Gl X `nI,`b! [`Uw] `w=`an6::`hE,(`an7).any `bK=`p,(`a5m),L8 ?_ e1 h1,λv s2 hv=>b4 hv,xo0 `yQ q,λd' e'=>?_,(`Ux).zip ys,by simp[h],k v H2 `nK rv,k H2 `nK,Z10 e3 `Hl,`hx `Uy `w v,`m8 [v] `tI,`m8 [v,ov] `FN,Tw0 `lH `c6 (set_dict hu) ha `i s σ H v u Q I r #[_,J,_,env,e3,λiv H1 s1 r1=>?_],fa0 (q:=q) (v:=v) hl,#[a,_,rfl,DPut.k (`Uz) (`an'),?_],m20 (`nL s1) `Hm,`qm `Hm (`nL s1),(`a5p),#[ys,m8,Z,rr.mono `lF],k _ _ (en.s.mut s1 b1 b2 hi J O),loadIfAlive,`aob i1 l1 (k1+1),`aob i2 l2 (k2+1),`yx=`s6,(`a5r),`q _ _ (field `gU 2>>=_) _ _ _,A1 `a5t,`q _ _ (field `gU 3>>=_) _ _ _,A1 `a5v,A1 (i8 hTI rfl ?_),`q _ _ (`aoe>>=_) _ _ _,List.forIn_toArray,List.forIn_nil,`q _ _ (`aof `UB>>=_) _ _ _,`q _ _ (`aof `UC>>=_) _ _ _,(`a5B),(`a5E),h₄.objs.size,λo e=>`pF,`Hp=`d∨ys[k2]?=`d,"StopIteration",wpAny_nextOf_list_end,Q (`a `iH) `hv,wpAny_attempt,F.entry_zip_next,(`a5G),Q `d `hv,IsZip h z TI TO `af,∃p q,`tJ h TO p q,`tJ h TI `UB `UC,ZG xs ys S h as,g.pairs j a hj,ZSt h z TI TO i1 i2 l1 l2 S xs ys i,hk _ _ (B4 L.z) hz,ZSt `ar z TI TO i1 i2 l1 l2 S xs ys i,(`a5I),wpAny_pyNext_zip_item,λc o c1 _ c3 c4 e=>hk c o c1 c3 c4 e,`UI∨ys[i]?=`d,wpAny_pyNext_zip_end,
`UJ->R (.ok (`eR res)) `qq,(`a5L),(`a5Q),Nat.le_total,Y1 F.entry_extend_loop ?_,`Hq k8 _,`q _ `bU (`zk `gU>>=_) _ _ _,λj a hj=>?_,`aoi j a hj,(`Hr `UK),acc.push `UK,(as++[`dl]),∀S,S≠z->S≠i1->S≠i2->`UL,ZLow z TI TO i1 i2 l1 l2 `U,Ks0 xs ys lo s h' as,`U<`yx,F.plain_list_iadd,{ s with heap:=`UM },(`jZ `f7==`jZ `eS)=`p,(`jZ `f7==`jZ `dk)=`p,`q _ `bU (`aoj (`e! z) `aok>>=_) _ _ _,rule "list.extend.makes-room",Builtin.List.listTouch,A1 (Y2 ?_),#[`aol,(λ_ ha=>nomatch ha),(λj a hj=>by simp at hj)],{ cls:=`eQ,data:=`b7 `Ht },F.plain_tuple_new,(`a5W),Q `lo `qq,(`a5X),by let#[_,e,_]:=hl1;exact `dJ,by let#[_,e,_]:=hl2;exact `dJ,`aoo l1 xs,hl1.at `aop,`aoo l2 ys,hl2.at `aop,∀k,k<5->`U+k<`tN,(`aoq a1 a2),#[`UO,`UP,`ho,D4 _ 1],#[H 4 `r,H 2 `r,H 3 `r,H 0 `r,H 1 `r,E8 a1 `tO,E8 a2 `tO],#[_,hz],upd `zn p.1 p.2 b,λq hq=>h q (A7 _ hq),`U<=p.1,p.2=`eT/\`cG `aR X.w H h' p.1 `sR,Inv X `i σ `zn `m4,∀b,b<`U->`UR=H b,D8 _ (B7 hb `E),λb u q n _=>by rw[J b `US];exact n,λb xs q=>`aot,λb u xs q=>`aot,λb ps q=>#[⟨⟩,by rw[`aos,q];simp],(`bg b u e').stay `aou (λc q=>`UT) (λc xs q=>`UT) λc ob u' q=>`UT,i30 X (`a! T1) (`a! T2) r,`bz x1=`d,`bz x2=`d,`fd x1=`a (`a! T1),`fd x2=`a (`a! T2),x1 ≠`Fc,(x1==`ld)=`p,x2 ≠`Fc,(x2==`ld)=`p,`b! [`UU] `w=`aov::`hE,(`d0 `nJ (`sZ)).any `bK=`p,(`a5Z),(`UV).map `Hu,ps[j]?=`a p,vs=[`z q1,`z q2],SqL K H q1 xs,SqL K H q2 ys,(∀a∈as,`tP),by rw[`gT,hl];lia,k t as O U (λz=>D8 _ (ha t z).2) (`pK ht) λa h=>`pK (ha a h).1,hp j p.1 e1,v1.get hz.1,v2.get hz.2,us1.toArray[j]?=`a u',by simpa using g1,us2.toArray[j]?=`a w',by simpa using g3,(ha p.1 (D0 e1)).1,`aq g2 (`aq g4 `X),#[_,f3,rfl,_,rfl,rfl],`an0 `UY,`a (`am2),(`Hv).map `Hu,by rw[`ab,p60 hl],by rw[← J];exact S4 hp,λb ob xs e=>W20 (by intro _ _ z;cases z) e,qo0 hN _ B0,qo0 hN p (A7 _ hp),∀b o,b∉fp->`zi,(upd H `U `Hw),upd H `U `Hw b=`d,{ s with heap:=`gC `aoy,toks:=t' },(`lJ elts x1 pos),(Itz K a b),#[_,e1,λv z=>by rw[d1] at z;cases z],I.turnedNew,
hk c o hc.1 hc.2.2.1 hc.2.2.2.1 hc.2.2.2.2 e,λh=>`Fz,wpAny_pyIter_enum,`b! `nD `w=[`FC,`aoz],`b! [b] `w=[`aoz],(`a5_),{ s1 with heap:=h' },`FA (t':=`Sq) hk,`x! (D4 _ 1) (`s1 (D4 _ 1)),Gl X `m!,`bz `m!=`d,(`a50),#[us,s1.to],k _ H' s' #[`GM,λi H2 v H3 g2 y hi=>?_,`GM],hx us `zp,λB' gB hb=>?_,(λz=>hb t z ht),∀a,B a->`p3∨∀ys,H a≠`U_,by rw[m9] at r ⊢;exact r,(`a55),∃a,d=`hK,(`a56),r2.same s3,`aoB=`p,(b6 s x t),call_gives,#[u,q,`df `zq],.of rfl no nt,Lie ok h C od e,g.push `aoF,(h _ ?_ ?_),(`a5?),sl.2.2 b o q,by simp[hsz],`qr ok [] `ar h',LieT ok h' C od e->`HB,E7 _ _ (A9 n),oth b o z λw=>n (w▸okT),#[_,`aoG],Lie ok h' C od e->`HB,(`qs T (`U1 (`HA 3 `lI))).get?,(`a6f),∀b,ok b->ok' b,∀h',`tQ->fh0 X `i H h' C od e->`HB,I.afterNote,FpW X `i H a,λb u q=>by rw[m5 (V5 q z1)];exact q,#[`lK,`fw,`d!,#[`x_,`x1,`aoH,`x2,λb xs e=>oth b _ `HC,λb o u e=>oth b _ `U5,`U6],`dr,`fe,?_,`tR,`gf,`U7,`c0],#[J,oth b _ q],m5 (A9 z2),#[e,by rw[m5 (z6 p hp)];exact n,r],(`bg b u q).stay (λ_ _ _ z=>z) (λc z=>`U8) (λc xs z=>`U8) λc _ _ z=>`U8,E `bu od H',`HD<=1000,joinParts_cons,W.specialIn,`a (`tS `aoJ),`b! (`nO) `w,`b! as `w,(`a6k),`m8 [ov] (`FS ov `dZ pl),∃tl,`aoL,cl _ `zt,(`a6l),#[_,he],Inv X `i σ H' s,∀b,`aoM,λb o e n hx=>no b `HE,no _ `dP,λx c e=>no _ `HF,I2.dead n1,#[_,hx],(`c5 : Str),`cI (`bh `c9 pa) `c5 pa',σ[0]?=`a (`a `gV),σ[1]?=`aoS,(∀dx,`HI->`HJ->`gG σ `aoT)->`Va,`aoU `EX=`c,fun δ=>`a (.ok (`Gs)),`a (.xd [(`c5,`j_)]),.ex c n δ,∀σ H C od,`zv->`HK->XdX X.K `O `L H σ δ od n->lw0 X σ H C od,(`a6r),`e! r::XC.bmV,`yj K fd `j0 [],(`Vb pn W).Ok,#[o.mod,o.kind,o.glob,o.blt,o.above,o.inj,o.has,o.cab,o.hd,`aoX,o.stk,o.exf,o.bs,o.bsz,o.noex,o.exfs,o.funs,o.frf],Inv `zw [] σ H s,(λz=>by cases z),Inv (`HL A) `i σ H s,e.fr j ds b h1 h2,#[[`bt,`aoZ],[]],`ao0==`ao_ `ao1,∃tl,∀h:`D,`eA->`aoK,`RR K `bu `c5,L2.ErrC K C r `c5,#[_,a.cl],`Ve K mg `jt r cs rs,`a6u=`c,XC.Sc0 T hc ib,by rw[h];rfl,x.cps.toList,#[tk,`ak8],(`a6v),`tU [lo:hi] b f,
ys[j]?=`a z/\(∀m,m<j->ys[m]?≠`a z)/\Q `zz H,by rw[← `cJ,`P],its.toArray[m],by rw[`bM] at hm;lia,#[ys[m],t,C4 J,?_],its[m]?=`a its[m],eqU `zA (`u y tk),F.slot_tuple_index,#[_,h1,rfl],(`a6w),#[`fx,H,`f9,`ad,q],at_ j `tV,(`a6x),(`ao2 `ao3).map λj=>`fx,ah0 X.K `bz x ys,`aY `HM `w,(`a6y),`ao2 (`ao3),λm hm he=>?_,h2 m hm (P1 (A4 he)),`ay*`fu<=`Vf,(`o `anv),`a6z k,∀b o,`Hd->`amx,Env K H' B σ `qh,`t #[v,e,`df `ao4],(`HQ).bind,k _ H2 `nK `yX,`a6A hl,(`a6E),∀b C dx fs,(b,`ao6)∈sub->`zB dx=`d,∀C dx fs,p.2=`lk->p.1=a,SubO.no_own,SubO.no_frz,o.there (x b _ (J l)),`HS H a sub b,`HT H a sub,(`hL H sub),∀so:`dI,u≠`HU,∀so,`j1≠`tX,λso l=>n so (`Vh (c.at' _ `Vi)),nl so (z▸l),`N l (nl so),λso z=>so.no_tup xs `Vj,λso z=>so.no_frz o u `Vj,λso z=>so.no_tbl ps `Vj,(`a6F),RpG K H B b a,(`a6G),`j2 X as Ga,`j2 X bs Gb,(`zD `O `L δ),Rps K H B ds us,RpG K H B b p,(spB K j f),(ds.take j).map,(ds.drop j).map,by rw[`P,`dg];lia,`N h (J _ _),List.getElem?_cons_succ,hf b ds r b' h,#[_,(`d1 cdv A `b2 s H E hr).go `HY `ao7 `lL,?_],`dw `HY H,`anG o xs e,∀{H':Hp},`dw `HY H'->`tY,λs'=>#[λb o z e=>s' b o `ao8,λb o xs z e=>by have:=s'.nf b o xs e;simpa only [z,x6] using `E],(`HW j).length=j,by rw[`dg,`GN];lia,`cj K `HY `ao7 H (`TW N (`Vp)) `lL,`s (by simp only[q,`eY]),`iE (vn0 (N:=N) (rs.take j)) (`aq #[p,rfl,hp,vd0.mpr #[rfl,ro]] (`iE (vn0 (N:=N) (rs.drop j)) ?_)),show min j `bR+(`bR - j+1)=`HZ by lia,(uy0 hj h2).1,(`TW N (`HW i++`gL::`Vl i))[i]?=`a `Ub,`s9 `lM,#[_,en,e,λv σ' H' ev=>?_],q v H' (sb `H_) `Vq (`H0 (`iG less)),#[_,en,e,fun σ' H' en'=>?_],q `x H' (sb `Vr) `Vq (by rw[rn,V6]),∃q:D×D,∀p,EndB G `lL j p q.1 q.2,`a (Classical.choose h.2),#[hh.1,`E],(T0 (T0 e10).2).1,dif_pos hh,(x8 hh.2 0).one (h 0),`a (.ow (`Vt)),(.ow (`zE)),#[_,rfl,λK H B a r=>#[r,`ao']],`gX λds=>`ao! λr=>`ao?,(`a6J),Y _ _ _ _ ro,h1.same s1,#[λb o n e=>hh b o n (s1 b o e),λb o xs n e=>`GT b o xs (hh.nf b o xs n e)],kk v H' (`gS (`tZ b1 b2 hi O U J) b1 b2 J rv),(`t (xq0 ks k)),
`HT H' a sub,λu s' #[v,H',I',r,a,sub,o,k]=>`apb,λv H'=>∃a sub,`iK H' a sub/\Q v (`gg H' a sub),[`u "@",`lN],RpN K H' B as d v,(`a9).lookup c=`tX,(c==x)=`p,`nP λz=>h (`gc),λz=>h (`s z),List.getElem_zip,`hL H `ev b,`N z hb,by rw[`apc,← e],h.opAt e1 e2,(`a6N),∀C dx fs,so'=`lk->k=0,(`a6O),upd H a (`nu `Vx),(`Vy k n'),`df (`za hB),`y (`bq::ns),DL.setN i k n' δ,k w H2 U w2,#[dx,ad,ns,as,sos,en,e1,at',`H4],`Vz r1 hn,nrf dv=`c,(`o (es++[dv])),`nR `H6 hn,(`a6Q),`fh o `H7 `w `nm=`hw,(`a6U),#[a,`a9,`lO,`VB,?_],#[a,`a9,c1,?_],O.w.openOk,O.w.opAt f1 f2,`aY `VC `w,`iK H1 a' sub,`u n::fs,um0 (`Tv) ds f,(f==n)=`p,by rw[e1];rfl,rr0 (Z30 `VD `VE hs) `i s σ H De I #[a,dv,env,e2,`H4],#[`bt,`gi,a,`a9,`lO,a,C,U,_,rfl,`api,q1,`H9,?_,?_],(`yU nm ys),(`o es.dropLast),by rw[xw0 U];exact hb,(`a61),(RpN X.K H1 B as),vw0 `lP hm `hM,λr=>if `VF then `ew else `d,`o ls::ds,λ_ z=>`d',`t #[`xY,`ape],`W P w K mg `l CX0 k fa fd ps (spB K 0 f),`jM/\`qz/\Meth K C m fa/\`y8/\m∉F,FnT `aR X.w X.K `bz `cH c m k ps F f,(`a63),p90 hfl h1 a5,by rw[hC] at Y;cases Y;rfl,`aY `VH `w,show v6 δ=`p_ from rfl,kk v H' (`gS `apk b1 b2 J rv),(`aX i .un),`gh=`VI,PD X ke gk,`b! [`VJ] `w,(`a7f),upd H1 L `gY,`dw H2 H3,`a (`y `VO),`apo b hb,λz=>La (z▸at'.w.in0),(`lQ).length,by rw[`Z,`Z,`zH];rfl,(`lQ).Nodup,#[at'.w.nd,`VR,λx hx y hy z=>?_],La (z▸hx),`lR[0]?=`jJ,by rw[`ga (`ds `t1).1];exact `t1,(`lS/\`nS),`ga (by rw[← `zH];exact hk'),by simp only[`Y,`fy] at hl1;lia,`s #[rfl,(A4 q1).symm,(A4 q2).symm],`app k C dx fs e,`hJ->Hc b=`k',∀b,b∉`lQ->Hc b=H3 b,xw0 (λz=>hb `apr),But a H Hc,Gr H Hc B B,`HO `t2 but,(`a7h).1,`zb (λk n so q1 q2 r=>r.ext gr λC dx fs e=>?_) `VT,`app k C dx fs q2,(a,`ao6)∈`a9,D0 (i:=0) ?_,List.getElem?_zip_eq_some,(all _ hm).2,`aX i (.ow (mk (`y (`b1::(`Ie))))),by unfold sh0;rw[a5],#[x,_,rfl,_,_,hw],`lc (A9 c3),by rw[`zH];exact `qx `VT,`b! `ns `w,(`a7i),r00 i ga `VM `apm,r00 i gb `VM δ2,∀b xs,`p9->`E?->`VU/\`alj,g a xs q.1 q.2,g2 `apt,#[d,a,ns,as,sos,env,q1,at',`H4],
λp H2 hp s2 ro=>?_,Env.blank (by rw[← env.len]),`gS (`tv sm) b1 b2 (`iC sm) ?_,wh0 hfl rx,(`a7k),T4 n `cM (`apu) f noT ge (`VV),`fd `dk=`a `t3,`hL H1 `ev,H3 b=`hr,`gg H3 a `ev b=`hr,`N z (no _ _),`fn[n+k]?,Y K H B a ro,But a H1 H2,m5 (V5 e hL),(`a7q),(`a7r),`yZ _ d3,PX X `VY `VZ,fun σ H R=>∃B δ,tDI X.K B δ gi σ H R,teX X.K gx,(`a7u),(`a7w),`a7x=`Gp,PSD X (`hy `ns `VY spos) (jv0 j `VZ),ev.same.trans,by show (2:Nat)<=_;decide,`nG acc p.1 p.2,by rw[`lB,m9];rfl,PDP X pos `lV `qC gP,`fq `nK,(`Ig).map,ev.s.lower hS `jR,(`a7y),(`eu).map,`cv da=`c,`gg H a sub b,e.bs b o z,`sJ≠`d,`iK `Ii a `V2,Hc=`a7A,by rw[O];unfold closed;rw[`bc],`aX i (.ow (mk (`y (`b1::`V3)))),cv0 f fs=`c/\`zJ,`o (fs++[`u f]),`apy=(`zK).zip `zL,`o (`H' `u++[`u f]),by rw[`aZ];rfl,by rw[`Z,`Z,hl];rfl,`y [`lw,`pV,`pV],(c==`ld)=`p,`a7C=`ff,PSD X (`hy `ns `apz spos) (nc0 j c f),λb=>B b∨b=x,Wu0 K C F=`c,`zg `t5 `gU `af,`qs S `Ij,{ s with heap:=`apB },(`apB).get?,`b! [f] `w,(`Ik).map `Hu,eqU `j4 (`g y tk),F.slot_list_index,(`apD).map,List.filterMap_nil,`o `V5,∀o i,`zM `apF `p o i=`apG,(`a7H),{ s4 with heap:=s4.heap.push { cls:=`a! "slice",data:=`k8 ⟨vl,vu,vc⟩ } },`z s4.heap.objs.size,(`a7L),(`a7N),mkF 2 xu0 zi0,"abcdefghijklmnopqrstuvwxyz0123456789",(`a7Y),(`a74),(`a8a),(`a8i),(`a8w),(`a8M),"_law_signs_here","_law_base","_law_long","_law_names_here","_law_code",(ob `ac),(`a8O),(o2 `Ip `Iq mz0),(`a8T),(`a84),(`a9n),[`lY, `V', "_law_cells"],(`a9s),[`lY, `qF],(`a9A),gc (`g 37),(`a9E),(`a9X),(`a92),(`a'a),(`a'm),(`a'N),(`a'P),[`lY, `qF, `Iv, `Wd, `ap4, `ap5, "_law_pairs"],(`a'4),(`a'5),(`a''),(`a'?),[`j5, `aqa, "_law_first", `lY],(`a!e),(`a!i),(G6 (qs0 2) `j6),(`a!m),(j8 (z60 1 `g_)),(`a!u),(`a!A),(`a!B),(`a!F),(`a!J),(`a!T),(`a!W),(`a!1),(`a?f),(j8 (z60 2 `gj)),(`a?p),mkF 2 tz0 n80,(`a?E),(`a?P),(`a?U),mkF 2 uz0 t50,(`bab),(`bal),(`baw),mkN 2 t30 t90,(`baQ),(`baT),(`baX),(`ba7),(`bbb),[`hP, `IC, `j8, `IA, `zZ],mkN 4 tj0 ta0,(`bbc),(`bbd),(`bbm),[`hP, "out", `j8, `IA, `ub, `IC],mkN 1 g90 ih0,
(`bcl),(`bcs),(o2 `aqJ `bk gtD),(`bcu),(j9 `Wp),(`bcx),(`bcC),(`bcF),(`bcN),(`bcO),(o2 `IE `Iq eqD),(`bcT),(`bcU),(`bcV),(`bc_),(`bc7),uk0 (ob `aqN) (ob `aqO),(`bc?),(V0 `az),(`bdg),(`bdx),(`bdA),(`bdB),(qf0 0 `nW `IF),[`c9, `qN, `nX],(`hN `ec),(`bdJ),(`bdN),(`bdQ),(`bdV),(o2 `az `nT gtD),(`bdW),`u `z2,(j9 (Z7 `bV `qK)),(`bdY),(`bd_),(`bd7),(`bd'),(`bec),(`bee),[`u p.1,p.2],isWord w=`c,`y [`lX,`bi],(`z6).length=`bW,by show l.toArray.size=_;simp,`bef=l,by simp[`aE],#[`J,λc hc=>by simpa using h3 c hc],p++sep++ph0 sep (q::r),`ah Rm.Want,[`lX,`lN],(`iR p.2).map,(`iR (p.2.drop 1)).map,Vu0 `dR `cx,o5 G1 G2 δ,ifB g Ga Gb δ,by unfold ifB;rw[h];rfl,U6 `f6 `z9=`aq2,`av=`IJ,`a (`n_),cs.map `a7,∃z,0<=z/\S8 `iS []=`a (`iN,`qP),[.un,`ud,`IK],(λp δ hδ=>?_),(G0 _ `r),U2 _ `k,`g (3*k*k),(o6 rfl rfl).trans,`qc=`a l,Y9 [`hS,`j_],`ben=_,`aE a++`aE b=`aE `z',`WC+`IL<=`R,(`bep),`av=`a `z!,ob g δ=`nv,by unfold ob;rw[h];rfl,(`beq),(`qu).map,(`aq6).map,marks (`lX) `c5,gr0 k h0 hk cs hc sm m `aM,Y4 `beu,λp j=>`Aa,(λi e=>by cases e),ez0 rfl rfl e,show gN 0 d (([`tx,`tx]:Ds).set 1 (`WE))=`a `WF from rfl,`aE (ph0 sep `qR),`o (`aq7 λp=>`gk (`aE p)),p.length<=B,ph0 [] (`dx `IN),S.cps.toList,by rw[hS];rfl,signs.getD,G0 `IO (show (37:Int)≠0 by decide),U2 `IO `aq8,(`bex),`g (`Ab),p=13∨p=53,`WI%`qT,`aq9 - `WI,(`gl hd),(`gl h2),`N e3 z,cg `aq',`IQ a++`qU,`aq!++`qU,names.length<=100,`a (`uj),U80 w _ `k `k `k,Gw.gd0 _ _ (by rw[`dg];lia),o2 `a6 `apH d8 `Ad,`beJ=_,(`uh).length,hm c (Bd0 q),j70 N k c q,C8 `Ae e,`u (`aE []),`u (`aE (w++[cg q])),[`eZ,`cc,`ka,`n1,s4,`qW,`n3,.un,.un],(`beK),λs hs=>?_,(z/4%4).toNat,λp k cs m pool=>Y4 ?_,o2 `ap0 `ap1 ixD [s0,`c',`IV,.un,.un,.un,.un]=`a (`g r),[`IW,`IW,z/4%13].map,.ow `beO,`WN=`a (vs,`Ag),(`beP),PoolB np nm,`WO i "",`WO j "",(`IY)%`n4,(`beQ),(`bF `cK).map λj=>(`arb,`Ai),∃(p:Pt) (k':Int),k<=k'/\`arc/\`ard/\N6 `iS []=`a (p.d,`Ag),(`beW),(o2 `zR `IM eqD),G0 (z/156) (show `I1≠0 by lia),(`beY),(`beZ),(`be_),`be0 `k,Gd p (`aD:Int) `aM,`y (`I7),
ns.drop (s+1),gv 2 δ=`a (`g f),`o [`g 13,`g 53],(`be1),if sm=`c then 1+f/64%60 else 1+f%8,zf0 0 `nf,(bk3 cs sm),`a ((s+1:Nat):Int),List.map_drop,[`fA,`Ak,`Al,.ow (bk4 cs sm `nf)],(`are k `qY).1,`a (`WX),`a (O5 1),`a (O5 2),`a (`WY),`a (`I9),`a (`up),(`Ar).length,(`B (`l3)),(`W4).set k `arp,show unG U4 `a6 (`q1::δ)=`a (`ur) from rfl,na0 (es:=`n5) rfl,.ow (z9 p (R `us)),(`be3),`At k `arq,(gc (`arr)),`a (`B (w=v)),`be8=_,{ S with un:=u },`o (`n5).dropLast,[`be9],(`be'),List.count_cons_self,`N rfl hv,`W7=`n6,`dS::`cx,(`I!).getD,`Av::`W8::((`q0 `art)++[`pV]),List.map_congr_left,λb u δ=>by rw[J,hL];kernel_rfl,by rw[`P,`iU];lia,wd `bfb,(`dM).toNat,`o (wd (`q3)),(`bfc),`a (`aru),λa b=>`Aa,[.sh (`zS),`cc],o6 (x:=`o (wd `Wy)) (y:=`jG) rfl rfl,im0 `Wy `ax `ax n hn,`g `arw,(`I? S [w]),(200000:Nat)<=`R,`o ((`uq)++[`An]),(`I? S ws),vo0 `W'=`c,`o ((`uq)++`W'),(`bff),`bfg<=_,(`arv).flatten,`a (`c4,R (`ux)),by split at h1<;>lia,.ow `bfh,[.ow (z9 p (R `Ja)),`uv,`cc,.un],jj0 S (`W!),(`Aw).wait.length,ifD _ _ _ [`uy]=_,O4 (by rw[c,`iV]),((`W?:Nat):Int),`bfj=_,`q6 (`ary),o9 (δ':=[.ow (z9 p (R (`l4 `x))),`eZ,`Ax]) ?_ rfl,orG ga gb δ,by unfold orG;rw[Y6 h];rfl,n*128<=323,(`bfk),`g (`Xa),(`bfm),`bfp=_,`a (`p,`q8),`bfs=_,`arA=`n6,W0 `Ww `iX,V1 rfl λp=>#[[`q9,`ef,`Xc],?_,rfl],.sh (`u (b8 `kc)),show (`nX : Str)=b8 `kc from rfl,[.ow (z9 p (R (next S1))),s1,`ef],[`arB,s1,`ef],{ S1 with count:=`Xf+1 },[`bY,s1,s2],#[s2,rfl],[`q9,`l6,J],[`bY,`l6,.un],`a `Xg,y70 `bV SB `Jd `arE,SB [`arF,s1,`Xj],[.ow (z9 p (R (`Jg))),`g7,`Az],List.drop_zero,`g ((36 ^ (m+1):Nat):Int),`g `arH,(`Xn).length,List.range_eq_range',k7 λj _=>?_,λd=>match d with|`eg=>`B (s.cps.toList.length=L)&&`Wz `hV|_=>`p,(`uD:Int),(`uo).length,`Ac `W0,(`arJ:Int),l.Nodup->(∀a∈l,a∈m)->`bW<=`arK,(`Xp).map (c::·),A.length ^ k,`Xr (`Ji ?_),[`q!,`AA],((2*L+1:Nat):Int),R `bfu,{ S with names:=`arL },`o ((`Ar)++[`up]),(rk0 p S _),(`uH:Int),(`aE `um).length,R7 `bd [`iZ],(`Jj).length,[.ow (z9 p (R (`uI S `uG))),`g7,`Az],
{ S with spelled:=w },(`arM).zip `arN,(`bfx),held.length,∃c:Nat,d=W6 [c],`dU=`AD,[.sh (`zS),`Xv],`lU `ra,`bfB=_,o6 (x:=X) (y:=`ur) rfl rfl,(`bfD),(`bfE),`iR (held.drop 1),Fits q.1 q.2,vo0 q.2=`c,uf0 `As (`AE)=`a (`Xx),`arP=`a (`o q.2),`AE=`y [`arO,`Xy],d9 (ds:=`Xw) `I4,`a (`AF),t40 `k `lM `x,`a (`c4,R (`Jq)),[`arR,`g7,`Xz],`cv `n!=`c,wv0 `p `n! (`XA),(M7 q).any λy=>eqF y `n!,if r=0 then [] else `hX::dgf f `n?,Nat.le_zero.mp h,2 ^ (m+1)=`Js*2,(bs n).length<=2601,M1 (Nat.div_le_self _ _) h,[a,`XB,`arS],V8 [`jG]=`a (`o ((bs n).map `g)),((`Jr:Nat):Int),(2:Nat) ^ 2502,vk0 `Ju=`a (`arV),`a (`B (z<0))=_,((`AH:Nat):Int),P0 `Jv=`a (`arX),`bW+e.length<=`R,j8 (v40 i g) δ,(`bfG),`g `arY,`bfL=_,`g (`fE:Int),z40 `uL=`a (`ar_),zs0 `uL=`a (`ar0),`Jy=2*`aD,(`XE j).flatMap two,List.take_succ,[a,.ow (`o pre),s],List.take_length,K6 `uL=`a (`o (`fD)),[`Jz,.un,.un],[`Jz,`n3,.un],(`bfO),[`AI,.un,.un],d.1.length<=20/\Vb d.2,(`bfP),X30 h2 λs hs=>h3 s (D6 _ hs),(`XF).map `eU=vs,`cK=`XG,λ(k:Nat)=>(`mX `eX:J3),λs=>`XH,(`mX `cw:J3),List.mem_map,(`B (`l7)),yi0 `uN `JF,`ar9 `ar',cz0 `ar!,`a (.bl `ar?),`g `asa,u30 `uN (nd (`bF `AM)) `JF,Y50 `ar',`g `asb,[`eg,`uO],Bw.Ne0 _ _ `k,[`c',.sh X],`g ((`asc:Nat):Int),(`XJ - 1 - `asb),[`AO,d,`kh,`uO],(`bf2),4*fold x+1,(`bf3),(`bf4),if `eE then bs `ash else `asi,(U0 (d:=p.d) ?_),(st ps o B T W s),`g (`AM:Int),(`bf5),(`bf6),`AP++[d],t8 (δ':=st ps (o++hb ps B T `x) B T W (`uR)) ?_ rfl,t8 (δ':=st ps (o++hb ps B T `JK) B T W (`XK)) ?_ rfl,nB B `oc=`XO,by unfold nB;simp only[`cy],nW ps B W `oc=`ask,by unfold nW;simp only[`cy],t8 (δ':=`asl) ?_ rfl,d9 (ds:=`uL) (`ae (by rw[`asm];exact w1) rfl),t8 (δ':=`asn) ?_ rfl,∀s:Str,`rb->P `gn,(`bf7),λs h=>hn s (D6 _ h),(`aso).vals,o++pk ps f B T W,#[f - 1,`J],#[`J,B,T,s,?_],#[`asr,`XP,hn,J,O],(`l8).Nodup,λa ha b hb e=>by rw[`XQ] at e;exact h `ass,(`l8).length,(t8 q `uM),`lU λp=>(p.1,f p.2),(`JM).vals=`AR `h0,#[?_,rfl,rfl,?_,hv,?_],(`JN).length=`aD,q10 `h0 (`i0) ps,(`JN).map `bK,lkd (π j),0<`AU/\`AU<=60,
(`AS).vals,ao0 `h2 (`AS),show lkv `h2 `JO=lkd (ix L i) from od0 _ _,n70 `bf9,(tr a&&trs `JP)=`c,#[`g6,?_],(`bf'),(`bf!),(`bf?),(by rw[J]),`g (ut0 (`fF/4)),`fF/4<`q_,`q6 (`dS - 1 - (`fF/4).toNat),(`q3).count `cm=0,List.count_eq_zero,by rw[hw];rfl,List.count_append,R90 _ `k,(by rw[vc0,`AV];lia),S.names.Nodup,nm∉`b3,{ S with length:=`dz,spelled:=sp,count:=c },(`bga),(`bgb),(`bgc),(`bgd),(`bgi),{ S1 with spelled:=`asA },`JS+`bW<=900,`dx `JT,λa=>`a4,by rw[w1];rw[J] at hl;simp at hl ⊢;lia,{ xp0 S k (b::l) ws with count:=c },#[[],`a4],(`cf hj).resolve_left,λi hi=>?_,n+51*`bZ<=`bR+51*`JV,(nW ps B `XU `kj),(hw.it _ `JX).gp.len,show `XV+f=(n1+`JY)+1 by lia,λB T _ _ _ _=>#[B,T,[],`X B T],ih B `JZ hm hn hB J,#[B',T',_,`u h],#[B',T',_,`tS `f3 h],#[B',T',_,`tS (`s #[z,rfl]) h],#[B',T',_,.old hj' h],`XX=`asE++b1,∀j,`asF->j∈L,λj hj=>by rw[`fv hj];exact J.1,`uT (`rh J.1).2,h.nodup `ax,Pk ps [] [] `J0 L T (`asE++(b1++[])),.new `ax h (`X L T),(λj hj=>by cases hj),(`bgq),`AU<=`aD,show n+`AY=100000 by lia,`i_=`AZ,#[by rw[a];rfl,b],`iR (`i_),(lkv π d),(`fE,`A_),hf0 (a1 y hy) π,J.map `asG,`aW `cK `asH,`aD=`asI+(`ze+1),by rw[e,`Z,`Y],`d?::pw `ze,λz=>`N b (z q.1),`iI (`asJ)=`c,`uV ∉`asJ,#[`d?,pw `ze,?_,`i0,λs es=>?_],`N es (Y d (hv d ?_) s),`y `bgt,`y `bgw,w.cps.toList,by simpa using `E,T.map `asM,l[k]?=`jJ,λq=>`X0,Aft S S1 k `gn,#[o40 hu _,rfl,rfl],{ S with names:=`asN },Inv `aM B T S1,#[`J,?_],(A++N).modify k f,kd0 (w:=t) O,λk hk=>?_,ux0 `rj rfl q z,t.cps.toList.map,`bgx=_,gs0 _ _ _ _ U.symm,(`X2).length,S0.un.length,(∀v∈`rk,`kk),hn s (D6 _ (J qs hv hs)),(by rw[he];simp),#[N++M,by rw[hM,hN,`bB]],#[S',by rw[`asP];exact `X3,`X4,D'.un,D'.wt,?_],stage p `J6 (`J7) (`oi hp) h0 pre `kj ds he,(`asR).length,`br `uW b1 `X5,(`asR)++(B1.drop `bZ).map `X6,#[S1,`uX,I1,u1,w1,?_],v60 ps `h2 j,#[S2,r2,D2.inv,D2.un,D2.wt,?_],(∀q∈qs,`l'),jo0 xs h q hq,λq=>`asS,λp=>`asT,`asU=`a (`p,`b4),Wg0 S hl h p,hf0 (hI x hx) π,(kd0 (w:=w) ho).1,(∀q∈`dT,`l'),`c8 `X7,`AN (Km.laid ps L),
(`rh O.1).2,{ S2 with un:=[],wait:=[] },`c8 ((`asV).map Pt.d),gz0 xs ys h1 h2 h,by simp[v10] at h,nob d=`c,#[`asW,by cases n<;>simp[`fs]],pairs qs hv,`asX=`a (`y (`i2 pr)),xv0 (items:=`i2 pr) ?_ `lM ?_,[`asY],(`bgG),[`bgH],`AT `JT,(`bgI),`fs `A5 50=`c,(Km.b70 hq).2,xv0 (items:=`kl) ?_ `k ?_,`c8 `ar2,[`l! `JO],(`bgJ),`X9++[`a7 `cw],(`bgL),(by rw[`l?];lia),`o (nd E),h2 f W s3 s4 `as0,λf W s3 s4 hl=>?_,gc0 (by rw[Vj0,`bG `ax]) e,xh0 `uZ=`a (`A4),(`bgM),.sh (`o (`AR f)),#[s6,?_],[a,b,c,d,.sh (Pt.text w).d,.sh `gY,s6],#[`X?,?_],t8 (U0 (d:=`Ka) (eh0 _ _ qs 4 rfl rfl h)) (t8 (U0 ?_) rfl),`y `bgR,[`bgS],d9 (ds:=[`Ka,`as1]) rfl,`bgX=_,(`bgY),`u_ hn (m:=`oj) λy hy=>`gl (hL y hy),[`cn,`ma,`n3,.un,.un,.un,.un],.ow (`o (`as6)),`o (`AR `u0),(rel `h2 p).d,`o (`AT `A7),`W `aR X.w X.K `bz `cH (CXE `aR X.w) k f fd ps sp,λc od H'=>∀C,c=`em->`as7,`b! [ae] `w=`Kb,`d0 `ca `Kb=`Kb,(`bg2),(upd H1 e (`U!)),by rw[`as8];exact U,(`bg3),∃q:DXB,∀p,`Kc G `lL j p q,`bg4=`ew,∀p,`Kc G `lL j p r,`a (d,b'),pr0 f b ds,`aX i (.ow (b.2 b')),Env X.K H' B σ (`aX i (.ow (bm.2 b'))),`ok hi O hh (h2 H' B b' U),(`bg!),`zD B q.2 `i s σ H Q I #[y,env,e3,kk],#[B,env,λu H2 s2 ru=>?_],(`iC s2).bad,(`as' `A8),(`bg?),[`bhc],(a2.cl _ I4.kIn),`a (.ow (`o l)),`iI l=`c/\i≠k,`b! [`Yb] `w,(`bhd),B t/\t≠aL,(`bhv),(`bhx),(`bhF),(`bhP),"_law_cuts_here",(`bhT),(`bhU),(`bhV),(o2 `gj `bk eqD),(`bhX),(o2 `gj `bk geD),(`bh2),(`bh5),(`bh7),(`bh?),(`bie),(j8 (z60 10 `bk)),(`bil),(`bis),`a (`WX,R S),by unfold plN;rw[W50];rfl,`a (.ok `aq0),by unfold sk0;rw[h],`g6<=100000000,M3 `bd [],`bit=_,`a (r,R S),`eh<=100000000,`a (`p,`Ba),(`biu),[`bY,`Yg,`go,`Kf,.sh (`A?),.un],`biz=_,by classical rw[Sm.eq sd sd,`Bb],Wh0 `biA,`a (`Je),o2 `az `g1 ixD [xz0 a,xz0 b,.sh (`Ki),xz0 e],(`u2).Pairwise `u3,List.pairwise_append,∃cs,u80 [`Ke,`hS]=`a `u5/\Cut cs `eh,(`u2).length,[`go,`fA,.ow (`o (nd ([]++[0]))),.un],`g ((c+t:Nat):Int),(Zl0 _ _ _),[`go,`fA,.sh (`Ki),s],[.un,`go],[.sh `Yj,`go],Q[0]?=`n',(∀x∈Q,x<=`eh),
[`go,`fA,.ow (`o (nd M)),s],`g ((`atm:Nat):Int),(`i2 _).length<=12,Dw ps `aM,PsOk.names,Nj0 hl.2 ((`Yk).vk v hv),J p hp s hs,Km.W30 `rm,Mid l E S' d,show c+`Bd=d by lia,Tl ps q l E,(`u6 c).take `Bd,`atn `ato,`a (r,`aX i (.ow `W1)),f `bd `Kk,thin `W1=`c,t8 (δ':=`Yn) ?_ rfl,st N w l l2 `h4 cu S' T `Be `Bf `atq,(`biI),lx0 [`hS]=`i5,(`u4).dropLast.zip `Yo,`g ((`Yp:Nat):Int),`g ((`Km:Nat):Int),(`u4).dropLast,(`J:j+1<`j!),(`biL),`a (`p,`ro),"MOST_NAMES","MOST_NAME_SIGNS","MOST_PARTS","MOST_VALUES","MOST_WORD_SIGNS","NAME_SIGNS","WORD_SIGNS",.ClassDef _ _ _ `d1 _ _ _ _ _ _ _,(`biS),(`biV),(`biX),C_made_pairs,(`biY),(`bi0),[`ua, `hQ, `Yq],FnD P w K mg `l `Ko 1 `km zg0,(Z0 `i6 v7),FnN P w K mg `l `Kp 1 `g! V8,FnN P w K mg `l `Kq 1 `u8 P0,(`bi7),C_sign_bytes,(`bi!),(Y7 `aC v7),(Y7 `Kr v7),(o7 3 `rs),(o7 8 `rs),(`bi?),(X4 (G7 `atu v7)),[`qD, `Yt, `qF],(o7 2 `u'),(v5 `Bj u5),(`bjg),(pab 1 u5),[`qD, `zV, `qF, `ap4, `ap5],FnD P w K mg `l `Ks 1 `u! Y9,(Z4 `bl v7),["_law_name", `zV],FnN P w K mg `l `Kv 1 `Kw Q9,C__law_values,(Z0 `fH v7),(v5 `i6 u5),(`bjj),["_law_cut", `on],(`Kx:`j),FnT P w K mg `l `F `va 1 `aP u9 R5,(`bjk),C_Reader_open_parts,C_Reader_web.plain,(`bjn),(spD K lx0),(`bjo),C__law_stands,(M5 `vc),(M5 `Yy),C_Reader_give,FnD P w K mg `l `Ky 2 `Kz O2,(`bjv),C_made_part,(n6 X8 Z1 `bl v7),(`bjz),(G7 `me v7),(`bjB),(`bjC),FnD P w K mg `l `KA 1 `YB vh0,(`bjD),(`bjI),FnD P w K mg `l `KB 1 `YC yx0,(v5 `kr u5),Fun K x x st f fd,∀(kV doc pm:`G) (an:`bm) (cdv ct u:`G),`ru `Bl `S7=`bI (`pJ [u]),#[f,fd,o,`KC,`KD,`KE λ_ _ _ _ _ _ us h=>by let#[u,rfl]:=us1 `KF;exact b _ _ _ _ _ _ _],∀(kV doc pm:`G) (an:`bm) (cdv ct u v:`G),`ru `Bl #[[u,v],[]]=`bI (`pJ [u,v]),#[f,fd,o,`KC,`KD,`KE λ_ _ _ _ _ _ us h=>by let#[u,v,rfl]:=us2 `KF;exact b _ _ _ _ _ _ _ _],(`z f36),`cL `oq `oq (V4 `vg) (Y8 `vg) (t6 `vg) `af kV36 dc36 pm36 an36 cd36 ct36,"NoPack.__init__",cdI_NoPack,bmV.contains `mU,⟨k0,k1,k2,k3,`a (`bo `RL),k5⟩,`d_ `eP (`k7::`a3),Heap.get?_push_at,`a1P rfl rfl,Obj.cls_mapFields,
(λq=>nomatch q),tupleKind,λc v _ q=>k c v q,(oq0 h H).get?,X.s₀.heap.get?,#[⟨⟩,by rw[e];simp],λb ps e=>`a1X,`Fi==.module&&`f4 != `Se,(`a1Z),`Fi==.class||`a1_,(`a10),TP X `i σ Q,SP X `i D,by rw[I.ok.glob];exact `alw,h `i s σ H Q I hw,h `i s σ H _ I hw,`pB .And [a] pos,ha `i s σ H Q I h,(`a18),thn `a19 λc s1 e=>?_,`pB .Or [a] pos,`pB op [a] pos,∃σ' H',`m'/\`alC,λ_ s'=>`a2a,V->Hp->(`iw)->Prop,V->`a2c,`lg o i pos,hi `i s1 σ H1 _ I1 q1,`hy [tg] e pos,.While c `d1 [] pos,by rw[z];exact hb,`alE tg `pC u,PIE X `i σ tg R,"dict_itemiterator","dict_reverseitemiterator","odict_iterator","itertools.zip_longest","itertools.pairwise",[`m!, `f7, `a2l, `a2m, `a2n, `a2o, `a2p].contains,λb o hb e=>`alG e,SqL K H1 a xs,∃xs,`a2s,hl `i s σ H _ I h,`aV (`bh `sQ p) [a] [] pos,.For tg `jC `d1 [] pos,(E1 _ (rj0 hb e)),E1 _ `a2x,hb `i s1 σ H1 _ I1 q1,ho `i s2 σ H2 x y v u Q I2 rx ry q,λv u s2 x y H2 I2 rx ry q=>`a2A,Qk0 ha hb I h `a2B,intBits_le_64 h1 h2,y=`x/\Q (.bl (`alT)) H,λx y H Q=>`a2E,Q (.bl (!`alT)) H,y=`x/\`a2G,λx y H Q=>`a2H,`FG∨r' x y H Q,λx y H Q=>`a2J,ho `i s2 σ H2 x y v u _ I2 r1 r2 q2,`x8 a `alU [b,c] pos,if j > i then j else i,(`a2N),`g `a2O,Q `alW H,xs=`FH/\`a2Q,∃i j,`a2R,λxs H Q=>`a2S,if j<i then j else i,(`a2U),`g `a2V,Q `alX H,xs=`FH/\`a2X,∃i j,`a2Y,λxs H Q=>`a2Z,xs=[`bi]/\Q `f6 H,∃i,`a20,xs=[`s5]/\Q (`Sv) H,(`a21),∃k,`a22,`a23∨`a24,λxs H Q=>`a25,(x.cps.getD 0 0:Nat),`g `a27,(`a28),Q `a29 H,`pH=1/\`a2',xs=[`b1]/\`a2!,∃x,`a2?,λxs H Q=>`a3a,W.plainOver,if g=f then `a? else mA g,`cI e f pos,`hy [`al6] `fi pos,hv `i s σ H _ I h,ha `i s1 σ H1 _ I1 q,h pos `i s σ H _ I hq,.List es pos,`hq C dx [],λv H2=>`s7/\Q `ju H2,q20 I hg hm ?_ hdb,`cI o m `eV,`aV `al8 `gK [] pos,keywordEach,`a3p [] `w,∀v,(x,v)∉binds,x.above y c (L3 h),(`a3s),by simpa using hi,`cL `cF `eq params `d1 `dd dV kV doc pm an cdv ct,qc0 CX P w K mg `l N `eq `dd f cdv A `b2 s H E,uh0 I hg hm hv ?_ hn hdb,(`a3x),λus s1 #[vs,H1,I1,r1,q1]=>`amb,thn `yp `a3z,
by simpa using hv,by simpa using hw,if v<0 then max (v+`dM) 0 else min v `dM,(Ar0 `pM `r ?_),args_tuple_getitem,`a3F _ _,entry_tuple_getitem,(`a3G),O0 b5 `pM `a3H ?_ `a3I,(qu0 hs pl pu ?_),#[_,rfl,A2 h],A2 `a3L,A2 `SR,`amk lo hi `d p2,`lg e `aml pos,hl `i s1 σ H1 _ I1 q1,hu `i s2 σ H2 _ I2 q2,Heap.IsSliceOf.new,`a3S ..,by rw[hj];simpa using ew,by rw[`bM]<;>lia,fin its r' hz h' c' kp e,λh' c' kp e=>`a3W,(`S_/\`amp)∨(`S0/\Q `dv H),(`a3Y),`nl/\`a3Z,∃p ys,`a3_,λxs H Q=>`a30,`cI o `cF `eV,λ_ _ q=>`ta,s'.os=s₁.os/\`Gc,OldK `nn `na/\`a34,r=.ok (`eR `yA)/\`a35,λr s'=>`a36,λf vs=>PySem.call f vs,`aq rfl `X,`alp n==`jw,`amE&&`a3',#[`Gk,`jC,ifs,0],[`a3?],`Gl elt `a4a `dd pos,J.stop i H2/\Q `pW H2,(`Td&&`amJ&&`amK),`a4d=`c,if `a4e then `yG else k,λk=>`a4f,(`s8 x).map `a4g,by rw[hsc];exact z,by show `Sc x.1=_;rw[hsc];exact z,`hy `ns `nr spos,`u (`amU sep ys),`dx λa=>`u (h a),(`a4m),fs0 a C od,(`a4o),`px `a4p,by simpa using hl,tDT X.K B δ g,q σ H Q z,tDS X.K `O `L δ G,(b2 b z.1).resolve_left,by simpa using z,tDG K idx f B d δ v σ H Q,∃B d δ,`a4x,λv σ H Q=>`a4y,upd H6 L (`o (ys++[v])),ht cl s _ ex B δ `i s' σ H Q I h,λcl s H ex pins s' σ H Q I #[B,δ,h]=>`a4B,`p!/\∃δ,`y2=`yN,(`a4D),`a4E∨`TV,`anl∨`a4F,`u (`anp z lo hi),`aV (`bh `tB p) [e,`GX] [] pos,W00 (v:=.ty T) hgT hmT hb rfl hn hd,(`a4J),R8 `a4K zt0 he2,`aV (`bh `tc p) [e] [] pos,h1.symm.trans,if `G6 then (`qd,y) else kv,λkv=>`a4O,`G8 `a4P,by rw[l];exact `T9,ho `i s1 σ H1 _ I1 q1,`nG kvs p.1 p.2,(`tE:`bA).length,`a4U+`y5,`a4V+`y6,`a4W<30,(`a4X),s=`tC/\o'=`nx,∃d,`a4Z,`tG (λo sl h=>?_) `hD,`t [],(`a41),`cQ `a42 [],gc `anK,F.args_int_rmul_2,`a45 _ _,ih m' d e x y u w `bU a2 h1 h2 h3 h4 h5 h6,λd e x y u w h1 h2 h3 h4 h5 h6=>`a47,ov0 a1 Z rr O rv U `a48,by rw[s1,s2,hl],by rw[s1,s2];simpa using hl,`pG a .Add b pos,`pG a .Mult b pos,by first|exact e2|rfl,by first|exact e3|rfl,S.trans `fr,`aV `nd [e] [] pos,.bl (`Us a b),{ cls:=`en,dict:=`d,data:=`b7 acc' c',slots:=⟨⟩ },code_list_new _ `ln,
∀b o,`zi,`q `ag A (`d_ `zf [v]) Q E s1,λv s1=>`a5j,`bh `eS p,`aV `an8 [`Uw] [] pos,`lg `ez e pos,xr0 pr.1 pr.2 q d,.dK ((`an!).zip ys),Builtin.«zip.__next__»,`a5q #[[`qn],[]],D7 hz rfl (x:=`RO) rfl ?_,(`a5s),D7 hz rfl (x:=`z TI) rfl ?_,(`a5u),h1.extBut `qo D.i1z,hl1.extBut,`a5x `qo D.l1z,h2.extBut `qo D.i2z,(`a5z).extBut,`a5A `zj D.i12.symm,hl2.extBut `qo D.l2z,(`a5C).extBut,`a5D `zj `UH,F.args_zip_next_1,`a5F _,`Ho->c≠TO->`aod,∀c o,`a5H,{ cls:=`en,dict:=`d,data:=`b7 acc c,slots:=⟨⟩ },#[[`z S,`qn,res],[]],`bo `aoh `a5K,`UE->`e? c=`ap->`aoc,`UD->`a5M,c≠TO->`a5N,`Ho->`a5O,∀c o,`a5P,∀b o,b<lo->`zi,`aom/\`tJ h' a x y,`F4=`dn/\`a5S,∃x y,`a5T,`aon->`a5U,∀(j:Nat) (a:`f),`a5V,`d_ `tM [`z l1,`z l2],I.hok.lt q,`aV (`bh x1 p) [`UU] [] pos,`aV (`bh `f7 p) `nD [] pos,`aV (`bh `m! p) [a] [] pos,Q `aoA H,xs=[`nN]/\`a51,x=`hK/\`a52,∃a b:`Hx,`a53,λx xs H Q=>`a54,pv0 ga gb gc f f',n==1||`pH==0,`e! `Hz,(`a58),`HA 1 `a59,`U1 `aoE,λz=>n1 (z▸oke),`U2 `gV `d,λz=>n1 (z▸okT),(`a6b),oth b `a6c,(`a6d).trans,`a6e h1,`Fm b o u e,`bh cn np,`cI `U' `dZ `eV,(`a6i),`aV `a6j (`nO) [] pos,λb u n z=>oth b u n z,upd (upd H e `zu) dx `tT,`bh cn p1,`cI `aoO `dZ p2,(`a6o),`aV `a6p `aoR [] p8,tXS X `O `L δ G,h1.go `O `L δ,upd H a `aoY,XC.Z90 K `jt c f,`zy lo (hi - lo),by simpa using hy,(O y tk).mp hb▸e1,k30 (v:=`gL) hg hm rfl hd,Builtin.List.listFitsIndex,(wf0 (q:=q) rx).2,`Vg/\Q (`g `jv) H,`nl/\`a6B,∃(p:`f) (kvs:`gW),`a6C,λxs H Q=>`a6D,Ends.closing a D,tDB X.K `O `L δ G,by simp only[z,`cS];exact e,O.less less,vs.take j++`bt::vs.drop j,(.ow (bm.2 q.2)),`aX i `a6K,h `i s σ H _ I q,λb hb=>`Vw id `eU,upd `t_ c so'.ho,as.zip (`H1),upd (`hL H' `ev) c so'.ho,`cI o `H7 `eV,jw0 (h1.go B δ),(`a6S),R8 `a6T zt0 hs,`aV `al8 [] [] pos,`hy [`aph] `fi pos,R0 (i:=i) hN hvis hd hcd,(`a6X),U9 `a6Y,hv.go B δ,(`cI o `H? `eV),`aV `a60 [] [] `ca,`cI `Vu m `eV,`aV `VG `gK [] pos,`aV `VG [] [] pos,`tZ b1 b2 hi O hh J,(`apl).set j .un,[dk,`VK],`y `a67,`VL X.K `O `L H' σ' `apm i j `VM,
`a69->`apn,∀σ' H',`a6',`Ia/\`a6!,`Ib/\`a6?,`VN/\`a7a,`HP=`a dk/\`a7b,`zv/\`a7c,∃H₀ B₀ δ dk ns,`a7d,λD σ H=>`a7e,(`VS).resolve_left,`a7g n,`aV `aps `ns [] `ca,(`VV).set j (.sh d'),by rw[z];exact J.w.in0,#[tg,`jC,[],0],wg0 B δ `i s' σ H Q I h,λcl s H ex pins s' σ H Q I #[B,δ,h]=>`a7m,v70 n `cM i `t4 gi f gx,by rw[m5 a7];exact e,λo e=>`a7p,(`Gt).set `t4 `VX,`Gl elt `apv `dd pos,hi B δ `i s σ H R I h,λpins s σ H R I #[B,δ,h]=>`a7t,he cl s _ ex `O `L δ `i s' σ H Q I h,λcl s H ex pins s' σ H Q I #[`O,`L,δ,h]=>`a7v,`gH `VY `yK `Tg `w,tTX X.K `O `L δ gt,`apq `zI,`gg `Ii a `V2,`aV (`bh c p) [] [] pos,`gH `apz `yK `Tg `w,`ao5 C dx [],[x].zip `apA,zv0 xs l u c,`amk lo hi st p2,`lg e `apF pos,oA `lW T8,o2 `ac `V6 ltD,(`a7J),ob `a7K,(o2 `an `ac ixD),V0 `a7M,o2 (o2 `gj `gj U6) `gZ d8,(`a7O),o2 `an `a7P d7,(`a7Q),o2 `a7R `zN m7,(`a7S),o2 `az `a7T ixD,(`a7U),o2 `g_ `a7V d8,(`a7W),Z7 `j6 `a7X,(`g 7),gc `a7Z,o2 (o2 `an `Io d8) `zN m7,(`a70),o2 `az `a71 ixD,(`a72),Z7 (gN 8) `a73,o2 (o2 `an `zN d7) (o2 `Io `zN d7) d8,(`a75),o2 `a76 `zN m7,(`a77),o2 `az `a78 ixD,(`a79),o2 `t7 `a7' d8,(`a7!),Z7 (gN 8) `a7?,o2 `an `gZ m7,xi0 `g_ yo0 (`hN `hO),(`a8c),o2 `a8d `t7 d8,(`a8e),z60 6 `a8f,(`a8g),j8 `a8h,o2 `V7 `a6 eqD,(`a8j),ob `a8k,o2 `Io `V8 m7,(`a8m),`hN `a8n,(`a8o),xi0 `g_ yo0 `a8p,(`a8q),o2 `a8r `t7 d8,(`a8s),z60 6 `a8t,(`a8u),j8 `a8v,gc (`g 35),(`a8x),o2 `Io `a8y gtD,(`a8z),z7 `a8A v6,(`a8B),oA `a8C intOfD,o2 `a6 `apH d8,(`a8E),`hN `a8F,(`a8G),xi0 `t7 yo0 `a8H,(`a8I),z60 6 `a8J,(`a8K),j8 `a8L,gc (`g 12),o2 `Ip `apI mz0,o2 `ac `a6 d8,(`apK),gc `a8Q,o2 `ac `t9 ltD,ob `apL,gc (`g 64),o2 `Ip `apM mz0,gc (`g 57),(`a8V),o2 `a8X `apN d8,(o2 `az `ac ixD),(`a8Y),o2 `a8Z `a8_ m7,(`a80),Z8 `a81,(`a82),V3 `a83,o2 `ac `t9 m7,o2 `az `apO ixD,`g 2147483647,(`a87),gc `a88,(`a86),o2 `a8' `apP m7,o2 `gZ `ac U6,o2 `apQ `ac U6,(`a8!),(`a9a),o2 `a9b `a9c d8,(`a9d),o2 `a9e `V8 d8,(`a9f),o2 `a9g (gc (`apR)) U6,(`a9h),o2 `a9i `apP m7,(`a9j),Z8 `a9k,(`a9l),V3 `a9m,T6 0 v6 S8,
G6 `apS `zO,j9 `apT,(o2 `Ir `bk eqD),ob `a9r,(`apV),gc `a9t,dgO 0 `V!,`u `V?,(`a9w),gc `a9x,o2 `an `a6 d8,o2 `az `apW d7,(o2 `zQ `g0 m7),Z7 `bV `a9B,(`a9C),j9 `a9D,(`g 5),gc `a9F,o2 `zQ `apY m7,(`g 13),gc `a9I,o2 `zQ `apZ m7,(`a9K),z7 `a9L v6,(`a9M),z7 `ap_ `a9N,(`a9O),z7 `ap_ `a9P,(`a9Q),U5 `a9R,o2 `ac (gc (`g 52)) d7,(`a9T),o2 `a9U `gZ m7,(o2 `zR `bk eqD),ob `a9W,T6 1 v6 Q8,v70 1 [0] 0 1 (u00 `eb) `bP `Wa,(`a9Z),jv0 3 `a9_,(`a90),j9 `a91,o2 `zR `a6 eqD,(`a93),ob `a94,`u "pool",(`a96),gc `a97,dgO 0 `ap2,(`a99),Z7 `iO `a9',(`a9!),j9 `a9?,o2 `ac (gc (`g 156)) d7,oA `qG T8,o2 `Wb `a6 z70,(`a'b),(`a'd),o2 `a'e `a'f m7,(`a'g),o2 `a6 `a'h d8,(`a'i),Z7 `qH `a'j,(`a'k),j9 `a'l,nr0 0 1,(`g 1000),gc `a'o,(`a'p),o2 `az `a'q d7,o2 `an `gj U6,(`a'r),(`a's),o2 `a't `a'u d8,(`a'v),(oA `t' T8),o2 `a'w `a'x m7,(`a'y),o2 `g_ `a'z ixD,(`a'A),z7 `a'B `eB,(`a'C),y00 `a'D,(`a'E),T4 2 [1,4,5] (is0 `t') `Wc noT `a'F,(`a'G),z7 `a'H v6,oA `ap3 yw0,(`a'J),Z7 (gN 6) `a'K,(`a'L),j9 `a'M,(o2 `zR `ec eqD),ob `a'O,gc (`l_),gc (`l0),`hN `ap6,(`a'S),xi0 `an `a'T yo0,o2 `ap7 `ap8 d8,o2 `az `nT d7,(`a'W),o2 `a'X `nT m7,o2 `ap9 `gZ eqD,(`a'Z),ul0 `V! `a'_ Uf0,(`a'V),(`a'0),ul0 `ap' `a'1 `a'2,ul0 `l1 `bk `ap!,`zU 3 `We,z7 (gc (`g 53)) v6,(`a'6),z7 `apZ `a'7,(`a'8),U5 `a'9,o2 `az `apY d7,o2 `ap? `ec m7,T6 1 v6 N6,o2 `an `g1 ixD,z7 `bk v6,(U5 `Wg),N8 2 `a!d,o2 `az `nU fg0,ob `aqd,(`a!g),e70 `a!h,(wv0 `c),o2 `g_ `ac `a!j,ob `aqe,e70 `aqf,o2 `an `g_ ixD,z7 `aqg v6,oA `aqh Q9,(`a!p),uo0 `a!q,T4 1 [] `aqi `bP `t? `qJ,(`a!s),Z7 `iO `a!t,oA `qG tw0,(`a!v),o2 `az `a!w ra0,N8 2 `aqj,(`a!y),U50 2 `a!z,Z7 `iO `aqg,(uo0 (oA `qG Q9)),T4 1 [1] `a!C `bP noT (oA `Iy t20),(`a!D),Z7 `qH `a!E,o2 `gj `bk ixD,o2 `aqk `t! eqD,(`a!H),ob `a!I,z7 `hO v6,oA `aql yw0,(`a!L),z7 `a!M v6,(`a!N),z7 `t! `a!O,(`a!P),y00 `a!Q,(`a!R),Z7 `iO `a!S,o2 `aqk `zW neD,(`a!U),ob `a!V,(o2 `gj `g1 ixD),tupI `a!X,(`a!Y),T4 1 [] `a!Z `bP noT `j7,(`a!_),Z7 (gN 6) `a!0,xi0 `gj yo0 `aqm,z7 (gv 6) `aql,(`a!3),oA `a!4 cp0,(`a!5),z7 `a!6 v6,(`a!7),
oA `a!8 yw0,(`a!9),z7 `a!' v6,(`a!!),y00 `a!?,(`a!2),(`a?a),o2 `a?b `a?c d8,(`a?d),Z7 `iO `a?e,o2 `j7 `Wh eqD,(`a?g),ob `a?h,(z60 1 `qJ),j8 `a?j,o2 `qJ `ac (vr0 `c),(`a?l),pu0 `qI `a?m,(`a?n),V0 `a?o,o2 `an `bk ltD,(`a?q),ob `a?r,unG U4 `ec,(`a?t),o2 `a?u `an U6,(`a?v),o2 `a?w `a6 z70,(`a?x),V0 `a?y,o2 `ec `an U6,(`a?A),V0 `a?B,(o2 `an `iP nm0),ob `a?D,oA `eB xt0,(`a?F),o2 `a?G `a6 z70,(o2 `ac `qJ pc0),o2 `aqn `a?I z70,(`a?J),o2 `g0 `a?K U6,(`a?L),o2 `a?M `ec d8,(`a?N),V0 `a?O,o2 `g0 (oA `lW vk0) U6,(`a?Q),o2 `a?R `a6 d8,(`a?S),V0 `a?T,o2 `an `j9 m7,(`a?V),z7 `a?W v6,(`a?X),U5 `a?Y,(`a?Z),N8 1 `a?_,o2 `an `j9 d7,(`a?1),Z7 `bV `a?2,oA `eB tw0,(`a?4),ji0 `a?5,(`a?6),Q7 `a?7,oA `lW ny0,T4 1 [] (j40 `an) `bP noT `aqo,(`a?'),Q7 `a?!,o2 `an `ac `aqp,ob `aqq,(o2 `ac `an pc0),o2 `aqn `bac z70,(`bad),o2 `ec `bae U6,(`baf),z7 `bag v6,(`bah),oA `bai V8,(`baj),Q7 `bak,o2 `ec `V6 U6,(`bam),o2 `ban `a6 d8,(`bao),z7 `bap v6,(`baq),oA `bar V8,(`bas),o2 `bat (oA `lW P0) ra0,(`bau),Q7 `bav,z7 `aqb v6,oA `aqr T8,(`bay),o2 `g0 `baz U6,z7 `j7 v6,oA `aqs `aqt,(`baA),(`baC),o2 `baD `baE d8,(`baF),V0 `baG,(oA `zY P0),Q7 `baI,z80 isStr `ac,(`baK),ob `baL,z7 `ac `t',oA `aqu wb0,(`baO),Q7 `baP,z7 `ac `eb,oA `Wl zg0,ob `aqv,o2 `ac `a6 ixD,o2 `an `aqw ixD,(`baV),Z7 `iO `baW,o2 `g0 (oA `qG z40) U6,(`baY),o2 `baZ `gZ d8,(`ba_),z7 `ba0 v6,(`ba1),oA `ba2 V8,(`ba3),o2 `ba4 (oA `qG zs0) ra0,(`ba5),Q7 `ba6,oA `Wl zo0,(`ba8),z7 `ba9 v6,(`ba'),oA `ba! V8,(`ba?),Q7 `bba,N8 2 `Wm,N8 3 `Wm,z7 `l1 `Wg,(`bbe),y00 `bbf,(`bbg),z7 `bbh v6,(`bbi),U5 `bbj,(`bbk),N8 4 `bbl,wm0 `Wb,(`bbn),o2 `bbo `bk gtD,(`bbp),ob `bbq,G6 (qs0 4) `qH,z7 `az `t',(`bbt),z7 `hO `bbu,(`bbv),z7 `an `bbw,(`bbx),oA `bby zm0,(`bbz),mw0 `bbA,(`bbB),v40 1 `bbC,j8 `aqx,z80 isStr `hO,(`bbF),ob `bbG,oA `t' xt0,(`bbI),wm0 `bbJ,jm0 3 `hO `aqy,j8 `aqz,z7 `hO `eb,(`bbN),oA `bbO zg0,(`bbP),mv0 `bbQ,ob `aqA,oA `eb xt0,(`bbT),wm0 `bbU,(`bbV),Z8 `bbW,o2 `hO `a6 ixD,`zU 2 `aqB,G6 `aqC `aqD,o2 `an `aqB ixD,(`bb0),z7 `bb1 v6,(`bb2),oA `bb3 K6,(`bb4),
z7 `bb5 v6,(`bb6),oA `bb7 tw0,(`bb8),v40 4 `bb9,j8 `aqE,(`u `Wn),gc `bb?,zc0 0 `j',o2 `aqF `bk gtD,ob `aqG,(`u "end"),gc `bce,o2 `qK `aqH eqD,(`bcg),ob `bch,(`bcd),(`bci),uk0 `bcj `bck,popS 0 `j',gc (`g 20),o2 `g0 `aqI U6,(`bco),o2 `g0 `bcp U6,(`bcq),o2 `bcr `gZ d8,J2 0 `iQ `g1,J2 0 `Wo `a6,u20 0 `F `l2 `bk,(`bcv),j9 `bcw,o2 `an `zW eqD,(`bcy),ob `bcz,(o2 `an `t! eqD),ob `bcB,o2 `an `Wq eqD,(`bcD),ob `bcE,`u `ua,(`bcG),gc `bcH,z7 `aqK `aqL,(`bcJ),U5 `bcK,(`bcL),o2 `bcM `ac mulL,o2 `az (oA `eB ug0) gtD,z7 `l1 (z7 `IE v6),(`bcP),y00 `bcQ,(`bcR),z7 `bcS v6,o2 (o2 `an `ec m7) `a6 eqD,j4 0 `F `l2 `ed,o2 `az `bk eqD,ob `Ws,Y0 0 `F u9 `eb ze0,(`bcY),W0 `bcZ,gc (`aqM),(`bc0),z7 `bc1 v6,oA `Wt T8,(`bc3),o2 `g_ `bc4 U6,(`bc5),Z7 `j6 `bc6,o2 `V6 `ac eqD,oA `eb ny0,(`bc9),o2 `bc' `an eqD,ob `aqP,z7 `ac `Wt,(`bda),oA `bdb vh0,(`bdc),Z7 `bV `bdd,(`bde),j9 `bdf,o2 `az `iP nm0,ob `aqQ,j4 0 `F `hQ `ed,plN `aqR,j4 0 `F `nV `ed,o2 `IF `az d8,z7 `aqT v6,(`bdn),z7 `Wu `bdo,(`bdp),fnN 0 `nW `bdq yx0,(`bdr),ob `bds,(`bdt),yn0 `bdu,(`bdv),yr0 `aqU `bdw,u20 0 `F `nV `aqT,(`bdy),j9 `bdz,o2 (oA `aqV T8) `Wu eqD,o2 `ac `bk ixD,z7 `aqw v6,(`bdD),z7 `aqW `bdE,(`bdF),oA `bdG O2,(`bdH),z7 `bdI v6,zc0 0 `nW,o2 `qK `aqK eqD,(`bdL),ob `bdM,Y0 0 `F u9 v6 M9,(`bdO),bu0 `az `bdP (wv0 `p),Y0 0 `F u9 `eb W7,(`bdR),j8 `bdS,(`bdT),j9 `bdU,o2 `Wv `Iq eqD,Y0 0 `F u9 v6 W8,o2 `Wu `bk gtD,oA `lW vy0,pv0 `bk `an (gc `IG) leD leD,oA `eb vu0,ob `aqX,(`bd1),yn0 `bd2,Y0 0 `F u9 `eb U8,(`bd4),W0 `bd5,zz0 `aqY,ay0 0 `F `qO `a6,(`bd8),j9 `bd9,Y0 0 `F u9 v6 J5,(`bd!),j8 `bd?,(`bea),j9 `beb,ot0 0 `qL 1 [] `bP `IH,V3 `aqZ,(`z6).cps.toList,(`aq4).length,(`beg:Nat),(`beh:Int),k<`bei,(`bej),`B `bek,(`bel),`a `bem,by rw[`P];exact h,by rw[`Z];simp only[`Y,`fy];lia,o2 `V7 `IM eqD,t80 (p:=p) (b:=`WA) rfl rfl hn,(`ber),ic0 `bes rfl,(`bet),show `g4<37 by decide,by let#[c,_,rfl]:=`d9 hq;exact `ho,λq hq=>`bew,`s!*`qS,a+`bey,((i+d:Nat):Int)*`qS,a+`beA,N/36+`eX/36,(`beC),`beD%36,`B ((35:Int)<`eX),(`beF),`a0 `beG,(`beH),`a `beI,
rw0 `g5 `k `k,bk k cs `p m `aM,(`beL),z9 p `beM,(`beN),.ow (z9 p (`Ag)),show `n4≠0 by lia,(`aq1 `gk).length,(`beR:Int),`a7 `beS,(`beT),`a `beU,Q5 xn0 0 p `iS [],xa0 `I4 `I5,`IZ (`WS).toNat "",by show 3<=`R;lia,bk k1 cs sm m `aM,Nat.min_eq_right,by rw[ix δ h,q],(z9 p (R (`iT))),by rw[c0,hu];rfl,by rw[hu];exact B0,(`B (b8 w=b8 v)),`a0 `be5,(`be6),`a `be7,.ow (z9 p (R `l5)),Nat.not_lt_zero _,if `uu then _ else `d,(`be!),`fB _ (`W7),(`aW n w).flatten,o2 `an (gc (`nN)) eqD,if kd=0 then 20 else 12,va0 `Ja kd,`I? `arx [`cm],(`aW n _).length,(z9 p (R (`ux))),4*(4*n+kd),ym0 [`bY,`eZ,.un],lf0 p S _ w ws hw,o6 (x:=`WY) (y:=`Wj) (d50 p S _) rfl,by rw[`bfl];exact `Xb,`a0 (`B (b<128)),(`bfn),`a `bfo,if `s4 then _ else zz0 _ _,(`bfq),`e_ `bfr _,b.isPrefixOf,{ S with length:=L },zv0 xs (`a 1) `d `Jk,((`AC).map `ra),`y `bfw,by rw[`Y] at hl;lia,o2 `an `g1 ixD [.sh X],(`bfz),`e_ `bfA _,match d with|`y [a,_]=>a|_=>`x,λd=>`bfC,S7 K5 [`g8 (1,`dU)],(z9 p (R (`Jq))),∃s:Str,d=`eg/\`rb,((`z5).length:Nat),(`bfH:Int),`a7 `bfI,(`bfJ),`a `bfK,ua0 (items:=`z5) rfl e,(`bfM),t8 `bfN `uM,`AJ #[d,hd,rfl],(`bF `gN),nd `bfQ,`ar5 - `JB,(`ar8).mpr,`bfT h,(`ar8).mp,`bfV z,(`bfW),h `bfX,λz=>`bfY,`bZ - 1 - `uQ,(`bf_),4*`bf0,by rw[`asd];exact `ase,by rw[`asf];exact `ase,by rw[`asg];exact ax0 B j,st ps o B T (d::W) s,st ps o B T W `tj,`AJ #[p,hp,rfl],hc k hk i (Rz0 hu),(`bf8),by rcases hg with z|z;exact `gc;right;lia,by rw[J];exact hc,by rw[J];exact th,by rw[J];show `AW;lia,by rw[J];exact hln,by rw[J];exact h8,by rw[J];exact O,by rw[J];show 0<`dz;lia,#[`bge,ht],`t `bgf,(`bgg),sn0 S1 _ w ws w1 hv _ _ `bgh,q60 hn hj',`s #[0,rfl,J.1],(`bgk),`s `bgl,(`bgm),`s `bgn,by rw[`uU];exact `bgo,λd hd=>`bgp,(`iR (`asK)).map,`bgr `ra,(`bgs),(`WB (`asL `h0)).map,`bgu pr,(`bgv),S0.begun.modify `bZ _,v60 ps `h2,A.un.trans,`bgz hu,by rw[`rl,ie0 hk,`aZ];rfl,by rw[A.wt,hw,`Z,`c7,pe0 s1];rfl,(`XD qs).d,K1 (hc _ qs rfl h),(`bgE),V9 `bgF,.sh (`Jx c qs).d,ns5 ps B W d3 s4,ns5 ps B (j::W) s3 s4,ns5 ps `ki (`J!++W) `uY (`as_),
t8 (δ':=`bgK) ?_ rfl,ns5 ps L [] s3 s4,`as2 `A6,(`bgN).map,`bgO pr,`y `as3,[`bgQ],`o `as3,(`as4 `A6).map `Ur,(`bgT),`eD `bgU,(`bgV),`a `bgW,by show 1<=`R;lia,`aV `U' [ae] [] `ca,(`bgZ),`a `bg_,(`bg0),.Raise `bg1 `d pos,tXB X `O `L δ G,fz0 n N j G b ds,Rp X.K H' B y v->`m6,`bb->`bg5,Env X.K H B σ q.2,∀v H',`bg6,`bg7/\`bg8,∃B,`bg9,λpins s σ H Q I (h:`bg')=>?_,`gS ev.s c1 c2 env `yX,b₀::suite,(`a (`bh c0 np)),.ExceptHandler `bhb (`dn) `as! hp,`aV `VG [`Yb] [] pos,gc (`g 9),(`bhe),z7 `bhf v6,o2 `az `g1 ixD,wm0 `ata,oA `aqu Y9,(`bhj),o2 `bhk `gZ d7,o2 `ec (o2 `an `g0 d7) d8,(`bhl),(`bhm),o2 `bhn `bho m7,(`bhp),o2 `atb `bhq d8,(`bhr),z60 2 `bhs,(`bht),j8 `bhu,oA `Iy jg0,T4 1 [0] (uo0 `az) `bP noT `Yc,z7 `ac `atc,(`bhy),oA `bhz Y9,(`bhA),o2 `bhB `gZ m7,(`bhC),o2 `bhD `a6 eqD,ob `atd,(o2 `an `a6 z70),z7 `bhG v6,(`bhH),z7 `atb `bhI,(`bhJ),oA `bhK V90,(`bhL),z60 2 `bhM,(`bhN),j8 `bhO,j4 0 `F `qO `ed,plN `ate,Y0 0 `F u9 v6 N7,w00 `atf `ac neD,bt0 `A9 `atf,ob (z80 `A9 `hO),o2 `ac `az eqD,Y0 0 `F u9 v6 `atg,z7 `t9 `qG,z7 `bk `ath,(`bhZ),T6 6 `bh_ z10,(`bh0),W0 `bh1,Y0 6 `F u9 v6 R5,(`bh3),w00 `bh4 `bk neD,(o2 `Yd `t7 geD),ob `bh6,`hN `t7,`hN `Yd,Vp0 `az `ati `atj,(`bh'),N8 10 `bh!,ob0 6 10 `F u9 z20,(`bia),w00 `bib `iP Vn0,(`bic),W0 `bid,xi0 `g_ `ati `atj,(`bif),z7 `big v6,(`bih),Y0 7 `F u9 `bii z20,(`bij),j8 `bik,z7 `Yd `ath,(`bim),T6 6 `bin z10,(`bio),W0 `bip,(`biq),zz0 `bir,vx0 [`bY,.un,.un],if `s4 then _ else W0 _ _,(`A'=`mb),`B `biv,`a0 `atk,(`bix),`a `biy,(mx0 S w1 w3 w4),`o (`Ym++[`fz]),(`biB),.ow (`o (`Ym)),al0 (ds:=`arC) rfl,by rw[`biE,`P],(`biF),`ae `biG `g5,`ae rfl `atr,(`u4).drop,`biJ 1,by unfold nc0;rw[Wj0];rfl,#[0,0,0,0],.Pass `biM,Z0 `aO `rq,kg0 `ats,λcl s H ex=>`ol,T.c_MOST_WORD_SIGNS,zb0 `biR,k70 (u70 `Bh) `aC,(`biT),X4 `biU,(u70 (v5 j5 `Bh)),k70 `biW `aC,X20 `aO `Kn xk0 `Kn,fm0 T.c_NAME_SIGNS,(`biZ),v5 `bi_ u5,zp0 `h5 `om,zp0 `h5 `u7,vp0 p20 `kn `md `ko `aO,v5 `aC `e0,wl0 p50 lv0 `h5 c6 `fI,(`bi5),G7 `bi6 v7,J7 `att,Z20 `rr `Yr `ol,(`bi9),M6 `bi',
G7 (O1 v7 `Kr) v7,pab 0 u5,C__law_next,xl0 0 `bjb `rt hr `r `atv,(`Yv:`j).Nodup,(`aG:`bjd),o7 0 `bje,λcl s H ex=>`bjf,v5 `aO `fI,lt0 3 `kp j5,l90 (Z0 `bl `rq),zr0 0 C_Reader_taken hr `r,C_Reader_whole,zr0 0 `bjl hr `r,xl0 0 C__law_refused `rt hr `r `atv,K7 C__law_web hr `r (v5 `aO `op),n60 0 v7 `kq,(`bjp),b7 `bjq,p10 0 `rp `kq,(`bjs),b7 `bjt,sa0 `aty,ro0 `fK `rq,yz0 `Yz `atz,n6 X8 Z1 `bl j5,b7 (s70 0 `bl `kq),n6 X8 Z1 `YA j5,n6 pi0 sp0 `me v7,b7 (s70 0 v7 `kq),n6 mh0 k00 `bl ud0,O9 0 `vf hr `r `e0,(`bjE),W3 `bjF,(`bjG),b7 `bjH]
theorem cQ{P:Prop}(h:∀G:Prop,(P->G)->G):P:=h P id
noncomputable section
open PySem
def A1:=@PySem.wpAny_bind
def A2:=@PySem.wpAny_pure
def A3:=@Nat.le_refl
def A4:=@Option.some.inj
def A5:=@PySem.Heap.lt_size
def A6:=@List.mem_map
def A7:=@List.mem_cons_of_mem
def A8:=@List.mem_cons
def A9:=@Ne.symm
def B0:=@List.mem_cons_self
def B3:=@PySem.Heap.get?_push_of_some
def B4:=@Nat.ne_of_lt
def B5:=@List.mem_append
def B6:=@Bool.false_ne_true
def B7:=@Nat.lt_of_lt_of_le
def B8:=@Nat.zero_le
def B9:=@List.getElem?_eq_some_iff
def C0:=@Nat.le_trans
def C1:=@List.mem_range
def C4:=@List.getElem?_eq_getElem
def C5:=@PySem.W.mg_of
def C6:=@Nat.ne_of_gt
def C7:=@PySem.Heap.get?_push_size
def C8:=@congrArg
def C9:=@PySem.wpAny_mono
def D0:=@List.mem_of_getElem?
def D3:=@PySem.wpAny_holding
def D4:=@Nat.le_add_right
def D5:=@PySem.Heap.get?_update_self
def D6:=@List.mem_append_left
def D7:=@PySem.wpAny_field
def D8:=@Nat.lt_irrefl
def D9:=@PySem.W.mg_none_of
def E1:=@List.mem_append_right
def E3:=@decide_eq_decide
def E4:=@PySem.PassesOwn.never
def E5:=@PySem.wpAny_specialOf
def E6:=@List.nodup_cons
def E7:=@PySem.Heap.get?_update_other
def E8:=@Nat.lt_trans
def E9:=@PySem.wpAny_loadPart_at
def G0:=@Int.emod_nonneg
def H0:=@beq_eq_false_iff_ne
def K0:=@Nat.le_of_lt
def K2:=@Nat.le_of_eq
def L3:=@PySem.mem_of_lookup
def L4:=@PySem.wpAny_newObj_type
def L5:=@PySem.call_meets
def L6:=@PySem.W.kia_one
def L7:=@PySem.wpAny_typeOf
def L8:=@PyProof.Rows.callWith_type1
def L9:=@PySem.codeAny_mono
def M0:=@PySem.wpAny_Call_Name_kw
def M1:=@Nat.lt_of_le_of_lt
def N3:=@PySem.wpAny_updateSeq
def N4:=@List.mem_singleton
def N9:=@List.mem_replicate
def O0:=@PySem.wpAny_call_entry
def P1:=@decide_eq_true
def P2:=@PySem.SeqAt.EqAt.same
def P3:=@decide_eq_false
def P4:=@List.mem_filter
def P5:=@PySem.wpAny_truthy_bool
def P6:=@PySem.wpAny_passesOwn
def P7:=@beq_iff_eq
def P8:=@PySem.Calls.spliced_cons
def Q1:=@PySem.typeIs_int
def Q2:=@PySem.F.plainAttrs_list
def S4:=@List.mem_map_of_mem
def T0:=@List.cons.inj
def U1:=@List.nodup_nil
def U2:=@Int.emod_lt_of_pos
def W1:=@PySem.F.excBase_ValueError
def X0:=@PySem.wpAny_call
def X1:=@PySem.wpAny_setField
def X2:=@PySem.Obj.data_mapFields
def Y1:=@PySem.codeAny_builtin
def Y2:=@PySem.wpAny_rule
def Y3:=@PySem.wpAny_standAt
def b4:=@PySem.Calls.spliced_nil
def b5:=@PyProof.Rows.slot_tuple_getitem
def b6:=@PySem.typeIs_str
def c6:=@PySem.boot_len
def c9:=@PySem.plainId_quiet
def d4:=@Array.getElem?_eq_getElem
def d5:=@List.getElem_mem
def d6:=@List.nodup_iff_pairwise_ne
def i3:=@PySem.Heap.get?_none_of_le
def i4:=@PySem.codeAny_call_builtin
def i5:=@PySem.Obj.isFreed_of_fields
def i6:=@PySem.SeqAt.EqAt.int_str
def i7:=@PySem.SeqAt.EqAt.str_int
def i8:=@PySem.wpAny_seqItems
def i9:=@Nat.lt_succ_self
def j0:=@PySem.wpAny_callSpecial?_slot
def j3:=@PySem.Heap.SameBut.update
def k6:=@List.length_eq_zero_iff
def k7:=@List.map_congr_left
def k8:=@PySem.F.plain_extend_loop
def k9:=@Prod.mk.inj
def l5:=@List.all_eq_true
def l6:=@List.pairwise_map
def l7:=@List.mem_flatMap
def l9:=@PySem.F.slot_NoneType_hash
def m3:=@PySem.F.slot_tuple_hash
def m4:=@PySem.SeqAt.EqAt.none_int
def n0:=@PySem.SeqAt.EqAt.none_str
def n5:=@PySem.SeqAt.EqAt.int_none
def n9:=@PySem.SeqAt.EqAt.int_int
def o0:=@PySem.SeqAt.EqAt.str_none
def o3:=@PySem.SeqAt.EqAt.str_str
def r8:=@List.getElem?_eq_none_iff
def r9:=@List.mem_filterMap
def t5:=@PySem.W.methodCall_KW
def t9:=@PySem.concat_meets
def u7:=@Option.map_eq_some_iff
def u8:=@PySem.wpAny_point
def v0:=@PySem.tupleKind_room_in1
def w8:=@PySem.F.slot_int_rmul
def x0:=@PySem.F.slot_zip_next
def x3:=@List.mem_iff_getElem?
def x4:=@PySem.wpAny_pyIter_zip
def x5:=@List.getElem?_zip_eq_some
def x6:=@if_false
def x8:=@Classical.choose_spec
def x9:=@List.length_pos_iff
def y0:=@List.not_mem_nil
def y4:=@List.length_range
def y6:=@List.nodup_append
def y8:=@List.mem_flatten
def A00:=@PySem.wpAny_isSubtype_exc
def A10:=@PySem.Code.quiet_builtin
def A20:=@Nat.le_succ
def A30:=@PySem.F.typeOf_object_class
def A40:=@PySem.wpAny_pyHash_int
def A50:=@PySem.wpAny_pyHash_str
def A60:=@PySem.wpAny_forIn_list
def A70:=@List.ext_getElem
def A80:=@of_decide_eq_true
def A90:=@PySem.SeqAt.EqAt.none_tuple
def Aa0:=@PySem.SeqAt.EqAt.int_tuple
def Ab0:=@PySem.SeqAt.EqAt.str_tuple
def Ac0:=@PySem.SeqAt.EqAt.of_refs
def Ad0:=@PySem.SeqAt.RcAt.tuples
def Ae0:=@PySem.wpAny_isInstance
def Af0:=@List.getElem_inj
def Ah0:=@PySem.wpAny_execs_nil
def Ai0:=@PySem.W.plainGet_of
def Aj0:=@PySem.Heap.size_push
def Ak0:=@PySem.W.callWith_K0
def Al0:=@List.of_mem_zip
def Am0:=@PySem.noFill_tuple_add
def An0:=@PySem.seq_tuple_add
def Ao0:=@PySem.F.slot_tuple_add
def Ap0:=@PySem.F.entry_tuple_add
def Aq0:=@PySem.F.args_tuple_add_2
def Ar0:=@PySem.wpAny_sequenceKey
def Au0:=@PySem.slot_list_getitem
def Av0:=@PySem.SeqAt.EqAt.none_bool
def Aw0:=@PySem.SeqAt.EqAt.bool_none
def Ax0:=@PySem.SeqAt.EqAt.bool_bool
def Ay0:=@PySem.SeqAt.EqAt.bool_int
def Az0:=@PySem.SeqAt.EqAt.bool_str
def B00:=@PySem.SeqAt.EqAt.int_bool
def B10:=@PySem.SeqAt.EqAt.str_bool
def B20:=@PySem.Calls.callWith_builtin
def B30:=@PySem.Calls.evalArgs_plain
def B40:=@PySem.wpAny_loadPart'
def B50:=@PySem.F.slot_list_append
def B60:=@PySem.F.type_list_append
def B70:=@PySem.callType_codes
def B80:=@PySem.wpAny_nextOf_list_item
def B90:=@List.pairwise_singleton
def Bc0:=@List.mem_iff_getElem
def Bd0:=@List.mem_of_mem_take
def Be0:=@List.Pairwise.imp_of_mem
def Bf0:=@List.mem_of_mem_drop
def Bq0:=@PySem.wpAny_callSpecialIfBoundUnlessNone?_slot
def Bt0:=@List.getD_eq_getElem?_getD
def Bz0:=@PySem.Calls.Name_function_global
def C90:=@PySem.plainObj_wpAny_Assign_Attribute
def Cc0:=@PyProof.Rows.callWith_builtin1
def Cd0:=@Nat.min_le_right
def Cl0:=@PySem.wpAny_getItem_list_slice
def Cn0:=@PySem.wpAny_comprehension_free
def Cp0:=@PyProof.Rows.boot_isinstance
def Cr0:=@Bool.eq_false_iff
def Cy0:=@PySem.F.slot_list_extend
def Cz0:=@PySem.F.type_list_extend
def D00:=@PySem.F.slot_list_pop
def D10:=@PySem.F.type_list_pop
def D20:=@PySem.F.slot_tuple_mul
def D30:=@PySem.F.slot_tuple_rmul
def D40:=@PySem.wpAny_binaryOp_repeat_ref
def Df0:=@PySem.SeqAt.RcAt.lists_lengths
def Dh0:=@PySem.F.called_list
def Di0:=@PySem.F.typeCall_list_1
def Dj0:=@PySem.F.entry_list_init
def Dl0:=@PySem.F.args_list_init_2
def Dm0:=@Nat.lt_succ_of_lt
def Du0:=@Array.getElem?_eq_none
def Dy0:=@Nat.add_lt_add_left
def E00:=@PySem.F.slot_int_mul
def E30:=@List.contains_iff_mem
def E50:=@List.findIdx?_eq_some_iff_getElem
def E60:=@PySem.F.slot_dict_setdefault
def E70:=@List.getElem?_set_self
def E90:=@List.nodup_range
def Eb0:=@List.eq_nil_of_length_eq_zero
def Ec0:=@List.ext_getElem?
def Ee0:=@List.isPrefixOf_iff_prefix
def Ei0:=@List.map_snd_zip
def Ej0:=@Classical.byContradiction
def Ek0:=@List.append_eq_nil_iff
set_option Elab.async false
set_option linter.all false
set_option maxRecDepth 100000
namespace XC
def vz0:`j:=[`E4, `or, `atC]
variable{b o e tg iter value elt ke ve:`I}{prog:`ao}{A:`bT}{E Q:`aj}{a it dx fa I z i1 i2 l1 l2:`f}{n i t' j k1 k2 x1:Nat}{y root x name m c qual x2 cn:Str}{v u doc pm cdv ct oc vl vu:`G}{mg mA:`a2}{cs rs N ps nm loose N' F pool T':`j}{rest suite:`b5}{od an:`bm}{tk:Tok}{K:`A}{h' base:`D}{l:`_}{vs us:`K}{α β κ:Type}{pins:`aw}{ch fp as as':`aS}{s':`v}{pos pos' tpos apos p2 cpos py spos px pos2 np pc hp tp p0:Pos}{ys:`aJ}{es ifs elts:`bA}{lo:`jU}{expr:`M}{kw:`nq}{fd:`e1}{sc scope:`cz}{XP:`Bm}{YP:`Bn}{caps idx L:`m}{oa:Obj}{b₀:`a1}
abbrev bmV:`K:=[`YE,`a! "Exception",`akU,`YF]
inductive Row (h:`D):`atD
 | end:Row h bmV
 | own {C:`f} {cls:`G} {dd:`bm} {cd:ClassData} {sl:`h6} {m:`a2} {tl:`K} :
   `e? C=`a { cls:=cls,dict:=dd,data:=`RK,slots:=sl }->h.Ns `EY m->(∀n∈vz0,m n=`d)->`YG->`atE
structure Cl(h:`D)(C:`f)(tl:`K):Prop where
 obj:∃(nm q:Str) (N:`f) (bs:`K) (hdct:`M) (sn:`j) (sub:`K) (ab:`M) (col:`pZ) (dd:`bm) (k0 k1 k2 k3 k5:`gz) (newId:`cd),
  `e? C=`a (`akW nm q C N bs tl hdct sn sub ab col dd k0 k1 k2 k3 k5 newId)
 row:`atE
def Row.has{h:`D}{tl:`K}(r:`YG){T:`cd}{b:`M}(hb:`atF):`aoU `mU=b:=by
 induction r with
 | «end»=>exact hb
 | own _ _ _ _ ih=>rw[`YH,ih];rfl
section
variable{w:`Q}{h:`D}{g:`jY}{d:`os}{t:Nat}{os:`vh}{C:`f}{o:Obj}{tl:`K}
def Row.along{M:`e2}{n:Str}{y:`gz}{Q:`rv}(hn:n∈vz0)(hy:`atG)(hq:Q y `cY)(r:`YG):`q M A (`akT tl n) Q E `cY:=by
 induction r with
 | «end»=>rw[hy];exact A2 hq
 | own h1 h2 h3 _ ih =>
  rw[`atH];refine A1 (wpAny_classOwn_cls h1 h2 ?_);rw[h3 n hn];exact ih
def Cl.look{M:`e2}{n:Str}{y:`gz}{Q:`rv}(c:`i7)(hn:n∈vz0)(hy:`lp (`YE) n=`bI y)(hq:Q y `cY):`q M A (`lp `bu n) Q E `cY:=by
 refine `e;let#[nm,q,N,bs,U,sn,sub,ab,Y,dd,k0,k1,k2,k3,k5,O,hC]:=c.obj;have J:`atG:=by
  rw[`YI,F.excBase_ValueError.mroIs] at hy;exact hy
 refine `b;rw[`YI];exact A1 (`atI hC (c.row.along hn J hq))
def Cl.sub{M:`e2}{Q:`YJ}(c:`i7)(hq:Q (`sv v) `cY):`q M A (`YK `bu v) Q E `cY:=by
 refine `e;let#[nm,q,N,bs,O,sn,sub,ab,U,dd,k0,k1,k2,k3,k5,J,hC]:=c.obj;refine `b;exact A00 hC hq
theorem Cl.hasT(c:`i7){T:`cd}{b:`M}(hb:`atF):`sv `mU=b:=c.row.has hb
theorem n2:(`or : Str)∈vz0:=`atJ
theorem n3:(`atC : Str)∈vz0:=.tail _ (`atJ)
def Tq0{M:`e2}{Q:`dV}(c:`i7)(hx:`sO)(hc:`k9=`em)(hq:`atK):`q M A (`Bo `zx #[[`bt,v],[]]) Q E `cY:=by
 have k1:builtinKind `zx=`a .slot:=`aG
 have k2:splitId `zx=`a (`akS, `or):=`aG
 have k3:`atL:=`atM;have k4:=F.args_bexc_ga `c2 v;simp only[`Bo,k1,k2];refine `mW;unfold isInstance
 repeat (first|(with_reducible refine `YL;rw[hc])|(with_reducible refine `YM;rw[k3])|wp_step)
 exact hq
universe zz
section
variable{w:`Q}{s:`v}{C W:`f}{o:Obj}{tl tw:`K}
def Yi0{h:`D}{g:`jY}{d:`os}{t:Nat}{os:`vh}{M:`e2}{Q:`YJ}(c:`i7)(cw:Cl h W tw)(hx:`sO)(hc:`k9=`em)
  (hq:Q (`atN) `cY):`q M A (excMatches `c2 `xP) Q E `cY:=by
 refine `e;let#[a6,qW,NW,a8,U,a2,Y,a1,Z,b1,a3,a4,b0,a5,a7,J,O]:=cw.obj;have hB:(`e! W::tw).contains `EX=`c:=cw.hasT `cZ;have f:=tc_notTuple;refine `b;unfold excMatches
 repeat (first|(with_reducible refine `YL;rw[hc])|with_reducible refine E9 O ?_|(with_reducible refine cw.sub ?_;rw[hB])|with_reducible refine `YM|wp_step)
 cases hb:`atN<;>(rw[hb] at hq;wp_walk;exact hq)
universe zz
universe XC
variable{b o e tg iter value elt ke ve:`I}{prog:`ao}{A:`bT}{E Q:`aj}{a it dx fa I z i1 i2 l1 l2:`f}{n i t' j k1 k2 x1:Nat}{y root x name m c qual x2 cn:Str}{v u doc pm cdv ct oc vl vu:`G}{mg mA:`a2}{cs rs N ps nm loose N' F pool T':`j}{rest suite:`b5}{od an:`bm}{tk:Tok}{K:`A}{h' base:`D}{l:`_}{vs us:`K}{α β κ:Type}{pins:`aw}{ch fp as as':`aS}{s':`v}{pos pos' tpos apos p2 cpos py spos px pos2 np pc hp tp p0:Pos}{ys:`aJ}{es ifs elts:`bA}{lo:`jU}{expr:`M}{kw:`nq}{fd:`e1}{sc scope:`cz}{XP:`Bm}{YP:`Bn}{caps idx L:`m}{oa:Obj}{b₀:`a1}
namespace XC
open PySem.W
def Un0(K:`cT):`K->`M
 | []=>`p
 | v::r=>(v::r)==bmV||match v with
  | `z A=>(match `bE A with
   | `a #[_,_,`RK,_]=>`ak_&&vz0.all (λn=>`sw K `EY n==`b8)&&Un0 K r
   | _=>`p)
  | _=>`p
theorem Uw0{K:`cT}{h:`D}(X:`eA):∀{l:`K},Un0 K l=`c->Row h l
 | [],e=>by cases e
 | v::r,e=>by
  unfold Un0 at e;rcases Bool.or_eq_true_iff.mp e with q|q
  ·rw[`KG q]
   exact .end
  ·split at q
   ·split at q
    ·rename_i ho
     simp only[`aI,`h7,`ot] at q;exact `f1 (`KH) (`ak0 (`ak1 X q.1.1)) (λn hn=>`atO X q.1.1 (q.1.2 n hn)) (Uw0 X q.2)
    ·cases q
   ·cases q
def clB(K:`cT)(C:`f)(tl:`K):`M:=match `bE C with
 | `YN=>(match `YO with
  | [_,_,_,_,`a (`bo _),_]=>`akY&&`akZ&&Un0 K (`RJ)
  | _=>`p)
 | _=>`p
open T in
def Nr0{K:`cT}{h:`D}{C:`f}{tl:`K}(X:`eA)(e:clB K C tl=`c):`i7:=by
 unfold clB at e;split at e
 ·rename_i dd cd sl ho
  split at e
  ·rename_i k0 k1 k2 k3 n k5 hs
   simp only[`aI,`ot,`YP] at e;let#[#[hm,J],hr]:=e;let#[nm,bs,mro,ns,qn,hd,sn,sub,ab,O,Y]:=cd;dsimp only at hm J;subst hm J;have U:sl=⟨k0,k1,k2,k3,`akX,k5⟩:=by
    let#[l]:=sl;simp only at hs;rw[hs]
   subst U;exact#[#[nm,qn,ns,bs,hd,sn,sub,ab,O,dd,k0,k1,k2,k3,k5,_,`KH],Uw0 X hr]
  ·cases e
 ·cases e
structure Rs(h:`D)(C:`f)(tl:`K):Prop where
 obj:∃(nm q:Str) (N:`f) (bs:`K) (hdct:`M) (sn:`j) (sub:`K) (ab:`M) (col:`pZ) (dd:`bm) (k0 k1 k2 k3 k5:`gz) (mN:`a2),
  `atP/\h.Ns N mN/\mN `dZ=`d/\`atQ
def rsB(K:`cT)(C:`f)(tl:`K):`M:=match `bE C with
 | `YN=>(match `YO with
  | `atR=>`atS&&`atT==`b8
  | _=>`p)
 | _=>`p
open T in
def Gm0{K:`cT}{h:`D}{C:`f}{tl:`K}(X:`eA)(e:rsB K C tl=`c):Rs h C tl:=by
 unfold rsB at e;split at e
 ·rename_i dd cd sl ho
  split at e
  ·rename_i k0 k1 k2 k3 n k5 hs
   simp only[`aI,`ot,`YP] at e;let#[#[#[#[#[hm,rfl],J],ht],hok],O]:=e;let#[nm,bs,mro,ns,qn,hd,sn,sub,ab,Y,Z]:=cd;dsimp only at hm J hok O;subst hm J;have U:`atU:=by
    let#[l]:=sl;simp only at hs;rw[hs]
   subst U;exact#[#[nm,qn,ns,bs,hd,sn,sub,ab,Y,dd,k0,k1,k2,k3,k5,_,`KH,`YQ,`atO X hok O,`atV]]
  ·cases e
 ·cases e
def Ky0(K:`cT)(r:`f)(c:Str):`M:=match `sx with
 | `sy=>clB K C `sz
 | _=>`p
def Iw0(K:`cT)(r:`f)(c:Str):`M:=match `sx with
 | `sy=>rsB K C `sz
 | _=>`p
def Oa0(K:`cT)(root:Str)(cs rs:`j):`M:=match `atW with
 | `atX=>clB K r bmV&&cs.all (Ky0 K r)&&rs.all (Iw0 K r)&&`atY λc=>`atY λc'=>c==c'||!(`sx==`atZ)
 | _=>`p
structure At(K:`cT)(mg:`a2)(c:Str)(C:`f)(tl:`K):Prop where
 mg:`at_
 ns:`at0
 cl:∀h:`D,`eA->`i7
structure Tab(K:`cT)(mg:`a2)(root:Str)(r:`f)(cs rs:`j):Prop where
 top:At K mg `jt r bmV
 all:∀c∈cs,∃C,`at1
 rai:∀c∈rs,∃C,`at0/\∀h:`D,`eA->Rs h C `sz
 diff:∀c∈`RM,∀c'∈`RM,`sx=`atZ->c=c'
open T in
def tab_of{K:`cT}{h:`D}(X:`eA)(G:`Bp)(e:Oa0 K `jt cs rs=`c):∃r,`at2:=by
 unfold Oa0 at e;split at e
 ·rename_i r hr
  simp only[`aI,`h7] at e;let#[#[#[h1,h2],h3],h4]:=e;refine#[r,#[#[mg_of X G hr,hr,λh X=>Nr0 X h1],`Bq,`Bq,λc hc c' J q=>?_]]
  ·have q:=h2 c hc
   unfold Ky0 at q;split at q
   ·rename_i C hC
    exact#[C,mg_of X G hC,hC,λh X=>Nr0 X q]
   ·cases q
  ·have q:=h3 c hc
   unfold Iw0 at q;split at q
   ·rename_i C hC
    exact#[C,hC,λh X=>Gm0 X q]
   ·cases q
  ·have z:=h4 c hc c' J
   rw[q] at z;simp only[`KI,`YR,`Br,`ot] at z;exact z
 ·cases e
universe XC
namespace XC
structure Ri(h:`D)(C:`f)(tl:`K)(f:`f):Prop where
 obj:∃(nm q:Str) (N:`f) (bs:`K) (hdct:`M) (sn:`j) (sub:`K) (ab:`M) (col:`pZ) (dd:`bm) (k0 k1 k2 k3 k5:`gz) (mN:`a2),
  `atP/\h.Ns N mN/\mN `dZ=`Sy/\`atQ
 fn:∃o,`e? f=`ap/\`k9=`sF
section
variable{w:`Q}{h:`D}{g:`jY}{d:`os}{t:Nat}{os:`vh}{C f:`f}{tl:`K}
def Ss0{rest:`K}{Q:`KJ}(r:`YS)
  (hq:∀h' e,`YT->`q `ag A `at3 (λr s'=>r=`af/\Q (`sD (`eR `gV)) s') E `YU) (hrest:`at4) :
  `q `ag A (Builtin.«type.__call__» `at5) Q E `cY:=by
 refine `e;let#[nm,q,N,bs,a4,sn,sub,ab,a5,dd,k0,k1,k2,k3,k5,mN,hC,hn,hi,ht]:=r.obj;let#[oI,a2,Y]:=r.fn
 refine `b;repeat (first|with_reducible refine `KK|with_reducible refine wpAny_madeBy_exc hC ?_|wp_step)
 refine codeAny_call_builtin_code (A10 _ W1.quiet) (wpAny_check_new_subU W1 `cZ ht hC ?_);refine codeAny_exc_new_subU W1 `cZ W1 ht hC ?_ hrest;show `q _ _ _ _ _ _;obtain⟨h1,e1⟩:∃h1,h1=(h.push `at6).push `at7:=`ad;have kp:∀b o,`fa->`YV:=λb o z=>by rw[e1];exact B3 _ (B3 _ z)
 have O:`mV (`dl+1)=`a `at7:=by rw[e1];heap_get
 have U:`mV `dl=`a `at6:=by rw[e1];exact B3 _ `at8
 rw[← e1];have J:=kp _ _ hC;have Z:h1.Ns N mN:=hn.keeps kp;have a1:=kp _ _ a2;have a3:`sv `bu=`c:=`a4
 unfold isInstance
 repeat (first|with_reducible refine E9 O ?_|(with_reducible refine A00 J ?_;rw[a3])|wp_step)
 show `q _ _ (`lp `bu _) _ _ _;rw[`YI];refine A1 (`atI J ?_);rw[`atH];refine A1 (wpAny_classOwn_exc J Z ?_);rw[hi];refine A2 (D3 `KL);unfold bindSpecial;refine A1 (L7 (T := `sA) #[_,a1,Y] ?_);rw[`Bs];refine A2 (A1 (C9 (hq h1 (`dl+1) #[kp,i3 (A20 _),`dl,O,i3 `bj,U]) (λr s' hr=>?_) `rx));let#[rfl,hQ]:=hr
 wp_walk
 exact hQ
def S60{rest:`K}{Q:`aj}(r:`YS)
  (hq:∀h' e,`YT->`q `ag (`SE (`bo `SF `at5)) `at3 (λr s'=>r=`af/\Q `gV s') E `YU) (hrest:`at4) :
  `q `ag A (`d_ `bu `a3) Q E `cY:=by
 refine `e;let#[nm,q,N,bs,J,sn,sub,ab,O,dd,k0,k1,k2,k3,k5,mN,hC,hn,hi,ht]:=id r.obj;have f1:=tc_lookup;have f2:=tc_bind `bu;have hT:(`cY:`v).TypeIs `bu "type" := #[_,hC,rfl];refine `b;refine X0 (`at9);show `q _ _ (callAny `bu _) _ _ _
 repeat (any_goals (first|with_reducible assumption|with_reducible refine `KK|wp_step))
 refine`KM;exact codeAny_call_builtin_at (`at') entry_typeCall (wpAny_check_type_call_sub hC (Ss0 r hq hrest))
universe zz
def Raw(h:`D)(e:`f)(C:`f)(od:`bm):Prop:=∃oe vs,`YW/\`Bt=`em/\`YX/\`vi/\`KN/\`at!/\∃t0,vs[0]?=`a (`z t0)
section
variable{w:`Q}{h:`D}{g:`jY}{d:`os}{t:Nat}{os:`vh}{C e:`f}{tl:`K}
def Rs0{v:`G}{Q:`aj}(c:`i7)(raw:Raw h e C od)
  (hq:∀h',Raw h' e C od->(∀b o,`xX->`Bu)->Q `af `YU) :
  `q `ag A (`d_ `aoJ `YY) Q E `cY:=by
 refine `e;let#[oe,vs,he,hc,O,hd,U,h1,t0,h0]:=raw;have hB:`sv (`YE)=`c:=`atM;let#[nm,q,N,bs,a2,sn,sub,ab,a3,dd,k0,k1,k2,k3,k5,a1,hC]:=c.obj;have Z:=W1.noStar;refine `b;refine X0 (i4 F.excBase_ValueError.init.plain W1.initEntry ?_);have Y:∀{Q:`dV},`atK->∀{A:`bT} {E:`aj},`q `ag A (`Bo `RQ #[`YY,[]]) Q E `cY:=λ{Q} hQ {A E}=>by
  simp only[`Bo,F.excBase_ValueError.initKind,F.excBase_ValueError.initSplit,F.excBase_ValueError.initRow]
  repeat (first|(with_reducible refine E9 he ?_;rw[hc])|with_reducible refine `KK|(with_reducible refine `YM;rw[hB])|wp_step)
  exact hQ
 refine Y ?_;have J:=B3 (h:=h) { cls:=`eQ,data:=`b7 ⟨v⟩ } he;unfold Builtin.«BaseException.__init__»
 repeat (any_goals (first|with_reducible assumption|with_reducible refine `YZ|wp_step))
 rw[hd]
 repeat (any_goals (first|with_reducible assumption|with_reducible refine `YZ|wp_step))
 rw[h0]
 repeat (any_goals (first|with_reducible assumption|with_reducible refine `YZ|wp_step))
 have nT:`dl≠e:=C6 (A5 he);have d3:=X2 hd (`HA 0 `UK);refine hq _ #[_,_,D5 _ J (i5 d3),(`at?).trans hc,?_,d3,`aua,?_,`dl,by rw[Array.getElem?_setIfInBounds_self_of_lt `k]] λb o n z=>?_
 ·rw[← O]
  let#[c',d',dt,x]:=oe;cases dt<;>rfl
 ·rw[Array.getElem?_setIfInBounds_ne `r]
  exact h1
 ·rw[`aub]
  exact B3 _ z
universe zz
universe XC
namespace XC
open PySem.W Builtin Builtin.ObjectAttr
section
variable{w:`Q}{s:`v}{K:`cT}{x C r:`f}{cd:ClassData}{R:`mf}
def Tg0{ox:Obj}{od:`Y_}{tk:Tok}{v:`G}(X:`ou)(I:`Vc `ar x ox C od)(hc:`Y0=`KO)(hm:`auc)(hna:`aud)
  (h:`q `ag `bU (storeInOwnDict `ju `bu (`KP) `cF v `p)
   `Bv `Bw s) :
  `f_ `ag A (`lq `ak5 #[[`E_,`KP,v],[]]) R s:=by
 have SF:=PySem.F.store_ValueError;have ne:cd.mro.isEmpty=`p:=by rw[hm];rfl
 have has:(`EW::`e! r::bmV).contains (`YF)=`c:=by simp[bmV]
 have sub:Looks `ag `ar (isInstance `ju (`YF)) `c:=I.type.andThen (looks_mroIn X (by unfold mroIn;rw[hc,`h,`al (by rw[ne];decide),hm,has]));refine i4 SF.slot.plain SF.entry (@check_slot `ag _ _ s `RS `RI `E1 `ju [`KP,v] [] _ SF.kind SF.split sub (SF.args `ju (`KP) v) ?_);have J:Looks `ag `ar (mroOf `bu) `xQ:=(`aue).andThen .now;have ps:refuseLoop `ju `E1 bmV=`bI ():=SF.passes _;rw[osa_eq,refuse_eq];refine A1 (A1 (`auf (A1 (J.here ?_))));rw[hm,`aug,`aug,ps];refine A2 (A1 (`auf (A1 ((looks_findIn X hna).here (`KQ)))));exact h
def Tn0{Q:`dV}{ox:Obj}{v:`G}(X:`ou)(I:`Vc `ar x ox C `d)(hc:`Y0=`KO)(hm:`auc)(hd:`Y1=`c)(hna:`aud)
  (hs:`auh=`Sz)
  (h:∀h' dx t',`dm dx=`d->`KR->h'.Ns1 dx (λy=>if y=`cF then `bL else `d)->`gB x=`a { ox with dict:=`p6 }->(∀b o,`vj->`zi)->Q () `m4) :
  `aui:=by
 refine set_plain X I hs (Tg0 (s:=`jD) X I hc hm hna ?_);have hx:=I.at_;have a2:=I.cls;have a3:=I.no;have Y:=I.dict;let#[oc,a8,J,U]:=ox;dsimp only at a2 Y;subst a2;cases a8 with
 | some _=>exact Y.elim
 | none =>
  refine A1 (A2 (A1 (A1 (`auj hx (A1 (Looks.here (s:=`jD) (`aue) ?_))))));rw[hd,`cU];dsimp only;rw[`al (by simp[typeHasDict])];split
  ·cases a3
  ·have a1:(`KS).get? x=`a #[`em,`d,J,U]:=B3 _ hx
   have O:x≠`U:=B4 (A5 hx);refine A1 (wpAny_alloc (s:=`jD) ?_);refine A1 (wpAny_update (s:={ s with heap:=`KS,toks:=`sE }) a1 ?_);refine A2 (a:=`Y2) ?_;obtain⟨h1,e1⟩:∃h1,h1=(`KS).update x λo=>{ cls:=`k9,dict:=`Y2,data:=`mY,slots:=`Bx }:=`ad
   have b0:`mV `U=`a `RT:=by
    rw[e1];exact(`auk _ _ _ _ O.symm).trans `at8
   have b2:h1.Ns `U (`ry):=#[_,⟨⟩,_,b0,rfl,`aul,`i0];have b1:=(Heap.get?_some_iff.mp hx).2;have a7:`mV x=`a #[`em,`Y2,J,U]:=by
    rw[e1];refine D5 _ a1 ?_;cases J<;>first|rfl|exact b1
   have oth:∀b o,`vj->`fb->`YV:=λb o n z=>by
    rw[e1];exact(`auk _ _ _ _ n).trans (B3 _ z)
   show `q _ _ (storeInDict `U (`u `cF `bf) `cF v) _ _ _;rw[← e1];unfold storeInDict newKeyGuard;refine A1 (A2 (A1 (`aum (`aun b2) λh' Z hs=>?_)));let#[oD,b3,c1,a4,a5,a6]:=Z.count (Within.cons `cF v Within.nil);refine A1 (`auo a4 (by rw[a5];exact `aup (C0 a6 (by rw[`Y,`fy,`vk];lia))) ?_);exact A2 (h h' `U _ (i3 `bj) O.symm Z ((`ht x O).trans a7) λb o n z=>(`ht b (B4 (A5 z))).trans (oth b o n z))
universe zz
universe XC
namespace KfT
def sl:Slot `sA `or `ao1 := by
 refine .of (owner := `RI) (n := `or) ?_ `cZ `cZ `cZ ?_ ?_
 ·rw[`vl,`vm];kernel_rfl
 ·first|exact `t `cZ|exact `s `cZ
 ·rw[`Y3];kernel_rfl
def lk:`lp `sG `E4=`bI (`a (`Y4)):=by
 rw[`vl,`vm];kernel_rfl
def ow:`YK `sG (`a! (".".intercalate ("object.__class__".cutAt '.').dropLast))=`Gp:=by
 rw[F.owner_object_class,`Y3];kernel_rfl
section
variable{P:`ao}{W:`Q}{X:`aj}{s:`v}{f:`f}{y:Obj}
def gs{R:`mf}(e:`dm f=`fc)(c:`KT)(q:R (.ok `auq) s) :
  `f_ `KU A (`lq (`bo "getset_descriptor.__get__") #[[`Y4,`EZ,`sF],[]]) R s:=by
 let#[hh,gg,dd,tt,oo]:=s;have z1:`Y5 := `Y6;have z2:=ow;refine i4 F.slot_gs_get.plain F.entry_gs_get (F.slot_gs_get.check _ _ _ _ _ _ _ _ A30 (F.args_gs_get _ _ _) ?_)
 repeat (any_goals (first|assumption|wp_step))
 refine#[`at',Y1 F.entry_object_class ?_]
 repeat (any_goals (first|assumption|wp_step))
def ga{tk:Tok}{R:`KJ}(e:`dm f=`fc)(c:`KT)(q:R (`sD `auq) s) :
  `q `KU A (`aur #[[`EZ,`aus],[]]) R X s:=by
 let#[hh,gg,dd,tt,oo]:=s;have z1:`Y5 := `Y6;have z2:`ak6 (`Y4) "getset_descriptor" := A30;have z3:=lk;have z4:=A30;have z5:=F.slot_gs_get.lookup;have z6:=F.slot_gs_set.lookup
 repeat (any_goals (first|assumption|wp_step))
 refine gs e c ?_
 repeat (any_goals (first|assumption|wp_step))
variable{hh:`D}{gg:`jY}{dd:`os}{tt:Nat}{oo:`vh}
def by'{R:`aj}(e:`aut)(c:`KT)(q:R `sG `E3):`q `KU A (getAttrBy `eP (`aus) `p) R X `E3:=by
 have z1:`Y5 := `Y6;have z2:=sl.lookup;have z3:=sl.bind `eP
 repeat (any_goals (first|assumption|wp_step))
 refine i4 sl.plain F.entry_object_getattribute (sl.check _ _ _ _ _ _ _ _ z1 (F.args_object_getattribute_2 _ _) (ga e c ?_))
 repeat (any_goals (first|assumption|wp_step))
def at'{R:`rv}(e:`aut)(c:`KT)(q:R (`auu) #[hh,gg,dd,tt+1,oo]):`q `KU A (getAttr? `eP `E4) R X `E3:=by
 unfold getAttr? getAttrBy?
 repeat (any_goals (first|assumption|with_reducible apply by' e c|wp_step))
universe zz
theorem kit{f:`f}:W.KitX K `eP `sG (W.KitAt f `sA):=W.kitx_of W.kitAt_ty λ{_ _ _ _ _ s} p k=>by
 refine `e;let#[hh,gg,dd,tt,oo]:=s;let#[_,e,c]:=p;refine `b;exact at' e c k
universe KfT
namespace L2
open Spec PyProof.Rows
abbrev Key:=`Th
def kb0:Key->`auv
 | `t k,v=>`auw k v
 | `ov,v=>`aux x v
variable{ks:`auy}
def Fq0(w:`Q):Key->Int
 | `t k=>hashInt k
 | `ov=>hashStr w x
theorem zj0:∀{k:Key} {v:`G},kb0 k v=`c->(∃i t,k=`mX i/\v=`RV i t)∨(∃x t,k=`sH x/\v=`E5 x t)
 | `t i,v,h=>by
  let#[t,e]:=Value.isInt_shape (k:=i) (v:=v) h;exact `auz
 | `ov,v,h=>by
  let#[t,e]:=Value.isStrOf_shape (x:=x) (v:=v) h;exact `s #[x,t,rfl,e]
def Sk0(i:Int)(t:Tok):kb0 (`t i) `yc=`c:=by simp[kb0,`auw]
def Ra0(x:Str)(t:Tok):kb0 (`ov) `KV=`c:=by simp[kb0,`aux]
def Ia0(a b:Int):`B (`Y7=`mX b)=(`ks):=by
 by_cases e:a=b
 ·subst e;simp
 ·have h:¬`Y7=`mX b:=λq=>e (Sum.inl.inj q)
  rw[`i8];exact(`nP e).symm
def Jp0(a b:Str):`B (`Y8=`sH b)=`aru:=by
 by_cases e:a=b
 ·subst e;simp
 ·have h:¬`Y8=`sH b:=λq=>e (Sum.inr.inj q)
  rw[`i8,`b9 e]
theorem In0(a:Int)(b:Str):`B (`Y7=`sH b)=`p:=`auA
theorem Ic0(a:Str)(b:Int):`B (`Y8=`mX b)=`p:=`auA
def J6(prog:`ao)(w:`Q):PySem.KeyKind `k6 w Key where
 is:=kb0
 hash:=Fq0 w
 inj:=λv a b ha hb=>by
  rcases zj0 ha with⟨i,t,rfl,rfl⟩|⟨x,t,rfl,rfl⟩
  ·rcases zj0 hb with⟨j,u,rfl,e⟩|⟨y,u,rfl,e⟩
   ·injection e with e1 _;rw[e1]
   ·exact nomatch e
  ·rcases zj0 hb with⟨j,u,rfl,e⟩|⟨y,u,rfl,e⟩
   ·exact nomatch e
   ·injection e with e1 _;rw[e1]
 byValue:=λk v h=>by
  rcases zj0 h with⟨i,t,rfl,rfl⟩|⟨x,t,rfl,rfl⟩<;>rfl
 pyHash:=λhv h=>by
  rcases zj0 hv with⟨i,t,rfl,rfl⟩|⟨x,t,rfl,rfl⟩
  ·exact A40 h
  ·exact A50 h
 eqBool:=λhu hv h=>by
  rcases zj0 hu with⟨i,t,rfl,rfl⟩|⟨x,t,rfl,rfl⟩
  ·rcases zj0 hv with⟨j,u,rfl,rfl⟩|⟨y,u,rfl,rfl⟩
   ·rw[Ia0] at h;exact wpAny_eqBool_int h
   ·rw[In0] at h;exact i6 i t y u _ _ _ _ h
  ·rcases zj0 hv with⟨j,u,rfl,rfl⟩|⟨y,u,rfl,rfl⟩
   ·rw[Ic0] at h;exact i7 x t j u _ _ _ _ h
   ·rw[Jp0] at h;exact wpAny_eqBool_str h
 «strs»:=λk x t v h=>by
  rcases zj0 h with⟨i,u,rfl,e⟩|⟨y,u,rfl,e⟩
  ·exact nomatch e
  ·injection e with e1 _
   subst e1;cases v<;>rfl
theorem Y80(prog:`ao)(w:`Q)(i:Int)(t:Tok):`auB (`t i) `yc=`c:=Sk0 i t
theorem Yj0(prog:`ao)(w:`Q)(x:Str)(t:Tok):`auB (`ov) `KV=`c:=Ra0 x t
inductive V where
 | non|bl (b:`M)|int (i:Int)|str (x:Str)|byt (b:`auC)|flt (b:UInt64)|ref (a:`f)|ty (n:`cd)
 deriving DecidableEq
variable{xs dvs:`Sg}{σ:`auD}{kvs:`auE}{v:L2.V}
def RelV:V->`an1
 | `x,u=>u=`lI
 | `dK,u=>u=`yD b
 | `bi,u=>`FL
 | `b1,u=>`al3
 | .byt b,u=>`auF
 | .flt b,u=>`auG
 | `bt,u=>`GW
 | .ty n,u=>u=`jZ n
abbrev Vals:`S->`atD:=`bS `dp
theorem Vals.length(r:`dW):`ay=`kt:=`Y9 r
theorem Vals.get:∀{xs:`S} {us:`K} {i:Nat} {x:V},`dW->`m?->∃u,us[i]?=`a?/\`hz
 | _,_,_,_,`X,e=>`KW
 | _,_,0,_,`Y',e=>`Y!
 | _,_,i+1,x,`vn,e=>by
  let#[u,h1,h2]:=Vals.get (i:=i) (x:=x) t `By;exact`Y?
def Vals.append:∀{xs ys:`S} {us ws:`K},`dW->`auH->`bJ `F3 (us++ws):=by
 intro xs ys us ws p s
 induction p with
 | nil=>exact s
 | cons r t ih=>exact `Bz
theorem Vals.take:∀{xs:`S} {us:`K} (n:Nat),`dW->`bJ `auI (`HW n)
 | _,_,0,_=>`X
 | _,_,_+1,`X=>`X
 | _,_,n+1,`mg=>`aq r (Vals.take n t)
theorem Vals.drop:∀{xs:`S} {us:`K} (n:Nat),`dW->`bJ (`u6 n) (`Vl n)
 | _,_,0,r=>r
 | _,_,_+1,`X=>`X
 | _,_,n+1,`vn=>Vals.drop n t
theorem Vals.none_of:∀{xs:`S} {us:`K} {i:Nat},`dW->`UI->us[i]?=`d:=λ{xs us i} r e=>by
 have h1:=`cJ;have h2:`Fw:=r8.mp e;exact r8.mpr `k
def RelO:`dq->`gz->Prop
 | `bL,`a?=>`f5
 | `d,`d=>`g?
 | _,_=>`b'
def KV{κ:Type}:`ha->`vo->Prop:=`bS λ(p:`E6) (q:κ×`G)=>p.1=q.1/\`auJ
def kV:Key->V
 | `t i=>`bi
 | `ov=>`b1
inductive SubO where
 | lst (xs:`S)|dK (kvs:`gW)|ins (C dx:`f) (fs:`h8)
variable{so:`KX}{sos:`ah `KX}
inductive HO where
 | deep (sub:`mh)
 | lst (xs:`S)
 | tup (xs:`S)
 | dK (kvs:`gW)|dT (kvs:`ku)|dX (kvs:`ah (Nat×V))
 | set (S:Int->`M) (n:Nat)
 | ins (C dx:`f) (fs:`h8)
 | own (x:`f)
 | xd (fs:`h8)
 | met (f x:`f)
 | rng (lo hi:Int)
 | frz (o:Obj) (u:HO)
 | tbl (ps:`aJ)
 | ext (φ:`mS)
abbrev Hp:=`f->`rz
def upd(H:Hp)(a:`f)(o:HO):Hp:=λb=>if b=a then `ap else H b
variable{H H' H2 H₀:L2.Hp}
def m8{o:HO}:upd H a o a=`ap:=by unfold upd;rw[`bc]
def m5{b:`f}{o:HO}(h:`hJ):`auK=H b:=by unfold upd;rw[`ej]
def Kc0{o u:HO}:upd `gR a u=upd H a u:=by
 funext b;unfold upd;split<;>rfl
def Hl0{b:`f}{o u:HO}(h:`tq)(h':`kv)(d:o≠u):a≠b:=by
 intro e;subst e;rw[h] at h';exact d (A4 h')
def V5{b:`f}{o:HO}(h:`tq)(h':`c_):a≠b:=by
 intro e;subst e;rw[h] at h';cases h'
def IsTupN(h:`D)(a:`f)(items:`aJ):Prop:=∃o,`sO/\`KY/\∃n,`mY=`anO/\`KZ
theorem IsTupN.tup{h:`D}{items:`aJ}(x:IsTupN h a `ba):`yr h a `ba:=let #[o,e,c,n,d,_]:=x;#[o,e,c,n,d]
theorem IsTupN.new(h:`D)(items:`aJ):IsTupN (h.push { cls:=`eQ,data:=`b7 `ba }) `dl `ba:=`Za
def qOf(ps:`aJ):Str:=match (ps[0]?:`gz) with
 | `a (`u q _)=>q
 | _ => ""
def TabOk(H:Hp)(h:`D)(a:`f)(q:Str):Prop:=∃cont:`aJ,`ip=`a { cls:=`af,data:=`k8 cont }/\TriplesOk `auL /\
 ∀pos cv,codeAmong pos `auL=`a cv->∃c oc vs tq,cv=`vp/\H c=`a (`ir oc (`f1 c))/\oc.data=`xU/\`xV=`a (`u q tq)
section
variable(P:`ao)(w:`Q)
def SubOk(H:Hp)(h:`D)(a b:`f):`dI->Prop
 | `c1=>`i9/\∃(its:`K) (n:Nat),`ow/\`pt=`S3
 | `yy=>`sK/\(b==`E9)=`p/\∃vs,`k!/\`alc `sM b vs
 | `lk=>b=a/\`Zb/\`Zc/\dx≠a/\`auM /\
   `auN
def ObjOk(H:Hp)(h:`D)(a:`f):HO->Prop
 | `c1=>`i9/\∃(its:`K) (n:Nat),`ow/\`ip=`S3
 | `eT=>`i9/\∃its:`K,`ow/\IsTupN h a `bv
 | `yy=>`Zd
 | `amq=>`sK/\`sL/\∃xs:`rA,
   `bS (λ(p:`hp×V) (q:`ale)=>`auO) kvs xs /\
   ∃o es ep,`sO/\`Ze/\`Zf/\es.toList=`sN (`K_ `Zg)/\`auP
 | .dX _=>`b'
 | .set S n=>h.SetOf (intKind P w) a S n
 | `lk=>`Zb/\`Zc/\dx≠a/\`auM /\
   `auN
 | `nu sub=>(`K0)/\∀p∈sub,`auQ
 | `f1 _=>`K0
 | .xd fs=>∃mA,h.Ns1 a mA/\`R_
 | .rng lo hi=>∃t u v,`ip=`a `Sr
 | `ir o u=>`sO/\`cG H h a u
 | `R5=>`alh
 | .met f x=>`ip=`a (`alk `eP `ju)
 | `BA=>φ h/\(`K0)/\`auR
def HOk(H:Hp)(h:`D):Prop:=∀a o,`tq->`Zh
universe zz
section
variable{P:`ao}{w:`Q}{h:`D}{o:HO}
def ObjOk.lt(x:`Zh):a<`dl:=by
 refine `e;cases o with
 | lst xs=>let#[_,_,_,_,e]:=x;refine `b;exact `dJ
 | tup xs=>let#[_,_,_,p]:=x;refine `b;exact p.tup.lt
 | dK kvs=>let#[_,_,_,_,o,_,_,e,_]:=x;refine `b;exact `dJ
 | dT kvs=>let#[_,_,_,_,o,_,_,e,_]:=x;refine `b;exact `dJ
 | dX kvs=>refine `b;exact `fk x
 | set S n=>let#[o,_,_,_,e,_]:=x;refine `b;exact `dJ
 | ins C dx fs=>let#[_,_,_,e,_]:=x;refine `b;exact `dJ
 | own y=>let#[_,e]:=x;refine `b;exact `dJ
 | xd fs=>let#[_,#[_,_,_,e,_],_]:=x;refine `b;exact `dJ
 | rng lo hi=>let#[_,_,_,e]:=x;refine `b;exact `dJ
 | frz ob u=>let#[e,_]:=x;refine `b;exact `dJ
 | tbl ps=>let#[_,e,_]:=`auS;refine `b;exact `dJ
 | met f y=>refine `b;exact A5 (show `ip=`a _ from x)
 | ext φ=>let#[_,#[_,e],_]:=x;refine `b;exact `dJ
 | deep sub=>let#[#[_,e],_]:=x;refine `b;exact `dJ
def Paired.mapP{F G:`kw}:∀{l₁:`aT} {l₂:`lv},`bS F l₁ l₂->(`Zi)->`bS G l₁ l₂:=by
 intro l₁ l₂ p f
 induction p with
 | nil=>exact `X
 | cons r t ih=>exact `aq (f _ _ r) ih
def SubOk.stay{b:`f}(x:`E' P w H h a b so)(hb:`R0)(k:`auT)
  (ho:`auU):`E' P w H' h' a b so:=by
 refine `e;cases so with
 | lst xs=>let#[z,its,n,r,e]:=x;refine `b;exact#[z,its,n,r,`auV]
 | dK kvs=>let#[z,y,vs,r,ob,es,ep,e,c]:=x;refine `b;exact#[z,y,vs,r,ob,es,ep,`auV,c]
 | ins C dx fs =>
  let#[rfl,d,z,ne,e,mA,#[od,es,ep,e2,c],r]:=x;refine `b;exact#[rfl,ho _ d,z,ne,`hs,mA,`auW,r]
def ObjOk.stay(x:`Zh)(k:`auT)
  (ho:`auU) (ht:`K1) (hf:∀b ob u,H b=`Zj->`f2=`Zj):`cG P w H' h' a o:=by
 induction o with
 | lst xs=>let#[z,its,n,r,e]:=x;exact#[z,its,n,r,`hs]
 | tup xs=>let#[z,its,r,ob,e,c]:=x;exact#[z,its,r,ob,`hs,c]
 | dK kvs=>refine `e;let#[z,y,vs,r,ob,es,ep,e,c]:=x;refine `b;exact#[z,y,vs,r,ob,es,ep,`hs,c]
 | dT kvs =>
  refine `e;let#[z,y,xs,r,ob,es,ep,e,c]:=x;refine `b;exact#[z,y,xs,`auX r λp q z=>`auY,ob,es,ep,`hs,c]
 | dX kvs=>exact `fk x
 | set S n=>let#[ob,es,ep,t,e,c]:=x;exact#[ob,es,ep,t,`hs,c]
 | ins C dx fs =>
  refine `e;let#[d,z,ne,e,mA,#[od,es,ep,e2,c],r]:=x;refine `b;exact#[ho _ d,z,ne,`hs,mA,`auW,r]
 | own y=>let#[ob,e]:=x;exact#[ob,`hs]
 | xd fs=>refine `e;let#[mA,#[od,es,ep,e,c],r]:=x;refine `b;exact#[mA,#[od,es,ep,`hs,c],r]
 | rng lo hi=>let#[t,u,v,e]:=x;exact#[t,u,v,`hs]
 | frz ob u ih=>let#[e,q]:=x;exact#[`hs,ih q]
 | tbl ps =>
  let#[cont,e,t,c]:=`auS;exact#[cont,`auZ,t,λpos cv q=>let #[c',oc,vs,tq,z1,z2,z3]:=c pos cv q;#[c',oc,vs,tq,z1,hf _ _ _ z2,z3]]
 | met f y =>
  have e:`ip=`au_:=x;show `gB a=`au_;exact `auZ
 | ext φ=>let#[p,#[o,e],st]:=x;exact#[st _ _ p λo q=>k _ _ `f3 q,`au0,st]
 | deep sub=>let#[#[o,e],q]:=x;exact#[`au0,λp hp=>#[(q p hp).1.imp id (ho _),(q p hp).2.stay (q p hp).1 k ho]]
theorem HOk.lt(x:`fL)(e:`tq):a<`dl:=(x a o e).lt
def HOk.fresh(x:`fL)(e:`Zk):`tP:=by
 cases q:H a with
 | none=>rfl
 | some u=>exact `N (B7 (x.lt q) e) `mi
theorem HOk.kept(x:`fL)(k:`K2):HOk P w H h':=λa o e =>
 (x a o e).stay (λb u _ q=>`Fb) `x3 `x4 `m5
theorem HOk.laid(x:`fL)(k:`K2)(hp:`Zk)(new:`cG P w `gR h' a o):HOk P w `gR h':=λb u e=>by
 have hn:=x.fresh hp
 by_cases hb:b=a
 ·subst hb;rw[m8] at e;cases e;exact new
 ·rw[m5 hb] at e
  exact`Zl `aou (λc q=>`BB) (λc xs q=>`BB) λc ob u' q=>`BB
universe zz
def Rd(H:Hp)(a:`f)(u:HO):Prop:=H a=`a?∨∃o,H a=`R4
def Rd.ok{P:`ao}{w:`Q}{h:`D}{u:HO}(r:Rd H a u)(x:`fL):`au1:=by
 rcases r with r|⟨o,r⟩
 ·exact x a u r
 ·let#[_,q]:=x a _ r
  exact q
def Mut:`rz->Prop
 | `a (`b_)=>`g?
 | `a (.dK _)=>`g?
 | `a (.dT _)=>`g?
 | `a (.dX _)=>`g?
 | `a (.set _ _)=>`g?
 | `a (`hq _ _ _)=>`g?
 | `a (`px _)=>`g?
 | `a (`nu _)=>`g?
 | _=>`b'
section
variable{P:`ao}{w:`Q}{h:`D}{x e:`f}{o':HO}
theorem HOk.write(ok:`fL)(mu:`Zm)(he:`Zn)(k:`au2)(heo:`Zo)
  (new:`cG P w (upd H x o') h' x o'):HOk P w (upd H x o') h':=λb u q=>by
 have J:∀c y,H c=`Zp->c≠x:=λc y r z=>`Zq
 have O:∀c xs,H c=`hr->c≠x:=λc xs r z=>`Zq
 have U:∀c ob u',H c=`Zr->c≠x:=λc ob u' r z=>`Zq
 by_cases hb:b=x
 ·subst hb;rw[m8] at q;cases q;exact new
 ·rw[m5 hb] at q
  by_cases hbe:b=e
  ·have q':H b=`a (`f1 x):=by
    rcases he with z|z
    ·exact `N (hbe.trans z) hb
    ·rw[hbe];exact z
   rw[q] at q';cases q';let#[v,hv]:=heo;exact#[v,by rw[hbe];exact hv]
  ·refine(ok b u q).stay (λc v hc r=>k c v ?_ r) (λc r=>by rw[m5 (J c b r)];exact r) (λc xs r=>by rw[m5 (O c xs r)];exact r) λc ob u' r=>by rw[m5 (U c ob u' r)];exact r
   rcases hc with rfl|hc
   ·exact hbe
   ·rintro rfl
    rcases he with z|z
    ·exact J c b hc z
    ·rw[hc] at z;cases z;exact hb rfl
universe zz
structure Un(fs ex:`aS)(H H':Hp)(h h':`D):Prop where
 keep:∀b o,`fa->`c_->b∉fs->`BC->`pu
 slot:∀b o,`fa->`c_->b∈fs->`BC->`Zs
 free:∀b o,`fa->`c_->`BC->`m2
 there:∀b o,`fa->`BC->`Zt
 tups:`K1
 frzs:`Zu
 tbls:`au3
section
variable{fs fs' ex ex':`aS}{H1:Hp}{h h1 h2:`D}{x e:`f}{o:HO}
def Un.any(u:Un fs ex H H1 h h1){b:`f}{ob:Obj}(q:`pt=`K3)(n:`c_)(hx:`BC):∃sl,`mV b=`a { ob with slots:=sl }:=by
 by_cases hb:b∈fs
 ·exact u.slot b ob q n hb hx
 ·exact#[ob.slots,u.keep b ob q n hb hx]
theorem Un.kept(k:`K2):Un fs ex H H h h' :=
 #[λb ob q _ _ _=>`Zv,λb ob q _ _ _=>#[ob.slots,`Zv],λ_ _ _ n _=>n,λb ob q _=>#[ob,`Zv],`R3,`m5,λ_ ps q=>#[⟨⟩,`S9]]
theorem Un.refl:Un fs ex H H h h:=`K4 `R3
theorem Un.laid(k:`K2)(hp:`Zk)(hn:`tP):Un fs ex H `gR h h' where
 keep:=`Zw
 slot:=`Zx
 free:=λb u q n _=>by rw[m5 (B4 (B7 `US hp))];exact n
 there:=`Zy
 tups:=λb xs q=>`BB
 frzs:=λb u xs q=>`BB
 tbls:=λb ps q=>#[⟨⟩,by rw[m5 (V5 q hn),q];simp]
def Un.write(mu:`Zm)(he:`Zn)(k:`au2)(heo:`Zo):Un fs ex H `Zz h h':=by
 have hx:∀b,`c_->`vj:=λb n z=>by subst z;rw[n] at mu;exact mu
 have hb:∀b,`c_->`xX:=λb n z=>by
  subst z;rcases he with r|r
  ·exact hx b n r
  ·rw[n] at r;cases r
 have hm:∀b u,`kv->¬Mut (`a?)->`vj:=λb u q nm z=>by subst z;rw[q] at mu;exact nm mu
 refine#[λb u q n _ _=>`au4,λb u q n _ _=>#[u.slots,`au4],λb u q n _=>by rw[m5 (hx b n)];exact n,λb u q _=>?_,
  λb xs q=>`au5,λb u xs q=>`au5,λb ps q=>#[⟨⟩,by rw[`alm,q];simp]]
 by_cases hbe:b=e
 ·subst hbe;exact heo
 ·exact#[u,k b u hbe q]
universe zz
def trk(h:`D)(H:Hp):`aS:=(`bF `dl).filter λa=>(H a).isSome
def oq0(h:`D)(H:Hp):`D:=W.hideAll h (trk h H)
theorem So0(h:`D)(H:Hp):(oq0 h H).objs.size=`dl:=W.hideAll_size _ _
theorem Ok0{h:`D}{b:`f}{o:Obj}(e:`fa)(n:`c_):`au6 :=
 W.hideAll_get _ e λhm=>by
  have q:(H b).isSome=`c:=(`BD hm).2;rw[n] at q;simp at q
def Lh0{h:`D}{b:`f}{o:Obj}(e:`au6):`fa/\`c_:=by
 have e':`fa:=W.of_hideAll (trk h H) e;refine#[e',?_];cases q:H b with
 | none=>rfl
 | some x =>
  have hm:b∈trk h H:=P4.mpr #[`gl (A5 e'),by simp[q]];have z:`aln=`d:=W.hideAll_none (trk h H) hm;rw[z] at e;cases e
universe L2
variable{xs dvs:`Sg}{H H' H2 H₀:L2.Hp}{so:`KX}{σ:`auD}{ks:`auy}{kvs:`auE}{sos:`ah `KX}{v:L2.V}
namespace L2
open Spec PyProof.Rows
structure Mod(K:`A)(mg:`a2)(base:`D):Prop where
 kin:`ZA
 glob:`BE
 blt:∃mb,base.Ns `ZB mb/\`au7
 nolimit:base.NoLimit
structure Cx where
 prog:`ao
 w:`Q
 K:`A
 mg:`a2
 base:`D
 A:`bT
 N:`j
 s₀:`v
 H₀:Hp
 env:Env
 outer:`eF
 stack:`eF
 ex:`aS
 fn:Str->`M
 calm:`M
 pn:`aw
 xe:`aj
variable{X:L2.Cx}
def frs(l:`eF):`aS:=`Il `aoC
abbrev Cx.fs(X:Cx):`aS:=frs `py
def Vis(sc:`cz)(x:Str):Prop:=`alo∨`R7∨`xZ x=`ls
def Loc(sc:`cz)(x:Str):Prop:=`ZC
def Look(env:Env)(h:`D)(m:`a2)(x:Str)(u:`G):Prop :=
 (`Gi=`la/\m x=`a?)∨((`Gi=`jw∨`Gi=`ls)/\∃c,`Gg x=`eo/\h.IsCell c (`a?))
structure Cx.Ok(X:Cx):Prop where
 mod:`au8
 kind:`Fi=`ne
 glob:`Se=`a_
 blt:X.env.builtins=`ZB
 above:`m0<=`f4
 inj:∀x y c,`jy->`au9->x=y
 has:∀x,(`yI=`jw∨`yI=`ls)->∃c,`jy
 cab:∀x c,`Sd->`jy->`m0<=c
 hd:`bx->X.A.handled=`d
 frames:`ZD=`a `gE
 stk:`gE=`py∨(`K5/\`au')
 exf:∀b∈`sU,`m1/\`alq
 bs:∀b o,`BF->`Ff/\`au!
 bsz:X.base.objs.size<=`m0
 noex:∀b o,`BF->`ZE
 exfs:∀b∈`sU,`vq
 funs:`au? `cH `py
 frf:∀b∈`it,`au!
structure Inv(X:Cx)(pins:`aw)(σ:`ZF)(H:Hp)(s:`v):Prop where
 ok:X.Ok
 os:s.os=X.s₀.os
 bare:`x7 `vr
 base:Un `it `sU X.H₀ H X.s₀.heap `ar
 loc:∃m,`ava/\∀(i:Nat) (x:Str) (v:V),`b0->`BG->`dB->∃u,`f5/\Look `w `ar m x u
 cell:∀x c,`jy->∃v,`alr
 free:H `f4=`d
 freeC:∀x c,`jy->H c=`d
 pin:∀p∈`sX,`avb
 hok:HOk `aR X.w H `ar
 len:`pz=X.N.length
section
variable{s:`v}
theorem Cx.Ok.nofr(ok:X.Ok){b:`f}{o:Obj}(e:`BF):`vq:=λhb=>by
 have:=(ok.funs.mem hb).1;rw[e] at this;cases `E
theorem Inv.bs(I:`C):∀b o,`BF->`avc:=λb o e =>
 #[`x_ b o (`K6).1 (`K6).2 (I.ok.nofr e) `avd,`x0 b o (`K6).1 (`K6).2 `avd]
theorem Inv.bk(I:`C):∀b o,`BF->`fb:=λb o e=>(I.bs b o e).1
theorem Inv.mod(I:`C):`au8:=I.ok.mod
theorem Inv.kIn(I:`C):X.K.In `ar:=I.ok.mod.kin.keeps I.bk
theorem Inv.lt(I:`C):`f4<`U:=let #[_,hn,_]:=`dr;hn.lt
theorem Inv.sz(I:`C):`m0<=`U:=C0 `Fg (K0 I.lt)
theorem Inv.nofs(I:`C)(h:`BH):a∉`it:=λhb=>by
 let#[_,o,ho,_]:=`ave;exact `N (B7 (A5 ho) (C0 I.sz h)) `mi
theorem Inv.cne(I:`C):∀x c,`jy->c≠`f4:=λx c e z=>by
 refine `e;let#[v,o,ho,hd]:=`vs;let#[m,#[o',es,ep,J,O,_],_]:=`dr;rw[z,J] at ho;cases ho;rw[O] at hd;cases hd
def Inv.funs(I:`C):`zr `cH `py:=by
 have all:∀(l:`eF),(∀b∈frs l,b∈`it)->`au? `cH l->`zr `cH l:=by
  intro l
  induction l with
  | nil=>intro _ _;trivial
  | cons env r ih =>
   intro hs hl;refine `e;let#[hk,#[L,o,hf,hn,ho,hd],hr]:=hl;have hL:L∈`it:=hs L (by unfold frs;rw[`K7,hf];exact B0);let#[sl,e]:=`x1 L o ho (I.ok.frf L hL) hL λz=>I.ok.exfs L z hL
   refine `b;exact#[hk,#[L,_,hf,hn,e,hd],ih (λb hb=>hs b (by unfold frs;rw[`K7,hf];exact `K8)) hr]
 exact all `py (λ_ hb=>hb) I.ok.funs
def Inv.stack(I:`C):`zr `cH `gE:=by
 rcases `ZG with e|⟨e,hf⟩
 ·rw[e];exact I.funs
 ·rw[e]
  let#[m,hn,_]:=`dr;refine `aq (by rw[`lb];decide) hf hn ?_ I.funs;exact i3 (C0 I.ok.bsz `Fg)
theorem Inv.stkSub(I:`C):∀b∈`vt,b∈`f4::`it:=λb hb=>by
 rcases `ZG with e|⟨e,hf⟩
 ·rw[e] at hb;exact `K8
 ·rw[e] at hb
  unfold frs at hb;rw[`K7,hf] at hb;exact hb
theorem Inv.stkFree(I:`C):∀b∈`vt,`c_:=λb hb=>by
 rcases `cf (`ZH b hb) with e|hb
 ·rw[e];exact `dP
 ·let#[_,o,ho,_]:=`ave
  exact `x0 b o ho (I.ok.frf b hb) λz=>I.ok.exfs b z hb
def Inv.step{g':`jY}{t':Nat}{d':`os}{ch:`aS}(I:`C)
  (hch:∀b∈ch,`ZI)
  (keep:∀b o,`m1->`vq->`BI->`fb->`c_->`pu)
  (slot:∀b o,`m1->b∈`it->`BI->`fb->`c_->`Zs) (free:∀b o,`BI->`fb->`aoM)
  (there:∀b o,`BI->`fb->`Zt)
  (tups:`K1) (frzs:`Zu) (tbls:`au3)
  (ns:∀m,`ava->h'.Ns `f4 m) (hok:`ZJ) (hg:`x7 g') :
  `avf:=by
 have Y:`ZK:=`avg
 have U:∀b o,`Ff->`ZE->`BI:=λb o e hx hb=>by
  rcases (hch b hb).1 with z|z
  ·exact hx z
  ·exact `N (B7 `m3 z) `mi
 have O:`avh:=λx c e v hq1=>by
  let#[o,ho,hd]:=hq1
  have J:c∉ch:=`avi
  by_cases hc:c∈`it
  ·let#[sl,q]:=slot c o (I.cne x c e) hc J ho `HF
   exact`avj
  ·exact#[o,keep c o (I.cne x c e) hc J ho `HF,hd]
 refine#[`lK,`fw,hg,#[`pA,`pA,`aoH,`Fl,λb xs e=>tups b xs `HC,λb o xs e=>frzs b o xs (`Fm b o xs e),`U6],?_,`tR,?_,`tR,`gf,hok,`c0]
 ·exact keep b o (Y b o e) hb `K9 `K' `HE
 ·let#[sl,e1]:=`K!
  let#[Z,e2]:=slot b _ (Y b o e) hb `K9 e1 `HE;exact#[Z,e2]
 ·let#[o',e1]:=`BJ
  exact free b o' `K9 e1 `HE
 ·let#[o',e1]:=`BJ
  exact there b o' `K9 e1
 ·let#[m1,e1]:=`BK
  let#[m2,e2]:=tbls b _ e1;exact#[m1++m2,by rw[e2,Array.append_assoc]]
 ·let#[m,hn,hl]:=`dr
  refine#[m,ns m hn,`ZL];let#[u,r,l]:=`avk;refine`avl;refine `e;rcases l with l|⟨k,c,e,z⟩
  ·refine `b;exact `t l
  ·refine `b;exact `s #[k,c,e,O x c e _ z]
 ·let#[v,z]:=`vs
  exact#[v,O x c e v z]
 ·refine `e;let#[m,#[o,_,_,ho,_],_]:=`dr
  refine `b;exact free _ o (`avm) ho `dP
 ·let#[v,o,ho,hd]:=`vs
  exact free c o (`avi) ho `HF
 ·let#[e,n,ne,nf,d]:=`kx
  have J:p.1∉ch:=λz=>(hch p.1 z).2.2.2 p hp rfl
  exact#[keep p.1 p.2 ne nf J e n,free p.1 p.2 J e n,ne,nf,d]
def Inv.un(I:`C)(u:Un `it [] H H' `ar h')(hok:`ZJ):Inv X `i σ H' `m4:=by
 refine `e;let#[m,#[o,es,ep,ho,r],_]:=`K?;let#[sl,hL]:=u.any ho `dP `ax;refine `b;exact `La (g':=`vr) (d':=`Lb) (ch:=[]) `avn (λb o _ hb _ e n=>u.keep b o e n hb `ax) (λb o _ hb _ e n=>u.slot b o e n hb `ax) (λb o _ e n=>u.free b o e n `ax) (λb o _ e=>u.there b o e `ax) u.tups u.frzs u.tbls (λm' hm=>by
  let#[o',U,O,J,r']:=hm;rw[ho] at J;cases J;exact`avo) hok `d!
def Inv.call{g':`jY}{t':Nat}{d':`os}(I:`C)(u:Un (`vt) ch H H' `ar h')(hok:`ZJ)(hg:`x7 g')
  (hch:∀b∈ch,`ZI) :
  `avf:=by
 refine `e;let#[m,#[o,es,ep,ho,r],_]:=`K?;let#[sl,hL]:=u.any ho `dP `avm
 refine `b;exact `La (ch:=ch) hch (λb o hL hb hc e n=>u.keep b o e n (λz=>(`cf (`ZH b z)).elim hL hb) hc) (λb o _ _ hc e n=>u.any e n hc) (λb o hc e n=>u.free b o e n hc) (λb o hc e=>u.there b o e hc) u.tups u.frzs u.tbls (λm' hm=>by
  let#[o',U,O,J,r']:=hm;rw[ho] at J;cases J;exact`avo) hok hg
def Inv.turned{t':Nat}(I:`C)(k:∀b o,b≠it->`zi)(hn:H it=`d)(hL:it≠`f4)
  (h1:it∈`sU∨`m0<=it) (h2:∀x c,`jy->c≠it) (h3:∀p∈`sX,p.1≠it):`ZM:=by
 have J:∀b u,`kv->b≠it:=λb u e z=>by rw[z,hn] at e;cases e
 refine `La (g':=`vr) (d':=`Lb) (ch:=[it]) `Lc (λb o _ _ hc e _=>`ZN) (λb o _ _ hc e _=>#[`Bx,`ZN]) `avp
  (λb o hc e=>#[o,`ZN]) (`ZO) (λ_ _ _ e=>e) `avq (λm hm=>?_) (`Ld) `d!
 ·have e:b=it:=`ky
  subst e;exact#[h1,hL,h2,h3]
 ·let#[o,es,ep,ho,r]:=hm
  exact#[o,es,ep,k _ o (A9 hL) ho,r]
 ·refine`avr
  rcases hc with z|z
  ·rw[z];exact J b u e
  ·exact J c _ z
theorem Inv.tok(I:`C)(t:Nat):Inv X `i σ H { s with toks:=t }:=`kz (h':=`ar) (t':=t) Un.refl `bg
theorem Inv.kept(I:`C)(k:`Le):`ZM:=`kz (`K4 k) (I.hok.kept k)
theorem Inv.laid{o:HO}{t':Nat}(I:`C)(k:`Le)(hp:`BH)(new:`cG `aR X.w `gR h' a o) :
  Inv X `i σ `gR `m4:=`kz (Un.laid k hp (`pK hp)) (I.hok.laid k hp new)
theorem Inv.write{x e:`f}{o:HO}{t':Nat}(I:`C)(mu:`Zm)(he:`Zn)(k:∀b u,`xX->`alt)(heo:`Zo)
  (new:`cG `aR X.w `Zz h' x o):Inv X `i σ `Zz `m4:=`kz (Un.write mu he k heo) (I.hok.write mu he k heo new)
theorem Inv.weak{σ':`ZF}(I:`C)(hl:`ZP)(w:∀(i:Nat) v,σ'[i]?=`mZ->`BG):Inv X `i σ' H s :=
 #[`lK,`fw,`d!,`ox,let #[m,hn,hl']:=`dr;#[m,hn,λi x v e1 e2 e3=>hl' i x v e1 (w i v e2) e3],`fe,`dP,`gF,`iu,`bg,hl.trans `c0]
theorem Inv.pins_of{pins':`aw}(I:`C)(h:∀p∈pins',`avb):Inv X pins' σ H s :=
 #[`lK,`fw,`d!,`ox,`dr,`fe,`dP,`gF,λp hp=>`avs (λz=>`iu p `apr) (h p),`bg,`c0]
def jh0(hN:`BL)(a:N[i]?=`dn)(b:N[j]?=`dn):i=j:=by
 let#[h1,e1]:=`ds a;let#[h2,e2]:=`ds b;exact(Af0 hN).mp (e1.trans e2.symm)
def dj0{M:`e2}{A:`bT}{E:`aj}{Q:`dV}(I:`C)(hN:`ek)(hi:`b0)(hx:`rB)(r:`f5)
  (h:∀s',`avt->(∃a,`sY a `ar `na/\(a=`f4∨`R8 x=`jJ))->`BM) (hf:`rC:=by first|exact `bQ|exact `b?|assumption):`avu:=by
 let#[m,hn,hl]:=`K?;have a1:`avv:=`avw
 have hiσ:i<`pz:=`avx
 have cne:=I.cne;have J:∀{a:`f} {h':`D},(∃o,`U4/\`tP)->`avy->`avz:=λ{a h'} ha hs b ob e=>by
  let#[_,_,O]:=ha;refine(`bg b ob e).stay (λc w' hc q=>`avA q) `x3 `x4 `m5
  rintro rfl;rcases hc with rfl|hc
  ·rw[O] at e;cases e
  ·rw[O] at hc;cases hc
 rcases hx with hk|hk
 ·refine wpAny_storeName_local hk hn (λh' a3 hs=>?_) a1
  let#[oL,_,_,a4,_]:=id hn;refine h _ #[`lK,`fw,`d!,`avB,#[_,a3,`ZQ],`avC,`dP,`gF,`gf,J #[oL,a4,`dP] hs,`ZR] #[_,hs,`bQ]
  ·exact`ZS `K'
  ·let#[sl,e1]:=`K!
   exact#[sl,`ZS e1]
  ·let#[o',e1]:=`BJ
   exact#[o',`ZS e1]
  ·by_cases hj:j=i
   ·subst hj
    rw[hi] at e1;cases e1;rw[`Lf] at e2;cases e2;exact#[u,r,`t #[hk,`a4]]
   ·rw[`oy] at e2
    let#[u',r',q]:=`avD;refine`ZT;refine `e;rcases q with⟨k,e⟩|⟨k,c,e,z⟩
    ·refine `b;refine `t #[k,?_]
     have:y≠x:=`avE
     simp[`E,e]
    ·refine `b;exact `avF
  ·let#[w',z]:=`fe y c e
   exact`avG
  ·let#[e,n,ne,nf,d]:=`kx
   exact`avH
 ·have U:`Sd:=by
   rcases hf with z|z
   ·exact z
   ·rw[z] at hk;cases hk
  let#[c,hc]:=`ZU x (`t hk);let#[w',z]:=`fe x c hc;refine wpAny_storeName_cell `lb hk hc z (λh' Y hs=>?_);let#[oc,Z,a2]:=id z;refine h `hv #[`lK,`fw,`d!,`avB,#[m,`avI hs (A9 (cne x c hc)),`ZQ],λy c' e=>?_,`dP,`gF,`gf,J #[oc,Z,`gF x c hc] hs,`ZR] #[c,hs,`s hc]
  ·exact`ZV `K'
  ·let#[sl,e1]:=`K!
   exact#[sl,`ZV e1]
  ·let#[o',e1]:=`BJ
   exact#[o',`ZV e1]
  ·by_cases hj:j=i
   ·subst hj
    rw[hi] at e1;cases e1;rw[`Lf] at e2;cases e2;exact#[u,r,`s #[`t hk,c,hc,Y]]
   ·rw[`oy] at e2
    let#[u',r',q]:=`avD;refine`ZT;refine `e;rcases q with q|⟨k,c',e,z'⟩
    ·refine `b;exact `mj
    ·refine `b;refine `s #[k,c',e,z'.sameBut hs ?_]
     rintro rfl;exact hj (jh0 hN e1 (I.ok.inj _ _ _ e hc▸hi))
  ·by_cases hcc:c'=c
   ·subst hcc;exact#[_,Y]
   ·let#[w2,z2]:=`fe y c' e
    exact#[w2,z2.sameBut hs hcc]
  ·let#[e,n,ne,nf,d]:=`kx
   refine#[(`ht p.1 ?_).trans e,n,ne,nf,d];intro q;rw[q,Z] at e;have q':oc=p.2:=`oz;exact d w' (by rw[← q'];exact a2)
theorem ns0{M:`e2}{A:`bT}{E:`aj}{Q:`dV}(I:`C)(hN:`ek)(hi:`b0)(hx:`rB)(r:`f5)
  (h:∀s',`avt->`BM) (hf:`rC:=by first|exact `bQ|exact `b?|assumption):`avu :=
 dj0 I hN hi hx r (λs' I' _=>h s' I') hf
def Inv.call'(I:`C)(ho:`ZW)(u:Un (`vt) ch H H' `ar `na)(hok:HOk `aR X.w H' `na)(hg:`Gc)
  (hch:∀b∈ch,`ZI):`mk:=by
 let#[h',g',d',t',o']:=s';have e:o'=s.os:=ho;subst e;exact I.call (g':=g') (t':=t') (d':=d') u hok hg hch
universe zz
abbrev XK:=`G->`bm->`iw
abbrev St:=`ZF
abbrev VK:=`ZX
abbrev TE:=St->`FD
variable{r:`avJ}
abbrev TT:=St->Hp->(`BN)->Prop
variable{ta tb te tv td ty:L2.TE}
abbrev TA:=St->Hp->(`Gm)->Prop
structure Ends where
 nx:`jB
 rt:VK
 bk:`jB:=λ_ _=>`b'
 ct:`jB:=λ_ _=>`b'
abbrev TS:=`fM->`jB
def EP(X:Cx)(pins:`aw)(σ:St)(Q:VK)(u:`G)(s':`v):Prop:=∃v H',`mk/\`avK
def TP(X:Cx)(pins:`aw)(σ:St)(Q:`BN)(b:`M)(s':`v):Prop:=∃H',`mk/\Q b H'
def AP(X:Cx)(pins:`aw)(σ:St)(Q:`Gm)(us:`K)(s':`v):Prop:=∃vs H',`mk/\`rD/\`ZY
def SP(X:Cx)(pins:`aw)(D:`fM)(f:Flow)(s':`v):Prop :=
 match f with
 | .next=>∃σ' H',`m'/\`apn
 | .brk=>∃σ' H',`m'/\D.bk σ' H'
 | .cont=>∃σ' H',`m'/\D.ct σ' H'
 | `eR u=>∃v σ' H',`m'/\`f5/\D.rt v H'
def PE(X:Cx)(e:`I)(t:TE):Prop :=
 ∀(pins:`aw) (s:`v) (σ:St) (H:Hp) (Q:VK),`C->`nA->`q `am X.A `FN `fj `aH s
def PT(X:Cx)(e:`I)(t:TT):Prop :=
 ∀(pins:`aw) (s:`v) (σ:St) (H:Hp) (Q:`BN),`C->`nA->`q `am X.A (`Fn e `w `FN) `ZZ `aH s
def PW(X:Cx)(e:`I)(t:TT):Prop :=
 ∀(whole:`FE) (pins:`aw) (s:`v) (σ:St) (H:Hp) (Q:`BN),`C->`nA->`q `am X.A (`alx) `ZZ `aH s
theorem PW.pt{t:TT}(h:PW X e t):PT X e t:=h _
def PA(X:Cx)(es:`bA)(t:TA):Prop :=
 ∀(pos:Pos) (pins:`aw) (s:`v) (σ:St) (H:Hp) (Q:`Gm),`C->`nA->`q `am X.A (`BO (`SH)) (AP X `i σ Q) `aH s
def PS(X:Cx)(st:`a1)(t:TS):Prop :=
 ∀(pins:`aw) (s:`v) (σ:St) (H:Hp) (D:`fM),`C->`Va->`q `am X.A (exec st `w) `Z_ `aH s
def PSs(X:Cx)(st:`b5)(t:TS):Prop :=
 ∀(pins:`aw) (s:`v) (σ:St) (H:Hp) (D:`fM),`C->`Va->`q `am X.A (execs st `w) `Z_ `aH s
theorem thn{t:Sem α}{Q Q':α->`eO}{M:`e2}{s:`v}(h:`q M A t Q E s)(hQ:∀a s,Q a s->Q' a s):`q M A t Q' E s:=C9 h hQ `rx
section
def Gy0(i:Nat):TE:=fun σ H Q=>∃v,`BG/\Q v H
def tC(v:V):TE:=λ_ H Q=>Q v H
def R0(hN:`b0)(hv:`dB)(hd:`aQ:=by decide)(hcd:`dC:=by decide):PE X `le (Gy0 i):=by
 intro pins s σ H Q I h;refine `e;let#[v,e,h]:=h;let#[m,hn,hl]:=`dr;let#[u,r,l]:=hl i x v hN e hv;have fin:EP X `i σ Q u s:=`Z0;rcases l with⟨hk,hm⟩|⟨hk,c,hc,J⟩
 ·refine `b;exact `Z1 (wpAny_loadName_local `lb hk hn hm fin) hd
 ·rcases hk with hk|hk
  ·refine `b;exact `Z1 (wpAny_loadName_cell `lb hk hc J fin) hd
  ·refine `b;exact `Z1 (wpAny_loadName_free `lb hk hc J fin hcd) hd
theorem Ip0{i j pos}:PE X (`iJ `f6 j pos) (tC `f6):=λ_ _ _ H _ I h=>wpAny_Constant_int #[`bi,H,`f9,`ad,h]
theorem Hf0{b j pos}:PE X (`iJ (`Lg) j pos) (tC `z!):=λ_ _ _ H _ I h=>Constant_bool #[`dK,H,I,rfl,h]
theorem Uo0{j pos}:PE X (`iJ `af j pos) (tC `x):=λ_ _ _ H _ I h=>Constant_none #[`x,H,I,rfl,h]
theorem H20{x j pos}:PE X (`iJ `ml j pos) (tC `ml):=λ_ _ _ H _ I h=>`avL #[`b1,H,`f9,`ad,h]
def Gl(X:Cx)(x:Str):Prop:=`yI=`a .globalImplicit
theorem q20{E:`aj}{s:`v}{σ:St}{pos:Pos}(I:`C)(hg:`c!)(hm:`m7=`a?)(h:Q u s)
  (hd:`aQ:=by decide):`avM :=
 Bz0 `lb hg (Calls.loadGlobal_global `avN hm h) hd
def uh0{E:`aj}{s:`v}{σ:St}{pos:Pos}(I:`C)(hg:`c!)(hm:`oA)(hv:`sS=`a?)(h:Q u s)
  (hn:`k? := by decide) (hd:`aQ:=by decide):`avM:=by
 let#[mb,h1,h2]:=I.mod.blt;exact Bz0 `lb hg (Calls.loadGlobal_builtin `avN hm (by rw[I.ok.blt];exact h1.keeps I.bk) ((h2 x hn).trans hv) h) hd
theorem k30(hg:`c!)(hm:`m7=`a?)(r:`f5)(hd:`aQ:=by decide):`avO :=
 λ_ _ _ H _ I h=>q20 I hg hm `Z0 hd
theorem W00(hg:`c!)(hm:`oA)(hv:`sS=`a?)(r:`f5)(hn:`k? := by decide)(hd:`aQ:=by decide):`avO :=
 λ_ _ _ H _ I h=>uh0 I hg hm hv `Z0 hn hd
variable{a:`I}
def PC(X:Cx)(op:`hb)(a b:`I)(t:TE):Prop :=
 ∀(pins:`aw) (s:`v) (σ:St) (H:Hp) (Q:VK),`C->`nA ->
  `q `am X.A (`Ss) (λv s₁=>`q `am X.A (`UZ) (λu s₂=>`q `am X.A (`d2 op v u) `fj `aH s₂) `aH `dN) `aH s
def tB(t:TE):TT:=fun σ H Q=>t σ H λx H1=>∃c,`Lh/\Q c H1
theorem I50{op:`hb}{t:TE}(h:`avP)(h1:`kA:=by first|exact `avQ|rfl):PE X `mm t:=λpins s σ H Q I hw=>`avR `avS h1
def H30{op:`hb}{t:TE}(h:`avP)(h1:`kA:=by first|exact `avQ|rfl):PT X `mm (tB t):=by
 intro pins s σ H Q I hw;refine `avT (thn `Z2 λv s1 h1=>thn h1 λu s2 h2=>thn h2 λc s3 hq2=>?_) h1;refine `e;let#[x,H1,I1,r1,q1]:=hq2;let#[d,rfl,q]:=q1;cases r1;refine `b;exact `avU
def T90{t:TE}(h:PE X e t)(he:`Z3:=by intro _;rfl):PT X e (tB t):=by
 intro pins s σ H Q I hw;refine isTrue_plain (thn `Z2 λv s1 hq3=>?_) (he _);refine `e;let#[x,H1,I1,r1,q1]:=hq3;let#[d,rfl,q]:=q1;cases r1;refine `b;exact `avU
variable{tA tB':TT}{rest:`bA}
def Fo0(t u:TT):TT:=fun σ H Q=>t σ H λc H1=>if `Li then u σ H1 Q else Q `p H1
def tOr(t u:TT):TT:=fun σ H Q=>t σ H λc H1=>if `Li then Q `c H1 else u σ H1 Q
def Gw0(t:TT):TT:=fun σ H Q=>t σ H `avV
def Xy0(ha:`BP):PW X `Z4 tA:=by
 intro wh pins s σ H Q I h;refine `avW `avX;cases c with
 | true=>exact isTrue_and_nil e
 | false=>exact e
def Sp0(ha:`BP):PW X `Z5 tA:=by
 intro wh pins s σ H Q I h;refine isTrue_or `avX;cases c with
 | false=>exact isTrue_or_nil e
 | true=>exact e
def Sw0(ha:`BP)(hb:PW X `vu tB'):PW X `vv (Fo0 tA tB'):=by
 intro wh pins s σ H Q I h;refine `avW (thn `i' λc s1 hq4=>?_);let#[H1,I1,q1]:=hq4;cases c with
 | true=>exact `avY
 | false=>exact`avZ
def N50(ha:`BP)(hb:PW X `BQ tB'):PW X `BR (tOr tA tB'):=by
 intro wh pins s σ H Q I h;refine isTrue_or (thn `i' λc s1 hq5=>?_);let#[H1,I1,q1]:=hq5;cases c with
 | true=>exact`avZ
 | false=>exact `avY
def Ut0(ha:`BP):PT X `BS (Gw0 tA):=by
 intro pins s σ H Q I h;exact isTrue_not (ha `i s σ H (`avV) I h)
def Gl0(ta tb:TE):TE:=fun σ H Q=>ta σ H λx H1=>∃c,`Lh/\if `Li then `av_ else Q `tk H1
def Ft0(ta tb:TE):TE:=fun σ H Q=>ta σ H λx H1=>∃c,`Lh/\if `Li then Q (`c4) H1 else `av_
def Gs0(ta:TE):TE:=fun σ H Q=>ta σ H λx H1=>∃c,`Lh/\Q (.bl (!c)) H1
theorem Tz0{op}{t:TE}(h:PE X a t):PE X `Z6 t:=λpins s σ H Q I hw=>BoolOp_one `avS
def Tk0(ha:`kB)(hb:PE X `vu tb):PE X `vv (Gl0 ta tb):=by
 intro pins s σ H Q I h;refine BoolOp_and (thn `i' λv s1 hq6=>?_);refine `e;let#[x,H1,I1,r1,q1]:=hq6;let#[c,rfl,q1]:=q1;cases r1;refine `b;refine P5 ?_;cases c with
 | true=>exact `av0
 | false=>exact#[`jz,H1,I1,rfl,q1]
def Hg0(ha:`kB)(hb:PE X `BQ tb):PE X `BR (Ft0 ta tb):=by
 intro pins s σ H Q I h;refine BoolOp_or (thn `i' λv s1 hq7=>?_);refine `e;let#[x,H1,I1,r1,q1]:=hq7;let#[c,rfl,q1]:=q1;cases r1;refine `b;refine P5 ?_;cases c with
 | false=>exact `av0
 | true=>exact#[`c4,H1,I1,rfl,q1]
def Im0(ha:`kB):PE X `BS (Gs0 ta):=by
 intro pins s σ H Q I h;refine UnaryOp_ (thn `i' λv s1 hq8=>?_);refine `e;let#[x,H1,I1,r1,q1]:=hq8;let#[c,rfl,q1]:=q1;cases r1;refine `b;exact not_of (P5 #[.bl (!c),H1,I1,rfl,q1])
universe zz
def SqL(K:`A)(H:Hp)(a:`f)(xs:`S):Prop :=
 `amV ∨
  ∃(o:Obj) (its:`aJ) (n:Nat),`Lj/\`k9=`en/\`KZ/\`av1
def SqT(K:`A)(H:Hp)(a:`f)(xs:`S):Prop :=
 Rd H a `sR ∨
  ∃(o:Obj) (its:`aJ) (n:Nat),`Lj/\`KY/\`av1
def Fa0:`G->`dq
 | `af=>`a `x
 | `Lg=>`a `z!
 | `g i _=>`IJ
 | `u x _=>`a `ml
 | .bytes b _=>`a (.byt b)
 | .float b _=>`a (.flt b)
 | `bt=>`nx
 | `a! n=>`a (.ty n)
 | _=>`d
def RelV.abs{x:V}(r:`hz):Fa0 u=`dn:=by
 cases x with
 | non=>cases r;rfl
 | bl _=>cases r;rfl
 | int _=>let#[t,rfl]:=r;rfl
 | str _=>let#[t,rfl]:=r;rfl
 | byt _=>let#[t,rfl]:=r;rfl
 | flt _=>let#[t,rfl]:=r;rfl
 | ref _=>cases r;rfl
 | ty _=>cases r;rfl
theorem RelV.inj{x y:V}(r:`hz)(q:`fN):x=y:=A4 (r.abs.symm.trans q.abs)
def Vals.inj:∀{xs ys:`S} {us:`K},`dW->`bJ ys us->xs=ys:=by
 intro xs ys us h
 induction h generalizing ys with
 | nil=>intro h2;cases h2;rfl
 | cons r t ih=>intro h2;cases h2 with
  | cons r' t'=>rw[`Z7,ih t']
section
variable{σ:St}{s:`v}{ys:`S}
def Inv.list(I:`C)(h:`av2):∃its:`K,`ow/\PlainL `ar a `bv/\`i9:=by
 refine `e;rcases h with h|⟨o,its,n,hk,hc,hd,hs,hz,r⟩
 ·let#[z,its,n,r,e]:=`av3
  refine `b;exact#[its,r,#[_,n,e,rfl,rfl,rfl],z]
 ·refine `b;refine#[`Fr,r,#[o,n,`av4,hc,hd,`av5],?_]
  have e:=`cJ;simp only[`Lk] at e;lia
def Inv.tuple(I:`C)(h:`av6):∃its:`K,`ow/\`yr `ar a `bv/\`i9:=by
 refine `e;rcases h with h|⟨o,its,n,hk,hc,hs,hz,r⟩
 ·let#[z,its,r,p]:=`av3
  refine `b;exact#[its,r,p.tup,z]
 ·refine `b;refine#[`Fr,r,#[o,`av4,hc,n,`av5],?_]
  have e:=`cJ;simp only[`Lk] at e;lia
def Inv.list_inj(I:`C)(h:`av2)(h':SqL X.K H a ys):xs=ys:=by
 refine `e;let#[its,r,#[o,n,e,_,_,d],_]:=`dt h;let#[J,r',#[o',n',e',_,_,d'],_]:=`dt h';rw[e] at e';cases e';rw[d] at d';refine `b;injection d' with d1 _
 have:its=J:=`av7
 subst this;exact `Z7
def Inv.tuple_inj(I:`C)(h:`av6)(h':SqT X.K H a ys):xs=ys:=by
 refine `e;let#[its,r,#[o,e,_,n,d],_]:=`hu h;let#[J,r',#[o',e',_,n',d'],_]:=`hu h';rw[e] at e';cases e';rw[d] at d';refine `b;injection d' with d1 _
 have:its=J:=`av7
 subst this;exact `Z7
universe zz
abbrev Cx.wish(X:Cx)(E:`aj):Cx:={ X with xe:=E }
abbrev Cx.nox(X:Cx):Cx:=X.wish `lt
theorem Cx.Ok.wish(ok:X.Ok)(E:`aj):`av8 :=
 `av9
theorem Cx.Ok.unwish(ok:`av8):X.Ok :=
 `av9
section
variable{σ:St}{s:`v}
theorem Inv.wish(I:`C)(E:`aj):`av':=#[I.ok.wish E,`fw,`d!,`ox,`dr,`fe,`dP,`gF,`iu,`bg,`c0]
theorem Inv.unwish(I:`av'):`C:=#[I.ok.unwish,`fw,`d!,`ox,`dr,`fe,`dP,`gF,`iu,`bg,`c0]
def SP.unwish{D:`fM}{f:Flow}(h:SP (X.wish E) `i D f s'):`av!:=by
 refine `e;cases f with
 | next=>let#[σ',H',I,q]:=h;refine `b;exact`Z8
 | brk=>let#[σ',H',I,q]:=h;refine `b;exact`Z8
 | cont=>let#[σ',H',I,q]:=h;refine `b;exact`Z8
 | ret u=>let#[v,σ',H',I,r,q]:=h;refine `b;exact#[v,σ',H',`alB,r,q]
theorem PSs.nox{st:`b5}{t:TS}(h:PSs X.nox st t):PSs X st t:=λpins s σ H D I hw =>
 C9 (h `i s σ H D (I.wish _) hw) (λ_ _ q=>q.unwish) λ_ _ z=>`fk z
universe zz
section
variable{st:`a1}{t u:TS}
def Hx0:TS:=λD σ H=>`TH
def Fv0(t u:TS):TS:=λD σ H=>t `av? σ H
theorem sg0:PSs X [] Hx0:=λ_ _ σ H _ I h=>Ah0 `awa
def T7(h1:PS X st t)(h2:PSs X `a3 u):PSs X `BT (Fv0 t u):=by
 intro pins s σ H D I h;refine wpAny_execs_cons (thn (h1 `i s σ H `av? I h) `Z9);cases f with
 | next =>
  let#[σ',H',I',q]:=q;exact h2 `i s1 σ' H' D I' q
 | ret v=>exact q
 | brk=>exact q
 | cont=>exact q
def Inv.quiet{σ:St}{s:`v}(I:`C):`awb `w=`p:=by simp[`awb,`lb]
def Gq0(te:TE):TS:=λD σ H=>te σ H λ_ H1=>`awc
def ru0(he:`gp)(hs:`Z':=by rfl):PS X `Z! (Gq0 te):=by
 intro pins s σ H D I h;exact wpAny_Expr_any (thn `h9 λv s1 #[x,H1,I1,r1,q1]=>#[σ,H1,I1,q1]) I.quiet hs
def Fk0(te:TE):TS:=λD σ H=>te σ H D.rt
def o50(he:`gp):PS X `rE (Fk0 te):=by
 intro pins s σ H D I h;exact wpAny_Return_some (thn `h9 λv s1 #[x,H1,I1,r1,q1]=>#[x,σ,H1,I1,r1,q1])
def Fd0(c:TT)(t u:TS):TS:=λD σ H=>c σ H λb H1=>if b=`c then t D σ H1 else u D σ H1
def ig0{c:`I}{a b:`b5}{tc:TT}(hc:PT X c tc)(ha:PSs X a t)(hb:PSs X b u):PS X (.If c a b pos) (Fd0 tc t u):=by
 intro pins s σ H D I h;refine wpAny_If (thn (hc `i s σ H _ I h) λd s1 hq9=>?_);let#[H1,I1,q1]:=hq9;cases d with
 | true=>exact ha `i s1 σ H1 D I1 q1
 | false=>exact hb `i s1 σ H1 D I1 q1
def Jv0:TS:=`pR
theorem z50{sts:`b5}:PSs X sts Jv0:=λ_ _ _ _ _ _ h=>`mn
universe zz
abbrev TG:=V->`awd
abbrev TGs:=`S->`awd
def PG(X:Cx)(target:`I)(t:TG):Prop :=
 ∀(pins:`aw) (s:`v) (σ:St) (H:Hp) (v:V) (u:`G) (Q:`jB),`C->`f5->`awe ->
  `q `am X.A (`hx `Gk `w u) `awf `aH s
def PGs(X:Cx)(ts:`bA)(t:TGs):Prop :=
 ∀(pins:`aw) (s:`v) (σ:St) (H:Hp) (vs:`S) (us:`K) (Q:`jB),`C->`rD->t vs σ H Q ->
  `q `am X.A (assignInOrder ((`lf ts `w).map `eU) us) `awf `aH s
abbrev P20:=`awg
def Ja0(X:Cx)(t:P20):Prop :=
 ∀(pins:`aw) (s:`v) (σ:St) (H:Hp) (o i v:V) (ov iv u:`G) (Q:`iw),`C->`dp o ov->`dp i iv->`f5->t o i v H Q ->
  `q `am X.A (`Fu ov iv u) (λ_ s'=>∃H',`mk/\Q H') `aH s
def No0(i:Nat):TG:=λv σ H Q=>Q `x6 H
def o70(hN:`ek)(hi:`b0)(hx:`rB)(hf:`rC:=by first|exact `bQ|exact `b?|assumption):PG X `le (No0 i):=by
 intro pins s σ H v u Q I r h;exact `awh (ns0 I hN hi hx r (λs' I'=>#[_,H,I',h]) hf)
def Gx0:TGs:=λvs σ H Q=>vs=[]/\Q σ H
def G90(t:TG)(u:TGs):TGs:=λvs σ H Q=>∃v r,vs=v::r/\t v σ H fun σ' H'=>u r σ' H' Q
def M30:PGs X [] Gx0:=by
 intro pins s σ H vs us Q I r h;let#[e,h]:=h;subst e;cases r;exact assignInOrder_nil `awa
def Zx0{t:TG}{u:TGs}(h1:PG X e t)(h2:PGs X es u)
  (hs:(`lf `gK `w).map `eU=`hx e `w::(`Z?).map `eU:=by rfl):PGs X `gK (G90 t u):=by
 intro pins s σ H vs us Q I r h;let#[v,vr,e1,h]:=h;subst e1;cases r with
 | cons r rr =>
  rw[hs];refine assignInOrder_cons (thn (h1 `i s σ H _ _ _ I r h) λ_ s1 hq10=>?_);let#[σ1,H1,I1,q1]:=hq10;exact h2 `i s1 σ1 H1 _ _ Q I1 rr q1
def Gz0(K:`A)(n:Nat)(t:TGs):TG:=λv σ H Q=>∃a xs,`iB/\`mo/\`ay=n/\t xs σ H Q
def Jo0{k:Nat}{t:TGs}{n:Nat}(hc:`bx)(h:PGs X es t)
  (hn:(`Z?).length=n:=by rfl) (hst:(`Z?).findIdx? `bK=`d:=by rfl):PG X (`lJ es k pos) (Gz0 X.K n t):=by
 intro pins s σ H v u Q I r hw;refine `e;let#[a,xs,e1,hq,hl,hw]:=hw;subst e1;cases r;let#[its,rv,ht,hz]:=`kC;refine `b;refine assign_Tuple_tuple `hc ht (by simp[hn,← hl,`qi]) hst λh' hx=>?_
 have I1:`tQ:=`FI (t':=`bf) λb o e=>hx b o `_a e
 exact h `i _ σ H xs _ Q I1 (`awi) hw
def Fh0(to ti:TE)(t:P20):TG:=λv σ H Q=>to σ H λo H1=>ti σ H1 λi H2=>t o i v H2 λH3=>Q σ H3
def Tw0{i:`I}{to ti:TE}{t:P20}(ho:`_b)(hi:PE X i ti)(hs:Ja0 X t)
  (ha:∀v,`hx `_c `w v=(do
   let ov ← `m8 [v] `nm
   let iv ← `m8 [v,ov] (`aY i `w)
   `_d
   `_e
   `_f):=by intro _;rfl):PG X `_c (Fh0 to ti t):=by
 intro pins s σ H v u Q I r h;rw[ha];refine A1 (D3 (thn `BU λov s1 hq11=>?_));let#[x,H1,I1,r1,q1]:=hq11;refine A1 (D3 (thn `awj λiv s2 hq12=>?_));let#[y,H2,I2,r2,q2]:=hq12;refine A1 (Y3 (A1 (D3 (thn (hs `i s2 σ H2 x y v ov iv u _ I2 r1 r2 r q2) λ_ s3 hq13=>?_))));let#[H3,I3,q3]:=hq13;exact wpAny_release #[σ,H3,I3,q3]
def Io0(te:TE)(g:TG):TS:=λD σ H=>te σ H λx H1=>g x σ H1 `gG
def i70{g:TG}(he:`gp)(hg:PG X tg g)(hs:`_g:=by rfl)(hw:`_h:=by rfl)
  (h1:`_i:=by rfl):PS X `_j (Io0 te g):=by
 intro pins s σ H D I h;refine wpAny_Assign_stores (thn `h9 λv s1 hq14=>?_) hs hw;let#[x,H1,I1,r1,q1]:=hq14;rw[h1];exact thn (hg `i s1 σ H1 x v _ I1 r1 q1) λ_ s2 q=>q
def Y00(hN:`ek)(hi:`b0)(hx:`rB)(he:`gp)(hs:`gH e (`a (`awk)) `jA `w=`ff:=by rfl)(hf:`rC:=by first|exact `bQ|exact `b?|assumption) :
  PS X (`hy [`awk] e pos) (Io0 te (No0 i)):=by
 intro pins s σ H D I h;refine wpAny_Assign_Name (thn `h9 λv s1 hq15=>?_) hs;let#[y,H1,I1,r1,q1]:=hq15;exact ns0 I1 hN hi hx r1 (λs2 I2=>#[_,H1,I2,q1]) hf
def Kq0(c:TT)(tb:TS):TS:=λD σ H=>∃W:`awl,(∃m,W m σ H)/\∀m σ H,W m σ H ->
 c σ H λb H1=>if b=`c then ∃N:`jB,(∀σ' H',N σ' H'->∃m',m'<m/\W m' σ' H')/\tb `awm σ H1 else `awc
def N20{c:`I}{body:`b5}{tc:TT}{tb:TS}(hp:`BV)(hc:PT X c tc)(hb:`awn):PS X `awo (Kq0 tc tb):=by
 intro pins s σ H D I h;let#[W,#[m0,w0],J]:=h;refine wpAny_While (codeAny_whileLoop (λn s'=>∃σ' H',`m'/\W n σ' H') ?_ m0 #[σ,H,I,w0]);rintro n s1 ⟨σ1,H1,I1,w1⟩;refine P6 hp (thn (hc `i s1 σ1 H1 _ I1 (J n σ1 H1 w1)) λb s2 hq16=>?_);let#[H2,I2,q2]:=hq16;cases b with
 | true =>
  let#[N,hN,q2]:=q2;rw[`bc];refine P6 hp (thn (hb `i s2 σ1 H2 _ I2 q2) λf s3 q3=>?_);refine `e;cases f with
  | next =>
   let#[σ3,H3,I3,n3]:=q3;let#[m',hm,w3]:=`awp;refine `b;exact`awq
  | cont =>
   let#[σ3,H3,I3,n3]:=q3;let#[m',hm,w3]:=`awp;refine `b;exact`awq
  | brk=>refine `b;exact q3
  | ret v=>refine `b;exact q3
 | false =>
  rw[`oB];exact Ah0 #[σ1,H2,I2,q2]
structure It where
 go:`awr
 yld:Nat->Hp->`ZX
 stop:`awr
def qp0(X:Cx)(pins:`aw)(H:Hp)(b:`f):Prop :=
 `c_/\`m1/\`vq/\(`Fe∨`m0<=b)/\`R'
def Inv.fpOk{σ:St}{s:`v}{b:`f}(I:`C)(hb:`U<=b)(hn:`m2):`_k:=by
 refine#[hn,C6 (B7 I.lt hb),I.nofs hb,`s (C0 I.sz hb),`_l,`_m]
 ·let#[v,q]:=`vs
  exact `N (B7 q.lt `aws) `mi
 ·exact `N (B7 (A5 (`kx).1) `aws) `mi
structure Turn(P:`ao)(w:`Q)(K:`A)(tg:`I)(J:It)(fp:`aS)(it:`f)(tn:`_n):Prop where
 mem:it∈fp
 obj:∀i h,tn i h->∀b∈fp,∃o,`fa/\`awt
 keep:∀i h h',tn i h->(∀b∈fp,∀o,`Bu)->tn i h'
 item:∀(X:Cx),`aR=P->X.w=w->X.K=K->`bx->∀(i:Nat) (pins:`aw) (s:`v) (σ:St) (H:Hp) (E:`aj),`C->`awu->`_o->`_p ->
  `q `pS X.A (`zk `pC) (λr s1=>∃u,r=`a? /\
   `q `pS X.A `_q (λ_ s2=>∃x H',`_r/\`hz/\`_s/\tn `es s2.heap/\∀b∈fp,`m2) E s1) E s
 done:∀(X:Cx),`aR=P->X.w=w->X.K=K->`bx->∀(i:Nat) (pins:`aw) (s:`v) (σ:St) (H:Hp) (E:`aj),`C->`awu->`_o->`_t ->
  `q `pS X.A (`zk `pC) (λr s1=>r=`d/\Inv X `i σ H s1) E s
 self:∀(A:`bT) (i:Nat) (s:`v) (Q:`aj) (E:`aj),`_o->Q `pC s->`q `pS A (pyIter `pC) Q E s
abbrev TI:=St->Hp->(`Ll)->Prop
def PIE(X:Cx)(pins:`aw)(σ:St)(tg:`I)(R:`Ll)(itv:`G)(s2:`v):Prop :=
 ∃(it:`f) (fp:`aS) (tn:`_n) (J:It) (H':Hp),itv=`z it/\`_r/\`awv/\`aww/\(∀b∈fp,`_k)/\R J H'
def PI(X:Cx)(tg iter:`I)(wi:TI):Prop :=
 ∀(pins:`aw) (s:`v) (σ:St) (H:Hp) (R:`Ll),`C->wi σ H R ->
  `q `am X.A (`aY `jC `w) (λv s1=>`q `am X.A (pyIter v) `awx `aH s1) `aH s
def cx0{M:`e2}{A:`bT}{E:`aj}{s:`v}{tg:`I}{u:`G}{o:Obj}{n:`cd}{vs:`aJ}{Q:`dV}(ho:`dm it=`ap)(hc:`k9=`a! n)(hd:`mY=`xU)
  (hn:`awy=`p) (hQ:Q () s):`q M A `_q Q E s:=by
 unfold letOwnedTupleGo;cases tg<;>first
  | exact A2 hQ
  | (cases u<;>first
    | exact A2 hQ
    | (refine A1 (`awz ho ?_)
       rw[hc,hd];show `q M A (if (`awy&&vs[0]?==`a (`oC _))=`c then _ else _) Q E s;rw[`al (by intro h;rw[hn,Bool.false_and] at h;cases h)];exact A2 hQ))
def Itl(K:`A)(a:`f):It :=
 #[`awA,λi H x H'=>H'=H/\`_u,`awB]
def Itt(K:`A)(a:`f):It :=
 #[λi H=>∃xs x,`mo/\`m?,λi H x H'=>H'=H/\∀xs,`mo->`m?,λi H=>∃xs,`mo/\`Fw]
def Itr(lo:Int)(n:Nat):It:=#[λi _=>i<n,λi H x H'=>H'=H/\x=`_v,λi _=>n<=i]
theorem Uv0{P:`ao}{w:`Q}(a it:`f):`pD P w K tg (Itl K a) [it] it (λi h=>`awC) where
 mem:=`a4
 obj:=λi h st b hb=>by
  have e:b=it:=`ky
  subst e;let#[o,e,c,d]:=st;exact`_w
 keep:=`awD
 item:=by
  intro X hP hw hK hc i pins s σ H E I hf st hg;refine `e;subst hP hw hK;let#[xs,x,hq,hx]:=hg;let#[its,rv,p,hz]:=`hd;let#[u,hu,ru]:=`_x;let#[f0,f1,f2,f3,f4,f5]:=`oD;refine `b;refine wpAny_pyNext_list_item st `vw (x:=u) `Lm `awE
  have I1:`tQ:=`awF;let#[o,e,c,d]:=id J;exact#[u,rfl,cx0 (s:=`hv) e c d `r #[x,H,I1,ru,#[rfl,`awG],J,`Ln]]
 done:=by
  intro X hP hw hK hc i pins s σ H E I hf st hg;refine `e;subst hP hw hK;let#[xs,hq,hx]:=hg;let#[its,rv,p,hz]:=`hd;let#[f0,f1,f2,f3,f4,f5]:=`oD;have hl:=`qi;refine `b;exact wpAny_pyNext_list_end `hc st `vw `oE `BW
 self:=λ_ _ _ _ _ st h=>wpAny_pyIter_listiter st h
theorem Ve0{P:`ao}{w:`Q}(a it:`f):`pD P w K tg (Itt K a) [it] it (λi h=>h.IsTupleIter it a i) where
 mem:=`a4
 obj:=λi h st b hb=>by
  have e:b=it:=`ky
  subst e;let#[o,e,c,d]:=st;exact`_w
 keep:=`awD
 item:=by
  intro X hP hw hK hc i pins s σ H E I hf st hg;refine `e;subst hP hw hK;let#[xs,x,hq,hx]:=hg;let#[its,rv,p,hz]:=`kC;let#[u,hu,ru]:=`_x;let#[f0,f1,f2,f3,f4,f5]:=`oD;refine `b;refine wpAny_pyNext_tuple_item st `awH (x:=u) `Lm `awE
  have I1:`tQ:=`awF;let#[o,e,c,d]:=id J;exact#[u,rfl,cx0 (s:=`hv) e c d `r #[x,H,I1,ru,#[rfl,λys hy=>by rw[`awI hy hq];exact hx],J,`Ln]]
 done:=by
  intro X hP hw hK hc i pins s σ H E I hf st hg;refine `e;subst hP hw hK;let#[xs,hq,hx]:=hg;let#[its,rv,p,hz]:=`kC;let#[f0,f1,f2,f3,f4,f5]:=`oD;have hl:=`qi;refine `b;exact wpAny_pyNext_tuple_end `hc st `awH `oE `BW
 self:=λ_ _ _ _ _ st h=>wpAny_pyIter_tupleiter st h
theorem Ui0{P:`ao}{w:`Q}(it:`f)(lo:Int)(n:Nat):`pD P w K tg (Itr lo n) [it] it (λi h=>`awJ h it (lo+(i:Nat)*1) (`dM - (i:Nat)) 1) where
 mem:=`a4
 obj:=λi h st b hb=>by
  have e:b=it:=`ky
  subst e;exact#[_,st,λv z=>by
   have z':`awK _=Data.cell v:=z;cases z']
 keep:=λi h h' st k=>k it `ax _ st
 item:=by
  intro X hP hw hK hc i pins s σ H E I hf st hg;refine `e;subst hP hw hK;let#[f0,f1,f2,f3,f4,f5]:=`oD;have W:=Walks.range (prog:=`aR) (w:=X.w) `hc it lo 1 n;refine `b;refine W.item i s _ _ hg st λv h' tk hv J kk=>?_
  let#[t,rfl]:=hv;have I1:Inv X `i σ H `qq:=`Fx (λb o hb e=>kk b o (`ky) e) f0 f1 f3 f4 f5;refine#[_,rfl,cx0 (s:=`qq) (n := "range_iterator") J rfl rfl `r #[`_v,H,I1,#[t,?_],`ln,J,`Ln]];rw[Int.mul_one]
 done:=by
  intro X hP hw hK hc i pins s σ H E I hf st hg;refine `e;subst hP hw hK;let#[f0,f1,f2,f3,f4,f5]:=`oD;refine `b;exact wpAny_pyNext_range_end `hc st (by have:n<=i:=hg;lia) `BW
 self:=λ_ _ _ _ _ st h=>wpAny_pyIter_rangeiter st h
def Hv0(K:`A)(tl:TE):TI:=fun σ H R=>tl σ H λx H1=>∃a,`c?/\`_y/\R (Itl K a) H1
def Fg0(K:`A)(tl:TE):TI:=fun σ H R=>tl σ H λx H1=>∃a,`c?/\(∃xs,SqT K H1 a xs)/\R (Itt K a) H1
def Xp0{l:`I}{tl:TE}(hl:PE X l tl):PI X tg l (Hv0 X.K tl):=by
 intro pins s σ H R I h;refine thn `awL λv s1 hq17=>?_;refine `e;let#[x,H1,I1,r1,q1]:=hq17
 let#[a,e,#[xs,hq],q]:=q1;subst e;cases r1;let#[its,rv,p,hz]:=`BX hq;refine `b;refine wpAny_pyIter_list `vw ?_;refine#[`f8,`BY,_,_,H1,rfl,`Lo,Uv0 a _,`Lp,`iv,q];have e:b=`f8:=`ky
 subst e;exact `vx
def I60{l:`I}{tl:TE}(hl:PE X l tl):PI X tg l (Fg0 X.K tl):=by
 intro pins s σ H R I h;refine thn `awL λv s1 hq18=>?_;refine `e;let#[x,H1,I1,r1,q1]:=hq18
 let#[a,e,#[xs,hq],q]:=q1;subst e;cases r1;let#[its,rv,p,hz]:=I1.tuple hq;refine `b;refine wpAny_pyIter_tuple (show s1.heap.IsTuple a `bv from p) ?_;refine#[`f8,`BY,_,_,H1,rfl,`Lo,Ve0 a _,`Lp,`iv,q];have e:b=`f8:=`ky
 subst e;exact `vx
def Qo0{σ:St}{s:`v}{R:`Ll}{E:`aj}{lo hi:Int}{t u v:Tok}{tk:Nat}(I:`C)(h1:-(`ft)<=lo)(h2:lo<`ft)(h3:-(`ft)<=hi)(h4:hi<`ft)
  (q:R (Itr lo `s2) H):`q `am X.A (pyIter `iH) `awx E `awM:=by
 refine wpAny_pyIter_range (IsRange.new ..) (small_one h1 h2 h3 h4) ?_;have I1:Inv X `i σ H `awM:=`FI `s0
 refine#[`_z,[`_z],_,_,H,rfl,
  `FA (t':=tk) `s0,Ui0 _ lo `s2,?_,`iv,q]
 ·have e1:lo+`s3*1=lo:=`a4
  have e2:`awN=Builtin.Range.rangeSize lo hi 1:=by rw[rangeSize_one];split<;>lia
  show `awJ _ _ (lo+`s3*1) (`awN) 1;rw[e1,e2];exact `f0
 ·have e:b=`_z:=`ky
  subst e;exact `vx
def Gg0(ta:TA):TI:=fun σ H R=>ta σ H λvs H1=>∃j:Int,vs=[`f']/\-(`ft)<=j/\j<`ft/\R (Itr 0 `ix) H1
def Si0{a:`I}{ta:TA}{p:Pos}(hg:`awO)(hm:`awP)(ha:`awQ)(hs:`Lq:=by rfl):PI X tg `awR (Gg0 ta):=by
 intro pins s σ H R I h;refine Call_ (uh0 I hg hm boot_range (L8 (thn `yp λus s1 hq19=>?_) hs rfl));refine `e;let#[vs,H1,I1,r1,q1]:=hq19;let#[j,e,q1,q2,q]:=q1;subst e;cases r1 with
 | cons r rr =>
  cases rr;let#[t,rfl]:=r;refine `b;exact call_range_1 (Qo0 I1 `k `k q1 q2 (`_A))
def Fy0(wi:TI)(g:TG)(tb:TS):TS:=λD σ H=>wi σ H λJ H1=>∃W:Nat->`awl,(∃m,W 0 m σ H1)/\∀i m σ H,W i m σ H ->
 (`_t/\`TH)∨(`_p/\∃N:`jB,(∀σ' H',N σ' H'->∃m',m'<m/\W `es m' σ' H')/\∀x H',`_s->g x σ H' fun σ2 H2=>tb `awm σ2 H2)
def mo0(fp:`aS)(h:`D):`aw:=fp.filterMap λb=>(`pt).map λo=>`x?
theorem rj0{h:`D}{b:`f}{o:Obj}(hb:b∈fp)(e:`fa):`x?∈mo0 fp h:=r9.mpr #[b,hb,`awS]
def Rt0{h:`D}{p:`akR}(hp:p∈mo0 fp h):p.1∈fp/\`e? p.1=`sW:=by
 let#[b,hb,e]:=r9.mp hp;cases q:`pt with
 | none=>rw[q] at e;cases e
 | some o =>
  rw[q] at e;have e':`x?=p:=`oz;subst e';exact#[hb,q]
theorem Inv.pinned{σ:St}{s:`v}(I:`C)(hf:∀b∈fp,`Fv)(ho:∀b∈fp,∃o,`fb/\`awt):Inv X (`i++mo0 fp `ar) σ H s :=
 I.pins_of λp hp=>`avs (λz=>`iu p (E1 _ z)) λz=>by
  refine `e;let#[hb,e]:=Rt0 z;let#[f0,f1,f2,_]:=hf p.1 hb;let#[o,e',d]:=ho p.1 hb;rw[e] at e';cases e';refine `b;exact#[e,f0,f1,f2,d]
theorem Inv.unpinned{pl:`aw}{σ:St}{s:`v}(I:Inv X (`i++pl) σ H s):`C:=I.pins_of λp hp=>`iu p (E1 _ (D6 _ hp))
def Q20{body:`b5}{wi:TI}{g:TG}{tb:TS}{pos:Pos}(hp:`BV)(hc:`bx)(hi:`_B)(hg:PG X tg g)(hb:`awn)
  (hs:`eG:=by intro _;rfl):PS X `_C (Fy0 wi g tb):=by
 intro pins s σ H D I h;refine wpAny_For (thn `BZ λv s1 h1=>thn h1 λa5 s2 h2=>?_) hs;refine `e;let#[it,fp,tn,J,H2,e,I2,T,a2,f2,W,#[m0,w0],a1]:=h2;subst e;have O:∀{H':Hp},`vy->∀b∈fp,`_k:=λhn b hb=>#[hn b hb,(`lu).2]
 refine `b;refine codeAny_forLoop_any (λn s'=>∃i σ' H',`m'/\`awT/\`vy/\W i n σ' H') ?_ m0 #[0,σ,H2,I2,a2,λb hb=>(`lu).1,w0];rintro n s3 ⟨i,σ3,H3,I3,Y,Z,w3⟩;refine `e;rcases a1 i n σ3 H3 w3 with⟨stop,qn⟩|⟨go,N,hN,step⟩
 ·refine `b;refine P6 hp (thn (T.done X rfl rfl rfl hc i `i s3 σ3 H3 `aH I3 (O Z) Y stop) λr s4 hq20=>?_);let#[hr,I4]:=hq20
  subst hr;exact Ah0 #[σ3,H3,I4,qn]
 ·refine `b;refine P6 hp (thn (T.item X rfl rfl rfl hc i `i s3 σ3 H3 `aH I3 (O Z) Y go) λr s4 hq21=>?_);let#[u,hr,h4]:=hq21
  subst hr;refine P6 hp (thn h4 λ_ s5 hq22=>?_);refine `e;let#[x,H5,I5,r5,y5,U,a4]:=hq22;have a3:=I5.pinned (O a4) (`yH _ _ U);refine `b;refine P6 hp (thn (hg _ s5 σ3 H5 x u _ a3 r5 (step x H5 y5)) λ_ s6 hq23=>?_);let#[σ6,H6,I6,q6]:=hq23;refine P6 hp (thn (hb _ s6 σ6 H6 _ I6 q6) λf s7 q7=>?_);refine `e;have again:∀{σ7:St} {H7:Hp},Inv X (`i++mo0 fp s5.heap) σ7 H7 s7->N σ7 H7->∃m,m<n/\∃i σ' H',Inv X `i σ' H' s7/\tn i s7.heap/\`vy/\W i m σ' H':=λ{σ7 H7} I7 n7=>by
   let#[m',hm,w7]:=hN σ7 H7 n7;refine#[m',hm,i+1,σ7,H7,`_D,T.keep _ _ _ U λb hb o e=>(`awU).1,`iv,w7];let#[o,e,d]:=`yH _ _ U b hb;exact(`awU).2.1
  cases f with
  | next=>let#[σ7,H7,I7,n7]:=q7;refine `b;exact `awV
  | cont=>let#[σ7,H7,I7,n7]:=q7;refine `b;exact `awV
  | brk=>let#[σ7,H7,I7,q7]:=q7;refine `b;exact#[σ7,H7,`_D,q7]
  | ret v=>let#[x7,σ7,H7,I7,r7,q7]:=q7;refine `b;exact#[x7,σ7,H7,`_D,r7,q7]
abbrev R2:=`B_
def OpR(X:Cx)(f:`vz)(r:R2):Prop :=
 ∀(pins:`aw) (s:`v) (σ:St) (H:Hp) (x y:V) (v u:`G) (Q:VK),`C->`kD->`fN->`FG ->
  `q `am X.A `_E `fj `aH s
def UnR(X:Cx)(f:`St)(r:`yb):Prop :=
 ∀(pins:`aw) (s:`v) (σ:St) (H:Hp) (x:V) (v:`G) (Q:VK),`C->`kD->r x H Q ->
  `q `am X.A (f v) `fj `aH s
def CallR(X:Cx)(f:`G)(r:`ni):Prop :=
 ∀(pins:`aw) (s:`v) (σ:St) (H:Hp) (xs:`S) (us:`K) (Q:VK),`C->`dW->`Lr ->
  `q `am X.A (`d_ f us) `fj `aH s
def tOp(r:R2)(ta tb:TE):TE:=fun σ H Q=>ta σ H λx H1=>tb σ H1 λy H2=>r x y H2 Q
def tUn(r:`yb)(ta:TE):TE:=fun σ H Q=>ta σ H λx H1=>r x H1 Q
def rI(C:`_F)(g:`Ls):R2:=λx y H Q=>∃i j,`B0/\y=`f'/\C i j/\Q `lj H
def rI0(g:`Ls):R2:=λx y H Q=>∃i j,`B0/\y=`f'/\Q `lj H
def rU(g:Int->V):`yb:=λx H Q=>∃i,`B0/\Q (g i) H
section
variable{a c:`I}{tc:TE}
def Qk0(ha:`kB)(hb:`vA){s:`v}{σ:St}{R:V->`ZX}(I:`C)
  (h:ta σ H λx H1=>tb σ H1 λy H2=>R x y H2) {Q:`aj} {f:`vz}
  (hf:∀v u s2 x y H2,`awW->`kD->`fN->R x y H2->`q `am X.A `_E Q `aH s2) :
  `q `am X.A (`Ss) (λv s₁=>`q `am X.A (`UZ) (λu s₂=>`q `am X.A `_E Q `aH s₂) `aH `dN) `aH s:=by
 refine thn `i' λv s1 hq24=>?_;let#[x,H1,I1,r1,q1]:=hq24
 refine thn `_G λu s2 hq25=>?_;let#[y,H2,I2,r2,q2]:=hq25
 exact hf v u s2 x y H2 I2 r1 r2 q2
def N60{op:`Lt}{r:R2}(ho:`awX)(ha:`kB)(hb:`vA):PE X `awY `Lu:=by
 intro pins s σ H Q I h;exact wpAny_BinOp `awZ
def G20{op:UnaryOp}{r:`yb}(ho:UnR X (unaryOp op) r)(ha:`kB):PE X (`Sk op a pos) (tUn r ta):=by
 intro pins s σ H Q I h;exact UnaryOp_ (thn `i' λv s1 #[x,H1,I1,r1,q1]=>ho `i s1 σ H1 x v Q I1 r1 q1)
def opI{f:`vz}{C:`_F}{g:`aw_}
  (rule:∀(i j:Int) (t u:Tok) (s:`v) (Q:`aj) (E:`aj),C i j->`aw0) :
  OpR X f (rI C `aw1):=by
 intro pins s σ H x y v u Q I rx ry h;refine `e;let#[i,j,rfl,rfl,hc,q]:=h;let#[t,rfl]:=rx;let#[t',rfl]:=ry;refine `b;exact rule i j t t' s _ _ hc `aw2
def Jb0{f:`vz}{g:`aw_}
  (rule:∀(i j:Int) (t u:Tok) (s:`v) (Q:`aj) (E:`aj),`aw0) :
  OpR X f (rI0 `aw1):=by
 intro pins s σ H x y v u Q I rx ry h;refine `e;let#[i,j,rfl,rfl,q]:=h;let#[t,rfl]:=rx;let#[t',rfl]:=ry;refine `b;exact rule i j t t' s _ _ `aw2
def Wq0{f:`vz}{g:Int->Int->`M}
  (rule:∀(i j:Int) (t u:Tok) (s:`v) (Q:`aj) (E:`aj),Q (`gA `lj) s->`alK) :
  OpR X f (rI0 λi j=>.bl `lj):=by
 intro pins s σ H x y v u Q I rx ry h;refine `e;let#[i,j,rfl,rfl,q]:=h;let#[t,rfl]:=rx;let#[t',rfl]:=ry;refine `b;exact rule i j t t' s _ _ #[.bl `lj,H,I,rfl,q]
def Qp0(i j:Int):Prop:=`Lv
def Q80(i j:Int):Prop:=`_H
def CMul(i j:Int):Prop:=`aw3
def CMul.ok{i j:Int}(h:CMul i j):IntMulOk i j:=by
 rcases h with⟨h1,h2⟩|⟨h1,h2⟩
 ·exact .of_left `aw4
 ·exact .of_right `aw4
theorem Jh0:OpR X `B1 (rI0 `aw5):=Jb0 λ_ _ _ _ _ _ _ q=>add_int q
theorem J30:OpR X (`li .Sub) (rI0 `aw6):=Jb0 λ_ _ _ _ _ _ _ q=>sub_int q
theorem J60:OpR X `Lw (rI CMul `aw7):=opI λ_ _ _ _ _ _ _ hc q=>mul_int q hc.ok
theorem Kj0:OpR X (`li .FloorDiv) (rI Qp0 `aw8):=opI λi j _ _ _ _ _ hc q=>by
 have h1:`g4<j:=hc.1;have h2:`alL:=hc.2;exact floordiv_int `k (by rw[Int.fdiv_eq_ediv_of_nonneg i `k];exact q) (`t (PyProof.noPylong_small `k))
theorem Kv0:OpR X (`li .Mod) (rI (`aw9) `aw'):=opI λi j _ _ _ _ _ hc q=>by
 have h1:`g4<j:=hc;exact mod_int' `k (by rw[Int.fmod_eq_emod_of_nonneg i `k];exact q)
theorem Il0:OpR X (`li .Pow) (rI Q80 `aw!):=opI λ_ _ _ _ _ _ _ hc q=>pow_int_small hc.1 hc.2.1 hc.2.2 q
def unI{f:`St}{g:`alJ}
  (rule:∀(i:Int) (t:Tok) (s:`v) (Q:`aj) (E:`aj),Q (`g (g i) `bf) `jD->`q `am X.A (f `yc) Q E s) :
  UnR X f (rU λi=>`aw?):=by
 intro pins s σ H x v Q I rx h;let#[i,rfl,q]:=h;let#[t,rfl]:=rx;exact rule i t s _ _ #[`aw?,H,`f9,`ad,q]
theorem Jg0:UnR X (unaryOp .USub) (rU λi=>`g (-i)):=unI λ_ _ _ _ _ q=>neg_int q
universe zz
def O20:V->V->`M
 | `x,`x=>`c|`x,`co=>`c|`co,`x=>`c|`x,`bN=>`c|`bN,`x=>`c|`x,`bq=>`c|`bq,`x=>`c
 | `co,`co=>`c|`bN,`bN=>`c|`bq,`bq=>`c|.byt _,.byt _=>`c
 | `co,`bq=>`c|`bq,`co=>`c|`bN,`bq=>`c|`bq,`bN=>`c
 | _,_=>`p
def rEq:R2:=λx y H Q=>`_I/\Q `axa H
def rNe:R2:=λx y H Q=>`_I/\Q (.bl (!`Su)) H
def Xo0{i j:Int}:`B (`te i=`te j)=(i==j):=by
 rw[`vB];simp
def Ux0{i j:`M}:`B (V.bl i=V.bl j)=(i==j):=by
 rw[`vB];simp
def Xz0{i j:Str}:`B (`y3 i=`y3 j)=(i==j):=by
 rw[`vB];simp
def Wa0{i j:`auC}:`B (V.byt i=V.byt j)=(i.toList==j.toList):=by
 rw[`vB];cases i;cases j;simp
section
variable{a c:`I}{tc:TE}
def T5{σ:St}{s:`v}{Q:VK}{k k':`M}(I:`C)(q:Q (`s5) H)(e:k=k'):EP X `i σ Q (`gA k') s:=by
 subst e;exact#[`s5,H,I,rfl,q]
def X8:OpR X (`d2 .Eq) rEq:=by
 intro pins s σ H x y v u Q I rx ry h;let#[hs,q]:=h;cases x with
 | non =>
  cases rx;cases y with
  | non=>cases ry;exact PySem.EqNone.eq_none_none `da
  | bl j=>cases ry;exact PySem.EqNone.eq_none_bool `da
  | int j=>let#[t',rfl]:=ry;exact PySem.EqNone.eq_none_int `da
  | str j=>let#[t',rfl]:=ry;exact PySem.EqNone.eq_none_str `da
  | _=>exact `h'
 | bl i =>
  cases rx;cases y with
  | non=>cases ry;exact PySem.EqNone.eq_bool_none `da
  | bl j=>cases ry;exact eq_bool (T5 I q Ux0)
  | str j=>let#[t',rfl]:=ry;exact PySem.EqMixed.eq_bool_str `da
  | _=>exact `h'
 | int i =>
  let#[t,rfl]:=rx;cases y with
  | non=>cases ry;exact PySem.EqNone.eq_int_none `da
  | int j=>let#[t',rfl]:=ry;exact eq_int (T5 I q Xo0)
  | str j=>let#[t',rfl]:=ry;exact PySem.EqMixed.eq_int_str `da
  | _=>exact `h'
 | str i =>
  let#[t,rfl]:=rx;cases y with
  | non=>cases ry;exact PySem.EqNone.eq_str_none `da
  | bl j=>cases ry;exact PySem.EqMixed.eq_str_bool `da
  | int j=>let#[t',rfl]:=ry;exact PySem.EqMixed.eq_str_int `da
  | str j=>let#[t',rfl]:=ry;exact eq_str (T5 I q Xz0)
  | _=>exact `h'
 | byt i =>
  let#[t,rfl]:=rx;cases y with
  | byt j=>let#[t',rfl]:=ry;exact W.eq_bytes (T5 I q Wa0)
  | _=>exact `h'
 | _=>cases y<;>exact `h'
def co0:OpR X (`d2 .NotEq) rNe:=by
 intro pins s σ H x y v u Q I rx ry h;let#[hs,q]:=h;cases x with
 | non =>
  cases rx;cases y with
  | non=>cases ry;exact PySem.EqNone.ne_none_none `da
  | bl j=>cases ry;exact PySem.EqNone.ne_none_bool `da
  | int j=>let#[t',rfl]:=ry;exact PySem.EqNone.ne_none_int `da
  | str j=>let#[t',rfl]:=ry;exact PySem.EqNone.ne_none_str `da
  | _=>exact `h'
 | bl i =>
  cases rx;cases y with
  | non=>cases ry;exact PySem.EqNone.ne_bool_none `da
  | bl j=>cases ry;exact ne_bool (T5 I q (C8 not Ux0))
  | str j=>let#[t',rfl]:=ry;exact PySem.EqMixed.ne_bool_str `da
  | _=>exact `h'
 | int i =>
  let#[t,rfl]:=rx;cases y with
  | non=>cases ry;exact PySem.EqNone.ne_int_none `da
  | int j=>let#[t',rfl]:=ry;exact ne_int (T5 I q (C8 not Xo0))
  | str j=>let#[t',rfl]:=ry;exact PySem.EqMixed.ne_int_str `da
  | _=>exact `h'
 | str i =>
  let#[t,rfl]:=rx;cases y with
  | non=>cases ry;exact PySem.EqNone.ne_str_none `da
  | bl j=>cases ry;exact PySem.EqMixed.ne_str_bool `da
  | int j=>let#[t',rfl]:=ry;exact PySem.EqMixed.ne_str_int `da
  | str j=>let#[t',rfl]:=ry;exact ne_str (T5 I q (C8 not Xz0))
  | _=>exact `h'
 | byt i =>
  let#[t,rfl]:=rx;cases y with
  | byt j=>let#[t',rfl]:=ry;exact W.ne_bytes (T5 I q (C8 not Wa0))
  | _=>exact `h'
 | _=>cases y<;>exact `h'
theorem nq0:OpR X (`d2 .Lt) (rI0 `_J):=Wq0 λ_ _ _ _ _ _ _ q=>lt_int q
theorem Va0:OpR X (`d2 .LtE) (rI0 `_K):=Wq0 λ_ _ _ _ _ _ _ q=>le_int q
theorem pi0:OpR X (`d2 .Gt) (rI0 `_L):=Wq0 λ_ _ _ _ _ _ _ q=>gt_int q
theorem V10:OpR X (`d2 .GtE) (rI0 `_M):=Wq0 λ_ _ _ _ _ _ _ q=>ge_int q
def mh0:OpR X (`d2 .Is) `axb:=by
 intro pins s σ H x y v u Q I rx ry h;let#[rfl,q]:=h;cases ry;refine is_none_gen `axc;cases x<;>first
  | (cases rx;rfl)
  | (let#[t,rfl]:=rx;rfl)
def Ln0:OpR X (`d2 .IsNot) `axd:=by
 intro pins s σ H x y v u Q I rx ry h;let#[rfl,q]:=h;cases ry;refine isnot_none_gen `axc;cases x<;>first
  | (cases rx;rfl)
  | (let#[t,rfl]:=rx;rfl)
def OpR.or{f:`vz}{r r':R2}(h:OpR X f r)(h':OpR X f r'):OpR X f `axe:=by
 intro pins s σ H x y v u Q I rx ry q;rcases q with q|q
 ·exact h `i s σ H x y v u Q I rx ry q
 ·exact h' `i s σ H x y v u Q I rx ry q
def oe0(b:`I){op:`hb}(h:op≠.In:=by decide)(h2:op≠`vC:=by decide):`kA:=by
 have e1:(op==CmpOp.In)=`p:=by cases op<;>first|rfl|exact `_N
 have e2:(op==CmpOp.NotIn)=`p:=by cases op<;>first|rfl|exact `N rfl h2
 cases b<;>simp[`Fo,e1,e2]
def Xc0{op:`hb}{r:R2}(ho:`vD)(ha:`kB)(hb:`vA)(hm:`kA):PE X `mm `Lu:=by
 intro pins s σ H Q I h;exact `avR `awZ hm
def Ga0(t:TE):TT:=fun σ H Q=>t σ H λx H'=>∃k,x=`s5/\Q k H'
def k20{op:`hb}{r:R2}(ho:`vD)(ha:`kB)(hb:`vA)(hm:`kA):PT X `mm (Ga0 `Lu):=by
 intro pins s σ H Q I h;refine `avT (thn `i' λv s1 #[x,H1,I1,r1,q1]=>thn `_G λu s2 #[y,H2,I2,r2,q2] =>
  thn `axf λc s3 #[z,H3,I3,r3,k,e,q3]=>?_) hm
 subst e;cases r3;exact P5 #[H3,I3,q3]
def Q10(r r':R2)(ta tb tc:TE):TE:=fun σ H Q=>ta σ H λx H1=>tb σ H1 λy H2=>r x y H2 λz H3=>∃k,z=`s5 /\
 (if k=`c then tc σ H3 λw' H4=>r' y w' H4 Q else Q `tk H3)
def Pn0{op op':`hb}{r r':R2}(ho:`vD)(ho':`axg)(ha:`kB)(hb:`vA)(hc:PE X c tc)
  (hm:`axh:=by with_unfolding_all rfl):PE X `axi (Q10 r r' ta tb tc):=by
 intro pins s σ H Q I h;refine Compare_chain (thn `i' λv s1 #[x,H1,I1,r1,q1]=>chain_link (thn `_G λu s2 #[y,H2,I2,r2,q2] =>
  thn `axf λd s3 #[z,H3,I3,r3,k,e,q3]=>?_)) hm
 subst e;cases r3;refine P5 ?_;cases k with
 | false=>exact ite_ff #[`jz,H3,I3,rfl,q3]
 | true=>exact ite_tt (chain_last (thn (hc `i s3 σ H3 _ I3 q3) λw' s4 #[z',H4,I4,r4,q4]=>ho' `i s4 σ H4 y z' u w' Q I4 r2 r4 q4))
def py0:`_O<`SW:=by rw[`vk];decide
def U40:OpR X `B1 (λx y H Q=>`axj):=by
 intro pins s σ H x y v u Q I rx ry h;refine `e;let#[i,j,rfl,rfl,hz,q]:=h;let#[t,rfl]:=rx;let#[t',rfl]:=ry;refine `b;exact add_str (λt' tk=>#[`alV,H,`f9,`ad,q]) hz
def vals1{x:V}(r:`axk):`axl:=by
 cases r with
 | cons r1 r2=>cases r2;exact#[_,rfl,r1]
def vals2{x y:V}(r:`axm):∃u w',us=[u,w']/\`hz/\`dp y w':=by
 cases r with
 | cons r1 r2 =>
  cases r2 with
  | cons r3 r4=>cases r4;exact#[_,_,rfl,r1,r3]
def Sq0(hc:`bx):`fl X (`bo `B2) `axn:=by
 intro pins s σ H xs us Q I r h;refine `e;let#[i,j,rfl,q]:=h;let#[u,w',rfl,#[t,rfl],#[t',rfl]]:=vals2 r;refine `b;refine max_two_ints `hc `axo
 by_cases hj:j > i
 ·rw[`mp,`mp];exact`ad
 ·rw[`mq,`mq];exact`ad
def Sa0(hc:`bx):`fl X (`bo `B3) `axp:=by
 intro pins s σ H xs us Q I r h;refine `e;let#[i,j,rfl,q]:=h;let#[u,w',rfl,#[t,rfl],#[t',rfl]]:=vals2 r;refine `b;refine min_two_ints `hc `axo
 by_cases hj:j<i
 ·rw[`mp,`mp];exact`ad
 ·rw[`mq,`mq];exact`ad
def Tu0:`fl X (`a! `h!) `axq:=by
 intro pins s σ H xs us Q I r h;refine `e;rcases h with⟨i,rfl,q⟩|⟨k,rfl,q⟩
 ·let#[u,rfl,t,rfl]:=`oF
  refine `b;exact call_int_int #[`bi,H,I,`ad,q]
 ·let#[u,rfl,r1]:=`oF
  cases r1;refine `b;exact call_int_bool #[`Sv,H,`f9,`ad,q]
def a70:`fl X (`bo `B4) `axr:=by
 intro pins s σ H xs us Q I r h;refine `e;let#[x,rfl,hz,q]:=h;let#[u,rfl,t,rfl]:=`oF;refine `b;exact ord_of_one hz #[`co,H,`f9,`ad,q]
universe zz
structure ObjM(h:`D)(x dx C:`f)(mA:`a2):Prop where
 obj:`e? x=`ak?
 ns:`RZ
 ne:`KR
open T in
def dd0{h:`D}(n:`RZ):∃od,`e? dx=`_P/\`axs:=by
 let#[o,es,ep,ho,hd,hk,_,hm]:=n;refine#[o,ho,λname=>?_];have e:=hm `cF;unfold nsFind findBy at e;rw[← `axt] at e;unfold W.lookIn;rw[hd];dsimp only;split
 ·rename_i y q
  rw[q] at e;exact C8 `a e
 ·rename_i q
  rw[q] at e;have a:`axu=`p:=by
   rw[List.any_eq_false];intro y hy;let#[z,t,J]:=hk y (Array.mem_toList_iff.mp hy);simp[DictEntry.refKey,J]
  have a':¬`axu=`c:=by rw[a];exact B6
  rw[`al a'];exact C8 `a e
theorem ObjM.look{h:`D}{x C:`f}(I:ObjM h x dx C mA):∃od,W.InstAt h x `ak! C (`_P)/\`axs :=
 let #[od,ho,hl]:=dd0 I.ns
 #[od,#[I.obj,rfl,rfl,ho],hl]
section
variable{w:`Q}{s:`v}{x C f:`f}{v:`G}
def get_map{expr:`M}{Q:`aj}(X:`ou)(I:`_Q)(hg:`axv)(hh:`Lx)
  (ha:`axw=`b8) (hv:`Sw=`bL) (hv':`axx v=`c) (h:Q v `jD) :
  `q `ag A (`FM `ju `cF expr) Q E s:=by
 let#[od,J,hl]:=I.look;exact W.get_value X J `axy (`axz hh ha rfl (by rw[hl,hv])) hv' h
def P90{pl:`i!}{Q:`axA}(X:`ou)(I:`_Q)(hg:`axv)
  (hf:`axw=`yf) (ht:`_R) (hv:`Sw=`d) (h:Q (`EZ,[`E_]) s) :
  `q `ag A (`FS `ju `cF pl) Q E s:=by
 let#[od,J,hl]:=I.look;exact W.method_fn X J `axy (Ai0 hg).2 hf (P7.mp ht) (by show (`alY).map `anB=`bC;rw[hl,hv];rfl) h
def L40{ns:`j}{Q:`dV}(X:`ou)(I:`_Q)
  (hs:`_S) (hp:`axB) (ht:W.takerIn K C `cF=`b8) (hh:`Lx)
  (hw:`ala mA ns) (hsz:`axC)
  (h:∀h',ObjM h' x dx C (λy=>if y=`cF then `bL else mA y)->`sY dx `ar h'->Q () { s with heap:=h',toks:=`bf+2 }) :
  `aui:=by
 let#[od,J,hl]:=I.look;refine W.set_plain X J hs (W.osa_open (s:=`jD) (r:=`d) X J hp ht λb=>?_);let#[cd,hc,a2]:=W.any_some hh;have hx:`dm x=`a #[`em,`p6,.plain,⟨⟩]:=I.obj;refine A1 (A2 (A1 (A1 (`auj hx (A1 (W.Looks.here (s:=`jD) (W.looks_clsIn X hc) ?_))))));rw[a2];refine A2 (a:=`p6) (A1 (A2 `KL));refine `aum (s:=`jD) I.ns λh' O U=>?_
 let#[oD,a4,a3,Z,a1,Y]:=O.count (PySem.Within.cons `cF v hw);refine A1 (`auo Z (by rw[a1];exact `aup (C0 Y (`l9))) ?_);exact A2 (h _ #[(U.2 _ (A9 I.ne)).trans I.obj,O,I.ne] U)
def Pu0{R:`mf}{vs:`K}{kw:`nq}(X:`ou)(hm:`_T)
  (hi:`axD) (hf:W.typeIn K `eP=`auu)
  (h:`f_ `ag (`SE (`bo `SF #[`em::vs,kw])) (`lq `eP #[`z `iy::vs,kw]) (W.InitBack `iy R)
   `axE) :
  `f_ `ag A (`lq `bu #[vs,kw]) R s:=by
 let#[hh,g,d,t,os]:=s;exact W.make_core (W.makes_of X hm) (W.looks_findIn X hi) (λself=>W.bind_fn X self hf) `f3 h
universe zz
def ys0(f:Str)(v:V):`h8->`h8
 | []=>`Ly
 | (g,x)::r=>if g=f then (g,v)::r else (g,x)::`al2
theorem kw0(f g:Str)(v:V):∀fs:`h8,(`SC).lookup g=if g=f then `bL else `E8 g
 | []=>by
  show `h? g `Ly=_
  by_cases h:g=f
  ·have hb:(g==f)=`c:=P7.mpr h
   simp only[`h?,hb,`cV]
  ·have hb:`axF:=`nP h
   simp only[`h?,hb,`ej]
 | `FJ=>by
  have ih:=kw0 f g v r;rw[`_U]
  by_cases hk:k=f
  ·rw[`B5]
   by_cases h:g=k
   ·have hb:(g==k)=`c:=P7.mpr h
    simp only[`h?,hb,`V (h.trans hk)]
   ·have hb:(g==k)=`p:=`nP h
    simp only[`h?,hb,`al (λe:g=f=>h (e.trans hk.symm))]
  ·rw[`Lz]
   by_cases h:g=k
   ·have hb:(g==k)=`c:=P7.mpr h
    simp only[`h?,hb,`al (λe:g=f=>hk (h.symm.trans e))]
   ·have hb:(g==k)=`p:=`nP h
    simp only[`h?,hb];exact ih
theorem lc0(f:Str)(v:V):∀fs:`h8,f∈`axG/\∀g,g∈`RY->g∈`axG
 | []=>#[`axH,λg h=>`ia]
 | `FJ=>by
  let#[i1,i2]:=lc0 f v r;rw[`_U]
  by_cases hk:k=f
  ·rw[`B5]
   subst hk;exact#[`a4,λg h=>`and]
  ·rw[`Lz]
   refine#[?_,λg h=>?_]
   ·rw[`ab]
    exact A7 _ i1
   ·rw[`ab] at h ⊢
    rcases `AK with e|e
    ·exact A8.mpr (`rF)
    ·exact A7 _ (i2 g e)
theorem kr0(f:Str)(v:V):∀fs:`h8,(`SC).length<=`E7+1
 | []=>`axH
 | `FJ=>by
  have ih:=kr0 f v r;rw[`_U]
  by_cases hk:k=f
  ·rw[`B5,`Y,`Y];lia
  ·rw[`Lz,`Y,`Y];lia
def RelO.some_of{o:`gz}(r:`pw `sV o):∃u,o=`a?/\`f5:=by
 cases o with
 | none=>exact`LA
 | some u=>exact#[u,rfl,r]
def RelO.none_of{o:`gz}(r:`pw `d o):o=`d:=by
 cases o with
 | none=>rfl
 | some u=>exact`LA
def de0(r:`f5):`axx u=`c:=by
 cases v with
 | non=>cases (show u=`lI from r);rfl
 | bl b=>cases (show u=`yD b from r);rfl
 | int i=>let#[t,e]:=`axI;cases e;rfl
 | str x=>let#[t,e]:=`axJ;cases e;rfl
 | byt b=>let#[t,e]:=(show `auF from r);cases e;rfl
 | flt b=>let#[t,e]:=(show `auG from r);cases e;rfl
 | ref a=>cases (show `GW from r);rfl
 | ty n=>cases (show u=`jZ n from r);rfl
section
variable{P:`ao}{w:`Q}{h:`D}{C:`f}{fs fs':`h8}
def fk0(hok:`fL)(e:`LB):∃mA,ObjM h a dx C mA/\(`R_)/\`alb/\`Zc/\`Zb:=by
 refine `e;let#[d,z,ne,ob,mA,n,r,q]:=(show `cG P w H h a (`lk) from hok a _ e);refine `b;exact#[mA,#[ob,n,ne],r,q,z,d]
universe zz
structure Cls(K:`A)(C:`f):Prop where
 pg:`axK=`c
 hd:`Lx
 po:`axB
 sa:`_S
theorem Cls.get{C:`f}(c:`qz)(f:Str):`Sx K C f=`c:=c.pg
def NoAttr(K:`A)(C:`f)(f:Str):Prop:=`LC
def NoAttr.taker{C:`f}{f:Str}(n:`vE):W.takerIn K C f=`b8:=by
 unfold W.takerIn;rw[show `LC from n];rfl
structure Meth(K:`A)(C:`f)(m:Str)(f:`f):Prop where
 at_:`cu K `bu m=`yf
 fn:`_R
 kp:`LD
section
variable{σ:St}{s:`v}{C:`f}{fs:`h8}{f:Str}
def g70{b:`M}{Q:`aj}(I:`C)(e:`LB)(c:`vF)(n:`axL)(l:`_V)
  (h:`axM):`axN:=by
 refine `e;let#[mA,O,r,_,_,_]:=`_W;let#[u,hu,ru]:=`axO;refine `b;exact get_map `dc O (c.get f) c.hd n hu (de0 ru) (h u _ `qe ru)
def n90{g:`f}{pl:`i!}{Q:`axA}(I:`C)(e:`LB)(c:`vF)(k:Meth X.K C m g)(l:`B6)
  (h:Q (`z g,`d4) s):`q `am A (`FS `c2 m pl) Q E s:=by
 let#[mA,O,r,_,_,_]:=`_W;have hn:mA m=`d:=RelO.none_of (by rw[← l];exact r m);exact P90 `dc O (c.get m) k.at_ k.fn hn h
def iy0{y:V}{Q:`dV}(I:`C)(e:`LB)(c:`vF)(n:`axL)(hl:`zJ)(ry:`fN)
  (h:∀s',Inv X `i σ (upd H a `axP) s'->`BM):`q `am A (setAttr `c2 f u) Q E s:=by
 let#[mA,O,r,wi,_,ho]:=`_W;have hz:(`RY).length<=`R:=by rw[`P,`vk];lia
 refine L40 `dc O c.sa c.po n.taker c.hd wi hz λh' O' sb=>`T'
 have hd:∃o,`gB dx=`ap:=let #[o,_,_,e',_]:=O'.ns;#[o,e']
 refine `_X (x:=a) (e:=dx) `G! (`s ho) (λb q hb z=>`alG z) hd ?_;refine#[by rw[m5 O.ne];exact ho,?_,O.ne,O'.obj,_,O'.ns,λg=>?_,λg hg=>?_]
 ·have:=kr0 f y fs;lia
 ·show `pw ((`al5).lookup g) `axQ
  rw[kw0]
  by_cases q:g=f
  ·rw[`LE,`LE];exact ry
  ·rw[`B7,`B7];exact r g
 ·by_cases q:g=f
  ·rw[q];exact(`axR).1
  ·refine(`axR).2 g (wi g λz=>hg ?_)
   show `axQ=`d;rw[`B7];exact z
def Inv.made(I:`C):Inv X `i σ (upd (upd H `U (`axS)) `iy (`axT))
  `axE:=by
 have e1:(`yg).get? `U=`a `SA:=C7 `ar rfl;have e2:(`al1).get? `iy=`a (`SB):=by
  have:=C7 (`yg) (o:=`SB) rfl
  rwa [Aj0] at this
 have e3:(`yg).Ns `U (`ry):=#[`SA,⟨⟩,_,e1,rfl,(`aul),`i0];have I1:=`kE (a:=`U) (o:=`axS) (h':=`yg) (t':=`bf) (λb u q=>`ta) `bj #[_,e1];refine `FO (a:=`s6) (o:=`axT) (t':=`bf) (λb u q=>`ta) (K2 (Aj0 _ _)) ?_;have ne:`U≠`s6:=B4 (i9 _);refine#[by rw[m5 ne,m8],`cN,ne,e2,`ry,(`aun e3).at λo q=>`ta,λ_=>`ll,λy hy=>`N rfl hy]
theorem Xq0{prog:`ao}{w:`Q}{env:Env}{f:Str}{pos:Pos}{s:`v}{Q:`aj}(hb:`fh e f env (`_Y)=`_Y)
  (h:`q `ag A (`_Y) (λo s₁=>`q `ag A (`FM o f `c) Q E `dN) E s):`q `ag A (`aY `_Z env) Q E s :=
 Attribute_any_ h (by rw[arm_eval_Attribute,hb])
universe zz
def Fm0(K:`A)(ta:TE)(f:Str):TE:=fun σ H Q=>ta σ H λx H1=>∃a C dx fs v,`c?/\`B8/\`qz/\`vE/\`_V/\Q v H1
def Fi0(K:`A)(ta tv:TE)(f:Str):TS:=λD σ H=>tv σ H λy H1=>ta σ H1 λx H2=>∃a C dx fs,`c?/\H2 a=`nb/\`qz/\`vE/\`zJ /\
 `gG σ (upd H2 a `axP)
def Je0(X:Cx)(op:`Lt)(rd:`B_):Prop :=
 ∀(pins:`aw) (s:`v) (σ:St) (H:Hp) (x y:V) (u v:`G) (Q:VK),`C->`hz->`dp y v->rd x y H Q->`q `am X.A (inplaceOp op u v) `fj `aH s
def M50(K:`A)(ta tv:TE)(rd:`B_)(f:Str):TS:=λD σ H=>ta σ H λx H1=>∃a C dx fs v,`c?/\`B8/\`qz/\`vE/\`_V /\
 tv σ H1 λy H2=>rd v y H2 λz H3=>∃dx' fs',H3 a=`a (`hq C dx' fs')/\fs'.length<1000/\`gG σ (upd H3 a (`hq C dx' (ys0 f z fs')))
section
variable{f:Str}
def Jf0(he:PE X e ta)(hb:`axU):PE X `_Z (Fm0 X.K ta f):=by
 intro pins s σ H Q I h;refine Xq0 hb (thn `h9 λu s1 hq26=>?_);refine `e;let#[x,H1,I1,rx,a,C,dx,fs,v,ex,ea,c,n,l,q]:=hq26;subst ex;obtain rfl:u=`gD:=rx;refine `b;exact g70 I1 ea c n l λu' s2 I2 ru=>#[v,H1,I2,ru,q]
def Z30(ha:`vG)(hv:`__)(hs:`axV):PS X `axW (Fi0 X.K ta tv f):=by
 intro pins s σ H D I h;refine C90 (thn `axX λu s1 hq27=>?_) hs;let#[y,H1,I1,ry,q]:=hq27;refine thn `axY λov s2 hq28=>?_;refine `e;let#[x,H2,I2,rx,a,C,dx,fs,ex,ea,c,n,l,q2]:=hq28;subst ex;obtain rfl:ov=`gD:=rx;refine `b;exact iy0 I2 ea c n l ry λs3 I3=>#[σ,_,I3,q2]
def Q00{op:`Lt}{rd:`B_}(ha:`vG)(hv:`__)(hop:Je0 X op rd):PS X (`axZ (`cI o f tpos) op `fi pos) (M50 X.K ta tv rd f):=by
 intro pins s σ H D I h;refine wpAny_AugAssign_AttributeAny (thn `i' λov s1 hq29=>?_);refine `e;let#[x,H1,I1,rx,a,C,dx,fs,v,ex,ea,c,n,l,q]:=hq29;subst ex;obtain rfl:ov=`gD:=rx;refine `b;refine g70 I1 ea c n l λu s2 I2 ru=>thn (hv `i s2 σ H1 _ I2 q) λw3 s3 hq30=>?_;let#[y,H2,I3,ry,q3]:=hq30;refine thn (hop `i s3 σ H2 v y u w3 _ I3 ru ry q3) λw4 s4 hq31=>?_;refine `e;let#[z,H3,I4,rz,O,fs',J,l',q4]:=hq31
 refine `b;exact iy0 I4 J c n l' rz λs5 I5=>#[σ,_,I5,q4]
def Fz0:`B_:=λx y H Q=>∃i j,`B0/\y=`f'/\Q (`FF) H
def H80:Je0 X .Add Fz0:=by
 rintro pins s σ H x y u v Q I rx ry ⟨i,j,rfl,rfl,q⟩;let#[t,rfl]:=(show `FL from rx);let#[t',rfl]:=(show ∃t',v=`RV j t' from ry);exact PyProof.Rows.iadd_int #[`FF,H,`f9,`ad,q]
universe zz
structure Room(k:Nat)(A:`bT):Prop where
 hd:`gq
 dp:`LF+3*k+5<`ax_
 un:`np+16*k+200<`lr
theorem Room.mono{k:Nat}(r:`B9)(h:j<=k):`gJ j A:=#[r.hd,`ax0,`ax1]
theorem Room.deeper{k:Nat}(r:`ax2)(env:Env):`gJ k (`ym env) :=
 #[r.hd,by have:=r.dp;show `LF+1+3*k+5<_;lia,by have:=r.un;show `np+3+16*k+200<_;lia]
def Ww0{C:`f}:(`LG).depth=`LF+1:=by
 first|rfl|simp[`_0,Code.weight,Code.isCreation,Code.isGuard,Code.isCaller,`ax3,`_1,guardIds]
def Ug0{C:`f}:(`LG).units=`np+1:=by
 first|rfl|simp[`_0,Code.cUnits,`ax3,`_1]
theorem Room.make{k:Nat}(r:`ax2)(C:`f)(us:`K)(kw:`nq):`gJ k (`LG) :=
 #[r.hd,by have:=r.dp;rw[Ww0];lia,by have:=r.un;rw[Ug0];lia]
def Room.depth{k:Nat}(r:`B9):`LF<`ax_:=`ax0
def Room.units{k:Nat}(r:`B9):`np+64<`lr:=`ax1
def Pb0:TA:=λ_ H Q=>Q [] H
def Hy0(ta:TE)(tr:TA):TA:=fun σ H Q=>ta σ H λx H1=>tr σ H1 λxs H2=>Q (`mr) H2
section
variable{t:TA}
theorem zt0:PA X [] Pb0:=λ_ _ _ _ H Q I h=>b4 `ax4
def R8(ha:`gp)(hr:`vH)(hs:`eH:=by rfl):PA X `gK (Hy0 te t):=by
 intro pos pins s σ H Q I h;rw[hs];show `q _ _ (`BO (`pI::`SH)) _ _ s;refine P8 (thn `i' λu s1 hq32=>?_);let#[x,H1,I1,r1,q1]:=hq32;exact thn (hr pos `i s1 σ H1 _ I1 q1) λus s2 #[xs,H2,I2,r2,q2]=>#[`mr,H2,I2,`aq r1 r2,q2]
def Fx0(t:TA):TE:=fun σ H Q=>t σ H λxs H1=>`i9/\∀p,`_2->Q `dv (upd H1 p `sR)
def Fw0(t:TA):TE:=fun σ H Q=>t σ H λxs H1=>`i9/\∀p,`_2->Q `dv (upd H1 p `m9)
def bc0{x1}(h:`vH):PE X (`lJ es x1 pos) (Fx0 t):=by
 intro pins s σ H Q I hq;refine wpAny_Tuple_spliced (thn `ax5 λus s1 hq33=>?_);let#[xs,H1,I1,r,z,q]:=hq33;refine `ax6;have hf:`ax7:=`FB;refine#[`ax8,upd H1 `f8 `sR,`ax9,rfl,q _ hf];exact#[z,us,r,`Za]
def a80(h:`vH):PE X `_3 (Fw0 t):=by
 intro pins s σ H Q I hq;refine wpAny_List_spliced (thn `ax5 λus s1 hq34=>?_);let#[xs,H1,I1,r,z,q]:=hq34;refine `ax6;have hf:`ax7:=`FB;refine#[`ax8,upd H1 `f8 `m9,`ax9,rfl,q _ hf];exact#[z,us,0,r,`f0]
universe zz
abbrev Sp:=`S->Hp->VK->XK->Prop
abbrev CXT:=`eF->Hp->`v->XK->`aj
variable{sp:L2.Sp}
structure Env0(P:`ao)(w:`Q)(K:`A)(mg:`a2)(base:`D)(A:`bT)(outer:`eF)(s:`v)(H:Hp):Prop where
 frames:`Hy=`a `b2
 mod:Mod K mg `l
 bs:∀b o,base.get? b=`ap->`avc
 bsz:base.objs.size<=`U
 funs:`zr `l `b2
 frf:∀b∈frs `b2,`c_
 hok:HOk P w H `ar
 bare:`x7 `vr
variable{CX:L2.CXT}
def CE(outer:`eF)(P:`ao)(w:`Q)(H:Hp)(s:`v)(Q:VK)(u:`G)(s':`v):Prop :=
 ∃v H',`ZW/\`Gc/\`ax'/\`ax!/\`avK
def CR(CX:CXT)(outer:`eF)(P:`ao)(w:`Q)(H:Hp)(s:`v)(Q:VK)(E:XK)(r:Result)(s':`v):Prop :=
 match r with
 | .ok (`eR u)=>`ax?
 | .ok _=>`b'
 | .error e=>CX `b2 H s E e s'
structure FnOk(P:`ao)(w:`Q)(K:`A)(mg:`a2)(base:`D)(CX:CXT)(k:Nat)(f:`f)(fd:`e1)(ps:`j)(sp:Sp):Prop where
 len:`_4
 run:∀(A:`bT) (outer:`eF) (s:`v) (H:Hp) (args:Args) (us:`K) (vs:`S) (Q:VK) (E:XK),`B9->`_5->`Gd s fd `he `B'->`rD->`FP ->
  `f_ `pS A (`lq `eP `he) (CR CX `b2 P w H s Q E) s
theorem Env0.make{P:`ao}{w:`Q}{outer:`eF}{s:`v}(e:`_5)(C:`f)(us:`K)(kw:`nq) :
  Env0 P w K mg `l (`LG) `b2 s H:=#[by first|exact `_6|(simpa [`_0,Code.envs,`_1,pushEnvs] using `_6),e.mod,e.bs,e.bsz,e.funs,e.frf,e.hok,e.bare]
section
variable{σ:St}{s:`v}
theorem Inv.env0(I:`C):Env0 `aR X.w X.K `bz `cH X.A `gE s H :=
 #[`aya,I.ok.mod,I.bs,C0 I.ok.bsz I.sz,I.stack,I.stkFree,`bg,`d!]
def Inv.after{Q:VK}(I:`C)(h:CE `gE `aR X.w H s Q u s'):EP X `i σ Q u s':=by
 refine `e;let#[v,H',os,bare,un,hok,r,q]:=h;let#[hh,g,d,t,J]:=s';obtain rfl:J=s.os:=os;refine `b;exact#[v,H',I.call (h':=hh) (g':=g) (d':=d) (t':=t) (ch:=[]) un hok bare (λb z=>`N z `ax),r,q]
universe zz
def Hz0(sp:Sp)(dvs:`S)(E:XK)(t:TA):TE:=fun σ H Q=>t σ H λvs H1=>sp `lm H1 Q E
def Hh0(C:`f)(m:Str)(sp:Sp)(dvs:`S)(E:XK)(ta:TE)(t:TA):TE:=fun σ H Q=>ta σ H λx H1=>∃a dx fs,`c?/\`B8/\`B6 /\
 t σ H1 λvs H2=>sp (x::`lm) H2 Q E
def G10(C:`f)(sp:Sp)(dvs:`S)(E:XK)(t:TA):TE:=fun σ H Q=>t σ H λvs H1=>∀x dx,H1 x=`d->`_7->`KR ->
 sp `ayb (upd (upd H1 dx (`f1 x)) x `SK) `ayc E
def Binds(K:`A)(fd:`e1)(ps:`j)(ds:`K):Prop :=
 ∀(s:`v) (us:`K),`ou->`_8->`Gd s fd `B! (`pJ `yk)
theorem Binds.all(h:∀us:`K,`kt=`aD->`ru fd `B!=`bI `B'):`y8:=λs us _ hl=>by
 rw[`dh] at hl ⊢;exact .of_eq (h us hl)
def qj0(CX:CXT)(X:Cx)(E:XK):Prop:=∀(pins:`aw) (σ:St) (H:Hp) (s:`v) (e:`G) (s':`v),`C->CX `gE H s E e s'->`aH e s'
section
variable{k:Nat}{f C:`f}{ds:`K}{E:XK}{p:Pos}{t:TA}
def bp0{pins:`aw}{σ:St}{H:Hp}{s:`v}{Q:VK}{us:`K}{vs:`S}(F:`vI)(hr:`rG)(hb:`oG)(hd:`oH)(hx:`vJ)
  (I:`C) (r:`rD) (h:sp `lm H Q E):`ayd:=by
 have r2:`aye:=`_9;have hl:`_8:=`ayf
 refine X0 (L9 (`vK X.A `gE s H `B! `yk `lm Q E hr I.env0 `ayg r2 h) `vL);cases r with
 | error e=>exact hx `i σ H s e s' I hq
 | ok fl =>
  cases fl with
  | ret u=>exact `ayh
  | next=>exact `ms
  | brk=>exact `ms
  | cont=>exact `ms
def ki0(F:`vI)(hr:`rG)(hg:`c!)(hm:`m7=`Sy)(hk:`cg X.K `eP=`c)(hb:`oG)(hd:`oH)(hx:`vJ)
  (ha:`vM) (hdb:`aQ:=by decide) (he:`eH:=by rfl) (hpl:`hf:=by rfl) :
  PE X `yo (Hz0 sp dvs E t):=by
 intro pins s σ H Q I h;refine `ayi;refine `ayj (h₀:=`cH) `ayk hk (thn `yp λus s1 hq35=>?_) he hpl;let#[vs,H1,I1,r,q]:=hq35;refine #[`zt,?_];exact bp0 F hr hb hd hx I1 r q
def Xn0{pl:`i!}(he:`vG)(c:`vF)(hm:`_')(F:`vI)(hr:`rG)(hb:`oG)(hd:`oH)(hx:`vJ)(ha:`vM)
  (hst:`eH:=by rfl) (hpl:`hf:=by rfl)
  (ht:`aY `ayl `w=(do
   let ov ← `hw
   `oI
   let (f,`f?) ← `rH
   `aym):=by rfl) :
  PE X `ayl (Hh0 C m sp dvs E ta t):=by
 intro pins s σ H Q I h;refine t5 (pl:=pl) (thn `h9 λu s1 hq36=>?_) ht;refine `e;let#[x,H1,I1,rx,a,dx,fs,ex,ea,l,q]:=hq36;subst ex;obtain rfl:u=`gD:=rx;refine `b;refine `_!;refine `ayj (first:=`d4) (h₀:=`cH) `ayk hm.kp (thn (ha pos `i s1 σ H1 _ I1 q) λus s2 hq37=>?_) hst hpl;let#[vs,H2,I2,r,q2]:=hq37;refine #[I2.kIn,?_];exact bp0 (us:=`bt::us) (vs:=`bt::vs) F hr hb hd hx I2 (`aq rfl r) q2
structure Mk(K:`A)(C f:`f):Prop where
 makes:`_T
 init:`axD
 fn:`_R
 kp:`_?=`c
def Pj0{pins:`aw}{σ:St}{H:Hp}{s:`v}{Q:VK}{us:`K}{vs:`S}(M:`ayn)(F:`vI)(hr:`aaa)(hb:`oG)(hd:`oH)
  (hx:`vJ) (I:`C) (r:`rD)
  (h:∀x dx,H x=`d->`HJ->`KR->sp `ayb (`ayo) `ayc E) :
  `q `am X.A (`d_ `bu us) `fj `aH s:=by
 have hq:=h `iy `U (`pK (A20 _)) `F2 (B4 (i9 _));have I2:=Inv.made (C:=C) I;have r2:`bJ (`ayp::`lm) `ayq:=`aq rfl (`_9);have hl:(`aab++ds).length=`aD:=by
  have e:=`nc;rw[`FR _ _ _ _ hq] at e;exact e.symm
 refine X0 (Pu0 (f:=f) `dc M.makes M.init (P7.mp M.fn) (L9 (`vK _ `gE _ _ #[`aab,[]] `ayq _ _ E (hr.make C us [])
  (I2.env0.make C us []) (hb _ (`aab) I2.kIn hl) r2 hq) λr s' J=>?_))
 refine `e;cases r with
 | error e=>refine `b;exact hx `i σ _ _ e s' I2 J
 | ok fl =>
  cases fl with
  | ret u =>
   let#[v,H',I3,rv,ev,q3]:=I2.after J;subst ev;refine `b;exact#[rv,#[`ayp,H',I3,rfl,q3]]
  | next=>refine `b;exact `fk J
  | brk=>refine `b;exact `fk J
  | cont=>refine `b;exact `fk J
def Qj0(M:`ayn)(F:`vI)(hr:`aaa)(hg:`c!)(hm:`m7=`xR)(hb:`oG)(hd:`oH)(hx:`vJ)
  (hdb:`aQ:=by decide):PE X (`aV `nd [] [] pos) (G10 C sp dvs E Pb0):=by
 intro pins s σ H Q I h;refine `ayi;exact Ak0 `dc M.kp (Pj0 (us:=[]) M F hr hb hd hx I `X h)
universe zz
structure FnScope(N P:`j)(sc:`cz):Prop where
 kind:`ayr
 co:`ays
 gen:`ayt
 nd:`BL
 pre:`ayu
 par:∀x∈P,`ZC
 nofree:∀y∈`LH,`ayv
theorem df0{kindOf:`LI}:∀{binds:`nq} {m:`a2},`ayw->`B? `kF binds m x=m x
 | [],_,_=>rfl
 | (n,v)::r,m,h=>by
  unfold bindL;rw[df0 `ayx];split
  ·have:x≠n:=`ayy
   simp[`E]
  ·rfl
theorem ep0{kindOf:`LI}:∀{binds:`nq} {m:`a2},`ayw->`Ca `kF binds m x=m x
 | [],_,_=>rfl
 | (n,v)::r,m,h=>by
  unfold bindC;rw[ep0 `ayx];split
  ·rfl
  ·have:x≠n:=`ayy
   simp[`E]
theorem el0{kindOf:`LI}{v:`G}:∀{P:`j} {vs:`K} {i:Nat} {m:`a2},P.Nodup->`ayz->`aac->`kF x=`la ->
  `B? `kF (`SL) m x=`bL
 | [],_,_,_,_,h,_,_=>`ia
 | `dD,[],_,_,_,_,h,_=>`ia
 | p::P,w::vs,0,m,nd,h1,h2,hk=>by
  simp at h1 h2;subst h1;subst h2;show `B? `kF `LJ m p=_;unfold bindL;rw[df0 `ayA,`B5];simp
 | p::P,w::vs,i+1,m,nd,h1,h2,hk=>by
  show `B? `kF `LJ m x=_;unfold bindL;exact el0 (i:=i) (`SM).2 (`sI) (`LK) hk
theorem ef0{kindOf:`LI}{v:`G}:∀{P:`j} {vs:`K} {i:Nat} {m:`a2},P.Nodup->`ayz->`aac->`kF x≠`la ->
  `Ca `kF (`SL) m x=`bL
 | [],_,_,_,_,h,_,_=>`ia
 | `dD,[],_,_,_,_,h,_=>`ia
 | p::P,w::vs,0,m,nd,h1,h2,hk=>by
  simp at h1 h2;subst h1;subst h2;show `Ca `kF `LJ m p=_;unfold bindC;rw[ep0 `ayA,`Lz];simp
 | p::P,w::vs,i+1,m,nd,h1,h2,hk=>by
  show `Ca `kF `LJ m x=_;unfold bindC;exact ef0 (i:=i) (`SM).2 (`sI) (`LK) hk
def start(N:`j)(vs:`S):St:=`j3 `a++`aW (`Cb - `cK) `d
def qc0(CX:CXT)(P:`ao)(w:`Q)(K:`A)(mg:`a2)(base:`D)(N:`j)(qual:Str)(scope:`cz)(f:`f)(cd:`G)(A:`bT)(outer:`eF)(s:`v)(H:Hp)(E:XK):Cx where
 prog:=P
 w:=w
 K:=K
 mg:=mg
 base:=`l
 A:=`ayB
 N:=N
 s₀:=s
 H₀:=H
 env:=`yn
 outer:=`b2
 stack:=`yn::`b2
 ex:=[]
 calm:=`c
 fn:=λ_=>`c
 pn:=[]
 xe:=λe s'=>`q `pS (`ayB) (leaving (`yn) e) (λ_ s''=>CX `b2 H s E e s'') (λe' s''=>CX `b2 H s E e' s'') s'
def Zz0(h:`R7):∃c,(`al! n `LH []).lookup x=`eo:=by
 have q:=`ayC `LH n [] (`LL);exact Option.isSome_iff_exists.mp q
def Tl0{CX:CXT}{P:`ao}{w:`Q}{K:`A}{mg:`a2}{base:`D}{N ps:`j}{qual:Str}{scope:`cz}{f:`f}{cd:`G}{A:`bT}{outer:`eF}{s s1:`v}{H:Hp}{E:XK}{us:`K}{vs:`S}
  (S:`ayD) (hd:`gq) (e0:`_5) (hl:`cK=`aD) (r:`rD)
  (x:InCallC s `U (`B? `ayE `B' `ry) (`ayF) (`Ca `ayE `B' `ry) s1) :
  Inv (`ayG) [] `FX H s1:=by
 have U:`aD<=`Cb:=by have:=C8 `Ae S.pre;rw[`dg] at this;lia
 let#[h1,tk,rfl,hk]:=x.done;have J:∀b:`f,b∉(`ayG).ex:=λb z=>`ayH
 refine#[#[e0.mod,S.kind,rfl,rfl,`ho,λy z c h1 h2=>?_,λy hy=>?_,λy c _ h=>?_,λ_=>hd,Around.frames_deeper e0.frames,`ayI,`ayJ,e0.bs,e0.bsz,λb _ _=>J b,`ayJ,e0.funs,e0.frf],
  rfl,e0.bare,`K4 hk,#[_,x.toInCall.ns,λi y v h1 h2 h3=>?_],λy c h=>#[_,x.cell y c h],`ayK `bj,λy c h=>?_,λp hp=>`N (show p∈([]:`aw) from hp) `ax,e0.hok.kept hk,?_]
 ·exact name_of_addr x.apart (L3 h1) (L3 h2)
 ·have hy:`Gf=`jw∨`Gf=`ls:=hy
  rcases hy with hy|hy
  ·exact Zz0 hy
  ·exact `N rfl (S.nofree _ (L3 hy))
 ·exact `ayL
 ·have hi:i<`cK:=by
   unfold start at h2
   by_cases hi:i<`cK
   ·exact hi
   ·rw[`aad] at h2
    rw[`rI] at h2;split at h2<;>cases h2
  have ha:`aac:=by
   unfold start at h2;rw[`LM,`cp] at h2;cases e:vs[i]? with
   | none=>rw[e] at h2;cases h2
   | some a=>rw[e] at h2;cases h2;rfl
  let#[u,hu,rv]:=`rJ ha;have hp:ps[i]?=`fc:=by
   rw[← S.pre,List.getElem?_take_of_lt `k];exact h1
  have O:ps.Nodup:=by rw[← S.pre];exact S.nd.sublist (List.take_sublist _ _)
  refine#[u,rv,?_];rcases S.par y (D0 hp) with k|k
  ·exact `t #[k,el0 O hp hu k]
  ·let#[c,e]:=Zz0 (n:=`s6) k
   refine `s #[`t k,c,e,?_];have q:=x.cell y c e;rw[ef0 O hp hu (by show `Gf≠_;rw[k];decide)] at q;exact q
 ·exact `ayK (`ayL)
 ·unfold start
  show _=`Cb;rw[`Z,`P,`vN];lia
def Nk0{CX:CXT}{P:`ao}{w:`Q}{K:`A}{mg:`a2}{base:`D}{k:Nat}{f:`f}{name qual:Str}{params:Arguments}{body:`b5}{scope:`cz}{dV kV doc pm cdv ct oc:`G}{an od:`bm}
  {osl:`h6} {N ps:`j} {sp:Sp} (lk:`Cc=`a #[oc,od,`ce `ayM,osl]) (hcd:`aae) (S:`ayD)
  (len:`_4)
  (hbody:∀(A:`bT) (outer:`eF) (s:`v) (H:Hp) (vs:`S) (Q:VK) (E:XK),`gJ k (`ym (`FW `eq `dd `U f cdv))->`FP ->
   ∃t,PSs `aaf `d1 t/\`ayN) :
  `W P w K mg `l CX `f! f `ayM ps sp:=by
 refine#[len,λA outer s H args us vs Q E hr e0 hb r U=>?_];have hl:=len _ _ _ _ U;have KX:`ou:=e0.mod.kin.keeps `ayO
 have Y:s.heap.NoLimit:=e0.mod.nolimit.keeps `ayO
 have O:∀y∈`pJ us,`amz∨(`s8 y.1=`jw/\((`ayF).lookup y.1).isSome=`c):=λhq38 hy=>by
  let#[n,v]:=hq38
  rcases S.par n (Al0 hy).1 with q|q
  ·exact `mj
  ·exact `s #[q,`ayC _ _ _ (`mj)]
 refine codeAny_call_function hr.depth (KX _ _ lk) rfl S.co S.gen rfl (W.codeRec_of KX hcd) (hb _ _ _ _ ?_);refine wpAny_newFunctionEnv_cells S.kind O λenv he s1 x=>?_
 subst he;refine#[Y.keeps x.toInCall.keep,codeAny_func ?_];let#[t,ht,hq]:=hbody A `b2 s H vs Q E (hr.deeper _) U;have I:Inv `aaf [] `FX H s1:=Tl0 S hr.hd e0 hl r x;refine C9 (ht [] s1 `FX H _ I hq) (λfl s' hs=>?_) λe s' hs=>hs
 refine `e;have fin:∀{σ':St} {H':Hp} {v:V} {u:`G},Inv `aaf [] σ' H' s'->`f5->`m6->`ax? :=
  λ{σ' H' v u} J rv q=>#[v,H',J.os,J.bare,J.base,J.hok,rv,q]
 cases fl with
 | ret u =>
  let#[v,σ',H',J,rv,q]:=hs;refine `b;exact fin J rv q
 | next =>
  let#[σ',H',J,q]:=hs;refine `b;exact fin (v:=V.non) (u:=`lI) J rfl q
 | brk =>
  let#[_,_,_,q]:=hs;refine `b;exact `fk q
 | cont =>
  let#[_,_,_,q]:=hs;refine `b;exact `fk q
section
variable{p:Pos}{t:TA}{id T:`cd}
def tCB(r:`ni)(t:TA):TE:=fun σ H Q=>t σ H λvs H1=>r vs H1 Q
def oy0(hc:`ayP)(hg:`c!)(hm:`oA)(hv:`ayQ)(ha:`vM)(hn:`k? := by decide)(hdb:`aQ:=by decide)
  (he:`eH:=by rfl) (hpl:`hf:=by rfl):`ayR:=by
 intro pins s σ H Q I h;refine `ayS;exact Cc0 `ayT he hpl
def pk0(hc:`aag)(hg:`c!)(hm:`oA)(hv:`aah)(ha:`vM)(hn:`k? := by decide)(hdb:`aQ:=by decide)
  (he:`eH:=by rfl) (hpl:`hf:=by rfl):`ayR:=by
 intro pins s σ H Q I h;refine `ayS;exact L8 `ayT he hpl
universe zz
universe L2
variable{r:`avJ}{X:L2.Cx}{ta tb te tv td ty:L2.TE}{CX:L2.CXT}{sp:L2.Sp}
namespace HT
open PyProof.Rows
section
variable{w:`Q}{s:`v}
def M80{t b:`f}{ws:`K}{Q:`aj}(ht:`yr `ar t `pQ)(hb:`yr `ar b `LN)(hv:vs≠[])
  (h1:ws=[]->Q `lo s) (h2:ws≠[]->Q `iH { s with heap:=`gC { cls:=`eQ,data:=`b7 `ayU } })
  (hsz:`cK+`vO<=`R):`q `ag A (`li .Add `lo `Hc) Q E s:=by
 refine `e;let#[#[cls,dd,data,sl],ho,hc,n,hd]:=id ht;let#[#[a1,Z,data2,O],J,U,n2,Y]:=id hb;simp only at hc hd U Y;subst hc hd U Y;have e:`pQ++`LN=`ayU:=`a4
 by_cases hw:ws=[]
 ·refine `b;exact t9 `kG `aai Am0 An0 Ao0 Ap0 (Aq0 _ _)
   (tuple_addW1 t b `pQ `LN n n2 dd Z sl O `aaj (by simp[hw])) #[ho,J,h1 hw]
 ·refine `b;refine t9 `kG `aai Am0 An0 Ao0 Ap0 (Aq0 _ _)
   (tuple_addW2 t b `pQ `LN n n2 dd Z sl O `aaj `SY (by rw[`bM,`bM];exact hsz)) #[ho,J,?_]
  rw[e];exact h2 hw
def sIx(n d:Nat):`ayV
 | `d=>d
 | `bL=>`LO
def I30(n d:Nat)(hd:d<=n)(o:`a5):sIx n d o<=n:=by
 cases o with
 | none=>exact hd
 | some v =>
  show (`LO)<=n
  by_cases hv:v<0
  ·rw[`V hv];lia
  ·rw[`al hv];exact Cd0 _ _
def Xi0(v:Int)(n d:Nat):`ayW=((sIx n d `sV:Nat):Int):=by
 show `ayW=(((`LO):Nat):Int)
 by_cases hv:v<0
 ·simp only[`V hv];lia
 ·simp only[`al hv];lia
def Vt0(lo hi:`a5)(n:Nat):`ayX=(`LP,`ayY):=by
 have h1:¬(`ys<0):=`J
 unfold Builtin.Slice.sliceAdjust;simp only[h1,`cS];refine Prod.ext ?_ ?_
 ·cases lo with
  | none=>rfl
  | some v=>exact Xi0 v n 0
 ·cases hi with
  | none=>rfl
  | some v=>exact Xi0 v n n
def U60(i j:Nat):`aak `s! `cw 1=j - i:=by
 unfold Builtin.Slice.slicePlaces;have h1:`amo:=`J
 simp only[h1,`eY,Int.ediv_one];split<;>lia
def ii0{v:`G}{o:`a5}{Q:`a5->`eO}(p:`yq v o)(h:Q o s):`q `ag A (Builtin.Slice.slicePartIndex v) Q E s:=by
 cases p with
 | none=>exact `ayZ h
 | int i t=>exact slicePart_int h
def qu0{sl:`f}{lo hi:`a5}{n:Nat}{Q:Int×Int×Nat->`eO}(hs:`LQ)(pl:`LR)(pu:`LS)
  (h:Q (`LP,1,`amd - `amc) s):`q `ag A (Builtin.Slice.sliceApplied `F_ (`bI `dM)) Q E s:=by
 let#[os,J,U,O]:=id hs;unfold Builtin.Slice.sliceApplied Builtin.Slice.sliceFields;refine A1 (A1 (D7 J O (x:=vl) rfl (A1 (D7 J O (x:=vu) rfl (A1 (D7 J O (x:=`af) rfl `E0))))));refine A1 (`ayZ ?_);show `q _ _ (if (`ys==0)=`c then _ else _) _ _ s;rw[`cU];refine A1 (ii0 pl (A1 (ii0 pu (`KQ))));show `q _ _ (match `ayX with|(lo,hi)=>`bI (lo,`ys,`aak lo hi 1)) _ _ s;rw[Vt0 lo hi n];show `q _ _ (`bI (`LP,`ys,`aak `LP `ayY 1)) _ _ s;rw[U60];exact A2 h
def Qd0(xs:`aJ)(i k:Nat):((`bF k).filterMap `ay_).toArray=((xs.toList.drop i).take k).toArray:=by
 have e:(`ay_)=`ay0:=by
  funext m
  have:`ame=i+m:=`J
  rw[`E]
 rw[e];have:=pick_run xs i k;rw[List.filterMap_map] at this;have e2:((λx=>xs[x]?) ∘ λx=>i+x)=`ay0:=rfl
 rw[e2] at this;rw[`E]
def ko0{t sl:`f}{items:`aJ}{lo hi:`a5}{Q:`aj}(ht:`ay1)(hs:`LQ)(pl:`LR)(pu:`LS)
  (hw:¬(`ay2))
  (h:Q `iH { s with heap:=`gC { cls:=`eQ,data:=`ay3 } })
  (hsz:`d3<=`R):`ay4:=by
 have J:sizeOk (`ay3):=by
  show (`amf).toArray.size<=`R;rw[`bM,`dg,`g9,`Lk];lia
 have hj:`SO<=`d3:=I30 _ _ `bj hi;let#[os,U,Z,a1]:=id hs;have Y:`ay5 := #[os,U,Z];unfold getItem
 try with_reducible refine `tK
 first|refine `KQ|skip
 refine `ay6;refine A1 (j0 (name:=`ay7) `pM b5
  `ay8)
 show `ay9;refine A1 (`aal ht ?_);refine A1 (L7 Y ?_);rw[`Bs];refine `ay';have O:¬(`SQ):=by
  intro q;rw[`aI,`aI] at q;have q1:`ami=0:=`vP q.1.1;have q2:`SP=`d3:=`vP q.2;exact hw #[`J,`J]
 show `ay!;rw[`al O,Qd0]
 first
  | exact `ay?
  | exact A1 (m:=`F0) (L4 (A1 `aza) J)
  | exact A1 (A1 (m:=`F0) (L4 `aza J))
  | exact A1 (`ay?)
universe zz
universe HT
namespace L2
open Spec PyProof.Rows
abbrev TO:=St->Hp->(`azb)->Prop
def PO(X:Cx)(e:`jU)(t:TO):Prop :=
 ∀(pins:`aw) (s:`v) (σ:St) (H:Hp) (Q:`azb),`C->`nA ->
  `q `am X.A (evalPart e `w) (λu s'=>∃o H',`mk/\`yq u o/\Q o H') `aH s
def Ly0:TO:=λ_ H Q=>Q `d H
def G40(t:TE):TO:=fun σ H Q=>t σ H λx H1=>∃i,`B0/\Q (`qB) H1
section
variable{hi:`jU}{tl th:TO}
def K40:PO X `d Ly0:=by
 intro pins s σ H Q I h;rw[`azc];exact A2 #[`d,H,I,`af,h]
def Mg0(h:`gp):PO X (`a e) (G40 te):=by
 intro pins s σ H Q I hw;rw[evalPart_some];refine thn `Z2 λu s1 hq39=>?_;refine `e;let#[x,H1,I1,r1,q1]:=hq39
 let#[i,rfl,q]:=q1;let#[t,rfl]:=r1;refine `b;exact#[`qB,H1,I1,`RU,q]
def SlR(X:Cx)(r:`rK):Prop :=
 ∀(pins:`aw) (s:`v) (σ:St) (H:Hp) (x:V) (v vl vu:`G) (lo hi:`a5) (sl:`f) (Q:VK),`C->`kD->`LQ->`LR->`LS->`azd ->
  ∃T id,`aze/\`nh v T/\`q `am X.A (`ng v `F_) `fj `aH s
def SlR.or{r r':`rK}(h:SlR X r)(h':SlR X r'):SlR X (λx lo hi H Q=>`azd∨r' x lo hi H Q):=by
 intro pins s σ H x v vl vu lo hi sl Q I rx hs pl pu q;rcases q with q|q
 ·exact h `i s σ H x v vl vu lo hi sl Q I rx hs pl pu q
 ·exact h' `i s σ H x v vl vu lo hi sl Q I rx hs pl pu q
def tSl(r:`rK)(te:TE)(tl th:TO):TE:=fun σ H Q=>te σ H λx H1=>tl σ H1 λl H2=>th σ H2 λu H3=>r x l u H3 Q
def br0{r:`rK}(hr:SlR X r)(he:`gp)(hl:`azf)(hu:`azg):PE X `aam (tSl r te tl th):=by
 intro pins s σ H Q I h;refine `LT (thn `h9 λv s1 hq40=>?_);let#[x,H1,I1,r1,q1]:=hq40;refine `azh (thn `azi λvl s2 hq41=>?_);let#[l,H2,I2,pl,q2]:=hq41;refine thn `azj λvu s3 hq42=>?_;let#[u,H3,I3,pu,q3]:=hq42;rw[`azc];refine `iq;have I4:Inv X `i σ H3 `aan:=I3.kept (t':=s3.toks) `ST
 let#[T,id,hT,ht,hg]:=hr `i `aan σ H3 x v vl vu l u `tb Q I4 r1 `azk pl pu q3;show `q `am X.A (`azl e `aml v (`azm)) `fj `aH `aan;exact `aao (ops:=[`azm,v]) ht hT hg (by with_unfolding_all rfl)
def lj0(xs:`S)(lo hi:`a5):`S:=(`u6 (`yt)).take (`SS - `yt)
def kx0(xs:`S)(lo hi:`a5):(`F1).length<=`ay:=by
 unfold lj0;rw[`dg,`g9];lia
def Fb0(K:`A):`rK:=λx lo hi H Q=>∃a xs,`c?/\`mo /\
 ¬`azn/\∀p,`d8->Q `dv (upd H p (`azo))
def Kx0:SlR X (Fb0 X.K):=by
 intro pins s σ H x v vl vu lo hi sl Q I rx hs pl pu h;refine `e;let#[a,xs,rfl,hx,hw,q]:=h;cases rx;let#[its,r,ht,hz]:=`hu hx;have J:`hF=`ay:=`azp
 refine `b;refine#[`dk,_,b5.lookup,`pM,?_];refine HT.ko0 ht hs pl pu (`LU) ?_ (by rw[J];exact hz);rw[J];refine#[`gI,_,`kE (t':=`bf) (o:=`azo) `Cd `bj ?_,rfl,`LV];exact#[`azq,_,`azr,`LW]
def Nn0(K:`A):R2:=λx y H Q=>∃a b xs ys,`c?/\`Ce/\`mo/\`azs/\`Cf/\`T3 /\
 (ys=[]->Q `c2 H)/\(ys≠[]->∀p,`d8->Q `dv (upd H p (`aap)))
def Vals.nil_iff(r:`dW):us=[]↔`vQ:=by
 cases r with
 | nil=>simp
 | cons _ _=>simp
def Kk0:OpR X `B1 (Nn0 X.K):=by
 intro pins s σ H x y v u Q I rx ry h;refine `e;let#[a,b,xs,ys,rfl,rfl,ha,hb,hx,hz,q1,q2]:=h;cases rx;cases ry;let#[its,r1,p1,_]:=`aaq;let#[J,r2,p2,_]:=`hu hb;refine `b;refine HT.M80 p1 p2 (λz=>hx (`anQ z)) (λz=>#[`bt,H,I,rfl,q1 (r2.nil_iff.mp z)]) (`jT) (by rw[← `jO,← `nc];exact hz);refine#[`gI,_,`kE (t':=`bf) (o:=`aap) `Cd `bj ?_,rfl,q2 (λw=>z (r2.nil_iff.mpr w)) _ `F2];exact#[`azt,_,`LX,`LW]
universe zz
def ixN(n:Nat)(i:Int):`LY:=`azu
def atI{α:Type}(xs:`aT)(i:Int):`aL α:=`azv
def Mt0{i:Int}(h:ixN n i=`LZ):seqIndex? i n=`LZ/\j<n/\`SU/\i<n:=by
 unfold ixN at h
 by_cases h0:`hA
 ·rw[`V h0] at h
  by_cases h1:i<n
  ·rw[`aar] at h
   have e:`fm=j:=`nM;exact#[by rw[`azw h0 h1,e],`J,`J,h1]
  ·rw[`aas] at h;cases h
 ·rw[`aat] at h
  by_cases h1:`SU
  ·rw[`aar] at h
   have e:`amm=j:=`nM;exact#[by rw[`azx `k h1,e],`J,h1,`J]
  ·rw[`aas] at h;cases h
def e20{xs:`aT}{i:Int}{v:α}(h:`yu=`bL):∃j,seqIndex? i `ay=`LZ/\`F4=`bL/\j<`ay/\-(`ay:Int)<=i/\`vR:=by
 unfold atI at h;cases e:`amn with
 | none=>rw[e] at h;cases h
 | some j =>
  rw[e] at h;let#[h1,h2,h3,h4]:=Mt0 e;exact#[j,h1,h,h2,h3,h4]
def pw0(b:`I):Prop:=∀o i,`zM b `p o i=`apG
def IxR(X:Cx)(r:R2):Prop :=
 ∀(value slice:`I) (pins:`aw) (s:`v) (σ:St) (H:Hp) (x y:V) (v u:`G) (Q:VK),`C->`kD->`fN->`FG ->
  `zM `oJ `p v u=`SV [v,u] (`ng v u)->`q `am X.A (`azl `fi `oJ v u) `fj `aH s
def MtR(X:Cx)(id:`cd)(r:`ib):Prop :=
 ∀(pins:`aw) (s:`v) (σ:St) (H:Hp) (x:V) (xs:`S) (v:`G) (us:`K) (Q:VK),`C->`kD->`dW->`azy ->
  `azz
section
variable{a:`I}
def IxR.or{r r':R2}(h:`aau)(h':IxR X r'):IxR X `axe:=by
 intro value slice pins s σ H x y v u Q I rx ry q hs;rcases q with q|q
 ·exact h `fi `oJ `i s σ H x y v u Q I rx ry q hs
 ·exact h' `fi `oJ `i s σ H x y v u Q I rx ry q hs
def Vz0{r:R2}(hr:`aau)(ha:`kB)(hb:`vA)(hs:`Cg):PE X `Ch `Lu:=by
 intro pins s σ H Q I h;exact `LT (Qk0 ha hb I h λv u s2 x y H2 I2 rx ry q=>hr a b `i s2 σ H2 x y v u Q I2 rx ry q (hs _ _))
def If0(K:`A):R2:=λx y H Q=>∃p xs i v,`L_/\y=`bi/\`L0/\`azA
def Id0(K:`A):R2:=λx y H Q=>∃p xs i v,`L_/\y=`bi/\`aav/\`azA
def Jl0:R2:=λx y H Q=>∃z i c,x=`jF/\y=`bi/\`td/\`azB=`eo/\Q (`tp) H
def Wd0:IxR X (If0 X.K):=by
 intro value slice pins s σ H x y v u Q I rx ry h hs;refine `e;let#[p,xs,i,z,rfl,rfl,hq,he,q]:=h;cases rx;let#[t,rfl]:=ry;let#[its,r,pl,hz]:=`hd;let#[j,h1,h2,h3,h4,h5]:=e20 he;let#[w,ew,J]:=`rJ h2;have hl:=`cJ;have hn:=py0;have fin:`azC:=`azD
 by_cases h0:`hA
 ·have hj:`fm=j:=by
   rw[`azw h0 h5] at h1;exact A4 h1
  refine `b;exact item_listR `mt h0 `k `azE fin hs
 ·have hj:(i+(`hF:Int)).toNat=j:=by
   rw[`azx `k h4] at h1;rw[`bM,← hl];exact A4 h1
  refine `b;exact `azF (x:=w) `azG `aaw
   (wpAny_getItem_list_neg (Q:=`azH) `mt `k `aax `k `azE `azI) hs
def bo0:IxR X (Id0 X.K):=by
 intro value slice pins s σ H x y v u Q I rx ry h hs;refine `e;let#[p,xs,i,z,rfl,rfl,hq,he,q]:=h;cases rx;let#[t,rfl]:=ry;let#[its,r,pl,hz]:=`kC;let#[j,h1,h2,h3,h4,h5]:=e20 he;let#[w,ew,J]:=`rJ h2;have hl:=`cJ;have hn:=py0;have fin:`azC:=`azD;refine `b;exact `azF (x:=w) pl.typeIs slot_tuple_getitem.lookup
  (getItem_tuple (j:=j) (Q:=`azH) pl `k `k (by rw[`bM,← hl];exact h1) (by simpa using ew) `azI) hs
def H50:IxR X Jl0:=by
 intro value slice pins s σ H x y v u Q I rx ry h hs;refine `e;let#[z,i,c,rfl,rfl,hz,he,q]:=h;let#[t,rfl]:=rx;let#[t',rfl]:=ry;let#[j,h1,h2,h3,h4,h5]:=e20 he;have hl:z.cps.toList.length=`jE:=by simp[Str.length]
 rw[hl] at h1 h4 h5;have hn:=py0;refine `b;exact `aao (b6 s z t) slot_str_getitem.lookup (getItem_str (c:=c) (by
  have e1:`B (i < `aay)=`p:=`L1;have e2:`B (i ≥ 2 ^ 63)=`p:=`L1;rw[e1,e2,`Br]) (by rw[h1];simpa using h2) #[`tp,H,`f9,`ad,q]) hs
def rIx(K:`A):R2:=λx y H Q=>If0 K x y H Q∨Id0 K x y H Q∨Jl0 x y H Q
theorem Jd0:IxR X (rIx X.K):=Wd0.or (bo0.or H50)
def Zq0(lo hi:`a5)(n:Nat):(`aaz).1=((`iz n 0 lo:Nat):Int)/\(`aaz).2.1=((`iz n n hi:Nat):Int)/\(`aaz).2.2=1:=by
 refine#[?_,?_,rfl]
 ·cases lo with
  | none=>simp[`nj,`iz]
  | some i =>
   simp only[`nj,`iz,`azJ,`azK,`eY]
   by_cases h:i<0
   ·simp only[h,`eY]<;>lia
   ·simp only[h,`cS]<;>lia
 ·cases hi with
  | none=>simp[`nj,`iz]
  | some i =>
   simp only[`nj,`iz,`azJ,`azK,`eY]
   by_cases h:i<0
   ·simp only[h,`eY]<;>lia
   ·simp only[h,`cS]<;>lia
def cc0(its:`K)(lo hi:`a5):slicePick `bv lo hi `d=((its.drop (`azL)).take (`iz `nk `nk hi - `azL)).toArray:=by
 let#[h1,h2,h3]:=Zq0 lo hi `hF;unfold slicePick;rw[h1,h2,h3];simp only[sliceRange_one,pick_run,`bM]<;>rfl
def Fl0(K:`A):`rK:=λx lo hi H Q=>∃a xs,`c?/\`lh/\∀p,`d8->Q `dv (upd H p (`azM))
def Xg0:SlR X (Fl0 X.K):=by
 intro pins s σ H x v vl vu lo hi sl Q I rx hs pl pu h;refine `e;let#[a,xs,rfl,hx,q]:=h;cases rx;let#[its,r,ht,hz]:=`dt hx;have J:=`cJ;refine `b;refine#[`eS,_,`aaw,`azN,?_];refine Cl0 ht.isList hs pl pu `af `ax ?_ `aax;rw[cc0,← J];refine#[`gI,_,`kE (t':=`bf) (o:=`azM) `Cd `bj ?_,rfl,`LV];exact#[`azq,_,0,`azr,`f0]
def un0:V->`M
 | `x=>`c
 | `bN=>`c
 | `co=>`c
 | `bq=>`c
 | _=>`p
def eqV:V->V->`M
 | `x,`x=>`c
 | `vS,`dK=>`ks
 | `vS,`iW=>`aaA
 | `oK,`dK=>`aaB
 | `oK,`iW=>`ks
 | `hK,`nN=>`ks
 | _,_=>`p
def I90{s:`v}{y x:V}{v:`G}(ry:`fN)(rx:`kD)(fy:`azO)(fx:`aaC):`Hh A s u v (`SX):=by
 cases y with
 | non =>
  cases ry;cases x with
  | non=>cases rx;exact P2 _
  | bl b=>cases rx;exact Av0 b
  | int b=>let#[t,rfl]:=rx;exact m4 b t
  | str b=>let#[t,rfl]:=rx;exact n0 b t
  | _=>exact `L2
 | bl a =>
  cases ry;cases x with
  | non=>cases rx;exact Aw0 a
  | bl b=>cases rx;exact Ax0 a b
  | int b=>let#[t,rfl]:=rx;exact Ay0 a b t
  | str b=>let#[t,rfl]:=rx;exact Az0 a b t
  | _=>exact `L2
 | int a =>
  let#[t',rfl]:=ry;cases x with
  | non=>cases rx;exact n5 a t'
  | bl b=>cases rx;exact B00 a t' b
  | int b=>let#[t,rfl]:=rx;exact n9 a t' b t
  | str b=>let#[t,rfl]:=rx;exact i6 a t' b t
  | _=>exact `L2
 | str a =>
  let#[t',rfl]:=ry;cases x with
  | non=>cases rx;exact o0 a t'
  | bl b=>cases rx;exact B10 a t' b
  | int b=>let#[t,rfl]:=rx;exact i7 a t' b t
  | str b=>let#[t,rfl]:=rx;exact o3 a t' b t
  | _=>exact `L2
 | _=>exact `N (show `s4 from fy) B6
def eqU(x:V)(u:`G):`M:=match u with
 | `af=>eqV `x x
 | `Lg=>eqV `z! x
 | `g i _=>eqV `f6 x
 | `u z _=>eqV `zA x
 | _=>`p
def Sr0{x y:V}(r:`fN)(f:`azO):eqU x u=`SX:=by
 cases y with
 | non=>cases r;rfl
 | bl b=>cases r;rfl
 | int i=>let#[t,rfl]:=r;rfl
 | str z=>let#[t,rfl]:=r;rfl
 | _=>exact `N (show `s4 from f) B6
theorem oi0{x:V}:∀{xs:`S} {us:`K},`dW->`L3->us.any `pN=`azP
 | _,_,`X,_=>rfl
 | y::xs,u::us,`mg,f=>by
  rw[`mu,`aI] at f;rw[`oL,`oL,Sr0 r f.1,oi0 t f.2]
theorem uq0{s:`v}{x:V}{v:`G}(rx:`kD)(fx:`aaC):∀{xs:`S} {us:`K},`dW->`L3->∀u∈us,`Hh A s u v (eqU x u)
 | _,_,`X,_=>λu hu=>by cases hu
 | y::xs,u::us,`mg,f=>λu' hu=>by
  rw[`mu,`aI] at f;rcases `cf hu with rfl|hu
  ·rw[Sr0 r f.1];exact I90 r rx f.1 fx
  ·exact uq0 rx fx t f.2 u' hu
def inV(x:V)(xs:`S):`M:=`azP
def rIn(K:`A)(neg:`M):R2:=λx y H Q=>∃p xs,y=`gL/\(`L0∨`aav)/\`aaC/\`L3/\Q (.bl (if neg then !inV x xs else inV x xs)) H
def Ry0:OpR X (`d2 .In) (rIn X.K `p):=by
 intro pins s σ H x y v u Q I rx ry h;refine `e;let#[p,xs,rfl,hq,fx,fs,q]:=h;cases ry;rcases hq with hq|hq
 ·let#[its,r,pl,hz]:=`hd
  refine `b;refine SeqAt.in_listAt `pN `mt `L4 `L5;rw[`L6,`L7];exact q
 ·let#[its,r,pl,hz]:=`kC
  refine `b;refine SeqAt.in_tupleAt `pN pl `L4 `L5;rw[`L6,`L7];exact q
def bm0:OpR X (`d2 `vC) (rIn X.K `c):=by
 intro pins s σ H x y v u Q I rx ry h;refine `e;let#[p,xs,rfl,hq,fx,fs,q]:=h;cases ry;rcases hq with hq|hq
 ·let#[its,r,pl,hz]:=`hd
  refine `b;refine SeqAt.notIn_listAt `pN `mt `L4 `L5;rw[`L6,`L7];exact q
 ·let#[its,r,pl,hz]:=`kC
  refine `b;refine SeqAt.notIn_tupleAt `pN pl `L4 `L5;rw[`L6,`L7];exact q
def lo0:`fl X `aaD (λxs H Q=>∃p ys,`nl/\(`S_∨`S0)/\`azQ):=by
 intro pins s σ H xs us Q I r h;refine `e;let#[p,ys,rfl,hq,q]:=h;let#[u,rfl,rx]:=`oF;cases rx;have hn:=py0;rcases hq with hq|hq
 ·let#[its,r',pl,hz]:=`hd
  have J:=`Ci;refine `b;exact Calls.call_len_list `mt `Cj `azR
 ·let#[its,r',pl,hz]:=`kC
  have J:=`Ci;refine `b;exact len_tuple pl `Cj `azR
def bz0:`fl X `aaD (λxs H Q=>`azS):=by
 intro pins s σ H xs us Q I r h;refine `e;let#[z,rfl,hz,q]:=h;let#[u,rfl,t,rfl]:=`oF;have hn:=py0;refine `b;exact len_str `k #[`SZ,H,`f9,`ad,q]
def CallR.or{f:`G}{r':`ni}(h:`fl X f r)(h':`fl X f r'):`fl X f (λxs H Q=>`Lr∨r' xs H Q):=by
 intro pins s σ H xs us Q I rs q;rcases q with q|q
 ·exact h `i s σ H xs us Q I rs q
 ·exact h' `i s σ H xs us Q I rs q
def l80:`fl X `zf (λxs H Q=>∃p ys,`nl/\(`S_∨`S0)/\`azT):=by
 intro pins s σ H xs us Q I r h;refine `e;let#[p,ys,rfl,hq,q]:=h;let#[u,rfl,rx]:=`oF;cases rx;have fin:∀(its:`K),`azU->`L8->∀(h':`D) (c':Nat),(∀b o',`pv=`Fa->`sC=`Fa) ->
   `aaE=`a { cls:=`en,dict:=`d,data:=`b7 `bv c',slots:=⟨⟩ }->EP X `i σ Q `iH `hv:=λits r' hz h' c' kp e =>
  #[`gI,_,`kE (t':=`bf) kp `bj (show `cG `aR X.w _ h' _ `yw from #[hz,its,c',r',e]),rfl,`LV]
 rcases hq with hq|hq
 ·let#[its,r',pl,hz]:=`hd
  have J:=`Ci;let#[o,ho,hc,n,hd]:=`mt;refine `b;exact `azV p `f3 ho hc hd `azW `Cj
 ·let#[its,r',pl,hz]:=`kC
  have J:=`Ci;let#[o,ho,hc,n,hd]:=pl;refine `b;exact `azV p `Ck ho hc hd `azW `Cj
def z30:`fl X `t3 `azX:=by
 intro pins s σ H xs us Q I r h;refine `e;let#[p,ys,rfl,h]:=h;let#[u,rfl,rx]:=`oF;cases rx;rcases h with⟨hq,q⟩|⟨hq,q⟩
 ·let#[its,r',pl,hz]:=`hd
  have J:=`Ci;refine `b;refine call_tuple_list `mt (λh' kp=>?_) `Cj;have I1:`tQ:=`FI (t':=`bf) kp;have I2:Inv X `i σ (upd H `yx `F8) { s with heap:=`aaF { cls:=`eQ,data:=`b7 `bv } } :=
   `FO (t':=`bf) (`s0) `bj (show `cG `aR X.w _ _ _ `F8 from #[hz,its,r',`LW])
  exact#[`azY,_,I2,rfl,q _ (`FB)]
 ·let#[its,r',pl,hz]:=`kC
  refine `b;exact call_tuple_same pl #[`gL,H,I,rfl,q]
def tyV(K:`A)(T:`cd)(x:V)(H:Hp):Prop:=match x with
 | `bq=>T = `i?
 | `co=>T = `h!
 | `gL=>(T = `eS/\∃xs,`L0)∨(T = `dk/\∃o,`bE p=`ap/\`KY/\`KZ) ∨
   (T = `E2/\((∃kvs,`Vg)∨∃kvs,H p=`anx))∨(T = "set"/\∃S n,H p=`a (.set S n))
 | _=>`b'
def Sl0{σ:St}{s:`v}{T:`cd}{x:V}{v:`G}(I:`C)(r:`kD)(ty:tyV X.K T x H) :
  `nh v T/\∀a,`iB->∃ob,`Fk=`K3/\`azZ:=by
 refine `e;cases x with
 | str z =>
  let#[t,rfl]:=r;cases (show T = `i? from ty);refine `b;exact#[b6 s z t,λ_ e=>nomatch e]
 | int i =>
  let#[t,rfl]:=r;cases (show T = `h! from ty);refine `b;exact#[Q1 s i t,λ_ e=>nomatch e]
 | ref p =>
  cases r;rcases ty with⟨rfl,xs,hq⟩|⟨rfl,o,hk,hc,hd⟩|⟨rfl,hk⟩|⟨rfl,S,n,hk⟩
  ·let#[its,_,pl,_]:=`hd
   refine `b;refine#[`azG,λa e=>?_];refine `e;cases e;let#[o,n,e,c,hd,_]:=pl;refine `b;exact#[o,e,hd]
  ·refine `b;refine#[#[o,`dc p o hk,hc],λa e=>?_]
   cases e;exact#[o,`dc _ o hk,hd]
  ·have z:∃o,`dm p=`ap/\`Ze:=by
    rcases hk with⟨kvs,hk⟩|⟨kvs,hk⟩
    ·refine `e;let#[_,_,_,_,o,_,_,e,ex,_]:=`aaG
     refine `b;exact`az_
    ·refine `e;let#[_,_,_,_,o,_,_,e,ex,_]:=`aaG
     refine `b;exact`az_
   let#[o,e,ex]:=z;refine `b;refine`az0;cases e2;exact`az1
  ·let#[o,_,_,_,e,ex,_]:=`aaG
   refine `b;refine`az0;cases e2;exact`az1
 | _=>refine `b;exact `fk ty
def Fr0(K:`A)(T:`cd)(r:`ib)(to:TE):TE:=fun σ H Q=>to σ H λx H1=>`az2/\r x [] H1 Q
def tBM(K:`A)(T:`cd)(r:`ib)(to:TE)(t:TA):TE:=fun σ H Q=>to σ H λx H1=>`az2/\t σ H1 λxs H2=>r x xs H2 Q
variable{to:TE}{t:TA}{T id:`cd}{r:`ib}
def Us0(pa:PlainAttrs T)(slot:`az3)(hty:`aaH)(hm:`aaI)(ho:`_b)
  (hbase:`aaJ:=by rfl) (hline:`fO:=by rfl):PE X (`aV `aaK [] [] `ca) (Fr0 X.K T r to):=by
 intro pins s σ H Q I h;refine wpAny_Call_method0_late `e3 `gr (thn `BU λv s1 hq43=>?_);refine `e;let#[x,H1,I1,r1,ty,q1]:=hq43;let#[h1,h2]:=`az4;refine `b;exact#[T,id,pa,slot,hty,h1,h2,B20 rfl (PySem.evalArgs_none (hm `i s1 σ H1 x [] v [] Q I1 r1 `X q1))]
def rl0(pa:PlainAttrs T)(slot:`az3)(hty:`aaH)(hm:`aaI)(ho:`_b)(ha:`vM)
  (hbase:`aaJ:=by rfl)
  (hfew:((`d0 `ca (`SG)).all `G0&&`G1
  &&`B (`aaL+`y5+`y6<30))=`c:=by rfl)
  (hline:`fO:=by rfl) (hs:`eH:=by rfl) (hplain:`az5=`p:=by rfl) :
  PE X (`aV `aaK `gK [] `ca) (tBM X.K T r to t):=by
 intro pins s σ H Q I h;refine wpAny_Call_method_late `e3 `ja `gr rfl (thn `BU λv s1 hq44=>?_);refine `e;let#[x,H1,I1,r1,ty,q1]:=hq44;let#[h1,h2]:=`az4;refine `b;refine#[T,id,pa,slot,hty,h1,h2,?_];have hA:=ha `ca `i s1 σ H1 _ I1 q1;rw[hs] at hA ⊢;refine B20 (by show (`p||`az5)=`p;rw[`kH]<;>rfl) (B30 ?_);exact thn hA λus s2 #[vs,H2,I2,r2,q2]=>hm `i s2 σ H2 x vs v us Q I2 r1 r2 q2
universe zz
def MtM(X:Cx)(id:`cd)(r:`ib):Prop :=
 ∀(pins:`aw) (s:`v) (σ:St) (H:Hp) (x:V) (xs:`S) (v:`G) (us:`K) (Q:VK),`C->`kD->`dW->`azy ->
  `azz
def Vals.one:∀{x:V} {us:`K},`axk->`axl:=by
 intro x us h
 cases h with
 | cons r t=>cases t;exact`ak7
def Vals.two:∀{x y:V} {us:`K},`axm->∃u v,us=[u,v]/\`hz/\`dp y v:=by
 intro x y us h
 cases h with
 | cons r t=>cases t with
  | cons q t=>cases t;exact#[_,_,rfl,r,q]
theorem Vals.zero:∀{us:`K},`bJ [] us->us=[]
 | _,`X=>rfl
def Vals.dropLast(h:`dW):`bJ `S4 us.dropLast:=by
 induction h with
 | nil=>exact `X
 | cons r t ih =>
  cases t with
  | nil=>exact `X
  | cons q t'=>exact `Bz
def Vals.reverse(h:`dW):`bJ `L9 us.reverse:=by
 induction h with
 | nil=>exact `X
 | cons r t ih=>rw[`e4,`e4];exact `az6 ih (`aq r `X)
theorem Vals.rep(h:`dW):∀k:Nat,`bJ `az7 (`aW k us).flatten
 | 0=>`X
 | k+1=>by
  rw[`eI,`eI,`kI,`kI];exact `az6 h (Vals.rep h k)
def Vq0(l:`aT):l.eraseIdx (`bW - 1)=`az8:=by
 induction l with
 | nil=>rfl
 | cons a r ih =>
  cases r with
  | nil=>rfl
  | cons b r =>
   have e:`az9 - 1=(`az' - 1)+1:=by
    have h1:`az9=`cJ+2:=rfl;have h2:`az'=`cJ+1:=rfl;lia
   rw[e,List.eraseIdx_cons_succ,ih]
   all_goals rfl
theorem foldl_rep(its:`K):∀(k:Nat) (acc:`K),
  List.foldl (λx1 x2=>x1++x2) `az! (`aW k `bv)=(acc++`az?).toArray
 | 0,acc=>`a4
 | k+1,acc=>by
  have e:`az!++`bv=(`aaM).toArray:=`a4
  have e2:(`aaM)++`az?=acc++(`aW `f! its).flatten:=by
   rw[`eI,`kI,`bB]
  rw[← e2,← `anR its k (`aaM),← e,`eI,`L']
section
variable{σ:St}{s:`v}{l b:`f}{ys zs:`S}
def Inv.lset{its its':`K}{n:Nat}{f:`aJ->`aJ}{t':Nat}(I:`C)(hH:`Cl)
  (e:`aAa) (hf:f `bv=its'.toArray) (hv:`bJ ys its') (hz:`L8) :
  Inv X `i σ (upd H l `yw) { s with heap:=`qs l (`qk f),toks:=t' }:=by
 have q:=PySem.IsL.update e f;rw[hf] at q;refine `_X (x:=l) (e:=l) (by rw[hH];exact `lE) `f3 (λb' u hb hu=>(E7 `ar (`qk f) (A9 hb)).trans hu) `jb ?_;exact#[hz,its',_,hv,q]
theorem Inv.lnew{its:`K}{t':Nat}(I:`C)(hv:`azU)(hz:`L8) :
  Inv X `i σ (upd H `U `yw) { s with heap:=`gC { cls:=`en,data:=`b7 `bv },toks:=t' } :=
 `kE `aaN `bj #[hz,its,0,hv,`f0]
theorem Inv.fresh(I:`C):H `U=`d:=`FU
def Inv.lstM(I:`C)(hH:`Cl):`i9/\∃(its:`K) (n:Nat),`ow/\`ay=`nk/\`aAa:=by
 let#[z,its,n,r,e]:=`bg l _ hH;exact#[z,its,n,r,`cJ,e]
def O50(h:`vT):`L! n=`p:=by
 unfold Builtin.List.listTooLong;exact `L1
universe zz
def Mm0:`ib:=λx vs H Q=>∃l xs y,`L?/\vs=[y]/\`Cl/\`ay<`R/\Q `x (upd H l (`o (xs++[y])))
def po0:MtM X `aAb Mm0:=by
 intro pins s σ H x vs v us Q I rx rv h;refine `e;let#[l,xs,y,rfl,rfl,hH,hz,q]:=h;cases rx;let#[u,rfl,ru]:=`Ma;let#[z,its,n,r,hl,e]:=`aaO;refine `b;refine L5 F.slot_list_append `aaP F.entry_list_append (F.args_list_append_2 _ _) (PySem.list_append l `bv n u `tV) `aAc;refine#[`x,_,I.lset (its':=its++[u]) hH e `ax (`FQ (`aq ru `X)) ?_,rfl,q];rw[`Z,`c7];lia
def Fc0:`ib:=λx vs H Q=>∃l xs y,`L?/\vs=[]/\`Cl/\xs[`ay - 1]?=`fc/\Q y (upd H l `aaQ)
def Rl0:MtM X "list.pop" Fc0:=by
 intro pins s σ H x vs v us Q I rx rv h;refine `e;let#[l,xs,y,rfl,rfl,hH,hy,q]:=h;cases rx;have O:=rv.zero;subst O;let#[z,its,n,r,hl,e]:=`aaO;let#[u,hu,ru]:=`rJ hy;have J:`bv[`hF - 1]?=`a?:=by
  show `bv[`nk - 1]?=`a?;rw[← `aAd,← hl];exact hu
 refine `b;refine L5 F.slot_list_pop `aaP F.entry_list_pop (F.args_list_pop_1 _) (MeetsSeq.list_pop_last l `bv n u J `tV) `aAc;refine#[y,_,I.lset (its':=its.dropLast) hH e ?_ r.dropLast ?_,ru,q]
 ·show its.toArray.eraseIdxIfInBounds (`hF - 1)=its.dropLast.toArray
  rw[`bM,List.eraseIdxIfInBounds_toArray,Vq0]
 ·rw[`aaR]
  lia
def len_rep(xs:`aT)(k:Nat):(`ams).flatten.length=k*`ay:=by
 induction k with
 | zero=>simp
 | succ k ih=>rw[`eI,`kI,`Z,ih,`aaS,`aAe]
universe L2
namespace Att
open PySem.W PySem.Calls PyProof.Rows
def i10{P:`S'}{h:`D}:∀(ns:`_) (vs:`K),WellAll P h vs (`no WData.int)->`Cm:=by
 intro ns
 induction ns with
 | nil =>
  intro vs w;rw[`lB] at w;cases w;exact `X
 | cons n ns ih =>
  intro vs w;rw[`ab] at w;cases w with
  | cons a b =>
   cases a;exact `aq _ _ (ih _ b)
def R20{l:`aaT}(hn:`Mb){P:`S'}{h:`D}{args:`aAf}{vals:`K}
  (hpre:l.row.toRowW.claim.pre `he=`c) (hwl:WellAll P h `qC `he) :
  ∃a vs ns,`qC=[`gD]/\`he=[WData.list (`no WData.int)]/\`ip=`amt/\`Cm/\`Cn:=by
 refine `e;have O:WShape.hasAll [] `he [.list `g]=`c:=(`aAg).1;have hc:l.pre.holds [] { args:=`he }=`c:=(`aAg).2;let#[d,r,rfl,h1,h2]:=hasAllW_cons O;obtain rfl:=hasAllW_nil h2;let#[xs,rfl,h3]:=hasW_list h1;let#[ns,rfl]:=items_int h3;have J:`Cn:=by
  unfold OpenLaw.pre at hc;have h4:(WTm.not (.lt (.lit `IP) (.len (.arg 0)))).holds [] { args:=[.list (`no `g)] }=`c:=by
   have h4:=(holds_andW hc).1;rw[hn] at h4;exact h4
  have h5:=condW_of h4 (w_not (w_lt w_lit (w_len_list (w_arg rfl))));rw[`P] at h5;refine Nat.le_of_not_lt λq=>?_
  have q':`dM<((`fg:Nat):Int):=`J
  first
   | (rw[`bG q'] at h5;exact `N h5 `r)
   | (simp at h5;lia)
 cases hwl with
 | cons w1 w2 =>
  cases w2;cases w1 with
  | list ho hall=>refine `b;exact#[_,_,ns,rfl,rfl,ho,i10 ns _ hall,J]
theorem Rf0(l:`aaT)(args:`aAf):l.row.toRowW.claim.post `he `yA `he=`c :=
 postW_of (r:=`S!) (X:=`aAh)
  (show `aAi [] `yA `gA=`c by first|rfl|decide|simp[`aAi,WShape.arms,WShape.armsAll])
  (show (WTm.eq .res (.lit `yA)).value [] { args:=`he,res:=`a `yA,after:=`he }=`a (`gA `aAh) from w_eq_bool (w_res rfl) w_lit) rfl
def Ym0{l:`aaT}{n:Nat}{q:`ao}{loose:`j}{XP:`Bm}{YP:`Bn}{d:DefRec}
  (hn:`Mb) (hdf:`aaU)
  (call:∀(w:`Q) (s₀ s₁:`v) (mg mb:`a2) (fa:`f) (o:Obj) (pm cd doc:`G) (a:`f) (vs:`K) (ns:`_),
   Ground q loose [] XP w s₀ mg mb `nn->YP w `nn ->
   `Gb fa=`ap->`mY=`ce (docDef `S6 d.params d.body d.scope pm cd doc)->s₁.heap.CodeRec cd `S6->`aaV ->
   `aAj->`Cm->`Cn->`aAk ->
   `f_ (`xS `ak w) `yB (`lq `yz `S8) `amu `dN) :
  WalkO q loose XP YP `S! d [] `amw:=by
 intro w s₀ s₁ mg mb G Y fa o pm cd doc dV kV ho hd a1 hD a2 hg args vals as O a4 a6 a3 a5;refine `e;obtain rfl:dV=`af:=Dflts.none hD hdf;obtain rfl:kV=`af:=Dflts.noKw hD;let#[a,vs,ns,rfl,rfl,Z,J,U]:=R20 hn O a3;refine `b;refine enter_call (L9 (`d_ w s₀ `dN mg mb fa o pm cd doc a vs ns G Y ho (fd_plain hd) a1 a2 Z J U hg) `vL);let#[rfl,h2,h3,h4]:=hq;exact#[`t #[`F?,`F?,[],rfl,`i0,`F?,Rf0 l _,λ_=>#[`aol,λ_ hm=>(nomatch hm)]],h2,h3,h4]
universe Att
namespace L2
open Spec PyProof.Rows
theorem d00:∀{vs:`K} {ns:`_},`Cm->`bJ `yC vs
 | _,_,`X=>`X
 | _,_,`aq n t h=>`aq `Co (d00 h)
def Only(H:Hp):Prop:=∀b,`c_∨∃o xs,H b=`Ge
def On0{P:`ao}{w:`Q}{K:`A}{mg mb:`a2}{CX:CXT}{k:Nat}{fa a:`f}{fd:`e1}{x:Str}{sp:Sp}{s₁:`v}{vs:`K}{ns:`_}
  (KX:K.In `nn) (hns:`aaW `a_ mg) (hb:`aaW `ZB mb) (hbb:`au7) (hlim:s₁.heap.NoLimit) (hg:`aAk)
  (ha:`aAj) (hi:`Cm) (hl:`axC) (hr:`aaX)
  (F:∀base:`D,`ZA->`BE->`W P w K mg `l CX k fa fd [x] sp) (hbind:`aaY)
  (hsp:∀H:Hp,Only H->`aaZ->sp `d4 H `Mc `pR)
  (hCX:∀H e s',CX [] H `dN `vU e s'->`b') :
  `aAl:=by
 have rv:=d00 hi;have a1:=hi.length;have U:∀H:Hp,Only H->`aaZ->HOk P w H `nn->(∀b,`aa_->b=a)->(H a≠`d->`bE a=`d) ->
   `aAl:=by
  intro H hO hS hok hA hK;have J:∀{b:`f} {o:Obj},`Gb b=`ap->`c_->(`Cp).get? b=`ap:=λe n=>Ok0 e n
  have a2:∀{b:`f} {o:Obj} {es:`ps DictEntry} {ep:Nat},`Gb b=`ap->`Zf->`c_:=λ{b o es ep} e d=>by
   cases q:H b with
   | none=>rfl
   | some u =>
    have e':b=a:=`aAm;subst e';rw[ha] at e;cases e;have d':Data.seq `pQ _=Data.dict es ep:=d;cases d'
  have O:∀{b:`f} {m:`a2},`aaW b m->(`Cp).Ns b m:=λ{b m} #[o,es,ep,e,d,r]=>#[o,es,ep,J e (a2 e d),d,r]
  have Y:K.In (`Cp):=λb o e=>J (KX b o e) (by
   cases q:H b with
   | none=>rfl
   | some u =>
    have e':b=a:=`aAm;subst e';rw[hK (`S9)] at e;cases e)
  have hM:Mod K mg (`Cp):=#[Y,O hns,#[mb,O hb,hbb],let #[mc,h1,h2]:=hlim;#[mc,O h1,h2]];have e0:Env0 P w K mg (`Cp) `yB [] `dN H:=#[rfl,hM,λb o e=>Lh0 e,K2 (So0 _ _),`lE,λb hb=>`N (show `SN from hb) `ax,hok,.of_eq hg];refine L9 ((F _ Y (O hns)).run `yB [] `dN H `S8 `d4 `d4 _ _ hr e0 (hbind `dN `c2) `aa0 (hsp H hO hS)) λr s' h=>?_
  refine `e;cases r with
  | error e=>refine `b;exact(hCX H e s' h).elim
  | ok fl =>
   cases fl with
   | next=>refine `b;exact `fk h
   | brk=>refine `b;exact `fk h
   | cont=>refine `b;exact `fk h
   | ret u =>
    let#[v,H',os,bare,un,Z,r',q]:=h;have q':v=`c4:=q;subst q';obtain rfl:u=`Md:=r';refine `b;refine#[rfl,OldK.of_keep `aAn,os,bare];refine `e;cases q:H b with
    | none=>refine `b;exact un.keep b o e q (by intro z;exact `ayH) `ax
    | some u =>
     rcases hO b with z|⟨ob,xs,z⟩
     ·rw[q] at z;cases z
     ·have z2:=un.frzs b ob _ z
      let#[e1,_]:=hok b _ z;let#[e2,_]:=Z b _ z2;rw[e] at e1;cases e1;refine `b;exact e2
 cases hk:`bE a with
 | some o =>
  have e:=KX a o hk;rw[ha] at e;cases e;refine U (`ry) (λ_=>`bQ) (`s #[_,`pQ,_,hk,rfl,rfl,rfl,by rw[`bM,a1];exact hl,`awi]) (λb u z=>by have z':(`d:`rz)=`a?:=z;cases z') (λb z=>`aAo) λz=>`aAo
 | none =>
  refine U (λb=>if b=a then `a (`ir `S5 (`o `yC)) else `d) (λb=>?_) (`t (`s #[`S5,`bc])) (λb u z=>?_) (`Ha) λ_=>hk
  ·by_cases hb:b=a
   ·exact `s #[_,_,`jc]
   ·exact `t (`ic)
  ·by_cases hb:b=a
   ·have z':=(`jc).symm.trans z
    cases z';subst hb;exact#[ha,by rw[`P];exact hl,vs,_,rv,ha]
   ·have z':=(`ic).symm.trans z
    cases z'
  ·by_cases hb:b=a
   ·exact hb
   ·exact `N (`ic) z
def Lr0{l:`aa1}{n k:Nat}{q:`ao}{loose:`j}{XP:`Bm}{YP:`Bn}{d:DefRec}{K:`aAp}{CX:`Q->CXT}{sp:`Q->Sp}{x:Str}
  (hn:`Mb) (hn2:`vT) (hdf:`aaU) (hr:`aaX)
  (hY:`aAq)
  (F:∀(w:`Q) (mg:`a2) (fa:`f) (h:`D),`yE h->`Bp->`aaV ->
   ∃fd:`e1,(`aaY) /\
    ∀base:`D,`yE `l->`BE->`W `ak w `tf mg `l (CX w) k fa fd [x] (sp w))
  (hsp:∀(w:`Q) (H:Hp) (a:`f) (ns:`_),`Cn->Only H->`aAr->sp w `d4 H `Mc `pR)
  (hCX:∀(w:`Q) (H:Hp) (s:`v) (e:`G) (s':`v),CX w [] H s `vU e s'->`b') :
  `aAs:=by
 refine Att.Ym0 hn hdf λw s₀ s₁ mg mb fa o pm cd doc a vs ns G Y ho hd a1 Z U O J hg=>?_
 have KX:=hY w _ Y;let#[fd,hb,hF]:=F w mg fa _ KX G.T.g Z;exact On0 KX G.T.g G.T.b G.T.builtins G.T.nolimit hg U O (C0 J hn2) hr hF hb (λH hO hS=>hsp w H a ns J hO hS) λH e s'=>hCX w H `dN e s'
def V4(s:`a1):Arguments:=match s with
 | `aa2 _ a _ _ _ _ _ _ _ _=>a
 | _=>{ posonlyargs:=[],args:=[],vararg:=`d,kwonlyargs:=[],kw_defaults:=[],kwarg:=`d,defaults:=[] }
def Y8(s:`a1):`b5:=match s with
 | `aa2 _ _ b _ _ _ _ _ _ _=>b
 | _=>[]
def t6(s:`a1):`cz:=match s with
 | `aa2 _ _ _ _ _ _ sc _ _ _=>sc
 | _=>{ kind:=`ne,names:=[],isGenerator:=`p,isCoroutine:=`p }
abbrev CX0:CXT:=λ_ _ _ _ _ _=>`b'
abbrev E0:XK:=`pR
theorem p30:qj0 CX0 X E0:=λ_ _ _ _ _ _ _ h=>`mn
structure Fun(K:`A)(x qual:Str)(st:`a1)(f:`f)(fd:`e1):Prop where
 ex:∃(oc:`G) (od:`bm) (kV doc pm:`G) (an:`bm) (cdv ct:`G) (osl:`h6),
  fd=`Me/\`Cc=`a #[oc,od,`ce fd,osl]/\`aae
 kp:`LD
section
variable{P:`ao}{w:`Q}
def Fun.ok{st:`a1}{f:`f}{k:Nat}(F:`aAt)(S:`Cq)(len:`_4)
  (hbody:∀(cdv:`G) (A:`bT) (outer:`eF) (s:`v) (H:Hp) (vs:`S) (Q:VK) (E:XK),`gJ k (`ym (`FW `eq `jH `U f cdv))->`FP ->
   ∃t,PSs (qc0 CX0 P w K mg `l N `eq `jH f cdv A `b2 s H E).nox `pT t/\`ayN):`W P w K mg `l CX0 `f! f fd ps sp:=by
 refine `e;let#[oc,od,kV,doc,pm,an,cdv,ct,U,rfl,lk,J]:=F.ex;refine `b;refine Nk0 lk J S len λA outer s H vs Q E hr O=>?_
 let#[t,h,q]:=hbody cdv A `b2 s H vs Q E hr O;exact#[t,h.nox,q]
def Fun.binds{st:`a1}{f:`f}{ps:`j}(F:`aAt)
  (h:∀(kV doc pm:`G) (an:`bm) (cdv ct:`G) (us:`K),`kt=`aD->`ru (`Me) `B!=`bI `B'):`y8:=by
 refine `e;let#[oc,od,kV,doc,pm,an,cdv,ct,O,rfl,lk,J]:=F.ex;refine `b;exact .all (h kV doc pm an cdv ct)
theorem K3{st:`a1}{f:`f}{osl:`h6}{kV:`G}(l:`Cc=`a #[oc,od,`ce (`Me),osl])
  (c:`aae) (k:`LD):Fun K x `eq st f (`Me):=#[#[oc,od,kV,doc,pm,an,cdv,ct,osl,rfl,l,c],k]
universe zz
theorem yy0{k:Nat}(hr:`B9):`Cr:=M1 (Nat.add_le_add_left (`aa:1<=64) _) `Mf
structure Same(H H':Hp):Prop where
 old:`aAu
 nf:∀b o xs,`aAv
instance{H H':Hp}:`e5 (`bb) (λ_=>`aAu):=#[Same.old]
theorem Same.refl(H:Hp):`dw H H:=#[λ_ _ h=>h,λ_ _ _ h=>h]
theorem Same.trans{H1:Hp}(a:`dw H H1)(b:`Mg):`dw H H2:=#[λc o h=>b c o (a c o h),λc o xs h=>a.nf c o xs (b.nf c o xs h)]
def Same.free(e:`bb){l:`f}(h:H' l=`aAw):H l=`aAw:=by
 cases q:H l with
 | none=>rfl
 | some o =>
  rw[e l o q] at h;cases h
def Its(x:Str):It:=#[λi _=>i<`Cs,λi H v H'=>H'=H/\∃c,`aa3=`eo/\v=`tp,λi _=>`Cs<=i]
theorem Y10{P:`ao}{w:`Q}{K:`A}{tg:`I}(it:`f)(T:`cd)(hT:T = `aAx∨T = `aAy)(x:Str)(t:Tok) :
  `pD P w K tg (Its x) [it] it (λi h=>h.IsStrIter it T x t i) where
 mem:=`a4
 obj:=λi h st b hb=>by
  have e:b=it:=`ky
  subst e;let#[o,e,c,d]:=st;exact`_w
 keep:=λi h h' st k=>by
  let#[o,e,r]:=st;exact#[o,`alF,r]
 item:=by
  intro X hP hw hK hc i pins s σ H E I hf st hg;refine `e;subst hP hw hK;have U:i<`Cs:=hg;have hx:`aa3=`a `amy:=`aua
  let#[f0,f1,f2,f3,f4,f5]:=`oD;have fin:∀h',h'.IsStrIter it T x t `es->`sY it `ar h' ->
    ∃u,(`a (`E5 `aAz `bf))=`a?/\`q `am X.A `_q (λ_ s2=>∃x_1 H',`_r/\`dp x_1 u/\(Its x).yld i H x_1 H'/\s2.heap.IsStrIter it T x t `es/\∀b∈[it],`m2) E `Mh:=by
   intro h' J sb;have I1:Inv X `i σ H `Mh:=`Fx `Sp f0 f1 f3 f4 f5;let#[o,e,c,d]:=id J;refine#[_,rfl,cx0 (s:=`Mh) (n:=T) e c d (by rcases hT with rfl|rfl<;>decide) #[`u `aAz,H,I1,`ad,#[rfl,_,hx,rfl],J,`Ln]]
  rcases hT with rfl|rfl
  ·refine `b;exact wpAny_pyNext_ascii_item st hx `aAA
  ·refine `b;exact wpAny_pyNext_wide_item st hx `aAA
 done:=by
  intro X hP hw hK hc i pins s σ H E I hf st hg;refine `e;subst hP hw hK;have O:`Cs<=i:=hg;have hx:`aa3=`d:=by simp[O]
  let#[f0,f1,f2,f3,f4,f5]:=`oD;rcases hT with rfl|rfl
  ·refine `b;exact wpAny_pyNext_ascii_end `hc st hx `BW
  ·refine `b;exact wpAny_pyNext_wide_end `hc st hx `BW
 self:=λ_ _ _ _ _ st h=>by
  rcases hT with rfl|rfl
  ·exact wpAny_pyIter_striter_ascii st h
  ·exact wpAny_pyIter_striter_wide st h
def Fs0(te:TE):TI:=fun σ H R=>te σ H λv H1=>∃x,`Mi/\R (Its x) H1
def I70(he:`gp):PI X tg e (Fs0 te):=by
 intro pins s σ H R I h;refine thn `h9 λv s1 hq45=>?_;refine `e;let#[y,H1,I1,r1,q1]:=hq45
 let#[x,rfl,q]:=q1;let#[t,rfl]:=r1;have fp:∀(o:Obj),∀b∈`BY,qp0 X `i H1 b:=λo b hb=>by
  have e:b=`f8:=`ky
  subst e;exact `vx
 cases ha:x.cps.all (·<128) with
 | true =>
  refine `b;exact wpAny_pyIter_ascii ha #[`f8,`BY,_,_,H1,rfl,`Lo,Y10 _ `aAx `f3 x t,`Lp,`aAB,q]
 | false =>
  refine `b;exact wpAny_pyIter_wide ha #[`f8,`BY,_,_,H1,rfl,`Lo,Y10 _ `aAy `Ck x t,`Lp,`aAB,q]
def Y5(X:Cx)(scope:`cz)(cl:`rL)(N':`j)(s:`v)(H:Hp)(ex:`aS):Cx :=
 { X with N:=N',s₀:=s,H₀:=H,env:=compEnvC `dd cl `U `w,outer:=`gE,ex:=ex,fn:=λ_=>`p,pn:=[],xe:=`lt }
structure CompOk(sc scope:`cz)(N N':`j)(n:Nat)(caps:`m):Prop where
 kind:scope.kind=`ne
 nocell:∀y∈`gM,`aAC
 loc:∀y∈`gM,`aAD
 free:∀y∈`gM,`aAE
 nd:N'.Nodup
 len:`aAF
 cap:∀k∈`bF `tg,`aAG
def G3(n:Nat)(caps:`m)(σ:St):St:=`aW n `d++`aAH
def Rh0(n:Nat)(caps:`m)(σ:St):`aAI=n+`tg:=by simp[G3]
theorem qn0{env:Env}:∀(names:`aAJ),(∀x∈`kJ,`aAK)->∀acc:`rL,
  ∃cl:`rL,(`tU `kJ acc (λ(x:`amD) (cs:`rL)=>if (x.2==`jx)=`c then do let a ← cellOf env x.1;`bI (`Gj ((x.1,a)::cs)) else `bI (`Gj cs)):Sem (`rL))=`bI cl /\
   (∀y c,`aa4->`Gg y=`eo∨`aAL)/\(∀x∈`kJ,`aa5)/\(∀y c,`aAL->∃c',`yF y=`a c')
 | [],_,acc=>#[acc,rfl,λ_ _ h=>`Mj,(λ_ h=>nomatch h),λ_ c h=>#[c,h]]
 | `aa6,h,acc=>by
  refine `e;cases hk:(`Td) with
  | true =>
   have hk':k=`jx:=by simpa using hk
   let#[c,hc]:=h `Gh B0 hk';let#[cl,e,h1,h2,h3]:=qn0 r (`vV) ((n,c)::acc);refine `b;refine#[cl,?_,`aAM,`aAN,`aAM]
   ·rw[`Mk]
    simp only[hk,`eY,cellOf,hc,pure_bind];exact e
   ·rcases h1 y d hy with z|z
    ·exact `gc
    ·rw[`gs] at z
     cases q:(y==n) with
     | true =>
      rw[q] at z;cases z;have:y=n:=`_A
      subst this;exact `t hc
     | false =>
      rw[q] at z;exact `s z
   ·rcases `rM with rfl|hx
    ·exact h3 n c (by simp[`gs])
    ·exact `aAO
   ·by_cases q:y=n
    ·subst q
     exact h3 y c (by simp[`gs])
    ·refine h3 y d ?_
     have:(y==n)=`p:=`_A
     rw[`gs,`E];exact hy
  | false =>
   let#[cl,e,h1,h2,h3]:=qn0 r (`vV) acc;refine `b;refine#[cl,?_,h1,`aAN,h3]
   ·rw[`Mk]
    simp only[hk,`oM,`cS,pure_bind];exact e
   ·rcases `rM with rfl|hx
    ·have:k=`jx:=hf
     rw[`E] at hk;exact `N hk `r
    ·exact `aAO
def pa0{env:Env}(h:∀x∈`gM,`aAK) :
  ∃cl:`rL,`aAP `dd env=`bI cl/\(∀y c,`aa4->`Gg y=`eo)/\∀x∈`gM,`aa5:=by
 let#[cl,e,h1,h2,_]:=qn0 `gM h [];refine#[cl,?_,λy c hy=>(h1 y c hy).elim id `dy,h2];simp only[`aAP];rw[← bind_pure (`tU _ _ _)] at e
 first
  | exact e
  | (refine Eq.trans ?_ e;rfl)
theorem ty0{env:Env}:∀(names:`aAJ) (x:Str),
  (`Ac `aa7).lookup x =
   (names.lookup x).map λk=>`aa8
 | [],_=>rfl
 | `aa6,x=>by
  have ih:=@ty0 env r x;have l1:`h? x ((`aa6).map `aa7) =
    `h? x ((if `aAQ then (n,`yG) else `Gh)::r.map `aa7):=rfl
  rw[l1,`gs (as:=r)]
  by_cases hc:`aAQ
  ·rw[`V hc,`gs]
   cases hx:x==n with
   | true =>
    have e:x=n:=`aAR
    subst e;show `a `yG=`a (`aa8);rw[`V hc]
   | false=>exact ih
  ·rw[`Ct,`gs]
   cases hx:x==n with
   | true =>
    have e:x=n:=`aAR
    subst e;show `eW=`a (`aa8);rw[`Ct]
   | false=>exact ih
section
variable{w:`Q}{R:`mf}{s:`v}
def Z60{elt target iter:`I}{ifs:`bA}{scope:`cz}{pos:Pos}{it acc:`G}{env:Env}(I:`aa9)
  (turn:∀n s,I n s->`q `ag A (`zk it) (λr s₁=>match r with
   | `d=>R `aAS `dN
   | `bL=>`q `ag A (`alE `Gk it v) (λ_ s₁'=>`q `ag A (`hx `Gk env v) (λ_ s₂ =>
     `q `ag A (`tU ifs `c λc r=>if r=`c then do let ok ← `Fn c env (`aY c env);`aAT else `aAU) (λok s₃ =>
      if ok=`c then `q `ag A (`aY elt env) (λx s₄ =>
       `q `ag A (`d_ (`bo `aAb) [acc,x]) (λ_ s₅=>∃m,m<n/\I m s₅) `oN s₄) `oN s₃
      else ∃m,m<n/\I m s₃) `oN s₂) `oN s₁') `oN `dN) `oN s)
  (n:Nat) (h:I n s) :
  `f_ `ag A (.compLoop `aAV 0 it acc env) R s:=by
 refine codeAny_loop rfl I (λn s hI=>?_) n h;show `q _ A ((compTurn `aAV 0 it acc env).onRaise (λx=>do `Cu x env;theTreesLotGoes x)) _ _ s;refine wpAny_noted ?_;rw[compTurn_list];refine A1 (Y3 (A1 (C9 (turn n s hI) (λr s₁ h₁=>?_) `vW)));cases r with
 | none=>exact A2 h₁
 | some v =>
  refine A1 (C9 h₁ (λ_ s₁' J=>?_) `vW);refine A1 (C9 J (λ_ s₂ h₂=>A1 (C9 h₂ (λok s₃ h₃=>?_) `vW)) `vW);cases ok with
  | false=>exact A2 #[rfl,h₃]
  | true =>
   exact A1 (A1 (C9 h₃ (λx s₄ h₄=>A1 (C9 h₄ (λ_ s₅ h₅=>A2 (A2 #[rfl,h₅])) `vW)) `vW))
universe zz
def PF(X:Cx)(ifs:`bA)(t:TT):Prop :=
 ∀(pins:`aw) (s:`v) (σ:St) (H:Hp) (Q:`BN),`C->`nA ->
  `q `am X.A (`tU ifs `c λc r=>if r=`c then do let ok ← `Fn c `w (`aY c `w);`aAT else `aAU) `ZZ `aH s
theorem I80:PF X [] λ_ H Q=>Q `c H:=λ_ _ _ H _ I h=>wpAny_tests_nil #[H,I,h]
theorem Ig0{c:`I}{t:TT}(h:PT X c t):PF X [c] t:=λpins s σ H Q I q=>wpAny_tests_one (h `i s σ H Q I q)
def Wk(σ σ':St):Prop:=`ZP/\∀(j:Nat) (v:V),`aa'->σ'[j]?=`mZ
def cr0(n:Nat)(caps:`m)(wi:TI)(g:TG)(tt:TT)(te:TE):TE:=fun σ H Q=>wi σ H λJ H1=>∀D,H1 D=`d ->
 ∃W:`aAW,(∃m,W 0 m [] (upd H1 D `gY))/\∀i m ys H2,`aAX ->
  `aAY∨(J.go i H2/\∀x H3,`aAZ->g x `fn H3 fun σ4 H4=>`aA_/\tt σ4 H4 λb H5 =>
   `aA0)
section
variable{wi:TI}{g:TG}{tt:TT}
def Ho0(X:Cx)(pins:`aw)(H:Hp)(C:`f):Prop :=
 H C=`d/\C≠`f4/\`m0<=C/\(∀x c,`jy->c≠C)/\∀p∈`sX,p.1≠C
def dl0{pins:`aw}{σ:St}{H2:Hp}{s2:`v}{it:`f}{fp:`aS}{tn:`_n}{J:It}{cl:`rL}{Q:VK}{RR:`G->`f->`mf}{E:`aj}
  (hc:`bx) (hsc:`fP) (ok:`oO)
  (hcl1:∀y c,`aa4->`au9) (hcl2:∀x∈`gM,`aa5)
  (hg:∀s H ex,`amL) (ht:∀s H ex,`amM) (he:∀s H ex,`amN)
  (I2:`awW) (T:`awv) (st2:`aww) (f2:∀b∈fp,qp0 X `i H2 b)
  (q:∀D,H2 D=`d->∃W:`aAW,(∃m,W 0 m [] (upd H2 D `gY))/\∀i m ys H2,`aAX ->
   `aAY∨(J.go i H2/\∀x H3,`aAZ->g x `fn H3 fun σ4 H4=>`aA_/\tt σ4 H4 λb H5 =>
    `aA0))
  (hend:∀(D C:`f) (H':Hp) (s':`v) (m:`a2),`mk->Ho0 X `i H' C->s'.heap.Ns C m->Q `pW H'->RR `pW C `aAS s') :
  `q `am X.A (`aa!) (λacc s₃=>`q `am X.A (newFunctionEnv `dd `Se cl [] X.env.qual `d `af (`a `w)) (λcenv s₄ =>
   `f_ `am X.A (.compStart `nr 0 `pC acc { cenv with scope:=`amI }) (RR acc cenv.locals) s₄) E s₃) E s2:=by
 refine L4 (wpAny_newFunctionEnv ok.nocell (by intro y hy;simp at hy) (λh₁ a2 Z=>?_) `x9);dsimp only at a2 Z ⊢;obtain⟨D,hD⟩:∃D,D=`Cv:=`ad;have I3:Inv X `i σ (upd H2 `Cv `gY) `aA1:=I2.lnew (its:=[]) (t':=`Tf) `X `rN;have d1:H2 `Cv=`d:=I2.fresh;let#[W,#[m0,w0],c3]:=q `Cv d1;generalize hs3:(`aA1:`v)=s3 at *;have b3:`amG=s3.heap:=`Ml
 have i0:`Tf=s3.toks:=`Ml
 rw[b3] at a2 Z ⊢;generalize hH3:upd H2 `Cv (`V4 [])=H3 at *;rw[← hD] at c3 hH3 d1 ⊢;have old:∀b o,`aA2->`aa?:=λb o e=>Z.extBut b o `_a (`pF)
 have a7:∀b o,s2.heap.get? b=`ap->`aA2:=λb o e=>by rw[← b3];exact `pF
 have d2:∀b∈fp,b<`tb:=λb hb=>by
  let#[o,e,_]:=`aA3;exact A5 `aA4
 have h4:∀b∈fp,b≠D:=λb hb z=>by
  let#[o,e,_]:=`aA3;rw[z,hD] at e;exact `N `m3 `mi
 obtain⟨X',O⟩:∃X',X'=`aA5:=`ad;have g7:X'.Ok:=by
  subst O;refine#[I3.ok.mod,`x9,I3.ok.glob,I3.ok.blt,`ho,λx y c h1 h2=>I3.ok.inj x y c (hcl1 x c h1) (hcl1 y c h2),`kK,λx c h _=>`N h (by simp[Y5]),I3.ok.hd,I3.ok.frames,`bQ,
   λb hb=>#[`aA6,`aA7],λb o e=>I3.bs b o e,C0 I3.ok.bsz I3.sz,λb o e hb=>?_,λb hb hf=>?_,I3.stack,I3.stkFree]
  ·have a3:(`yJ=`jw)∨(`yJ=`ls):=hx
   have q2:=ty0 (env:=`w) `gM x;have q3:`aA8:=q2
   cases e:`s8 x with
   | none =>
    rw[q3,e] at a3;rcases a3 with z|z<;>cases z
   | some k =>
    have hk:k=`jx:=by
     rw[q3,e] at a3;have nc:=ok.nocell (x,k) (L3 e);cases k<;>first
      | rfl
      | exact `N rfl nc
      | (rcases a3 with z|z<;>simp at z)
    subst hk;exact hcl2 `aba (L3 e) rfl
  ·rcases `aA9 with z|z
   ·exact I3.ok.noex b o e z
   ·exact `N (B7 (A5 (I3.ok.bs b o e).1) z) `mi
  ·rcases `aA' with z|z
   ·exact`abb z
   ·exact(`lu).2.2.1 z
 have I4:Inv X' [] `fn H3 `aA!:=by
  refine#[g7,?_,?_,?_,?_,`tR,?_,`tR,`gf,(by subst O;exact I3.hok.kept old),?_]
  ·subst O;rfl
  ·exact I3.bare
  ·subst O;exact `K4 old
  ·subst O
   refine#[_,a2,`ZL];refine `e;have hi:n<=i:=by
    by_cases hi:i<n
    ·unfold G3 at e2
     rw[`LM,`rI,`V hi] at e2;cases e2
    ·lia
   obtain⟨k,rfl⟩:∃k,i=n+k:=#[i - n,`J];have hk:k<`tg:=by
    have:=(`ds e1).1;have e5:(`aA5).N.length=n+`tg:=ok.len;lia
   let#[c1,c2]:=ok.cap k (`gl hk);have e8:`S?=`dn:=e1;unfold G3 at e2;rw[`aA?,`vN,`aBa,`cp] at e2;obtain⟨j,hj⟩:∃j,`Ta=`LZ:=#[caps[k],by simp[hk]];rw[hj] at e2 c1;have f6:X.N[j]?=`dn:=by rw[← e8,c1];rfl
   have a6:`Tb=`bL:=A4 e2;have f5:`aa':=by
    cases q:`th with
    | none=>rw[q] at a6;cases a6
    | some o=>rw[q] at a6;rw[show o=`bL from a6]
   rw[e8] at c2;have U:`s8 x=`ls:=by simpa using c2
   have c4:=ok.free `aba (L3 U) rfl;let#[m,hn,hl]:=I3.loc;let#[u,ru,l]:=hl j x v f6 f5 (by
    rcases c4 with z|z
    ·exact `s (`t `aBb)
    ·exact `s (`s `aBb))
   refine `b;refine#[u,ru,`s `Mm]
   ·have q3:`aA8:=ty0 `gM x
    rw[U] at q3;show `yJ=_∨`yJ=_;rw[q3]
    by_cases hcc:(`Tc==`Tc&&`amJ&&`amK)=`c
    ·left;simp only[`id,`V hcc]
    ·right;simp only[`id,`al hcc]
   ·refine `e;let#[c',c8]:=hcl2 `aba (L3 U) rfl
    rcases l with⟨f9,_⟩|⟨_,c,f7,c5⟩
    ·have b2:`Fh:=f9
     rw[hsc] at b2;refine `b;rcases c4 with z|z<;>(rw[b2] at z;cases z)
    ·have:=hcl1 x c' c8
     rw[f7] at this;cases `E;let#[o,ho,hd]:=c5;refine `b;exact#[_,c8,o,`aBc,hd]
  ·have e':`yF x=`eo:=`aBd
   let#[v,o,ho,hd]:=I3.cell x c (hcl1 x c e');exact#[v,o,`aBc,hd]
  ·subst O;exact I3.hok.fresh `bj
  ·have e':`yF x=`eo:=`aBd
   exact I3.freeC x c (hcl1 x c e')
  ·subst O;exact `aBe
  ·subst O
   show _=`amA;rw[Rh0,ok.len]
 have a8:X'.calm=`c:=by subst O;exact hc
 have Y:∀{H':Hp},`vy->∀b∈fp,qp0 X' [] H' b:=λ{H'} hn b hb=>by
  subst O;refine#[hn b hb,`aA6,λhf=>?_,`t hb,`aA7,λp hp=>`aBe];rcases `aA' with z|z
  ·exact`abb z
  ·exact(`lu).2.2.1 z
 have h5:∀b∈fp,H3 b=`d:=λb hb=>by rw[← hH3,m5 (h4 b hb)];exact(`lu).1
 have e6:tn 0 h₁:=T.keep _ _ _ st2 λb hb o e=>old b o `aA4
 have loop:∀s4:`v,s4=`aA! ->
   `f_ `am X.A (.compLoop `nr 0 `pC `pW X'.env) (RR `pW `tb) s4:=by
  rintro s4 rfl;refine Z60 (λk s'=>∃i ys H',Inv X' [] `fn H' s'/\`awT/\`vy/\W i k ys H') ?_ m0 #[0,[],H3,I4,e6,h5,w0];rintro k s5 ⟨i,ys,H5,I5,e4,e0,w5⟩;have eP:X'.prog=`aR:=`Cw
  have ew:X'.w=X.w:=`Cw
  have eK:X'.K=X.K:=`Cw
  have eA:X'.A=X.A:=`Cw
  rcases c3 i k ys H5 w5 with⟨stop,qe⟩|⟨go,step⟩
  ·have T':=T.done X' eP ew eK a8 i [] s5 `fn H5 `oN I5 (Y e0) e4 stop
   rw[eA] at T';refine thn T' λr s6 hq46=>?_;let#[hr,I6]:=hq46
   subst hr;have h7:Un (`vt) fp H3 H5 s3.heap s6.heap:=by have:=I6.base;subst O;exact `E
   have g6:s6.os=s3.os:=by have:=I6.os;subst O;exact `E
   have f0:HOk `aR X.w H5 s6.heap:=by have:=I6.hok;subst O;exact `E
   have IX:Inv X `i σ H5 s6:=I3.call' g6 h7 f0 I6.bare λb hb=>#[`aA9,`abb,`amH,(`lu).2.2.2.2.2]
   let#[m6,h8,_]:=I6.loc;have f1:s6.heap.Ns `tb m6:=by subst O;exact h8
   refine hend D `tb H5 s6 m6 IX #[by have:=I6.free;subst O;exact `E,C6 I3.lt,I3.sz,`_l,`_m] f1 qe
   ·let#[v,qc]:=I3.cell x c e
    exact `N (B7 qc.lt `aBf) `mi
   ·exact `N (B7 (A5 (I3.pin p hp).1) `aBf) `mi
  ·have T':=T.item X' eP ew eK a8 i [] s5 `fn H5 `oN I5 (Y e0) e4 go
   rw[eA] at T';refine thn T' λr s6 hq47=>?_;let#[u,hr,h6]:=hq47
   subst hr;refine thn h6 λ_ s7 hq48=>?_;refine `e;let#[x,H7,I7,r7,y7,b0,g8]:=hq48
   have h9:=I7.pinned (Y g8) (`yH _ _ b0);have e9:=hg s3 H3 fp;have d3:=ht s3 H3 fp;have e7:=he s3 H3 fp;rw[← O] at e9 d3 e7;have g1:=e9 _ s7 `fn H7 x u _ h9 r7 (step x H7 y7);rw[eP,ew,eA] at g1;have a5:X'.xe=`lt:=`Cw
   rw[a5] at g1;refine `b;refine thn g1 λ_ s8 hq49=>?_;let#[σ8,H8,I8,a4,q8]:=hq49
   have t1:=d3 _ s8 σ8 H8 _ I8 q8;rw[eP,ew,eA,a5] at t1;refine thn t1 λb s9 hq50=>?_;let#[H9,I9,q9]:=hq50
   have back:∀{σa:St} {Ha:Hp} {sa:`v} {b1:`S} {ma:Nat},Inv X' ([]++mo0 fp s7.heap) σa Ha sa->σa.length=`aAI->(∀(j:Nat) v,`fn[j]?=`mZ->σa[j]?=`mZ)->W `es ma b1 Ha ->
     ∃i ys H',Inv X' [] `fn H' sa/\tn i sa.heap/\`vy/\W i ma ys H':=λ{σa Ha sa b1 ma} Ia hl hw wa=>by
    refine#[i+1,b1,Ha,(Ia.weak hl.symm hw).unpinned,T.keep _ _ _ b0 λb hb o e=>(`aBg).1,`iv,wa];let#[o,e,d]:=`yH _ _ b0 b hb;exact(`aBg).2.1
   cases b with
   | false =>
    rw[`oB];rw[`oB] at q9;let#[m',hm,w9]:=q9;exact#[m',hm,back I9 a4.1 a4.2 w9]
   | true =>
    rw[`bc];rw[`bc] at q9;have e1:=e7 _ s9 σ8 H9 _ I9 q9;rw[eP,ew,eA,a5] at e1;refine thn e1 λv g9 hq51=>?_;refine `e;let#[y,g3,f8,g5,f4,f3,m',hm,h3]:=hq51
    have a1:=po0 (X:=X') _ g9 σ8 g3 `pW [y] `pW [v] (λ_ H'=>W `es m' (ys++[y]) H') f8 rfl (`aq g5 `X) #[D,ys,y,rfl,rfl,f4,f3,h3];rw[eP,ew,eA,a5] at a1;refine `b;refine thn a1 λ_ j2 hq52=>?_;let#[_,j1,g4,_,h0]:=hq52
    exact#[m',hm,back g4 a4.1 a4.2 h0]
 subst O;exact codeAny_compStart_list (loop _ (`Ml)) (T.self X.A 0 _ _ _ e6 (loop _ (`Ml)))
def fj0(hc:`bx)(hsc:`fP)(ok:`oO)(hi:`_B)
  (hg:`aBh) (ht:`aBi) (he:`aBj)
  (hs:`eG:=by intro _;rfl) :
  PE X `nr (cr0 n `cM wi g tt te):=by
 intro pins s σ H Q I h;let#[cl,O,Y,U]:=pa0 (env:=`w) (scope:=`dd) λx hx hf=>`ZU x.1 (by
  rcases `aBk with z|z
  ·exact `aBl
  ·exact `aBm)
 rw[eval_ListComp];refine Cn0 (use:=`d) rfl hs O `x9 ok.loc (thn `BZ λv s1 h1=>thn h1 λa2 s2 h2=>?_);refine `e;let#[it,fp,tn,J,H2,rfl,I2,T,Z,f2,q2]:=h2;refine `b;refine dl0 (Q:=Q) (RR:=λa1 C=>compPost `am X.A `aH `d `fj a1 C) hc hsc ok Y U (hg cl) (ht cl) (he cl) I2 T Z f2 q2 ?_;intro D C H' s' m IX as hn qe;refine#[m,hn,λh' sb=>#[`z D,H',IX.turned (t':=s'.toks) `Sp as.1 as.2.1 (`s as.2.2.1) `abc `aBn,rfl,qe]]
def ow0{py spos:Pos}(hN:`ek)(hiN:`kL)(hy:`ie)(hc:`bx)(hsc:`fP)(ok:`oO)(hi:`_B)
  (hg:`aBh) (ht:`aBi) (he:`aBj)
  (hsw:`Mn:=by rfl)
  (hs:`eG:=by intro _;rfl)
  (hf:`ig:=by first|exact `bQ|exact `b?|assumption) :
  PS X `TR (λD σ H=>cr0 n `cM wi g tt te σ H `aBo):=by
 intro pins s σ H D I h;let#[cl,O,Y,U]:=pa0 (env:=`w) (scope:=`dd) λx hx hf=>`ZU x.1 (by
  rcases `aBk with z|z
  ·exact `aBl
  ·exact `aBm)
 rw[exec_Assign_Name_used _ _ _ _ hsw];refine A1 (Y3 `KL);show `q _ X.A (do let _ ← comprehension `nr `dd `w _ (`aa!) `p (`aY `jC `w) (`abd)) _ _ s;refine A1 (C9 (Cn0 (use:=`abd) (Q:=`aBp) rfl hs O `x9 ok.loc
  (thn `BZ λv s1 h1=>thn h1 λa6 s2 h2=>?_)) (λ_ s' hq=>A2 (A2 hq)) `ZO)
 refine `e;let#[it,fp,tn,J,H2,rfl,I2,T,a1,f2,q2]:=h2;refine `b;refine dl0 (Q:=`aBo) (RR:=λa3 C=>compPost `am X.A `aH (`abd) (`aBp) a3 C) hc hsc ok Y U (hg cl) (ht cl) (he cl) I2 T a1 f2 q2 ?_;intro Da C H' s' m IX as hn qe;show `q _ X.A (`hx `Go `w (`z Da)) _ _ _;refine `awh (dj0 IX hN hiN hy (v:=`z Da) rfl (λa5 a4 hq53=>?_) hf);let#[a,sb,ha]:=hq53;have Z:C≠a:=by
  rcases ha with z|z
  ·rw[z];exact as.2.1
  ·exact A9 (`abc y a z)
 refine#[m,`avI sb Z,λh' a2=>#[_,H',a4.turned (t':=a5.toks) (λb o hb e=>(a2.2 b hb).trans e) as.1 as.2.1 (`s as.2.2.1) `abc `aBn,qe]]
universe zz
universe L2
namespace DL
open Spec PyProof.Rows
inductive D where
 | non|bl (b:`M)|int (i:Int)|str (x:Str)|tup (ds:`n)|lst (ds:`n)|dct (ks:Sum (`abe) (`ah (`abe))) (ds:`n)|fn (ks:`abe) (ds:`n)
 deriving Inhabited
variable{items ns ds:`Gq}{q:`aBq}{d0 d' b' n':DL.D}
@[simp] def unl:`kM
 | `y [_,d]=>d
 | d=>d
@[simp] def isL:`cA
 | `Cx=>`c
 | _=>`p
inductive Sl where
 | un|sh (d:D)|ow (d:D)
 | ex (c:Str) (n:`a5)
abbrev Ds:=`ah Sl
inductive Res where
 | nx (δ:Ds)|rt (d:D)|bk (δ:Ds)|ct (δ:Ds)|rf (d:D)
variable{f:`aBr}{g ge gb:`aBs}{gt:`aBt}{δ':`nt}{gi gA:`aBu}{gl gh:`aBv}
abbrev GE:=`cq
abbrev GB:=`gt
variable{g0 go g1:DL.GE}
abbrev GA:=`fQ
abbrev GS:=`jd
@[simp] def asB:D->`pZ
 | `dK=>`nv
 | _=>`d
variable{G Gh:DL.GS}
@[simp] def asI:D->`a5
 | `bi=>`qB
 | _=>`d
@[simp] def gv(i:Nat):GE:=fun δ=>match `cb with
 | `Tz=>`bw
 | _=>`d
@[simp] def gc(d:D):GE:=λ_=>`bw
@[simp] def o2(ga gb:GE)(f:`bn):GE:=fun δ=>`vX λx=>`abf λy=>f x y
@[simp] def ob(g:GE):GB:=fun δ=>`cB asB
@[simp] def yn0(g:GB):GB:=fun δ=>`rO (!·)
@[simp] def uk0(gt gu:GB):GB:=fun δ=>`tm λt=>if `yO then gu δ else `bC
@[simp] def yr0(gt gu:GB):GB:=fun δ=>`tm λt=>if `yO then `e6 else gu δ
@[simp] def pu0(ga gb:GE):GE:=fun δ=>`aBw λt=>if `yO then `et else `vY
@[simp] def orG(ga gb:GE):GE:=fun δ=>`aBw λt=>if `yO then `i5 else `et
@[simp] def Qz0(ga:GE):GE:=fun δ=>(`amR).map λt=>.bl (!t)
@[simp] def v6:GA:=`aBx
@[simp] def z7(g:GE)(gA:GA):GA:=fun δ=>`cB λd=>(`cO).map λds=>`aB
@[simp] def y00(gA:GA):GE:=fun δ=>`gX λds=>if `vZ then `Mo else `d
@[simp] def U5(gA:GA):GE:=fun δ=>`gX λds=>if `vZ then `rP else `d
@[simp] def oA(gA:GA)(f:`T):GE:=fun δ=>`gX f
@[simp] def z80(f:`cA)(g:GE):GE:=fun δ=>`rO λd=>.bl (f d)
@[simp] def U4(d:D):`d5:=match d with
 | `bi=>`a (`g (-i))
 | _=>`d
@[simp] def unG(f:`yM)(g:GE):GE:=fun δ=>`cB f
@[simp] def v8(G1 G2:GS):GS:=fun δ=>match `fo with
 | `d6=>`oP
 | r=>r
@[simp] def t7:GS:=`aBy
@[simp] def V0(g:GE):GS:=fun δ=>`rO .rt
@[simp] def gN(i:Nat):`a8:=λd δ=>`a `Mp
@[simp] def Z7(f:`a8)(g:GE):GS:=fun δ=>`cB λd=>(`tn).map .nx
@[simp] def ifD(gt:GB)(Ga Gb:GS):GS:=`aBz
def y70(f:`a8)(G:GS):`n->`jd
 | [],δ=>`yN
 | `aB,δ=>match `aBA G with
  | `d6=>`aBB
  | `Mq=>`aBB
  | `Mr=>`d6
  | r=>r
@[simp] def th0(gi:GA)(f:`a8)(G:GS):GS:=fun δ=>`v_ λitems=>`abg
@[simp] def cy0:`abh
 | `ci=>`p1
 | _=>`d
@[simp] def Nu0:`abh
 | `ch=>`p1
 | _=>`d
def signs(x:Str):`n:=x.cps.toList.map `aBC
@[simp] def Xr0:`abh
 | `b1=>`a (`je x)
 | _=>`d
@[simp] def uo0(g:GE):GA:=fun δ=>`cB cy0
@[simp] def tupI(g:GE):GA:=fun δ=>`cB Nu0
@[simp] def j40(g:GE):GA:=fun δ=>`cB Xr0
def zf0(lo hi:Int):`n:=(`bF `s2).map λk=>`g (lo+(k:Nat))
@[simp] def U10(ds:`n):`ti:=match ds with
 | [`f']=>if -(`ft)<=j/\j<`ft then `a (zf0 0 j) else `d
 | _=>`d
@[simp] def u00(gA:GA):GA:=fun δ=>`gX U10
@[simp] def noT:GB:=λ_=>`e6
@[simp] def lz0:`Ms->Sl
 | `Tz=>`gb
 | _=>.un
@[simp] def zl0(n:Nat)(caps:`m)(δ:Ds):Ds:=`aBD++`aBE
def zk0(f:`a8)(gt:GB)(ge:GE)(δ:Ds):`Mt
 | []=>`p_
 | `aB=>match `tn with
  | `d=>`d
  | `p0=>match `Cy with
   | `d=>`d
   | `bC=>`aBF
   | `e6=>match `Gu with
    | `d=>`d
    | `fc=>(`aBF).map λr=>y::r
@[simp] def T4(n:Nat)(caps:`m)(gi:GA)(f:`a8)(gt:GB)(ge:GE):GE :=
 fun δ=>`v_ λitems=>if `rQ then `aBG `o else `d
@[simp] def S7(N:`j)(ds:`n):Ds:=ds.map .sh++`aW (`Cb - `bR) .un
@[simp] def isInt:`cA
 | `co=>`c|`bN=>`c|_=>`p
@[simp] def isStr:`cA
 | `bq=>`c|_=>`p
@[simp] def isBool:`cA
 | `bN=>`c|_=>`p
@[simp] def isTup:`cA
 | `Cx=>`c|_=>`p
@[simp] def ii(f:Int->Int->`d5):`bn
 | `bi,`f'=>f i j
 | _,_=>`d
@[simp] def z70:`bn:=ii λi j=>`a (`g (i - j))
@[simp] def d7:`bn:=ii λi j=>if `Lv then `aBH else `d
@[simp] def m7:`bn:=ii λi j=>if 0<j then `abi else `d
@[simp] def mz0:`bn:=ii λi j=>if `_H then `a (`alQ) else `d
@[simp] def ltD:`bn:=ii λi j=>`a (.bl (`B (i<j)))
@[simp] def leD:`bn:=ii λi j=>`a (`alR)
@[simp] def gtD:`bn:=ii λi j=>`a (.bl (`B (j<i)))
@[simp] def geD:`bn:=ii λi j=>`a (`alS)
@[simp] def eqS:D->D->`pZ
 | `x,`x=>`e6
 | `x,`co=>`bC|`co,`x=>`bC|`x,`bN=>`bC|`bN,`x=>`bC|`x,`bq=>`bC|`bq,`x=>`bC
 | `bi,`f'=>`abj
 | .bl i,.bl j=>`abj
 | `u i,`u j=>`abj
 | `co,`bq=>`bC|`bq,`co=>`bC|`bN,`bq=>`bC|`bq,`bN=>`bC
 | _,_=>`d
@[simp] def eqD(x y:D):`d5:=`aBI .bl
@[simp] def neD(x y:D):`d5:=`aBI λb=>.bl (!b)
@[simp] def Gn0:`cA
 | `x=>`c|_=>`p
@[simp] def nm0(x y:D):`d5:=match y with
 | `x=>`a (.bl (Gn0 x))
 | _=>`d
def ixN(n:Nat)(i:Int):`LY:=`azu
def atI{α:Type}(xs:`aT)(i:Int):`aL α:=`azv
@[simp] def ixD:`bn
 | `c1,`bi=>`yu
 | `eT,`bi=>`yu
 | `jF,`bi=>if `td then (`azB).map `aBC else `d
 | _,_=>`d
def sIx(n d:Nat):`ayV
 | `d=>d
 | `bL=>`LO
def cutD(xs:`n)(lo hi:`a5):`n:=(`u6 (`abk)).take (`aBJ - `abk)
abbrev GO:=`Cz
@[simp] def yo0:GO:=λ_=>`b8
@[simp] def someO(g:GE):GO:=fun δ=>`cB λd=>(asI d).map `a
@[simp] def T8:`T
 | `F5=>if `td then `a (`SZ) else `d
 | [`c1]=>`aBK
 | [`eT]=>`aBK
 | _=>`d
def jx0:`n->`aL (`j)
 | []=>`p_
 | `nN::ds=>(jx0 ds).map λr=>b::r
 | _=>`d
@[simp] def cu0(d:D)(ds:`n):`d5:=match d,ds with
 | `u sep,[`c1]=>(jx0 xs).bind λys=>if `aBL then `a `aBM else `d
 | _,_=>`d
@[simp] def nv0(g:GE)(gA:GA):GE:=fun δ=>`cB λd=>`gX λds=>cu0 d ds
@[simp] def yw0:`T
 | `CA=>`Mo
 | [`ch]=>`Mo
 | _=>`d
theorem qe0{gt:GB}{ge:GE}{δ:Ds}(p:`cA)(h:`kM):∀{items:`n},(∀d∈`ba,∃δ',`abl/\`Cy=`a (p d)/\(p d=`c->`aBN)) ->
  `aBO=`a ((items.filter p).map h)
 | [],_=>rfl
 | `aB,H=>by
  let#[δ',e1,e2,e3]:=H d B0;have ih:=qe0 p h λd hd=>H d (A7 _ hd)
  unfold zk0;rw[e1];dsimp only;rw[e2];cases hp:p d with
  | false =>
   dsimp only;rw[List.filter_cons_of_neg (`abm)];exact ih
  | true =>
   dsimp only;rw[e3 hp,ih,List.filter_cons_of_pos hp];rfl
def vb0{gt:GB}{ge:GE}{δ:Ds}(h:`kM)(H:∀d∈`ba,∃δ',`abl/\`Cy=`e6/\`aBN):`aBO=`a (items.map h):=by
 have:=qe0 (f:=f) (gt:=gt) (ge:=ge) (δ:=δ) (λ_=>`c) h (items:=`ba) λd hd=>by
  let#[δ',a,b,c]:=H d hd;exact#[δ',a,b,λ_=>c]
 rw[List.filter_eq_self.mpr `ax] at this;exact `E
theorem strs_map(h:α->Str):∀l:`aT,`aBP=`a (`dx h)
 | []=>rfl
 | a::l=>by
  show (`aBP).map (λr=>h a::r)=_;rw[strs_map h l];rfl
theorem up0(P:Nat->Ds->Prop):∀(items:`n) (i:Nat) (δ:Ds),(∀j d δ,`aBQ->P (i+j) δ->∃δ1 δ2,`aBR/\`aBS/\P (i+j+1) δ2)->P i δ ->
  ∃δ',`abg=`d6/\P (i+`cP) δ'
 | [],i,δ,_,h=>#[δ,rfl,h]
 | `aB,i,δ,H,h=>by
  refine `e;let#[δ1,δ2,e1,e2,h2]:=H 0 d δ rfl h;let#[δ',e3,h3]:=up0 P ds `es δ2 (λj d δ hj hp=>by
   have q:i+`mc=i+1+j:=`J
   let#[a,b,c,d',e]:=H `mc d δ (`CB) (by rw[q];exact hp);exact#[a,b,c,d',by rw[q] at e;exact e]) h2
  have q:i+`Mu=i+1+`bR:=`l9
  refine `b;refine#[δ',?_,by rw[q];exact h3];unfold y70;rw[e1];simp only[`h,e2];exact e3
def Jn0{G1 G2:GS}{δ:Ds}(h:`abn):`Mv=`oP:=`abo
def Z3{G1 G2:GS}{δ:Ds}{d:D}(h:`fo=`tA):`Mv=`tA:=`abo
def T9{g:GE}{δ:Ds}{d:D}(h:`ih):V0 g δ=`tA:=by unfold V0;rw[h];rfl
def U0{g:GE}{δ:Ds}{d:D}(h:`ih):Z7 `TS g δ=`a (.nx `Mp):=by unfold Z7;rw[h];rfl
def O4{g:GB}{Ga Gb:GS}{δ:Ds}(h:`av=`e6):`aBT=Ga δ:=`aBU
def X7{g:GB}{Ga Gb:GS}{δ:Ds}(h:`av=`bC):`aBT=`yP:=`aBU
def xv0{gi:GA}{gt:GB}{ge:GE}{δ:Ds}{out:`n}(h1:`Mw)(h2:`rQ)(h3:`Ti=`a out):`abp=`a (`o out):=by
 unfold T4;rw[h1];show (if `rQ then `aBG `eD else `d)=_;rw[`V h2,h3];rfl
def ua0{gi:GA}{δ:Ds}{r:`yL}(h1:`Mw)(h2:`abg=r):th0 gi f G δ=r:=by
 unfold th0;rw[h1];exact h2
def cons_of{g:GE}{gA:GA}{δ:Ds}{d:D}(h1:`ih)(h2:`kN):z7 g gA δ=`a `kd:=by unfold z7;rw[h1,h2];rfl
def d9{gA:GA}{δ:Ds}{f:`T}(h:`kN):oA gA f δ=f ds:=by unfold oA;rw[h];rfl
def o6{ga gb:GE}{δ:Ds}{x y:D}{f:`bn}(h1:`de=`dn)(h2:`et=`fc):`aBV=f x y:=by unfold o2;rw[h1,h2];rfl
def Kp0{g:GE}{gA:GA}{δ:Ds}{x:D}(h1:`av=`dn)(h2:`kN):nv0 g gA δ=cu0 x ds:=by unfold nv0;rw[h1,h2];rfl
def t40{xs:`aT}{i:Int}(h0:`hA)(h1:`vR)(d:α):`yu=`a (`Mx `fm d):=by
 unfold atI ixN;rw[`V h0,`aar];show xs[`fm]?=_;have:`fm<`ay:=`J
 simp[`bD,`E]
universe DL
variable{f:`aBr}{items ns ds:`Gq}{g ge gb:`aBs}{q:`aBq}{gt:`aBt}{G Gh:DL.GS}{δ':`nt}{gi gA:`aBu}{d0 d' b' n':DL.D}{gl gh:`aBv}{g0 go g1:DL.GE}
namespace DL
open Spec PyProof.Rows L2
abbrev BS:=`fR
abbrev St:=L2.St
variable{B B' B₀:DL.BS}
structure NB(o:`rz):Prop where
 ne:o≠`d
 nf:∀ob u,o=`Zj->∃xs,u=`c1
 nt:∀xs,o≠`hr
instance{o:`rz}:`e5 (NB o) (λ_=>o=`d->`b'):=#[λh e=>h.ne e]
def NB.of{o:`rz}{u:HO}(h:o=`a?)(n:∀ob u',u≠`all)(t:∀xs,u≠`eT):NB o:=by
 subst h;exact#[`aBW,λob u' z=>`N (A4 z) (n ob u'),λxs z=>t xs (A4 z)]
def NB.keep(q:`CC)(h:`nw):NB (H' a):=by
 cases e:H a with
 | none=>exact `N e h.ne
 | some o=>rw[q o e,← e];exact h
theorem NB.same(q:`bb)(h:`nw):NB (H' a):=h.keep λo e=>q a o e
def SqT'(K:`A)(H:Hp)(B:BS)(a:`f)(xs:`S):Prop:=`p2/\H a=`hr
def SqL'(K:`A)(H:Hp)(B:BS)(a:`f)(xs:`S):Prop:=(`aBX)∨`b'
theorem SqT'.to(h:`Gw):`mo:=`t (`t h.2)
theorem SqL'.at(h:`yR):`aBX:=`mn id `fk
theorem SqL'.to(h:`yR):`lh:=`t h.at.2
def Gr(H H':Hp)(B B':BS):Prop:=∀b o,`p9->H b=`ap->`VU/\`f2=`ap
theorem SqT'.mono(g:`eJ)(h:`Gw):SqT' K H' B' a xs:=`aBY
def SqL'.mono(g:`eJ)(h:`yR):SqL' K H' B' a xs:=by
 obtain⟨n,h|⟨o,h⟩⟩:=h.at
 ·exact `t #[(`My).1,`t (`My).2]
 ·exact `t #[(`My).1,`s #[o,(`My).2]]
theorem Gr.same(s:`bb):`aBZ:=λb o n h=>#[n,s b o h]
theorem Gr.less(h:`v0):Gr H H B B':=λb o n e=>#[λz=>n (h b z),e]
abbrev KS:=Sum (`hp) (`ah (`hp))
def dOb:KS->`S->HO
 | `yT,xs=>`Mz
 | `CD,xs=>`abq
def dLn:KS->Nat
 | `yT=>`gN
 | `CD=>`gN
def G80(fd:`e1)(x y:Str)(c cd:`f):Prop :=
 ∃p1 p2 p3,fd.body=.expr (`lg (`bh x p1) (`bh y p2) p3)/\fd.scope.isCoroutine=`p/\fd.scope.isGenerator=`p/\fd.scope.kind=`ne/\`aB_ y=`la/\`aB_ x=`ls /\
  (∀z∈fd.scope.names,z.2≠`sT)/\fd.closure=[(x,c)]/\fd.code=`z cd/\fd.globals=`a_/\`aQ/\`dC/\`rR /\
  ∀u:`G,`ru fd `S7=`bI [(y,u)]
def rk(n:Nat):`hp:=`WG λ(i:Nat)=>`mX `s!
def TelO(K:`A)(H:Hp)(B:BS)(p:`f)(kvs:`gW):Prop:=(¬B p/\`Vg)∨∃xs,SqL' K H B p xs/\kvs=(rk `ay).zip xs
def TelO.mono{p:`f}(g:`eJ)(h:`aB0):TelO K H' B' p kvs:=by
 rcases h with h|⟨xs,h,e⟩
 ·exact `t (`aBY)
 ·exact `s #[xs,h.mono g,e]
def FnAtH(K:`A)(H:Hp)(B:BS)(f:`f)(kvs:`gW):Prop :=
 ∃(oF oC oK:Obj) (fd:`e1) (c cd p:`f) (x y:Str),(¬B f/\H f=`a (`ir oF (`f1 f)))/\(oF.cls=`sF/\oF.data=`ce fd/\G80 fd x y c cd)/\(¬B c/\H c=`a (`ir oC (`f1 c)))/\oC.data=`sT `Ub /\
  (¬B cd/\H cd=`a (`ir oK (`f1 cd)))/\(∃vs t,oK.data=`xU/\`xV=`a (`u fd.qualname t))/\`aB0
def FnAtH.mono{f:`f}(g:`eJ)(h:FnAtH K H B f kvs):FnAtH K H' B' f kvs:=by
 refine `e;let#[oF,oC,oK,fd,c,cd,p,x,y,#[b1,h1],a,#[b2,h2],e,#[b3,h3],q,h4]:=h;refine `b;exact#[oF,oC,oK,fd,c,cd,p,x,y,g _ _ b1 h1,a,g _ _ b2 h2,e,g _ _ b3 h3,q,h4.mono g]
mutual
def Rp(K:`A)(H:Hp)(B:BS):`aB1
 | `x,v=>`s7
 | `dK,v=>v=`dK
 | `bi,v=>`CE
 | `b1,v=>`Mi
 | `ch,v=>`aB2
 | `ci,v=>`aB3
 | `jf,v=>`aB4
 | `oQ,v=>`aB5
def Rps(K:`A)(H:Hp)(B:BS):`aB6
 | [],xs=>`vQ
 | `aB,xs=>`aB7
end
mutual
theorem Rp.mono(g:`eJ):∀{d:D} {v:V},`aB8
 | `x,_,h=>`MA
 | `bN,_,h=>`MA
 | `co,_,h=>`MA
 | `bq,_,h=>`MA
 | `ch,_,h=>by
  unfold Rp at h ⊢;let#[a,xs,e,q,r]:=h;exact`aB9
 | `ci,_,h=>by
  unfold Rp at h ⊢;let#[a,xs,e,q,r]:=h;exact`aB9
 | `jf,_,h=>by
  unfold Rp at h ⊢;refine `e;let#[a,xs,e,n,q,l,r]:=h;refine `b;exact#[a,xs,e,(g _ _ n q).1,(g _ _ n q).2,l,`Tq]
 | `oQ,_,h=>by
  unfold Rp at h ⊢;let#[a,xs,e,q,l,r]:=h;exact#[a,xs,e,q.mono g,l,`Tq]
theorem Rps.mono(g:`eJ):∀{ds:`n} {xs:`S},`abr
 | [],_,h=>by unfold Rps at h ⊢;exact h
 | `aB,_,h=>by
  unfold Rps at h ⊢;let#[x,r,e,h1,h2]:=h;exact#[x,r,e,`Tu g h1,`Tp g h2]
end
def V6:Rp K H B `x v=(`s7):=`MB
def Z9{b:`M}:Rp K H B `z! v=(v=`dK):=`MB
def j6{i:Int}:Rp K H B `f6 v=(`CE):=`MB
def X5:Rp K H B `ml v=(`Mi):=`MB
def U7:Rp K H B `tl v=`aB2:=`MC
def X6:Rp K H B `Gr v=`aB3:=`MC
def q30{ks:KS}:Rp K H B (`jf) v=`aB4:=`MC
def Vs0:Rp K H B (`oQ) v=`aB5:=`MC
theorem ir0:Rp K H B (`CF) v=∃a xs,`iB/\`p2/\H a=`a (`Mz)/\`Tn:=q30
theorem f70{ks:`ah (`hp)}:Rp K H B (`cQ (`CD) ds) v=∃a xs,`iB/\`p2/\H a=`a (`abq)/\`Tn:=q30
def m9:Rps K H B [] xs=(`vQ):=by unfold Rps;rfl
def o8{d:D}:Rps K H B `kd xs=`aB7:=by conv=>lhs;unfold Rps
theorem Rps.length:∀{ds:`n} {xs:`S},`bp->`ay=`bR
 | [],_,h=>by rw[m9] at h;subst h;rfl
 | `aB,_,h=>by
  rw[o8] at h;let#[x,r,rfl,_,h2]:=h;simp[Rps.length h2]
theorem Rps.get:∀{ds:`n} {xs:`S} {i:Nat} {d:D},`bp->ds[i]?=`bw->∃x,`m?/\`yS
 | [],_,_,_,_,e=>`KW
 | `aB,_,0,d',h,e=>by
  rw[o8] at h;let#[x,r,rfl,h1,_]:=h;simp at e;subst e;exact`MD
 | `aB,_,i+1,d',h,e=>by
  refine `e;rw[o8] at h;let#[x,r,rfl,_,h2]:=h;let#[y,e1,e2]:=Rps.get (i:=i) h2 `By;refine `b;exact#[y,`aB',e2]
theorem Rps.snoc:∀{ds:`n} {xs:`S} {d:D} {x:V},`bp->`yS->Rps K H B (ds++[d]) (`abs)
 | [],_,_,_,h,r=>by
  rw[m9] at h;subst h;rw[`gu,`gu,o8];exact#[_,[],rfl,r,`fS]
 | `aB,_,_,_,h,r=>by
  rw[o8] at h;let#[y,t,rfl,h1,h2]:=h;rw[`e7,`e7,o8];exact#[y,_,rfl,h1,`qm h2 r]
theorem Rps.append:∀{ds es:`n} {xs ys:`S},`bp->`aB!->Rps K H B `ans `F3
 | [],_,_,_,h,r=>by rw[m9] at h;subst h;exact r
 | `aB,_,_,_,h,r=>by
  rw[o8] at h;let#[y,t,rfl,h1,h2]:=h;rw[`e7,`e7,o8];exact#[y,_,rfl,h1,`aB? h2 r]
theorem Rps.drop:∀{ds:`n} {xs:`S} (n:Nat),`bp->Rps K H B (ds.drop n) (`u6 n)
 | _,_,0,h=>h
 | [],_,n+1,h=>by rw[m9] at h;subst h;simpa [m9]
 | `aB,_,n+1,h=>by
  rw[o8] at h;let#[y,t,rfl,h1,h2]:=h
  simpa using Rps.drop n h2
theorem Rps.take:∀{ds:`n} {xs:`S} (n:Nat),`bp->Rps K H B (ds.take n) `auI
 | _,_,0,h=>`abt
 | [],_,n+1,h=>`abu
 | `aB,_,n+1,h=>by
  rw[o8] at h;let#[y,t,rfl,h1,h2]:=h;rw[`aCa,`aCa,o8];exact#[y,_,rfl,h1,Rps.take n h2]
theorem Rps.same(s:`bb)(h:`bp):Rps K H' B ds xs:=`Tp `ts h
theorem Rp.same{d:D}(s:`bb)(h:`cR):`TB:=`Tu `ts h
def RpO(K:`A)(H:Hp)(B:BS)(d:D)(a:`f):Prop:=match d with
 | `ci=>∃xs,H a=`F!/\`bp
 | `jf=>∃xs,`amW
 | _=>`b'
def RpO.same{d:D}(s:`bb)(h:`jg):RpO K H' B d a:=by
 cases d<;>try exact `mn
 ·let#[xs,e,r]:=h;exact#[xs,`abv,`ME]
 ·let#[xs,e,l,r]:=h;exact#[xs,`abv,l,`ME]
def RpO.rp{d:D}(l:`v0)(n:¬`p3)(h:`jg):Rp K H B' d `c2:=by
 cases d<;>try exact `mn
 ·let#[xs,e,r]:=h
  rw[X6];exact#[a,xs,rfl,`t #[n,`rF],`df (`iG l)]
 ·let#[xs,e,q,r]:=h
  rw[q30];exact#[a,xs,rfl,n,e,q,`df (`iG l)]
def RpO.live{d:D}(h:`jg):`nw:=by
 cases d<;>try exact `mn
 ·let#[xs,e,r]:=h;exact .of e `aCb λ_=>λz=>nomatch z
 ·let#[xs,e,q,r]:=h;refine .of e (λ_ _ z=>?_) λ_ z=>?_<;>(unfold dOb at z;split at z<;>cases z)
def RpX(K:`A)(H:Hp)(B:BS)(ks vs:`n)(a:`f):Prop:=∃(ts:`m)(xs:`S),ks=[]/\H a=`a (.dX (ts.zip xs))/\ts.length=`ay/\Rps K H B vs xs
def yq0:`n->`LY
 | [`b1,`bi]=>if x = "@" then `a `fm else `d
 | _=>`d
mutual
def RpN(K:`A)(H:Hp)(B:BS)(as:`aS):`aB1
 | `x,v=>`s7
 | `dK,v=>v=`dK
 | `bi,v=>`CE
 | `b1,v=>`Mi
 | `ch,v=>`aCc
 | d,v=>`cR
def RpNs(K:`A)(H:Hp)(B:BS)(as:`aS):`aB6
 | [],xs=>`vQ
 | `aB,xs=>`aCd
end
mutual
theorem RpN.mono(g:`eJ)(l:`aCe):∀{d:D} {v:V},`jh->RpN K H' B' as' d v
 | `x,_,h=>`oR
 | `bN,_,h=>`oR
 | `co,_,h=>`oR
 | `bq,_,h=>`oR
 | `ch,_,h=>by
  unfold RpN at h ⊢;refine `e;rcases h with⟨k,a,e,q,r⟩|⟨n,a,xs,e,q,r⟩
  ·refine `b;exact `t #[k,a,e,l k a q,r]
  ·refine `b;exact `s #[n,a,xs,e,q.mono g,`abw g l r]
 | `ci,_,h=>`abx
 | `jf,_,h=>`abx
 | `oQ,_,h=>`abx
theorem RpNs.mono(g:`eJ)(l:`aCe):∀{ds:`n} {xs:`S},`gO->`jK K H' B' as' ds xs
 | [],_,h=>by unfold RpNs at h ⊢;exact h
 | `aB,_,h=>by
  unfold RpNs at h ⊢;let#[x,r,e,h1,h2]:=h;exact#[x,r,e,RpN.mono g l h1,`abw g l h2]
end
theorem rp0{F G:`kw}(h:`Zi):`aCf
 | _,_,`X=>`X
 | _,_,`mg=>`aq (h _ _ r) (rp0 h t)
def NodeOk(K:`A)(H:Hp)(B:BS)(as:`aS)(n:D)(so:`dI):Prop:=match n with
 | `ci=>∃xs,`aby/\`gO
 | `CF=>∃xs,so=`Mz/\`tr/\`gO
 | `aCg=>`aCh
 | _=>`b'
def NodeOk.mono(g:`eJ){n:D}(h:`MF):`hB K H' B' as n so:=by
 unfold NodeOk at h ⊢;split at h
 ·let#[xs,e,r]:=h;exact#[xs,e,`abz]
 ·let#[xs,e,l,r]:=h;exact#[xs,e,l,`abz]
 ·refine `e;let#[C,dx,ns,xs,e,f,l,c,q,r]:=h;refine `b;exact#[C,dx,ns,xs,e,f,l,c,q,`abz]
 ·exact `mn
structure RpW(K:`A)(H:Hp)(B:BS)(ns:`n)(a:`f)(as:`aS)(sos:`CG):Prop where
 hd:`aCi
 nd:`mv
 at':`abA
 own:∀b∈as,b=a∨(`p9/\`E!)
 len:`MG
 all:`bS (`hB K H B as) ns sos
 ins:`aCj
def RpD(K:`A)(H:Hp)(B:BS)(ns:`n)(a:`f):Prop:=∃as sos,`fT
def RpD.mono(s:`CC)(g:`eJ)(h:`Tx):RpD K H' B' ns a:=by
 let#[as,sos,h]:=h;exact#[as,sos,h.hd,`hM,s _ `v1,λb hb=>`Vw id λz=>g b _ z.1 z.2,`lP,rp0 (λ_ _ r=>`ty) h.all,`CH]
def RpD.live(h:`Tx):`nw:=by
 let#[as,sos,h]:=h;exact .of `v1 `aCk λ_ z=>nomatch z
def RpG(K:`A)(H:Hp)(B:BS)(d:D)(a:`f):Prop:=match d with
 | `y es=>`aCl
 | d=>`jg
def RpO.toG{d:D}(h:`jg):`mw:=by
 cases d with
 | tup es=>exact`abB
 | _=>exact h
def RpG.toO{d:D}(n:`GV)(h:`mw):`jg:=by
 cases d with
 | tup es=>cases n
 | _=>exact h
def RpG.same{d:D}(s:`bb)(h:`mw):RpG K H' B d a:=by
 cases d with
 | tup es=>let#[x,ns,e,r]:=h;exact`aCm
 | _=>exact(RpO.same s `MH).toG
def RpG.live{d:D}(h:`mw):`nw:=by
 cases d with
 | tup es=>let#[x,ns,e,r]:=h;exact `rS
 | _=>exact RpO.live `MH
def RpO.plain{d:D}(h:`jg):`abC:=by
 intro o ys z;cases d with
 | lst ds=>let#[xs,e,r]:=h;rw[e] at z;cases z
 | dct ks ds =>
  let#[xs,e,r]:=h;rw[e] at z;unfold dOb at z;split at z<;>cases z
 | _=>exact`abB
def RpG.plain{d:D}(h:`mw):`abC:=by
 refine `e;cases d with
 | tup es=>let#[x,ns,e,as,sos,r]:=h;refine `b;intro o xs z;rw[r.at'] at z;cases z
 | _=>refine `b;exact RpO.plain `MH
def RpL(K:`A)(H:Hp)(B:BS)(d:D)(a:`f):Prop:=match d with
 | `y es=>(∃d',es=[`IT,d']/\RpG K H B d' a)∨(∃ks vs,es=[`o ks,`Ah]/\RpX K H B ks vs a)∨`aCl
 | d=>`jg
def RpO.toL{d:D}(h:`jg):`lx:=by
 cases d with
 | tup es=>exact`abB
 | _=>exact h
def RpL.toO{d:D}(n:`GV)(h:`lx):`jg:=by
 cases d with
 | tup es=>cases n
 | _=>exact h
def RpG.toL{d:D}(h:`mw):`lx:=by
 cases d with
 | tup es=>exact `s (`Mj)
 | _=>exact h
def RpL.same{d:D}(s:`bb)(h:`lx):`aCn:=by
 refine `e;cases d with
 | tup es =>
  rcases h with⟨d',q,r⟩|⟨ks,vs,q,ts,xs,q1,e,q2,r⟩|⟨x,ns,e,r⟩
  ·refine `b;exact `t #[d',q,`ME]
  ·refine `b;exact `s (`t #[ks,vs,q,ts,xs,q1,`abv,q2,`ME])
  ·refine `b;exact `s (`s `aCm)
 | _=>refine `b;exact(RpO.same s `CI).toL
def RpL.live{d:D}(h:`lx):`nw:=by
 refine `e;cases d with
 | tup es =>
  rcases h with⟨d',q,r⟩|⟨ks,vs,q,ts,xs,q1,e,q2,r⟩|⟨x,ns,e,r⟩
  ·refine `b;exact `rS
  ·refine `b;exact .of e `aCb λ_=>λz=>nomatch z
  ·refine `b;exact `rS
 | _=>refine `b;exact RpO.live `CI
def RpL.plain{d:D}(h:`lx):`abC:=by
 refine `e;cases d with
 | tup es =>
  rcases h with⟨d',q,r⟩|⟨ks,vs,q,ts,xs,q1,e,q2,r⟩|⟨x,ns,_,as,sos,r⟩
  ·refine `b;exact r.plain
  ·refine `b;intro o ys z;rw[e] at z;cases z
  ·refine `b;intro o xs z;rw[r.at'] at z;cases z
 | _=>refine `b;exact RpO.plain `CI
def fs0(a C:`f)(od:`bm):`mS:=λh=>∃oe,`ip=`xT/\`Bt=`em/\(∀dx,`MI->`RP=`p6)/\∃vs,`vi
def Oe0(H:Hp)(B:BS)(od:`bm):`abD
 | `d=>`g?
 | `pP=>∃dx,`MI/\¬B dx/\`sJ=`a `tT
def XcR(K:`A)(H:Hp)(B:BS)(c:Str)(n:`a5)(a:`f):Prop:=∃C od,`p2/\H a=`a `aoY/\`jM/\`aCo
def XcR.mono{n:`a5}(g:`eJ)(h:`aCp):XcR K H' B' c n a:=by
 let#[C,od,h1,h2,h3,h4]:=h;refine#[C,od,(`aCq).1,(`aCq).2,h3,?_];cases n with
 | none=>trivial
 | some n=>let#[dx,e,q1,q2]:=h4;exact#[dx,e,(`aCr).1,(`aCr).2]
def SlR(K:`A)(H:Hp)(B:BS)(o:`dq):Sl->Prop
 | .un=>`g?
 | `gb=>∃v,o=`bL/\`cR
 | `tC=>∃a,o=`nx/\`aCs
 | .ex c n=>∃a,o=`nx/\`aCp
theorem Pd.get{F:`kw}:∀{l:`aT} {m:`lv} {i:Nat} {b:β},`p4->`abE->∃a,`CJ/\`xW
 | _,_,_,_,`X,e=>`KW
 | _,_,0,_,`Y',e=>`Y!
 | _,_,i+1,b,`vn,e=>by
  let#[u,h1,h2]:=`ny (i:=i) (b:=b) t `By;exact`Y?
def Pd.imp{F G:`kw}(h:`Zi):`aCf:=by
 intro l m p
 induction p with
 | nil=>exact `X
 | cons r t ih=>exact `aq (h _ _ r) ih
theorem Pd.set{F:`kw}{a:α}{b:β}(r:`xW):∀{l:`aT} {m:`lv} (i:Nat),`p4->`bS F (`abF) `aCt
 | _,_,_,`X=>`X
 | _,_,0,`vn=>`mg
 | _,_,i+1,`aq q t=>`aq q (`oS r i t)
theorem Pd.len{F:`kw}:∀{l:`aT} {m:`lv},`p4->`bW=`arK
 | _,_,`X=>rfl
 | _,_,`vn=>by simp[`qx t]
def Pd.app{F:`kw}:∀{l l':`aT} {m m':`lv},`p4->`bS F l' m'->`bS F (l++l') (m++m'):=by
 intro l l' m m' p s
 induction p with
 | nil=>exact s
 | cons r t ih=>exact `Bz
structure Env(K:`A)(H:Hp)(B:BS)(σ:St)(δ:Ds):Prop where
 all:`aCu
 bad:`yW
 own:∀(i j:Nat) (a:`f) (ds es:D),`am!->`jI=`aCv->`jP->`th=`yV->i=j
section
variable{σ σ':St}{δ:Ds}
def SlR.same{o:`dq}{s:Sl}(q:`bb)(h:`MJ):SlR K H' B o s:=by
 cases s with
 | un=>trivial
 | sh d=>let#[v,e,r]:=h;exact#[v,e,`Gy q]
 | ow d=>let#[a,e,b,r]:=h;exact#[a,e,b,`Gy q]
 | ex c n=>let#[a,e,r]:=h;exact#[a,e,`df (`Tr q)]
theorem Env.same(q:`bb)(e:`a'):Env K H' B σ δ :=
 #[`tG (λ_ _ h=>`MK q) `hD,(λa b=>(`iF a b).same q),`nz]
theorem Env.free(e:`a'){p:`f}(h:`d8):¬B p:=λz=>`iF p z h
def Env.get(e:`a'){d:D}(h:`aCw):∃v,`BG/\`cR:=by
 let#[o,h1,v,rfl,r]:=`aCx;exact#[v,h1,r]
def Env.set(e:`a')(i:Nat){d:D}(r:`cR):Env K H B `x6 `Mp:=by
 refine#[`oS `aCy i `hD,`iF,`Ud];have hj:j≠i:=by
  rintro rfl
  by_cases hl:j<`lT
  ·rw[`v2] at h1;cases h1
  ·rw[`CK] at h1;cases h1
 have hk:k≠i:=by
  rintro rfl
  by_cases hl:k<`lT
  ·rw[`v2] at h2;cases h2
  ·rw[`CK] at h2;cases h2
 rw[`oy] at h1 h3;rw[`aCz] at h2 h4;exact `ML
universe zz
theorem Z5{p:`f}{o:HO}(h:`d8)(hz:`aCA:=by intro _ _ z;cases z):`dw H `abG:=#[λb u e=>by rw[m5 (V5 e h)];exact e,λb ob xs e=>by
 by_cases z:b=p
 ·subst z
  rw[m8] at e;exact `N (`oz) (hz ob xs)
 ·rw[`oT] at e;exact e]
def tD(K:`A)(B:BS)(δ:Ds)(g:`cq):TE:=fun σ H Q=>∃d,`a'/\`ih/\`CL
structure PD(X:Cx)(e:`I)(g:`cq):Prop where
 mk::go:`aCB
instance{X:Cx}{e:`I}{g:`cq}:`e5 (`cC) (λ_=>`aCB):=#[PD.go]
def tDT(K:`A)(B:BS)(δ:Ds)(g:`gt):TT:=fun σ H Q=>∃b,`a'/\`av=`nv/\∀H',`bb->Q b H'
structure PTD(X:Cx)(e:`I)(g:`gt):Prop where
 mk::go:`aCC
instance{X:Cx}{e:`I}{g:`gt}:`e5 (PTD X e g) (λ_=>`aCC):=#[PTD.go]
structure PWD(X:Cx)(e:`I)(g:`gt):Prop where
 mk::go:`aCD
instance{X:Cx}{e:`I}{g:`gt}:`e5 (PWD X e g) (λ_=>`aCD):=#[PWD.go]
def tDA(K:`A)(B:BS)(δ:Ds)(g:`fQ):TA:=fun σ H Q=>∃ds,`a'/\`av=`p1/\∀vs H',`bb->Rps K H' B ds vs->`ZY
structure PDA(X:Cx)(es:`bA)(g:`fQ):Prop where
 mk::go:`aCE
instance{X:Cx}{es:`bA}{g:`fQ}:`e5 (PDA X es g) (λ_=>`aCE):=#[PDA.go]
def am0{d:D}{b:`M}(h:asB d=`nv):d=`dK:=by
 cases d<;>simp[asB] at h
 subst h;rfl
def Op2(K:`A)(r:R2)(f:`bn):Prop:=∀(H:Hp) (B:BS) (x y:V) (dx dy d:D) (Q:VK),`oU->`abH->`aCF->f dx dy=`bw->(`CL)->`FG
def FnR(K:`A)(r:`ni)(f:`T):Prop:=∀(H:Hp) (B:BS) (xs:`S) (ds:`n) (d:D) (Q:VK),`oU->`bp->`CM->(`CL)->`Lr
section
variable{a c:`I}{ga:`cq}{gu:`gt}{rest:`bA}
theorem _root_.L2.PE.imp{t t':TE}(h:PE X e t)(q:`MM):PE X e t':=`aCG
theorem _root_.L2.PT.imp{t t':TT}(h:PT X e t)(q:`MM):PT X e t':=`aCG
theorem _root_.L2.PW.imp{t t':TT}(h:PW X e t)(q:`MM):PW X e t':=λw pins s σ H Q I z=>h w `i s σ H Q I `TD
theorem _root_.L2.PA.imp{t t':TA}(h:`vH)(q:`MM):PA X es t':=λp pins s σ H Q I z=>h p `i s σ H Q I `TD
def Hp0{δ:Ds}{d:D}(h:gv i δ=`bw):`aCw:=by
 unfold gv at h;split at h
 ·cases h;assumption
 ·cases h
theorem z8(i:Nat)(hN:`b0:=by rfl)(hv:`dB:=by first|exact `aU|exact `cD|exact `cE)(hd:`aQ:=by decide)
  (hcd:`dC:=by decide):PD X `le (gv i):=.mk λB δ=>`aCH fun σ H Q hq54=>by
 let#[d,en,h,k]:=hq54
 let#[v,e,r]:=en.get (Hp0 h);exact#[v,e,k v H `dO r]
theorem v7{i:Int}:PD X (`iJ `f6 j pos) (gc `f6):=.mk λB δ=>Ip0.imp fun σ H Q hq55=>by let#[d,en,h,k]:=hq55;cases h;exact `qj
theorem G4{i:`M}:PD X (`iJ (`gA i) j pos) (gc (.bl i)):=.mk λB δ=>Hf0.imp fun σ H Q hq56=>by let#[d,en,h,k]:=hq56;cases h;exact `T_
theorem ud0:PD X (`iJ `af j pos) `iP:=.mk λB δ=>Uo0.imp fun σ H Q hq57=>by let#[d,en,h,k]:=hq57;cases h;exact k _ H `dO `jW
theorem j5:PD X (`iJ `ml j pos) (gc `ml):=.mk λB δ=>H20.imp fun σ H Q hq58=>by let#[d,en,h,k]:=hq58;cases h;exact `MN
theorem fm0(hm:∃t,`m7=`aCI)(hg:`c!:=by rfl)(hd:`aQ:=by decide):PD X `le (gc `HH):=.mk λB δ=>by
 let#[t,hm]:=hm;exact(k30 (v:=`p7) hg hm `Co hd).imp fun σ H Q hq59=>by let#[d,en,h,k]:=hq59;cases h;exact `MN
theorem zb0{i:Int}(hm:∃t,`m7=`a `yc)(hg:`c!:=by rfl)(hd:`aQ:=by decide):PD X `le (gc `f6):=.mk λB δ=>by
 let#[t,hm]:=hm;exact(k30 (v:=`bi) hg hm `Co hd).imp fun σ H Q hq60=>by let#[d,en,h,k]:=hq60;cases h;exact `qj
def he0{r:R2}{f:`bn}(hf:Op2 K r f){δ:Ds}{σ:St}{Q:VK}(h:tD K B δ `CN σ H Q):tOp r (tD K B δ ga) (tD K B δ gb) σ H Q:=by
 refine `e;let#[d,en,h,k]:=h;unfold o2 at h;cases e1:`de with
 | none=>rw[e1] at h;cases h
 | some x =>
  cases e2:`et with
  | none=>rw[e1,e2] at h;cases h
  | some y =>
   rw[e1,e2] at h;refine `b;refine`v3;exact hf H2 B v1 v2 x y d Q `abI `Hl r2 h λv H' s r=>k v H' (`Hi s) r
theorem nl0{op:`Lt}{r:R2}{f:`bn}(ho:`awX)(hf:`CO)(ha:`cW)(hb:`dE):PD X `awY `CN:=.mk λB δ=>(N60 ho `bs `fU).imp `abJ
theorem tc0{op:`hb}{r:R2}{f:`bn}(ho:`vD)(hf:`CO)(ha:`cW)(hb:`dE)(hm:`kA:=by first|exact `v4|with_unfolding_all rfl):PD X `mm `CN :=
 .mk λB δ=>(Xc0 ho `bs `fU hm).imp `abJ
theorem Gf0{r:R2}{f:`bn}(ho:`aau)(hf:`CO)(ha:`cW)(hb:`dE)(hs:`Cg:=by exact `mx):PD X `Ch `CN :=
 .mk λB δ=>(Vz0 ho `bs `fU hs).imp `abJ
theorem n6{op:`hb}{r:R2}{f:`bn}(ho:`vD)(hf:`CO)(ha:`cW)(hb:`dE)(hm:`kA:=by first|exact `v4|with_unfolding_all rfl):PTD X `mm (ob `CN) :=
 .mk λB δ=>(k20 ho `bs `fU hm).imp fun σ H Q hq61=>by
  let#[t,en,h,k]:=hq61
  unfold ob at h;cases e:`aBV with
  | none=>rw[e] at h;cases h
  | some d =>
   rw[e] at h;cases am0 h;exact he0 hf `aCJ
theorem J7(h:`cC)(he:`Z3:=by intro _;rfl):PTD X e (ob g) :=
 .mk λB δ=>(T90 `c6 he).imp fun σ H Q hq62=>by
  let#[t,en,h,k]:=hq62
  unfold ob at h;cases e:`av with
  | none=>rw[e] at h;cases h
  | some d =>
   rw[e] at h;cases am0 h;exact`aCJ
theorem rz0(h:`CP):PTD X `BS (yn0 gt) :=
 .mk λB δ=>(Ut0 `c6).imp fun σ H Q hq63=>by
  let#[t,en,h,k]:=hq63
  unfold yn0 at h;cases e:`eu with
  | none=>rw[e] at h;cases h
  | some b =>
   rw[e] at h;cases h;exact#[b,en,e,λH' s=>`GK]
theorem jq0(h:`CP):PWD X `Z4 gt:=.mk λB δ=>Xy0 `c6
theorem s80(h:`CP):PWD X `Z5 gt:=.mk λB δ=>Sp0 `c6
theorem f80(ha:`CP)(hb:PWD X `vu gu):PWD X `vv (uk0 gt gu) :=
 .mk λB δ=>(Sw0 `bs `fU).imp fun σ H Q hq64=>by
  let#[t,en,h,k]:=hq64
  unfold uk0 at h;cases e:`eu with
  | none=>rw[e] at h;cases h
  | some b =>
   rw[e] at h;refine`aCK;cases b with
   | true=>exact`aCL
   | false =>
    simp at h;subst h;rw[`oB];exact `GK
theorem ss0(ha:`CP)(hb:PWD X `BQ gu):PWD X `BR (yr0 gt gu) :=
 .mk λB δ=>(N50 `bs `fU).imp fun σ H Q hq65=>by
  let#[t,en,h,k]:=hq65
  unfold yr0 at h;cases e:`eu with
  | none=>rw[e] at h;cases h
  | some b =>
   rw[e] at h;refine`aCK;cases b with
   | false=>exact`aCL
   | true =>
    simp at h;subst h;rw[`bc];exact `GK
theorem PWD.pt(h:PWD X e gt):`aCM:=.mk λB δ=>(`TG).pt
theorem h00{op}(h:PD X a g):PD X `Z6 g:=.mk λB δ=>Tz0 `c6
theorem bl0(ha:`cW)(hb:PD X `vu gb):PD X `vv (pu0 ga gb) :=
 .mk λB δ=>(Tk0 `bs `fU).imp fun σ H Q hq66=>by
  let#[d,en,h,k]:=hq66
  unfold pu0 ob at h;cases e:`de with
  | none=>rw[e] at h;cases h
  | some x =>
   rw[e] at h;refine`abK;cases x with
   | bl c =>
    rw[Z9] at r;refine`aCN;cases c with
    | true=>exact`aCO
    | false =>
     simp[asB] at h;rw[`oB];exact `abL
   | _=>simp[asB] at h
theorem Ht0(ha:`cW)(hb:PD X `BQ gb):PD X `BR (orG ga gb) :=
 .mk λB δ=>(Hg0 `bs `fU).imp fun σ H Q hq67=>by
  let#[d,en,h,k]:=hq67
  unfold orG ob at h;cases e:`de with
  | none=>rw[e] at h;cases h
  | some x =>
   rw[e] at h;refine`abK;cases x with
   | bl c =>
    rw[Z9] at r;refine`aCN;cases c with
    | false=>exact`aCO
    | true =>
     simp[asB] at h;rw[`bc];exact `abL
   | _=>simp[asB] at h
theorem H40(ha:`cW):PD X `BS (Qz0 ga) :=
 .mk λB δ=>(Im0 `bs).imp fun σ H Q hq68=>by
  let#[d,en,h,k]:=hq68
  unfold Qz0 ob at h;cases e:`de with
  | none=>rw[e] at h;cases h
  | some x =>
   rw[e] at h;refine`abK;cases x with
   | bl c =>
    rw[Z9] at r;simp[asB] at h;exact#[c,r,`abL]
   | _=>simp[asB] at h
theorem u5:PDA X [] v6:=.mk λB δ=>zt0.imp fun σ H Q hq69=>by let#[ds,en,h,k]:=hq69;cases h;exact k [] H `dO (`fS)
theorem v5(ha:`cC)(hr:`v5)(hs:`eH:=by rfl):PDA X `gK (z7 g gA) :=
 .mk λB δ=>(R8 `bs (hr B δ) hs).imp fun σ H Q hq70=>by
  refine `e;let#[ds,en,h,k]:=hq70
  unfold z7 at h;cases e1:`av with
  | none=>rw[e1] at h;cases h
  | some d =>
   cases e2:`cO with
   | none=>rw[e1,e2] at h;cases h
   | some es' =>
    rw[e1,e2] at h;cases h;refine `b;refine#[d,en,e1,λv H1 s1 r1=>#[es',`gP,e2,λvs H2 s2 r2=>k _ H2 `nK ?_]];rw[o8];exact#[v,vs,rfl,`tu,r2]
theorem yf0{x1}(h:`v5):PD X (`lJ es x1 pos) (y00 gA) :=
 .mk λB δ=>(bc0 `c6).imp fun σ H Q hq71=>by
  let#[d,en,h,k]:=hq71
  unfold y00 at h;cases e1:`cO with
  | none=>rw[e1] at h;cases h
  | some ds =>
   rw[e1] at h
   by_cases hl:`vZ
   ·simp only[`h,`my] at h
    cases h;refine`aCP;rw[U7];exact#[p,vs,rfl,#[(`gP).free hp,m8],`GJ `fr]
   ·simp only[`h,`abM] at h
    cases h
theorem u70(h:`v5):PD X `_3 (U5 gA) :=
 .mk λB δ=>`aCQ fun σ H Q hq72=>by
  let#[d,en,h,k]:=hq72
  unfold U5 at h;cases e1:`cO with
  | none=>rw[e1] at h;cases h
  | some ds =>
   rw[e1] at h
   by_cases hl:`vZ
   ·simp only[`h,`my] at h
    cases h;refine`aCP;rw[X6];exact#[p,vs,rfl,`t #[(`gP).free hp,`abN],`GJ `fr]
   ·simp only[`h,`abM] at h
    cases h
def az0{f:`T}(hf:FnR K r f){δ:Ds}{σ:St}{Q:VK}(h:tD K B δ `GL σ H Q):tCB r (tDA K B δ gA) σ H Q:=by
 let#[d,en,h,k]:=h;unfold oA at h;cases e1:`cO with
 | none=>rw[e1] at h;cases h
 | some ds =>
  rw[e1] at h;exact#[ds,en,e1,λvs H1 s1 r1=>hf H1 B vs ds d Q `abO r1 h `aCR]
theorem wl0{id:`cd}{p:Pos}{f:`T}(hc:`ayP)(hf:`MO)(hm:`oA)(hv:`ayQ)(ha:`oV)(hg:`c!:=by rfl)
  (hn:`k? := by decide) (hdb:`aQ:=by decide) (he:`eH:=by rfl) (hpl:`hf:=by rfl) :
  `CQ:=.mk λB δ=>(oy0 hc hg hm hv `bs hn hdb he hpl).imp `abP
theorem wj0{T:`cd}{p:Pos}{f:`T}(hc:`aag)(hf:`MO)(hm:`oA)(hv:`aah)(ha:`oV)(hg:`c!:=by rfl)
  (hn:`k? := by decide) (hdb:`aQ:=by decide) (he:`eH:=by rfl) (hpl:`hf:=by rfl) :
  `CQ:=.mk λB δ=>(pk0 hc hg hm hv `bs hn hdb he hpl).imp `abP
def spD(K:`A)(f:`T):Sp:=λvs H Q _=>∃(B:BS) (ds:`n) (d:D),`oU/\`MP/\`CM/\`CL
theorem Mb0{k:Nat}{p:Pos}{f:`T}(F:`W `aR X.w X.K `bz `cH CX0 k fa fd ps (spD X.K f))(hr:`rG)(hm:`m7=`Ga)(hk:`cg X.K `yz=`c)(hb:`aCS)
  (ha:`oV) (hg:`c!:=by rfl) (hdb:`aQ:=by decide) (he:`eH:=by rfl) (hpl:`hf:=by rfl) :
  `CQ:=.mk λB δ=>(ki0 (E:=E0) F hr hg hm hk hb `X p30 `bs hdb he hpl).imp fun σ H Q h=>by
 let#[d,en,h,k]:=h;unfold oA at h;cases e1:`cO with
 | none=>rw[e1] at h;cases h
 | some ds =>
  rw[e1] at h;refine`aCT;show spD X.K f `abQ H1 Q E0;rw[`dh];exact#[B,ds,d,`abO,r1,h,`aCR]
universe zz
universe DL
variable{B B' B₀:DL.BS}
namespace DL
open Spec PyProof.Rows L2
structure EnvS(K:`A)(H₀:Hp)(B₀:BS)(H:Hp)(σ:St)(δ:Ds):Prop where
 same:`MQ
 ex:∃B:BS,`CR/\`CS/\`a'
 fr:`aCU
 b0:`abR
def J70(K:`A)(H₀:Hp)(B₀:BS)(D:`fM):Res->Prop
 | `Gs=>`aCV
 | .rt d=>∀v H,`MQ->Rp K H `L d v->D.rt v H
 | .bk δ=>∀σ H,`ck->D.bk σ H
 | .ct δ=>∀σ H,`ck->D.ct σ H
 | .rf d=>∀p H,`abS->`MQ->RpL K H (λa=>`nC∨a=p) d p->D.rt `dv H
def tDS(K:`A)(H₀:Hp)(B₀:BS)(δ:Ds)(G:`jd):TS:=λD σ H=>∃r,`ck/\`MR/\J70 K `O `L D r
structure PSD(X:Cx)(st:`a1)(G:`jd):Prop where
 mk::go:`aCW
instance{X:Cx}{st:`a1}{G:`jd}:`e5 (`abT) (λ_=>`aCW):=#[PSD.go]
structure PSsD(X:Cx)(st:`b5)(G:`jd):Prop where
 mk::go:`aCX
instance{X:Cx}{st:`b5}{G:`jd}:`e5 (`lA X st G) (λ_=>`aCX):=#[PSsD.go]
section
variable{σ:St}{δ:Ds}
theorem EnvS.grow(e:`ck)(s:`bb):`cj K `O `L H' σ δ:=#[`abU s,let #[B,b1,b2,en]:=e.ex;#[B,b1,b2,`fq s],e.fr,e.b0]
universe zz
structure Wr(idx:`m)(σ σ':St)(δ δ':Ds):Prop where
 len:`ZP
 oth:∀j,j∉idx->σ'[j]?=`th/\`Vn=`jI
 own:∀j∈idx,∀ds,`Vn≠`GF
def tDG(K:`A)(idx:`m)(f:`a8)(B:BS)(d:D)(δ:Ds):TG:=λv σ H Q=>∃δ',`cR/\`a'/\`abl/\∀σ',`aCY->Env K H B σ' δ'->Q σ' H
structure PGD(X:Cx)(tg:`I)(idx:`m)(f:`a8):Prop where
 mk::go:`aCZ
instance{X:Cx}{tg:`I}{idx:`m}{f:`a8}:`e5 (`CT) (λ_=>`aCZ):=#[PGD.go]
theorem _root_.L2.PG.imp{t t':TG}(h:PG X tg t)(q:∀v σ H Q,t' v σ H Q->`awe):PG X tg t':=λpins s σ H v u Q I r z=>h `i s σ H v u Q I r (q v σ H Q z)
def Z40{σ:St}{δ:Ds}{d:D}:Wr [i] σ `x6 δ `Mp:=by
 refine#[`a4,`abV,λj hj ds h=>?_]
 ·have:j≠i:=`CB
  rw[`aC_,`aC_];exact`ln
 ·have:j=i:=`CB
  subst this
  by_cases hl:j<`lT
  ·rw[`v2] at h;cases h
  ·rw[`CK] at h;cases h
theorem o7(i:Nat){pos:Pos}(hN:`ek)(hi:`b0:=by rfl)(hx:`rB:=by first|exact `aU|exact `fp)
  (hf:`rC:=by first|exact `bQ|exact `b?|assumption):PGD X `le [i] `TS:=.mk λB d δ=>(`MS).imp λv σ H Q hq73=>by
 let#[δ',r,en,e,k]:=hq73
 cases e;exact k _ Z40 (en.set i r)
section
variable{st:`a1}{G G1 G2 Ga Gb:`jd}{c:`I}{as bs body:`b5}
theorem u6:`lA X [] t7:=.mk λH₀ B₀ δ pins s σ H D I hq74=>by
 let#[r,en,e,k]:=hq74
 cases e;exact `MT
theorem w6(h1:PSD X st G1)(h2:`lA X `a3 G2):`lA X `BT (v8 G1 G2):=.mk λH₀ B₀ δ pins s σ H D I hq75=>by
 refine `e;let#[r,en,e,k]:=hq75
 unfold v8 at e;cases e1:`fo with
 | none=>rw[e1] at e;cases e
 | some r1 =>
  rw[e1] at e;cases r1 with
  | nx δ'=>refine `b;exact T7 (h1 `O `L δ) (h2 `O `L δ') `i s σ H D I `aoW
  | rt d=>cases e;refine `b;exact `MU
  | bk δ'=>cases e;refine `b;exact `MU
  | ct δ'=>cases e;refine `b;exact `MU
  | rf d=>cases e;refine `b;exact `MU
theorem X4(h:`cC):PSD X `rE (V0 g):=.mk λH₀ B₀ δ pins s σ H D I hq76=>by
 refine `e;let#[r,en,e1,k]:=hq76
 unfold V0 at e1;let#[B,b1,b2,env]:=`aK;cases e2:`av with
 | none=>rw[e2] at e1;cases e1
 | some d =>
  rw[e2] at e1;cases e1;refine `b;exact o50 `c6 `i s σ H D I #[d,env,e2,λv H' s' r=>k v H' (`Uc s') (`df (`iG b1))]
def EnvS.wr{σ σ':St}{δ:Ds}(e:`ck)(b1:`ly)(b2:`lz)(s:`bb)(w:`aCY)(en:Env K H' B σ' δ'):`aC0:=by
 refine#[`abU s,#[B,b1,b2,en],`anb,e.b0]
 by_cases hi:i∈idx
 ·exact `N h1 (w.own i hi ds)
 ·rw[(`aC1).2] at h1
  rw[(`aC1).1] at h2;exact `aC2
theorem X3(h:`cC)(hg:`CT)(hs:`_g:=by rfl)(hw:`_h:=by rfl)
  (h1:`_i:=by rfl):PSD X `_j (Z7 f g):=.mk λH₀ B₀ δ pins s σ H D I hq77=>by
 refine `e;let#[r,en,e1,k]:=hq77
 unfold Z7 at e1;let#[B,b1,b2,env]:=`aK;cases e2:`av with
 | none=>rw[e2] at e1;cases e1
 | some d =>
  rw[e2] at e1;simp only[`h] at e1;cases e3:`tn with
  | none=>rw[e3] at e1;cases e1
  | some δ' =>
   rw[e3] at e1;cases e1;refine `b;exact i70 `c6 (hg B d δ) hs hw h1 `i s σ H D I #[d,env,e2,λv H' s' r=>#[δ',r,`abW,e3,fun σ' w en'=>k σ' H' (en.wr b1 b2 s' w en')]]
theorem V2(hc:`MV)(ha:`aC3)(hb:`aC4):PSD X `CU (ifD gt Ga Gb):=.mk λH₀ B₀ δ pins s σ H D I hq78=>by
 refine `e;let#[r,en,e1,k]:=hq78
 unfold ifD at e1;let#[B,b1,b2,env]:=`aK;cases e2:`eu with
 | none=>rw[e2] at e1;cases e1
 | some t =>
  rw[e2] at e1;refine `b;refine ig0 (hc B δ) (ha `O `L δ) (hb `O `L δ) `i s σ H D I `aC5;cases t with
  | true=>exact`MW
  | false=>exact`MW
structure ItD(K:`A)(B:BS)(J:It)(items:`n)(H₁:Hp):Prop where
 go:∀i H,`abX->`CV->`_p
 yld:∀i H x H',`abX->`_s->`CV->`bb/\∃d,`ba[i]?=`bw/\∀B':BS,Gr H₁ H' B B'->(∀a,`p3->`nw)->Rp K H' B' d x
 stop:∀i H,`abX->`cP<=i->`_t
def tDI(K:`A)(B:BS)(δ:Ds)(g:`fQ):TI:=fun σ H R=>∃items,`a'/\`av=`Gv/\∀J H',`bb->ItD K B J `ba H'->R J H'
structure PID(X:Cx)(tg e:`I)(g:`fQ):Prop where
 mk::go:`aC6
instance{X:Cx}{tg e:`I}{g:`fQ}:`e5 (PID X tg e g) (λ_=>`aC6):=#[PID.go]
theorem _root_.L2.PI.imp{t t':TI}(h:PI X tg e t)(q:∀σ H R,t' σ H R->t σ H R):PI X tg e t':=λpins s σ H R I z=>h `i s σ H R I (q σ H R z)
theorem se0(h:`cC):PID X tg e (uo0 g):=.mk λB δ=>`v6 (Xp0 `c6) fun σ H R hq79=>by
 let#[items,en,e1,k]:=hq79
 unfold uo0 at e1;cases e2:`av with
 | none=>rw[e2] at e1;cases e1
 | some d =>
  rw[e2] at e1;cases d<;>simp[cy0] at e1
  subst e1;refine`abY;rw[X6] at r;let#[a,xs,rfl,q,rs]:=r;refine`aC7
  ·have:`vR:=`GP
   exact`abZ
  ·let#[e3,y]:=y
   let#[x',e4,r']:=`ab_;have:=`ab0;rw[e4] at this;cases `E;subst e3;exact`ab1
  ·exact`ab2
theorem kg0(h:`cC):PID X tg e (tupI g):=.mk λB δ=>`v6 (I60 `c6) fun σ H R hq80=>by
 let#[items,en,e1,k]:=hq80
 unfold tupI at e1;cases e2:`av with
 | none=>rw[e2] at e1;cases e1
 | some d =>
  rw[e2] at e1;cases d<;>simp[Nu0] at e1
  subst e1;refine`abY;rw[U7] at r;let#[a,xs,rfl,q,rs]:=r;refine`aC7
  ·have:`vR:=`GP
   exact`abZ
  ·let#[e3,y]:=y
   let#[x',e4,r']:=`ab_;have:=`ab0;rw[e4] at this;cases `E;subst e3;exact`ab1
  ·exact`ab2
def ew0(x:Str):(`je x).length=`Cs:=by simp[`je]
theorem Wk0(h:`cC):PID X tg e (j40 g):=.mk λB δ=>`v6 (I70 `c6) fun σ H R hq81=>by
 let#[items,en,e1,k]:=hq81
 unfold j40 at e1;cases e2:`av with
 | none=>rw[e2] at e1;cases e1
 | some d =>
  rw[e2] at e1;cases d<;>simp[Xr0] at e1
  subst e1;refine`abY;rw[X5] at r;refine#[_,r,`ana]
  ·rw[ew0] at hi;exact hi
  ·let#[e3,c,hc,rfl]:=y
   subst e3;refine#[`GO,`tp,?_,λB' gB _=>`am6];unfold signs;rw[`cp,`aAd,hc];rfl
  ·rw[ew0] at hi;exact hi
def j60(lo hi:Int):(zf0 lo hi).length=`s2:=by simp[zf0]
def Lc0(lo hi:Int):ItD K B (Itr lo `s2) (zf0 lo hi) H:=by
 refine`TJ
 ·rw[j60] at hi;exact hi
 ·let#[e3,rfl]:=y
  rw[j60] at hi;subst e3;exact#[`GO,`_v,by simp[zf0,hi],λB' gB _=>`GH]
 ·rw[j60] at hi;exact hi
open T in
theorem wq0{a:`I}{p:Pos}(hm:`awP)(ha:`aC8)(hg:`awO := by rfl)(hs:`Lq:=by rfl):PID X tg `awR (u00 gA) :=
 .mk λB δ=>`v6 (Si0 hg hm `bs hs) fun σ H R hq82=>by
 let#[items,en,e1,k]:=hq82
 unfold u00 at e1;cases e2:`cO with
 | none=>rw[e2] at e1;cases e1
 | some ds =>
  rw[e2] at e1;simp only[`h] at e1;unfold U10 at e1;split at e1
  ·split at e1
   ·rename_i j hj
    cases e1;refine`ab3;rw[o8] at r;let#[x,t,rfl,r1,r2]:=r;rw[m9] at r2;subst r2;rw[j6] at r1;subst r1;refine#[j,rfl,hj.1,hj.2,k _ H' s' ?_];have:=Lc0 (K:=X.K) (B:=B) (H:=H') 0 j;rw[Int.sub_zero] at this;exact `E
   ·cases e1
  ·cases e1
def EnvS.lower{H₁:Hp}{σ:St}{δ:Ds}(e:`cj K H₁ `L H σ δ)(s:`dw `O H₁)(b0:`abR):`ck:=by
 let#[B,b1,b2,en]:=e.ex;exact#[s.trans e.same,#[B,b1,λa z=>(b2 a z).imp id λq=>s.free q,en],λi ds a h1 h2=>s.free (`aC2),b0]
open Classical in
theorem uu0(hp:`BV)(hc:`bx)(hi:`hg)(hg:`CT)(hb:`aC9)
  (hs:`eG:=by intro _;rfl):PSD X `_C (th0 gi f G):=.mk λH₀ B₀ δ pins s σ H D I hq83=>by
 let#[r,en,e1,k]:=hq83
 unfold th0 at e1;let#[B,b1,b2,env]:=`aK;cases e2:`to with
 | none=>rw[e2] at e1;cases e1
 | some items =>
  rw[e2] at e1;simp only[`h] at e1;have b3:`aC':=`aC!
  have a8:PSs X `d1 (λD σ H=>∃H₀ B₀ δ,`aC?):=λpins s σ H D I #[`O,`L,δ,h]=>`aDa
  refine `aDb;obtain⟨Hh,U⟩:∃Hh:Hp,`aDc:=`ad
  have a1:`aDd:=`aDe
  have Y:`aDf:=`aDg
  have a3:`aDh:=`aDi
  have a4:`aDj:=#[λb o h=>by
   by_cases z:`y_
   ·rw[`aDk] at h;cases h
   ·rw[U] at h
    have h':`aDl:=h;rw[`mz] at h';exact h',λb o xs h=>by
   by_cases z:`y_
   ·have h0:=`aDm
    rw[`aDn] at h0;cases h0
   ·rw[U]
    show (`GR)=_;rw[`mz];exact h]
  have hS:`aDo:=#[λb o h=>by
   have h1:=`aDp
   by_cases z:B b
   ·rcases b2 b z with q|q
    ·rw[a3 b q];exact h1
    ·rw[h] at q;cases q
   ·rw[a1 b z];exact h1,`aDq]
  have Z:=`jV;have start:`aDr:=by
   refine`aDs
   ·by_cases q:`nC
    ·exact `mj
    ·exact `aDt
   ·have hn:=`aDu
    have nb:¬`nC:=`aDv
    let#[o,e3,a',e4,hB,_]:=`aDw;rw[h2] at e3;cases e3;cases e4;exact Y a hB nb
   ·rw[a3 a z]
    exact `aDx
  refine#[λi m σ H=>m=`cP - i/\`ab4/\∃δi,`aDy/\y70 f G (`jS i) δi=`ew,`aDz,?_];rintro i m σi Hi ⟨rfl,c3,δi,O,ei⟩;have gr:`aDA:=`aDB
  by_cases hlt:`CV
  ·refine `s #[`aDC,fun σ' H'=>∃δn,`aDD/\y70 f G (`y0) δn=`ew,`aDE,`aDF]
   let#[sm,d,hd,rd]:=`aDG;let#[B',c1,c2,env0]:=O.ex;have a6:`aDH:=rd B' (λb o n h=>by
    have h':Hh b=`ap:=`TN
    refine`aDI;rcases c2 b z with q|q
    ·exact `aDJ
    ·rw[h'] at q;cases q) env0.bad
   have a5:=`aDK
   replace O:=O.grow sm
   have a2:`aDL:=by
    rw[`MX];congr 1;rw[`MY] at hd;exact A4 hd
   rw[a2] at ei;unfold y70 at ei;cases e3:f d δi with
   | none=>rw[e3] at ei;cases ei
   | some δ2 =>
    rw[e3] at ei;simp only[`h] at ei;refine`aDM;have a7:`aDN:=`aDO;cases e4:G δ2 with
    | none=>rw[e4] at ei;cases ei
    | some rb =>
     rw[e4] at ei;refine`aDP;cases rb with
     | nx δn=>exact `ab5
     | ct δn=>exact `ab5
     | bk δn =>
      cases ei;exact fun σ' H' en'=>k σ' H' (en'.lower hS `jR)
     | rt d' =>
      cases ei;exact λv H' s' r'=>k v H' (`ab6 s') r'
     | rf d' =>
      cases ei;exact λp H' hp s' r'=>k p H' (hS.free hp) (`ab6 s') r'
  ·have e:i=`cP:=`J
   subst e;refine `aDQ;rw[`v7] at ei;cases ei;exact `aDR
structure PFD(X:Cx)(ifs:`bA)(g:`gt):Prop where
 mk::go:`aDS
instance{X:Cx}{ifs:`bA}{g:`gt}:`e5 (PFD X ifs g) (λ_=>`aDS):=#[PFD.go]
theorem wg0:PFD X [] noT:=.mk λB δ pins s σ H Q I hq84=>by
 let#[b,en,e,k]:=hq84
 cases e;exact I80 `i s σ H Q I (`MZ)
theorem W10(h:`MV):PFD X [c] gt:=.mk λB δ=>Ig0 `c6
def Y40{σ:St}(h:j<n):`fn[j]?=`b8:=by
 unfold G3;rw[`ga `hZ,`rI,`cV]
theorem pz0:∀n:Nat,`bS `GE (`aW n (`d:`dq)) (`aDT)
 | 0=>`X
 | n+1=>`aq `lE (pz0 n)
theorem bj0{σ:St}{δ:Ds}(en:`a'):∀caps:`m,`bS `GE (`aAH) (`aBE)
 | []=>`X
 | j::`cM=>by
  refine `aq ?_ (bj0 en `cM);show SlR K H B `Tb (lz0 `jI);cases h:`jI with
  | none=>trivial
  | some sl =>
   cases sl with
   | un=>trivial
   | ow ds=>trivial
   | ex c n=>trivial
   | sh d =>
    let#[v,e,r]:=en.get h;rw[e];exact`aCy
def O60{o:`Ms}{ds:D}(h:lz0 o=`Ty):`b':=by
 cases o with
 | none=>cases h
 | some s=>cases s<;>cases h
def us0{δ:Ds}{ds:D}(h:`iA[i]?=`GF):`b':=by
 unfold zl0 at h
 by_cases hi:i<n
 ·rw[`LM,`rI,`V hi] at h
  cases h
 ·rw[`aad,`cp] at h
  cases q:`cM[i - (`aDT).length]? with
  | none=>rw[q] at h;cases h
  | some j =>
   rw[q] at h;exact O60 (`nM)
theorem Env.comp{σ:St}{δ:Ds}(en:`a')(n:Nat)(caps:`m):Env K H B `fn `iA :=
 #[`iE (pz0 n) (bj0 en `cM),`M_,`ab7]
def SlR.gr{o:`dq}{s:Sl}(g:`eJ)(no:∀ds,s≠`Ty)(h:`MJ):SlR K H' B' o s:=by
 cases s with
 | un=>trivial
 | sh d=>let#[v,e,r]:=h;exact`CW
 | ow ds=>exact `N rfl (no ds)
 | ex c n=>let#[a,e,r]:=h;exact#[a,e,`ty]
def Pd.impG(g:`eJ):∀{σ:St} {δ:Ds},(`aDU)->`aCu->`bS (SlR K H' B') σ δ:=by
 intro σ δ no p
 induction p with
 | nil=>exact `X
 | cons r t ih=>exact `aq (r.gr g λds z=>no 0 ds (by rw[← z];rfl)) (ih λi ds z=>no `es ds `aDV)
def tDF(K:`A)(B:BS)(δ:Ds)(g:`cq):TE:=fun σ H Q=>∃d,`a'/\`ih/\`aDW
structure PDF(X:Cx)(e:`I)(g:`cq):Prop where
 mk::go:`aDX
instance{X:Cx}{e:`I}{g:`cq}:`e5 (`v8) (λ_=>`aDX):=#[PDF.go]
def tD.toF{δ:Ds}{σ:St}{Q:VK}(h:tD K B δ g σ H Q):tDF K B δ g σ H Q:=by
 let#[d,en,e,k]:=h;exact#[d,en,e,λp H' hp s r=>k _ H' s (r.rp (λa z=>`gc) (en.free hp))]
theorem PDF.pd(h:`v8):`cC:=.mk λB δ=>(`TG).imp fun σ H Q z=>z.toF
def pg0{K:`A}{B:BS}{δ:Ds}{σ:St}{H:Hp}{Q:VK}{caps:`m}{gi:`fQ}{f:`a8}{gt:`gt}{ge:`cq}(hidx:∀j∈idx,j<n)
  (h:tDF K B δ `y1 σ H Q) :
  cr0 n `cM (tDI K B δ gi) `aDY (fun σ H Q=>∃B δ,tDT K B δ gt σ H Q) (fun σ H Q=>∃B δ,tD K B δ ge σ H Q) σ H Q:=by
 let#[d,en,h,k]:=h;unfold T4 at h;cases e1:`to with
 | none=>rw[e1] at h;cases h
 | some items =>
  rw[e1] at h;simp only[`h] at h
  by_cases hsz:`rQ
  ·rw[`V hsz] at h
   cases e2:`Ti with
   | none=>rw[e2] at h;cases h
   | some out =>
    rw[e2] at h;cases h;refine#[`ba,en,e1,`aDZ];have Y:=`gP;have b1:¬B L:=Y.free hL;obtain⟨Bp,O⟩:∃Bp:BS,Bp=`aD_:=`ad
    have a3:Bp L:=by rw[O];exact `b?
    have a8:∀a,B a->Bp a:=λa z=>by rw[O];exact `gc
    have a2:∀a,Bp a->`ang:=λa z=>by rw[O] at z;exact z
    have gr:∀{H2:Hp},`Mg->`aD0:=λ{H2} s2 b o nb hb=>#[(λz=>by
     rcases a2 b z with q|q
     ·exact nb q
     ·subst q;rw[hL] at hb;cases hb),s2 b o hb]
    refine#[λi m ys H2=>m=`cP - i/\`ab4/\`aD1/\`Mg/\`er<=i/\∃pre rest,out=pre++`a3/\`aD2/\zk0 f gt ge `iA (`jS i)=`a `a3,
     #[_,rfl,`cN,m8,Z5 hL,`ho,[],out,rfl,`fS,e2],?_]
    rintro i m ys H2 ⟨rfl,b2,hD,s2,b0,pre,rest,ho,rp,ec⟩;have U:Env K H2 Bp `fn `iA:=by
     refine#[Pd.impG (gr s2) `aD3 (Y.comp n `cM).all,`gQ,`ab7];rcases a2 a z with q|q
     ·exact(Y.same s2).bad a q
     ·subst q;rw[hD];exact .of rfl `aCk λ_ z=>nomatch z
    by_cases hlt:`CV
    ·refine `s #[it.go i H2 `M0 hlt,`aD4]
     let#[sm,dx,a1,rx]:=`TP i H2 x H3 `M0 y hlt;have a7:`aD5:=rx Bp (gr (`If sm)) U.bad
     replace U:=U.same sm
     replace s2:=`If sm
     replace hD:=sm _ _ hD
     replace rp:=rp.same sm
     have Z:`jS i=dx::`y0:=by
      rw[`MX];congr 1;rw[`MY] at a1;exact A4 a1
     rw[Z] at ec;unfold zk0 at ec;cases e3:f dx `iA with
     | none=>rw[e3] at ec;cases ec
     | some δ' =>
      rw[e3] at ec;dsimp only at ec;refine#[Bp,dx,`Gt,δ',a7,U,e3,fun σ4 w en4=>#[#[w.len,λj v z=>?_],?_]]
      ·by_cases hj:j∈idx
       ·rw[Y40 (`fV j hj)] at z;cases z
       ·rw[(`yZ j hj).1];exact z
      ·cases e4:`Cy with
       | none=>rw[e4] at ec;cases ec
       | some t =>
        rw[e4] at ec;refine#[Bp,δ',t,en4,e4,`aD6];cases t with
        | false =>
         rw[`oB];exact#[`TO,`J,rfl,hlt,s5 _ _ hD,`If s5,`J,pre,`a3,ho,rp.same s5,ec]
        | true =>
         rw[`bc];dsimp only at ec;cases e5:`Gu with
         | none=>rw[e5] at ec;cases ec
         | some yd =>
          rw[e5] at ec;dsimp only at ec;cases e6:zk0 f gt ge `iA (`y0) with
          | none=>rw[e6] at ec;cases ec
          | some rest' =>
           rw[e6] at ec;cases ec;refine#[Bp,δ',yd,`aD7,e5,λv H6 s6 r6=>?_];have a6:`aD8:=s6 _ _ (s5 _ _ hD);have g6:`aD9:=λb o nb hb=>#[nb,by
            rw[m5 (λz=>nb (by rw[z];exact a3))];exact hb]
           refine#[a6,`J,`TO,`J,rfl,hlt,m8,#[λb o hb=>?_,λb ob zs hb=>?_],`Fz,pre++[yd],rest',by rw[ho];simp,?_,e6]
           ·have a5:b≠L:=λz=>by rw[z,hL] at hb;cases hb
            rw[m5 a5];exact s6 _ _ (s5 _ _ (s2 _ _ hb))
           ·by_cases z:b=L
            ·rw[z,m8] at hb;cases hb
            ·rw[`oT] at hb
             exact s2.nf _ _ _ (s5.nf _ _ _ (s6.nf _ _ _ hb))
           ·exact(`qm ((rp.same s5).same s6) r6).mono g6
    ·have e:i=`cP:=`J
     subst e;refine `t #[`TQ _ H2 `M0 `bj,?_];rw[`v7] at ec;have a4:`aD':=A4 ec;subst a4;rw[`dh] at ho;subst ho;refine k L H2 (`lG hL) `nK #[ys,hD,?_];rw[O] at rp;exact rp
  ·rw[`al hsz] at h;cases h
theorem bk0{sc scope:`cz}{elt iter:`I}{ifs:`bA}{N':`j}{n:Nat}{caps:`m}{gi:`fQ}{idx:`m}{f:`a8}{ge:`cq}
  (hc:`bx) (hsc:`fP) (ok:`oO) (hidx:∀j∈idx,j<n) (hi:`hg)
  (hg:`ii) (ht:`rT) (he:`oW)
  (hs:`eG:=by intro _;rfl) :
  `aD!:=.mk λB δ =>
 (fj0 hc hsc ok `GQ (g:=`p8) (tt:=`M1) (te:=`M2)
  `v9
  `ab8
  `M3 hs).imp fun σ H Q h=>pg0 `fV h
theorem Mv0{sc scope:`cz}{elt iter:`I}{ifs:`bA}{N':`j}{n:Nat}{caps:`m}{gi:`fQ}{idx:`m}{f:`a8}{ge:`cq}
  (hc:`bx) (hsc:`fP) (ok:`oO) (hidx:∀j∈idx,j<n) (hi:`hg)
  (hg:`ii) (ht:`rT) (he:`oW)
  (hs:`eG:=by intro _;rfl) :
  `aD?:=(bk0 hc hsc ok `fV hi hg ht he hs).pd
theorem Yg0(i:Nat){y:Str}{py spos:Pos}{sc scope:`cz}{elt iter:`I}{ifs:`bA}{N':`j}{n:Nat}{caps:`m}{gi:`fQ}{idx:`m}{f:`a8}{ge:`cq}
  (hN:`ek) (hc:`bx) (hsc:`fP) (ok:`oO) (hidx:∀j∈idx,j<n) (hi:`hg)
  (hg:`ii) (ht:`rT) (he:`oW)
  (hiN:`kL:=by rfl) (hy:`ie:=by first|exact `aU|exact `fp)
  (hsw:`Mn:=by rfl)
  (hs:`eG:=by intro _;rfl)
  (hf:`ig:=by first|exact `bQ|exact `b?|assumption) :
  `aEa:=.mk λH₀ B₀ δ pins s σ H D I hq85=>by
 refine `e;let#[r,en,e1,k]:=hq85
 unfold Z7 at e1;let#[B,b1,b2,env]:=`aK;cases e2:`abp with
 | none=>rw[e2] at e1;cases e1
 | some d =>
  rw[e2] at e1;cases e1;refine `b;refine ow0 (i:=i) hN hiN hy hc hsc ok `GQ (g:=`p8) (tt:=`M1) (te:=`M2)
   `v9
   `ab8
   `M3 hsw hs hf `i s σ H D I (pg0 `fV (tD.toF #[d,env,e2,λv H' s' r'=>k _ H' (en.wr b1 b2 s' Z40 ((`abW).set i r'))]))
universe zz
theorem vn0{N:`j}:∀{ds:`n} {vs:`S},`MP->`bS `GE (`j3 `a) (ds.map `l!)
 | [],_,h=>by rw[m9] at h;subst h;exact `X
 | `aB,_,h=>by
  rw[o8] at h;let#[x,r,rfl,h1,h2]:=h;exact `aq `MD (vn0 (N:=N) h2)
def pf0{es:D}(h:`GU[i]?=`aCv):`b':=by
 unfold S7 at h
 by_cases hi:i<`bR
 ·rw[`LM,`cp] at h
  cases q:ds[i]? with
  | none=>rw[q] at h;cases h
  | some d=>rw[q] at h;cases h
 ·rw[`aad,`rI] at h
  split at h<;>cases h
section
variable{P:`ao}{w:`Q}
def okD{st:`a1}{k:Nat}{f:`T}{G:`jd}(F:`M4)(S:`Cq)
  (body:`aEb)
  (hf:∀ds d,`CM->`bR=`aD/\`aEc) :
  `W P w K mg `l CX0 `f! fa fd ps (spD K f):=by
 refine `aEd
 ·rw[`cJ];exact(`CX).1
 ·refine`aEe
  refine `e;have en:`aEf:=by
   refine`aEg;unfold L2.start S7;rw[`cJ];exact `aEh
  rcases (`CX).2 with e|⟨rfl,δ,e⟩|⟨e,hn⟩
  ·refine `b;exact#[_,en,e,λv H' s' r'=>q v H' s' r']
  ·refine `b;exact#[_,en,e,fun σ' H' en'=>q `x H' `Vr `jW]
  ·refine `b;exact#[_,en,e,λp H' hp s' r'=>q _ H' s' ((r'.toO hn).rp (λa z=>`gc) (λz=>hb p z hp))]
def spN(K:`A)(f:`T):Sp:=λvs H Q _=>∃(B:BS) (ds:`n) (d:D),`oU/\`MP/\`CM/\`aDW
def okN{st:`a1}{k:Nat}{f:`T}{G:`jd}(F:`M4)(S:`Cq)
  (body:`aEb)
  (hf:∀ds d,`CM->`bR=`aD/\`TV) :
  `W P w K mg `l CX0 `f! fa fd ps (spN K f):=by
 refine `aEd
 ·rw[`cJ];exact(`CX).1
 ·refine`aEe
  have en:`aEf:=by
   refine`aEg;unfold L2.start S7;rw[`cJ];exact `aEh
  exact#[_,en,(`CX).2.1,λp H' hp s' r'=>q p H' hp s' (r'.toO (`CX).2.2)]
universe zz
universe DL
namespace L2
open Spec PyProof.Rows
theorem Zi0:∀{ys:`j} {us:`K},`aEi->StrsAre us ys
 | [],_,r=>`aEj
 | `CY,_,r=>by
  rw[`ab] at r;cases r with
  | cons r1 r2 =>
   let#[t,e]:=r1;subst e;exact `aq y t (Zi0 r2)
def K30:MtR X "str.join" (λx xs H Q=>∃(sep:Str) (p:`f) (ys:`j),x=`u sep/\`nl/\SqL X.K H p `y4/\`aBL/\Q `aBM H):=by
 intro pins s σ H x xs v us Q I rx rs h;refine `e;let#[sep,p,ys,rfl,rfl,hq,hz,q]:=h;let#[t,rfl]:=rx;let#[u,rfl,ru]:=rs.one;cases ru;let#[its,rv,pl,_]:=`hd;refine `b;exact join_list `mt (by simpa using Zi0 rv) hz `aEk
def part_of{o:`a5}(p:`yq u o):∃l:`aL (Int×Tok),u=partValue l/\`dx `bK=o:=by
 cases p with
 | none=>exact#[`d,rfl,rfl]
 | int i t=>exact#[`a (i,t),rfl,rfl]
def It0:SlR X (λx lo hi H Q=>∃z,x=`jF/\`td/\Q `aEl H):=by
 intro pins s σ H x v vl vu lo hi sl Q I rx hs pl pu h;refine `e;let#[z,rfl,hz,q]:=h;let#[t,rfl]:=rx;let#[l,rfl,rfl]:=part_of pl;let#[u,rfl,rfl]:=part_of pu;refine `b;refine#[`i?,_,F.slot_str_getitem.lookup,b6 _ _ _,wpAny_getItem_str_slice (l:=l) (u:=u) (st:=`d) ?_ rfl (post_val_or_str #[C0 (Txt.slice_le z _ _) hz,`aEk])];let#[o,h1,h2,h3]:=hs;exact#[o,h1,h2,h3]
universe L2
namespace DL
open Spec PyProof.Rows L2
def tyD:D->`cd
 | `x => "NoneType"|`bN => `v'|`co => `h!|`bq => `i?|`Cx => `dk|`b_ => `eS|`oX => `E2|`oY => `sA
def okT(T:`cd)(f:`cA):Prop:=∀(K:`A) (d:D),W.kitOne K (`a! (tyD d)) `mU=`a (f d)
theorem W40:okT `h! isInt:=`M5
theorem Yx0:okT `i? isStr:=`M5
theorem nn0:okT `v' `A9:=`M5
theorem p20:okT `dk `Iw:=`M5
section
def b90{T:`cd}{f:`cA}(hT:`ab9):`fl X (`bo `tB) (λxs H Q=>∃B d x,xs=[x,.ty T]/\`Hg/\Q (.bl (f d)) H):=by
 intro pins s σ H xs us Q I rs h;refine `e;let#[B,d,x,rfl,r,q]:=h;let#[u,c,rfl,ru,rc]:=rs.two;obtain rfl:c=`jZ T:=rc;have fin:∀tk,EP X `i σ Q (`gA (f d)) { s with toks:=tk }:=λtk=>#[`bN,H,I.tok tk,rfl,q]
 have e:=hT X.K d;cases d with
 | non=>rw[V6] at r;subst r;cases (show u=`lI from ru);refine `b;exact L6 W.kitx_none `dc `ll e `dy fin
 | bl y=>rw[Z9] at r;subst r;cases (show u=`yD y from ru);refine `b;exact L6 W.kitx_bool `dc `ll e `dy fin
 | int i=>rw[j6] at r;subst r;let#[t,rfl]:=(show `FL from ru);refine `b;exact L6 W.kitx_int `dc `ll e `dy fin
 | str y=>rw[X5] at r;subst r;let#[t,rfl]:=(show ∃t,u=`E5 y t from ru);refine `b;exact L6 W.kitx_str `dc `ll e `dy fin
 | tup ds =>
  rw[U7] at r;let#[a,xs,rfl,hq,_]:=r;cases `M6;let#[its,_,p,_]:=`hu `mA;let#[o,h1,h2,_]:=p;refine `b;exact L6 W.kitx_tuple `dc `aEm e `dy fin
 | lst ds =>
  rw[X6] at r;let#[a,xs,rfl,hq,_]:=r;cases `M6;let#[its,_,p,_]:=`dt `mA;let#[o,n,h1,h2,_]:=p;refine `b;exact L6 W.kitx_list `dc `aEm e `dy fin
 | dct ks ds =>
  rw[q30] at r;let#[a,xs,rfl,_,hq,_]:=r;cases `M6;cases ks with
  | inl ks =>
   let#[_,_,vs,_,p]:=(show `cG `aR X.w H `ar a (`Mz) from `aEn);let#[o,es,ep,h1,h2,_]:=p;refine `b;exact `aEo
  | inr ks =>
   let#[_,_,vs,_,o,es,ep,h1,h2,_]:=(show `cG `aR X.w H `ar a (`abq) from `aEn);refine `b;exact `aEo
 | fn ks ds =>
  rw[Vs0] at r;let#[a,xs,rfl,hq,_]:=r;cases `M6;let#[oF,_,_,_,_,_,_,_,_,#[_,h1],#[h2,_],_]:=hq;refine `b;exact L6 KfT.kit `dc #[oF,(`bg a _ h1).1,h2] e `dy fin
theorem vp0{T:`cd}{f:`cA}{Tn:Str}{p p2 pos:Pos}(hT:`ab9)(hb:`aEp)(hm:`aEq)(hmT:`aEr)(h:`cC)(hg:`aEs := by rfl)(hgT:Gl X Tn:=by rfl)
  (hn:`aEt := by decide) (hd:`aEu:=by decide)
  (he:`aEv:=by rfl) (he2:`aEw:=by rfl)
  (hpl:`aEx:=by rfl) :
  PD X `aEy (z80 f g) :=
 .mk λB δ=>(oy0 (b90 hT) hg hm Cp0 (R8 `c6 `aEz he) `r `r he hpl).imp fun σ H Q hq86=>by
  let#[d,en,h,k]:=hq86
  unfold z80 at h;cases e1:`av with
  | none=>rw[e1] at h;cases h
  | some x =>
   rw[e1] at h;cases h;exact#[x,en,e1,λv H1 s1 r1=>#[B,x,v,rfl,r1,k _ H1 s1 `yX]]
open T in
def Z80{C:`_F}[∀i j,`v! (C i j)]{g:`Ls}{g':`aEA}(hg:`aEB):Op2 K (rI C g) (ii λi j=>if C i j then `a `TZ else `d):=by
 intro H B x y dx dy d Q hb rx ry h k;cases dx<;>cases dy<;>simp only[ii] at h<;>try cases h
 rename_i i j;split at h
 ·cases h
  rw[j6] at rx ry;subst rx ry;exact#[i,j,rfl,rfl,`v?,`aEC]
 ·cases h
open T in
def mq0{g:`Ls}{g':`aEA}(hg:`aEB):Op2 K (rI0 g) (ii λi j=>`a `TZ):=by
 intro H B x y dx dy d Q hb rx ry h k;cases dx<;>cases dy<;>simp only[ii] at h<;>try cases h
 rename_i i j;rw[j6] at rx ry;subst rx ry;exact#[i,j,rfl,rfl,`aEC]
instance decDiv(i j:Int):`v! (Qp0 i j):=inferInstanceAs (`v! (`Lv))
instance decPow(i j:Int):`v! (Q80 i j):=inferInstanceAs (`v! (`_H))
variable{a:`I}{ga:`cq}
theorem G7(ha:`cW)(hb:`dE):PD X (`pG a .Sub b pos) (o2 ga gb z70):=nl0 J30 (mq0 (g':=`aw6) `M7) ha hb
theorem W9(ha:`cW)(hb:`dE):PD X (`pG a .FloorDiv b pos) (o2 ga gb d7):=nl0 Kj0 (Z80 (C:=Qp0) (g':=`aw8) `M7) ha hb
theorem Z4(ha:`cW)(hb:`dE):PD X (`pG a .Mod b pos) (o2 ga gb m7):=nl0 Kv0 (Z80 (C:=`aw9) (g':=`aw') `M7) ha hb
theorem oh0(ha:`cW)(hb:`dE):PD X (`pG a .Pow b pos) (o2 ga gb mz0):=nl0 Il0 (Z80 (C:=Q80) (g':=`aw!) `M7) ha hb
universe zz
universe DL
namespace L2
open Spec PyProof.Rows
def N80(K:`A):R2:=λx y H Q=>∃l b xs zs,`L?/\`Ce/\SqL K H l xs/\`aED/\`aEE/\∀p,`d8->Q `dv (upd H p `M8)
def X00:OpR X `B1 (N80 X.K):=by
 intro pins s σ H x y v u Q I rx ry h;refine `e;let#[l,b,xs,zs,rfl,rfl,hH,hB,hz,q]:=h;cases rx;cases ry;let#[its,r,p1,z1]:=`dt hH;let#[J,r2,p2,z2]:=`dt hB;let#[#[cls,dd,data,sl],ho,hc,n,hd]:=`ji;let#[#[a3,a2,data2,Z],Y,O,n2,U]:=`oZ;simp only at hc hd O U;subst hc hd O U;have e:`bv++`ab'=(its++J).toArray:=`a4
 have a1:`aEF:=by
  rw[`bM,`bM,← `cJ,← `nc];exact hz
 refine `b;refine t9 `kG #[_,Y,rfl] noFill_list_add seq_list_add PySem.F.slot_list_add PySem.F.entry_list_add (PySem.F.args_list_add_2 _ _) (list_addW l b `bv `ab' n n2 dd a2 sl Z a1) #[ho,Y,?_];rw[e];exact#[`z _,_,I.lnew (t':=`bf) (`FQ r2) (`azt),rfl,`aEG]
universe L2
namespace DL
open Spec PyProof.Rows L2
section
variable{a:`I}{p:Pos}{ga:`cq}
theorem d30(hb:`yW){p:`f}(h:`d8):¬B p:=λz=>hb p z h
def om0{p:`f}(hb:`yW)(h:`d8)(r:`bp):Rp K (upd H p `m9) B `Gr `dv:=by
 rw[X6];exact#[p,xs,rfl,`t #[d30 hb h,`abN],`aEH]
def kj0{p:`f}(hb:`yW)(h:`d8)(r:`bp):Rp K (upd H p `sR) B `tl `dv:=by
 rw[U7];exact#[p,xs,rfl,#[d30 hb h,m8],`aEH]
theorem qi0:Op2 K (rI0 `_J) ltD:=mq0 (g':=`_J) `M9
theorem by0:Op2 K (rI0 `_K) leD:=mq0 (g':=`_K) `M9
theorem sp0:Op2 K (rI0 `_L) gtD:=mq0 (g':=`_L) `M9
theorem ab0:Op2 K (rI0 `_M) geD:=mq0 (g':=`_M) `M9
def Tt0{x y:V}{dx dy:D}{b:`M}(rx:`abH)(ry:`aCF)(h:`ab!=`nv):`_I/\`Su=b:=by
 cases dx<;>cases dy<;>simp only[eqS] at h<;>try cases h
 all_goals
  simp only[V6,Z9,j6,X5] at rx ry;subst rx ry;refine`KM;simp
def Z1:Op2 K rEq eqD:=by
 intro H B x y dx dy d Q hb rx ry h k;unfold eqD at h;cases e:`ab! with
 | none=>rw[e] at h;cases h
 | some b =>
  rw[e] at h;cases h;let#[h1,h2]:=`aEI;exact`aEJ
def gl0:Op2 K rNe neD:=by
 intro H B x y dx dy d Q hb rx ry h k;unfold neD at h;cases e:`ab! with
 | none=>rw[e] at h;cases h
 | some b =>
  rw[e] at h;cases h;let#[h1,h2]:=`aEI;exact`aEJ
def k00:Op2 K `axb nm0:=by
 intro H B x y dx dy d Q hb rx ry h k;have hy:dy=`x:=by cases dy<;>first|rfl|cases h
 subst hy;cases h;rw[V6] at ry;refine`aEK;rw[Z9];cases dx<;>simp only[V6,Z9,j6,X5,U7,X6,q30,Vs0] at rx
 all_goals first
  | (subst rx;rfl)
  | (let#[a,xs,rfl,_]:=rx;rfl)
theorem R60(xs:`aT)(i:Int):`ab?=DL.atI xs i:=rfl
def o80(n d:Nat)(o:`a5):`iz n d o=sIx n d o:=by cases o<;>rfl
def Xk0{i:Int}{d:D}(r:`bp)(h:DL.atI ds i=`bw):∃v,`ab?=`bL/\`cR:=by
 rw[R60];unfold DL.atI at h ⊢;rw[`cJ];cases e:DL.ixN `bR i with
 | none=>rw[e] at h;cases h
 | some j =>
  rw[e] at h;exact `rJ h
def Ju0:Op2 K (rIx K) ixD:=by
 intro H B x y dx dy d Q hb rx ry h k;cases dx<;>cases dy<;>simp only[ixD] at h<;>try cases h
 ·split at h
  ·rename_i hz
   rw[X5] at rx;rw[j6] at ry;subst rx ry;let#[c,hc,rfl]:=u7.mp h;exact `s (`s #[_,_,c,rfl,rfl,hz,hc,`MN])
  ·cases h
 ·refine `e;rw[U7] at rx
  rw[j6] at ry;subst ry;let#[a,xs,rfl,q,r]:=rx;let#[v,hv,rv]:=Xk0 r h;refine `b;exact `s (`aEL)
 ·refine `e;rw[X6] at rx
  rw[j6] at ry;subst ry;let#[a,xs,rfl,q,r]:=rx;let#[v,hv,rv]:=Xk0 r h;refine `b;exact `aEL
theorem Z0(ha:`cW)(hb:`dE)(hs:`Cg:=by exact `mx):PD X `Ch (o2 ga gb ixD):=Gf0 Jd0 Ju0 ha hb hs
structure PDO(X:Cx)(e:`jU)(g:`Cz):Prop where
 mk::go:`aEM
instance{X:Cx}{e:`jU}{g:`Cz}:`e5 (PDO X e g) (λ_=>`aEM):=#[PDO.go]
theorem xk0:PDO X `d yo0:=.mk λB δ pins s σ H Q I hq87=>by
 let#[o,en,h,k]:=hq87
 cases h;exact K40 `i s σ H Q I (`MZ)
theorem M5(h:`cC):PDO X (`a e) (`hN g):=.mk λB δ pins s σ H Q I hq88=>by
 let#[o,en,hq,k]:=hq88
 unfold someO at hq;cases e1:`av with
 | none=>rw[e1] at hq;cases hq
 | some d =>
  rw[e1] at hq;cases d<;>simp[asI] at hq
  subst hq;exact Mg0 `c6 `i s σ H Q I #[_,en,e1,λv H' s' r=>#[_,`aEN,k H' s']]
def ea0(r:`bp)(lo hi:`a5):Rps K H B (`hH ds lo hi) (`F1):=by
 unfold cutD lj0;rw[`cJ,o80,o80];exact(r.drop _).take _
def yc0{d:D}(h:Rps K H B [d] xs):∃v,xs=[v]/\`cR:=by
 rw[o8] at h;let#[x,r,rfl,h1,h2]:=h;rw[m9] at h2;subst h2;exact`MD
def Iy0:FnR K (λxs H Q=>(`azS)∨∃p ys,`nl/\(`aca∨`acb)/\`azQ) T8:=by
 intro H B xs ds d Q hb r h k;unfold T8 at h;split at h
 ·split at h
  ·cases h
   let#[v,rfl,r1]:=`jj;rw[X5] at r1;subst r1;exact `t #[_,rfl,`v?,`qj]
  ·cases h
 ·refine `e;cases h
  let#[v,rfl,r1]:=`jj;rw[X6] at r1;let#[a,ys,rfl,q,rr]:=r1;refine `b;exact `s #[a,ys,rfl,`acc,`aEO]
 ·refine `e;cases h
  let#[v,rfl,r1]:=`jj;rw[U7] at r1;let#[a,ys,rfl,q,rr]:=r1;refine `b;exact `s #[a,ys,rfl,`acd,`aEO]
 ·cases h
theorem zp0(hm:`aEP)(ha:`CZ)(hg:`aEQ := by rfl)(he:`fW:=by rfl)(hpl:`jk:=by rfl) :
  PD X `aER (oA gA T8):=wl0 (bz0.or lo0) Iy0 hm c6 ha hg `r `r he hpl
theorem a90:∀{ds:`n} {xs:`S} {bs:`j},`bp->jx0 ds=`a bs->xs=bs.map `y3
 | [],_,_,r,h=>by
  cases h;rw[m9] at r;exact r
 | `aB,_,bs,r,h=>by
  rw[o8] at r;let#[x,t,rfl,r1,r2]:=r;cases d<;>simp only[jx0] at h<;>try cases h
  let#[t',e,rfl]:=u7.mp h;rw[X5] at r1;rw[r1,a90 r2 e];rfl
theorem Yz0{apos cpos:Pos}(ho:`ace)(ha:`CZ)(hbase:`fh o "join" `w `nm=`hw:=by rfl)
  (hfew:(`o_
  &&`M')=`c:=by rfl)
  (hline:`fO:=by rfl) (hs:`fW:=by rfl) (hplain:`mB:=by rfl) :
  PD X (`aV (`cI o "join" `eV) [e] [] `ca) (nv0 g gA):=.mk λB δ =>
 (rl0 `aES F.slot_str_join F.type_str_join K30 (ho B δ) `bs `e3 `ja `gr hs `kH).imp fun σ H Q hq89=>by
  refine `e;let#[d,en,h,k]:=hq89
  unfold nv0 at h;cases e1:`av with
  | none=>rw[e1] at h;cases h
  | some x =>
   cases e2:`cO with
   | none=>rw[e1,e2] at h;cases h
   | some ds =>
    rw[e1,e2] at h;simp only[`h] at h;unfold cu0 at h;split at h
    ·cases e3:jx0 _ with
     | none=>rw[e3] at h;cases h
     | some ys =>
      rw[e3] at h;simp only[`h] at h;split at h
      ·cases h
       refine `b;refine`acf;rw[X5] at r1;subst r1;refine`aET;refine `e;let#[w,rfl,r3]:=yc0 r2;rw[X6] at r3;let#[a,zs,rfl,q,rr]:=r3;have:=a90 rr e3;subst this;refine `b;exact#[_,a,ys,rfl,rfl,`ex,`v?,k _ H2 `nK `GI]
      ·cases h
    ·cases h
def qm0:FnR K (λxs H Q=>∃p ys,`nl/\((`aca/\`amp)∨(`acb/\Q `dv H))) yw0:=by
 intro H B xs ds d Q hb r h k;unfold yw0 at h;split at h
 ·refine `e;cases h
  let#[v,rfl,r1]:=`jj;rw[X6] at r1;let#[a,ys,rfl,q,rr]:=r1;refine `b;exact#[a,ys,rfl,`t #[`ex,λl hl=>k _ _ (Z5 hl) (kj0 hb hl rr)]]
 ·refine `e;cases h
  let#[v,rfl,r1]:=`jj;have J:=r1;rw[U7] at r1;let#[a,ys,rfl,q,rr]:=r1;refine `b;exact#[a,ys,rfl,`s #[`ex,k _ H `dO J]]
 ·cases h
universe zz
section
variable{a:`I}{p:Pos}{ga:`cq}
theorem z90(h:`cW):PD X (`Sk .USub a pos) (unG U4 ga):=.mk λB δ=>(G20 Jg0 `c6).imp fun σ H Q hq90=>by
 let#[d,en,h,k]:=hq90
 unfold unG at h;cases e1:`de with
 | none=>rw[e1] at h;cases h
 | some x =>
  rw[e1] at h;cases x<;>simp[U4] at h
  subst h;exact#[_,en,e1,λv H' s r=>#[_,`aEN,k _ H' s `tt]]
def FnD(P:`ao)(w:`Q)(K:`A)(mg:`a2)(base:`D)(x:Str)(k:Nat)(ps:`j)(f:`T):Prop :=
 ∃(fa:`f) (fd:`e1),`W P w K mg `l CX0 k fa fd ps (spD K f)/\`acg
def K7{k m:Nat}{f:`T}(C:`aEU)(hr:`wa)(hk:k<=m)(ha:`oV)(hg:`c!:=by rfl)(hdb:`aQ:=by decide)
  (he:`eH:=by rfl) (hpl:`hf:=by rfl):`CQ:=by
 let#[fa,fd,F,hm,kp,hb]:=C;exact Mb0 F `kO hm kp hb ha hg hdb he hpl
theorem gq0{sc scope:`cz}{elt iter tg:`I}{ifs:`bA}{N N':`j}{n:Nat}{caps:`m}{gi:`fQ}{idx:`m}{f:`a8}{gt:`gt}{ge:`cq}
  (ok:`o0) (hidx:∀j∈idx,j<n) (hi:`hg)
  (hg:`ii) (ht:`rT) (he:`oW)
  (hc:`bx:=by rfl) (hsc:`fP:=by rfl) (hN:`rU:=by rfl) (hs:`eG:=by intro _;rfl) :
  `aD?:=Mv0 hc hsc `rV `fV hi hg ht he hs
theorem ju0(i:Nat){y:Str}{py spos:Pos}{sc scope:`cz}{elt iter tg:`I}{ifs:`bA}{N N':`j}{n:Nat}{caps:`m}{gi:`fQ}{idx:`m}{f:`a8}{gt:`gt}{ge:`cq}
  (hnd:`BL) (ok:`o0) (hidx:∀j∈idx,j<n) (hi:`hg)
  (hg:`ii) (ht:`rT) (he:`oW)
  (hc:`bx:=by rfl) (hsc:`fP:=by rfl) (hN:`rU:=by rfl)
  (hiN:`kL:=by rfl) (hy:`ie:=by first|exact `aU|exact `fp)
  (hsw:`Mn:=by rfl)
  (hs:`eG:=by intro _;rfl)
  (hf:`ig:=by first|exact `bQ|exact `b?|assumption) :
  `aEa:=Yg0 i `aEV hc hsc `rV `fV hi hg ht he hiN hy hsw hs hf
universe zz
universe DL
namespace DL
open Spec PyProof.Rows
@[simp] def fz:D->Sl
 | `y [`b_,`b_]=>.un
 | `y (`bq::_)=>.un
 | `y [`co,`Cx]=>.un
 | d=>.sh (unl d)
@[simp] def xz0:Sl->Sl
 | `tC=>fz d
 | s=>s
@[simp] def frz(δ:Ds):Ds:=δ.map xz0
@[simp] def flat:`cA
 | `x=>`c|`bN=>`c|`co=>`c|`bq=>`c|_=>`p
@[simp] def wm0(g:GE):GE:=fun δ=>`ach λd=>if `o1 then `bw else `d
@[simp] def e70(g:GB):GB:=`aEW
@[simp] def ji0(g:GE):GE:=`aEW
@[simp] def frzAt(i:Nat)(δ:Ds):Ds:=match `cb with
 | `a s=>`aX i (xz0 s)
 | `d=>δ
@[simp] def U50(i:Nat)(G:GS):GS:=fun δ=>G (frzAt i δ)
@[simp] def N8(i:Nat)(g:GE):GS:=fun δ=>`rO λd=>.nx `qh
abbrev GX:=Ds->`aL (D×Ds)
@[simp] def Z8(g:GE):GX:=fun δ=>`rO λd=>(d,δ)
variable{gx:DL.GX}
@[simp] def G6(gx:GX)(ft:`a8):GS:=fun δ=>`C_ λr=>(ft r.1 r.2).map .nx
@[simp] def j8(gx:GX):GS:=fun δ=>`wb λr=>.nx r.2
@[simp] def owL(i:Nat)(δ:Ds):`ti:=match `cb with
 | `aEX=>`p1
 | _=>`d
@[simp] def z60(i:Nat)(g:GE):GX:=fun δ=>`aci λds=>`cB λd=>if `bR<`R then `a (`x,`aEY) else `d
@[simp] def v40(i:Nat)(g:GE):GX:=fun δ=>`aci λds=>`cB λd=>match d with
 | `jX=>if `bR+`ge<=`R then `a (`x,`aEZ) else `d
 | _=>`d
@[simp] def qs0(i:Nat):GX:=fun δ=>`aci λds=>(`aE_).map λd=>(d,`aE0)
abbrev J3:=`Th
@[simp] def xg0:D->`aL J3
 | `bi=>`a (`t i)
 | `b1=>`a (`ov)
 | _=>`d
def qy0:`n->`aE1
 | []=>`p_
 | `aB=>`M! λk=>(`M?).map (k::·)
@[simp] def qx0:D->`aE1
 | `ch=>`M?
 | _=>`d
def u30{κ:Type}[`mC]:`mD->`n->κ->`d5
 | `kP,`aB,q=>if k=q then `bw else `acj
 | _,_,_=>`d
def yi0{κ:Type}[`mC](ks:`mD)(k:κ):`M:=ks.any λq=>`B (q=k)
def xq0{κ:Type}[`mC](ks:`mD)(k:κ):`mD:=if `y9=`c then ks else ks++[k]
def xr0{κ:Type}[`mC](ks:`mD)(ds:`n)(q:κ)(v:D):`n:=if `rW=`c then `aE2 (`an9) else ds++[v]
@[simp] def gw0(i:Nat)(δ:Ds):`aL (`aE3):=match `cb with
 | `a (.ow (`CF))=>`a (ks,ds)
 | _=>`d
@[simp] def putAt(i:Nat)(g:GE):`a8:=λv δ=>`aE4 λr=>`cB λd=>`M! λk =>
 if r.1.length<`R then `a (`aX i (.ow (`cQ (`t (xq0 r.1 k)) (xr0 r.1 r.2 k v)))) else `d
@[simp] def pc0:`bn
 | `jf,d=>match ks with
  | `yT=>`M! `aE5
  | `CD=>(qx0 d).bind `aE5
 | _,_=>`d
@[simp] def vr0(neg:`M):`bn
 | d,`jf=>match ks with
  | `yT=>(`G3).map `aE6
  | `CD=>(qx0 d).map `aE6
 | _,_=>`d
def S6(gt:GB)(G:GS):Nat->`jd
 | 0,_=>`d
 | n+1,δ=>match `eu with
  | `bC=>`yN
  | `e6=>match `jQ with
   | `d6=>`ack
   | `Mq=>`ack
   | `Mr=>`d6
   | r=>r
  | `d=>`d
@[simp] def nr0(i j:Nat):`a8
 | `acl,δ=>`a ((`aX i (.sh a)).set j (.sh b))
 | _,_=>`d
mutual
def deq:D->`cA
 | `x,`x=>`c
 | `vS,`dK=>`ks
 | `vS,`iW=>`aaA
 | `oK,`dK=>`aaB
 | `oK,`iW=>`ks
 | `hK,`nN=>`ks
 | `eT,`F7=>`Na
 | `c1,`yv=>`Na
 | _,_=>`p
def v10:`n->`C0
 | [],[]=>`c
 | `mr,`CY=>`wc&&`Na
 | _,_=>`p
end
mutual
def lean:D->Nat->`M
 | `oX,_=>`p
 | `oY,_=>`p
 | `eT,n+1=>`acm
 | `c1,n+1=>`acm
 | `Cx,0=>`p
 | `b_,0=>`p
 | _,_=>`c
def leans:`n->Nat->`M
 | [],_=>`c
 | `mr,n=>`fs x n&&`acm
end
@[simp] def la0(x y:D):`d5:=if `acn then `a (.bl (`wc)) else `d
@[simp] def fg0(x y:D):`d5:=if `acn then `a (.bl (!`wc)) else `d
@[simp] def eqF:D->`cA
 | `x,`x=>`c
 | `vS,`dK=>`ks
 | `vS,`iW=>`aaA
 | `oK,`dK=>`aaB
 | `oK,`iW=>`ks
 | `hK,`nN=>`ks
 | _,_=>`p
@[simp] def wv0(neg:`M):`bn
 | x,`yv=>`aE7
 | x,`F7=>`aE7
 | _,_=>`d
@[simp] def jg0:`T
 | `FH=>`a `alX
 | _=>`d
@[simp] def intOfD:`T
 | [`bi]=>`IJ
 | [`s5]=>`a (`Sv)
 | _=>`d
@[simp] def wu0:`T
 | `CA=>`rP
 | [`ch]=>`rP
 | _=>`d
def mkF(n:Nat)(N:`j)(G:GS)(ds:`n):`d5:=if `wd then (match `y2 with
 | `tA=>`bw
 | `p?=>`aE8
 | `a (.nx _)=>`a `x
 | _=>`d) else `d
def J9{d:D}(h:`aE9):`wd/\`aEc:=by
 unfold mkF at h;split at h
 ·rename_i hl
  refine`aE';split at h
  ·rename_i e;cases h;exact `rF
  ·rename_i e
   split at h
   ·cases h
   ·rename_i hn
    cases h;exact `s (`s `aE!)
  ·rename_i e;cases h;exact `s (`t #[rfl,_,e])
  ·cases h
 ·cases h
def mkN(n:Nat)(N:`j)(G:GS)(ds:`n):`d5:=if `wd then (match `y2 with
 | `p?=>`aE8
 | _=>`d) else `d
def vj0{d:D}(h:`aE?):`wd/\`TV:=by
 unfold mkN at h;split at h
 ·rename_i hl
  refine`aE';split at h
  ·rename_i e
   split at h
   ·cases h
   ·rename_i hn
    cases h;exact`aE!
  ·cases h
 ·cases h
def Q3{d:D}(hl:`wd)(h:`ank)(hn:`GV:=by rfl):`aE?:=by
 unfold mkN;rw[`my,h];simp only[];rw[hn];rfl
@[simp] def Q7(g:GE):GS:=fun δ=>`rO .rf
@[simp] def m30(i:Nat):GS:=fun δ=>match `cb with
 | `qg=>`p?
 | _=>`d
def V9{G1 G2:GS}{δ:Ds}{d:D}(h:`fo=`p?):`Mv=`p?:=`abo
def K1{g:GE}{δ:Ds}{d:D}(h:`ih):Q7 g δ=`p?:=by unfold Q7;rw[h];rfl
def U3{d:D}(hl:`wd)(h:`anl):`aE9:=by
 unfold mkF;rw[`my,h]
theorem t8{G1 G2:GS}{δ:Ds}{r:`yL}(h:`abn)(k:`oP=r):`Mv=r:=(Jn0 h).trans k
@[simp] def d8:`bn
 | `bi,`f'=>`a (`FF)
 | `b1,`p7=>if `pH+`HD<=`R then `a (`u (x++y)) else `d
 | `c1,`yv=>`aFa
 | `eT,`F7=>if `T3 then `a (`aap) else `d
 | _,_=>`d
def Ea0(x:Str)(n:Int):Str:=`aco
@[simp] def U6:`bn
 | `bi,`f'=>if `aw3 then `aq2 else `d
 | `b1,`d7=>if `acp/\n<`ft/\`pH*`hG<=`R then `a (`u (Ea0 x n)) else `d
 | `eT,`j_=>if `Cf/\2<=k/\`C1/\`aFb then `a (`acq) else `d
 | _,_=>`d
@[simp] def slA(d:D)(lo hi:`a5):`d5:=match d with
 | `jF=>if `td then `a `aEl else `d
 | `c1=>`a (`o (`acr))
 | `eT=>`a (`y (`acr))
 | _=>`d
@[simp] def xi0(g:GE)(gl gh:GO):GE:=fun δ=>`cB λd=>`acs λl=>`act λh=>slA d l h
universe DL
variable{gx:DL.GX}
namespace Dep
open Spec PyProof.Rows
section
variable{w:`Q}{K:Type}[`G4 K]{knd:`aFc}{s:`v}{d:`f}{xs:`aFd}{k:K}{v:`G}{Q:`dV}
def At(knd:`aFc)(h:`D)(d:`f)(xs:`aFd):Prop :=
 ∃o es ep,`e? d=`ap/\`Ze/\`Zf/\es.toList=`sN (`K_ knd)/\(∀x∈xs,knd.is h x.1 x.2.1)/\`auP
def At.old{h:`D}(x:At knd h d xs):h.DictOfH knd d xs:=by refine `e;let#[o,es,ep,a,b,c,e,f,g,_]:=x;refine `b;exact#[o,es,ep,a,b,c,e,f,g]
def put(hu:knd.room A)(hkey:`aFe)(hm:`aFf)
  (hQ:`aFg) (hsz:`i9) :
  `q `ag A (`aFh) Q E s:=by
 refine `e;let#[o,es,ep,ho,hc,hd,he,J,hn,hp]:=hm;refine `b;unfold dictSet
 try with_reducible refine `tK
 refine A1 (knd.pyHash hu hkey ?_);unfold dictSetHashed
 try with_reducible refine `tK
 refine A1 (wpAny_dictFind_heap (s:=`acu) hu hkey ho hd he J hn ?_ ?_)
 ·intro U
  have O:=atKey_none_of_get U;have Y:k∉`sN `bK:=not_mem_keys_of_get U;refine A1 (Y2 (wpAny_updateDictKeys (hz:=by have e:=size_of_entries he;lia) (s:=`acu) ho hd (hQ _ ?_ `C2)));rw[storedH_new O];refine#[_,_,ep+1,D5 _ ho (`aFi (`aFj)),hc.mapDictKeys _,`aFj,by simp[he,`K_],`kK,?_,`abm]
  ·rcases `jl with hx|hx
   ·exact `acv (J x hx) ho hd `C2
   ·rw[`fv hx];exact `acv hkey ho hd `C2
  ·rw[`aZ,`Nb]
   exact#[hn,`a4,λx hx y hy e=>Y (by rw[`ab,`lB,`aFk] at hy;have e2:x=k:=e.trans hy;rw[← e2];exact hx)]
 ·intro j p hj
  have Z:=atKey_of_get hn hj;refine A1 (Y2 (A1 (wpAny_updateDict (s:=`acu) ho hd (u8 (hQ _ ?_ `C2)))));rw[storedH_old Z];refine#[_,_,ep,D5 _ ho (`aFi (`aFl)),hc.mapDict _,`aFl,?_,`kK,?_,`abm]
  ·have:=modify_map_putAt (`K_ knd) (λe:DictEntry=>{ e with val:=v }) k v (`mx) hn hj
   rw[← he] at this;let#[l]:=es
   simpa using `E
  ·let#[y,hy,rfl]:=`C3
   unfold putAt;split<;>exact `acv (J y hy) ho hd `C2
  ·rw[keys_map_putAt];exact hn
def set(hu:knd.room `bU)(hkey:`aFe)(hm:`aFf)
  (hQ:`aFg) (hsz:`i9) :
  `q `ag A (`Fu (`z d) `c2 v) Q E s:=by
 have ty:=hm.old.typeIs;unfold setItem
 try with_reducible refine `tK
 refine A1 (Ar0 ty `r ?_);refine A1 (j0 (name:=`s? `aFm) ty `aFn (O0 `aFn ty entry_dict_setitem ?_ (args_dict_setitem _ _ _)));show `q _ _ (Builtin.Dict.notOrdered `aFm #[[`z d,`bt,v],[]]>>=_) _ _ s;refine A1 (wpAny_notOrdered_dict ty ?_);show `q _ _ (`aFh>>=_) _ _ s;exact A1 (put hu hkey hm (λh' J O=>A2 #[`af,rfl,A2 (hQ h' J O)]) hsz)
universe zz
universe Dep
namespace L2
open Spec PyProof.Rows
section
variable[`mC]
def xo0(kvs:`ha)(k:κ):`dq:=(kvs.find? `T4).map `eU
def putK(kvs:`ha)(k:κ)(v:V):`ha :=
 if `Nc=`c then `G8 (λkv=>if `G6 then (`qd,v) else kv) else kvs++[`FK]
def qa0{p:`E6}{r:`ha}{k:κ}(e:`rX):`aFo=`sW:=`aFp
def q80{p:`E6}{r:`ha}{k:κ}(e:¬`rX):`aFo=xo0 r k:=`aFp
theorem bs0(k:κ):∀kvs:`ha,`Nc=(`lC).isSome
 | []=>rfl
 | p::r=>by
  rw[`oL]
  by_cases e:`rX
  ·simp only[qa0 e,`bG e,Bool.true_or,Option.isSome_some]
  ·rw[`C4,`b9 e,Bool.false_or];exact bs0 k r
def si0(kvs:`ha)(k:κ)(v:V):`anz<=`jv+1:=by
 unfold putK;split
 ·rw[`P];lia
 ·rw[`Z,`Y,`fy];lia
def RelO.isSome_eq{o:`dq}{u:`gz}(r:`pw o u):`C5=u.isSome:=by
 cases o with
 | none=>cases u with
  | none=>rfl
  | some _=>exact`LA
 | some _=>cases u with
  | none=>exact`LA
  | some _=>rfl
def KV.val{kvs:`ha}{vs:`vo}(r:`k!)(k:κ):`pw `Nd (`aFq):=by
 unfold KV at r
 induction r with
 | nil=>exact `ll
 | @cons p q ps qs h t ih =>
  let#[h1,h2]:=h
  by_cases e:`rX
  ·have e':q.1=k:=`T7
   have b:`aFr=`a q.2:=`aFs
   rw[qa0 e,b];exact h2
  ·have e':¬q.1=k:=`T8
   have b:`aFr=`G7 qs k:=`aFs
   rw[`C4,b];exact ih
def KV.any{kvs:`ha}{vs:`vo}(r:`k!)(k:κ):`Nc=`aFt:=by
 unfold KV at r
 induction r with
 | nil=>rfl
 | cons h t ih=>rw[`oL,`oL,ih,h.1]
def KV.repl{kvs:`ha}{vs:`vo}(r:`k!)(k:κ){y:V}(ry:`fN) :
  KV `aFu (`j3 λkv=>if `G6 then (`qd,u) else kv):=by
 unfold KV at r ⊢
 induction r with
 | nil=>exact `X
 | @cons p q ps qs h t ih =>
  rw[`ab,`ab];refine `aFv;let#[h1,h2]:=h
  by_cases e:`rX
  ·rw[`fX,`aFw];exact#[h1,ry]
  ·rw[`eK,`aFx];exact`aFy
def KV.put{kvs:`ha}{vs:`vo}(r:`k!)(k:κ){y:V}(ry:`fN):KV (`nG kvs k y) (stored vs k u):=by
 unfold putK stored;rw[r.any k]
 by_cases e:(`aFt)=`c
 ·rw[`fX,`fX];exact `aFz
 ·rw[`eK,`eK];exact `aFA r #[rfl,ry]
theorem KV.length{kvs:`ha}{vs:`vo}(r:`k!):`jv=`cK:=`Y9 r
universe zz
def nt0{P:`ao}{w:`Q}{k:Key}(r:`aFB):(J6 P w).is k u=`c:=by
 cases k with
 | inl i=>let#[t,e]:=`axI;subst e;exact Y80 P w i t
 | inr x=>let#[t,e]:=`axJ;subst e;exact Yj0 P w x t
theorem di0{P:`ao}{w:`Q}:∀{ks:`hp} {us:`K},`bJ (`G') us->ItemsAre `sM ks us
 | [],_,r=>`aEj
 | `kP,_,r=>by
  rw[`ab] at r;cases r with
  | cons h t=>exact `aq (nt0 h) (di0 t)
abbrev KT(H:Hp):`ku->`rA->Prop:=`bS λp q=>`auO
def KT.val{kvs:`ku}{xs:`rA}(r:`we)(k:`hp):`pw `Nd (`aFC):=by
 induction r with
 | nil=>exact `ll
 | @cons p q ps qs h t ih =>
  let#[h1,_,h2]:=h
  by_cases e:`rX
  ·have e':q.1=k:=`T7
   have b:`aFD=`a q.2:=`aFE
   rw[qa0 e,b];exact h2
  ·have e':¬q.1=k:=`T8
   have b:`aFD=`G9 qs k:=`aFE
   rw[`C4,b];exact ih
def KT.repl{kvs:`ku}{xs:`rA}(r:`we)(k:`hp){y:V}(ry:`fN) :
  KT H `aFu (`sN (`zU k u)):=by
 induction r with
 | nil=>exact `X
 | @cons p q ps qs h t ih =>
  rw[`ab,`ab];refine `aFv;let#[h1,h2,h3]:=h;unfold putAt
  by_cases e:`rX
  ·rw[`fX,`aFw];exact#[h1,h2,ry]
  ·rw[`eK,`aFx];exact#[h1,h2,h3]
def KT.put{kvs:`ku}{xs:`rA}(r:`we)(k:`hp){b:`f}{y:V}(hb:`C6)(ry:`fN) :
  KT H (`nG kvs k y) (storedH xs k b u):=by
 have e:`Nc=`aFF:=by
  rw[bs0,(r.val k).isSome_eq,`acw]
 unfold putK storedH;rw[e]
 by_cases q:`aFF=`c
 ·rw[`LE,`LE];exact `aFz
 ·rw[`B7,`B7];exact `aFA r #[rfl,hb,ry]
theorem KT.keeps{kvs:`ku}{xs:`rA}(r:`we)(ht:∀b ys,H b=`U_->`f2=`U_):KT H' kvs xs :=
 `auX r λ_ _ z=>`auY
section
variable{P:`ao}{w:`Q}{h:`D}
theorem Nl0{u:HO}(ok:`fL)(e:Rd H a u):`au1:=e.ok ok
theorem ly0(ok:`fL)(e:`acx):`Zd :=
 show `cG P w H h a `F9 from Nl0 ok e
theorem b00(ok:`fL)(e:`C7):`Zd:=ly0 ok (`rF)
def l30(ok:`fL)(e:H a=`a `aFG):`aFH h ks a:=by
 refine `e;let#[_,its,r,o,h1,h2,n,h3,_]:=(show `cG P w H h a `aFG from ok a _ e);refine `b;exact#[o,`bv,n,h1,h2,h3,by simpa using di0 r]
def Rm0{kvs:`ku}(ok:`fL)(e:`Ne):`sK/\`sL /\
  ∃xs,`we/\Dep.At `Zg h a xs:=by
 refine `e;let#[z,y,xs,r,o,es,ep,h1,h2,h3,h4,h5,h6]:=(show `cG P w H h a `S2 from Nl0 ok e);refine `b;refine#[z,y,xs,r,o,es,ep,h1,h2,h3,h4,`kK,h5,h6];have all:∀{l:`ku} {m:`rA},KT H l m->∀x∈m,`aFH h x.1 x.2.1:=by
  intro l m q
  induction q with
  | nil=>intro x hx;exact nomatch hx
  | @cons p q ps qs hq t ih =>
   intro x hx;rcases `rM with e|hx
   ·subst e
    exact l30 ok (by rw[← hq.1];exact hq.2.1)
   ·exact ih x hx
 exact all r x hx
def gn0{kvs:`ku}(ok:`fL)(e:`Ne):`sK/\`sL /\
  ∃xs,`we/\h.DictOfH `Zg a xs:=by
 let#[z,y,xs,r,d]:=Rm0 ok e;exact#[z,y,xs,r,d.old]
universe zz
def DGet(H:Hp)(a:`f)(y:V)(r:`dq):Prop :=
 (∃kvs k,`acx/\y=kV k/\r=`lC)∨∃kvs k b,`Ne/\`Ce/\`C6/\r=`lC
def DPut(H:Hp)(a:`f)(y v:V)(H':Hp):Prop :=
 (∃kvs k,`C7/\y=kV k/\`C8/\H'=`acy) ∨
 ∃kvs k b,`aFI/\`Ce/\`C6/\`C8/\H'=upd H a (.dT (`T6))
theorem DGet.k{k:Key}(e:`C7):`tD H a (kV k) `Nd:=`t #[kvs,k,`rF,rfl,rfl]
theorem DGet.t{b:`f}{kvs:`ku}{k:`hp}(e:`aFI)(eb:`C6):`tD H a `Hc `Nd:=`s #[kvs,k,b,`rF,rfl,eb,rfl]
theorem DPut.k{k:Key}(e:`C7)(hl:`C8):DPut H a (kV k) v (`acy):=`t #[kvs,k,e,rfl,hl,rfl]
section
variable{σ:St}{s:`v}{y:V}{r:`G}{o:`dq}
def Inv.big(I:`C):`E9<`U:=by
 have h:`a_<`U:=(`alw).lt;exact E8 `r h
def T00(hu:`Cr)(I:`C)(g:`tD H a y `sV)(ry:`fN)(h:∀w' s',`yi->`dp v w'->Q w' s') :
  `q `am A (`ng `c2 u) Q E s:=by
 refine `e;rcases g with⟨kvs,k,e,ey,l⟩|⟨kvs,k,b,e,ey,eb,l⟩
 ·subst ey
  let#[z,hd,vs,rel,dd]:=`C9;let#[w',hw,J]:=`SD (v:=v) (o:=`aFq) `aFJ;refine `b;exact wpAny_getItem_of `C' `acz hw (`aFK)
 ·subst ey
  cases `Nf;let#[z,hd,xs,rel,dd]:=`C!;let#[w',hw,J]:=`SD (v:=v) (o:=`aFC) `aFJ;let#[p,hp,O]:=u7.mp hw;refine `b;refine wpAny_getItem_heap `Ng `Nh dd hp ?_;rw[O];exact `aFK
def Fe0(hu:`Cr)(I:`C)(g:`acA)(ry:`fN)(h:∀s',`yi->Q (`gA `C5) s') :
  `q `am A (`d2 .In u `c2) Q E s:=by
 refine `e;rcases g with⟨kvs,k,e,ey,l⟩|⟨kvs,k,b,e,ey,eb,l⟩
 ·subst ey
  let#[z,hd,vs,rel,dd]:=`C9;refine `b;refine wpAny_in_of `C' hd `acz ?_;rw[← `Ni,← l];exact `Nj
 ·subst ey
  cases `Nf;let#[z,hd,xs,rel,dd]:=`C!;refine `b;refine wpAny_in_heap `Ng `Nh hd dd ?_;have q:=`Ni;rw[`acw] at q;rw[← q,← l];exact `Nj
def Ny0(hu:`Cr)(I:`C)(g:`acA)(ry:`fN)(h:∀s',`yi->Q (`gA (!`C5)) s') :
  `q `am A (`d2 `vC u `c2) Q E s:=by
 refine `e;rcases g with⟨kvs,k,e,ey,l⟩|⟨kvs,k,b,e,ey,eb,l⟩
 ·subst ey
  let#[z,hd,vs,rel,dd]:=`C9;refine `b;refine wpAny_notIn_of `C' hd `acz ?_;rw[← `Ni,← l];exact `Nj
 ·subst ey
  cases `Nf;let#[z,hd,xs,rel,dd]:=`C!;refine `b;refine wpAny_notIn_heap `Ng `Nh hd dd ?_;have q:=`Ni;rw[`acw] at q;rw[← q,← l];exact `Nj
theorem ka0{t':Nat}{ob:HO}(I:`C)(mu:Mut (H a))(hs:`avy)(he:`acB)(new:`cG `aR X.w (upd H a ob) h' a ob) :
  Inv X `i σ (upd H a ob) `m4 :=
 `_X (x:=a) (e:=a) mu `f3 (λb q hb z=>(`ht b hb).trans z) he new
theorem av0{P:`ao}{w:`Q}{H':Hp}{vs:`acC}(z:`sK)(hd:`sL)(rel:`k!)(dd:h'.DictOf `sM a vs) :
  `cG P w H' h' a `F9:=#[z,hd,vs,rel,dd]
def S30{Q:`dV}(hu:`Cr)(I:`C)(g:DPut H a y v H')(ry:`fN)(rv:`dp v r)(h:∀s',`mk->`BM) :
  `q `am A (`Fu `c2 u r) Q E s:=by
 refine `e;rcases g with⟨kvs,k,e,ey,l,eH⟩|⟨kvs,k,b,e,ey,eb,l,eH⟩
 ·subst ey eH
  let#[z,hd,vs,rel,dd]:=`aFL;have hz:`aFM:=`aFN
  have hl:`acD:=`acE
  refine `b;refine wpAny_setItem_pairs (hsz:=hz) `C' dd `aFO
  have he:`acB:=`acF
  exact `aFP
 ·subst ey eH
  cases `Nf;let#[z,hd,xs,rel,dd]:=Rm0 `bg (`rF);have hz:`i9:=by rw[← `Y9 rel];exact z
  have hl:`acD:=`acE
  refine `b;refine Dep.set `Ng `Nh dd (`aFO) hz;refine `e;let#[q,es,ep,hq,h2,h3,h4,_,h5]:=J;refine `b;refine ka0 I `G! hs #[q,hq] #[hl,hd,_,(rel.put k eb rv).keeps λc ys ec=>?_,q,es,ep,hq,h2,h3,h4,h5];rw[m5 (Hl0 ec e `dy)];exact ec
universe zz
def Uh0(i:`I):Prop:=∀ov iv,`zM i `p ov iv=`SV [ov,iv] (`ng ov iv)
def L30{prog:`ao}{w:`Q}{A:`bT}{E:`aj}{s:`v}{env:Env}{value slice:`I}{pos:Pos}{T id:`cd}{Q:`aj}
  (hl:`aze) (hs:Uh0 `oJ)
  (h:`q `ag A (`aY `fi env) (λo s₁=>`q `ag A (`aY `oJ env) (λi s₂=>s₂.TypeIs o T/\`q `ag A (`ng o i) Q E s₂) E `dN) E s) :
  `q `ag A (`aY (`lg `fi `oJ pos) env) Q E s:=by
 refine `LT (C9 h (λo s₁ h₁=>C9 h₁ (λi s₂ h₂=>?_) `rx) `rx);let#[hT,h₂]:=h₂;unfold subscriptTail;refine `mW;rw[getitemInPython_of_ne hT.not_modules];refine A1 (E5 hT hl ?_);have fin:`q `ag A (`zM `oJ `p o i) (λr s₃=>`q `ag A (letTemporaryGo `fi o r>>=λ_=>`bI r) Q E s₃) E s₂:=by
  rw[hs o i];exact wpAny_operating (C9 h₂ (λr s₃ h₃=>A1 (wpAny_letTemporaryGo (A2 h₃))) `rx)
 first
  | exact `aFQ
  | exact A1 (`aFQ)
  | exact A1 fin
def Yn0{σ:St}{s:`v}{y:V}{o:`dq}(I:`C)(g:`acA):`aFR := by
 refine `e;rcases g with⟨kvs,k,e,_,_⟩|⟨kvs,k,b,e,_,_,_⟩
 ·let#[_,_,vs,_,dd]:=`C9
  refine `b;exact `G?
 ·let#[_,_,xs,_,dd]:=`C!
  refine `b;exact `G?
def Hj0(td ty:TE):TE:=fun σ H Q=>td σ H λx H1=>ty σ H1 λy H2=>∃a v,`c?/\`tD H2 a y `sV/\Q v H2
def Ff0(ty td:TE):TE:=fun σ H Q=>ty σ H λy H1=>td σ H1 λx H2=>∃a o,`c?/\`aFS/\Q (.bl `C5) H2
def L70(ty td:TE):TE:=fun σ H Q=>ty σ H λy H1=>td σ H1 λx H2=>∃a o,`c?/\`aFS/\Q (.bl (!`C5)) H2
section
variable{i:`I}
def W70(hu:`kQ)(ho:`Nk)(hi:`acG)(hs:Uh0 i):PE X `_c (Hj0 td ty):=by
 intro pins s σ H Q I h;refine L30 PySem.F.slot_dict_getitem.lookup hs (thn `BU λu s1 hq91=>?_);let#[x,H1,I1,rx,q1]:=hq91;refine thn `awj λiv s2 hq92=>?_;refine `e;let#[y,H2,I2,ry,a,v,ex,g,q2]:=hq92;subst ex;obtain rfl:u=`gD:=rx;refine `b;exact#[Yn0 I2 g,T00 hu I2 g ry λw' s3 I3 J=>#[v,H2,I3,J,q2]]
def Kr0(hu:`kQ)(hi:`acG)(ho:`Nk):PC X .In i o (Ff0 ty td):=by
 intro pins s σ H Q I h;refine thn `BZ λiv s1 hq93=>?_;let#[y,H1,I1,ry,q1]:=hq93;refine thn `aFT λu s2 hq94=>?_;refine `e;let#[x,H2,I2,rx,a,ov,ex,g,q2]:=hq94
 subst ex;obtain rfl:u=`gD:=rx;refine `b;exact Fe0 hu I2 g ry λs3 I3=>#[.bl ov.isSome,H2,I3,rfl,q2]
def Ro0(hu:`kQ)(hi:`acG)(ho:`Nk):PC X `vC i o (L70 ty td):=by
 intro pins s σ H Q I h;refine thn `BZ λiv s1 hq95=>?_;let#[y,H1,I1,ry,q1]:=hq95;refine thn `aFT λu s2 hq96=>?_;refine `e;let#[x,H2,I2,rx,a,ov,ex,g,q2]:=hq96
 subst ex;obtain rfl:u=`gD:=rx;refine `b;exact Ny0 hu I2 g ry λs3 I3=>#[.bl (!ov.isSome),H2,I3,rfl,q2]
universe zz
theorem af0{P:`ao}{w:`Q}(h:`D)(hb:`E9<`dl):`cG P w H (h.push `RT) `dl (`wf) :=
 #[`cN,`nP (A9 (B4 hb)),[],`X,Heap.DictOf.new h]
def H90:TE:=λ_ H Q=>∀p,`d8->Q `dv (upd H p (`wf))
theorem Q40:PE X `aFU H90:=λpins s σ H Q I h =>
 wpAny_Dict_empty #[`gI,_,`kE (a:=`U) (o:=`wf) (t':=`bf) `aaN `bj (af0 `ar I.big),rfl,h _ `F2]
def ix0:`C?->St->Hp->(`aFV)->Prop
 | [],_,H,Q=>Q [] H
 | (tk,tv)::r,σ,H,Q=>tk σ H λx H1=>tv σ H1 λy H2=>ix0 r σ H2 λps H3=>Q ((x,y)::ps) H3
abbrev VV:`lD->`aFW->Prop:=`bS λp q=>`dp p.1 q.1/\`auJ
def PPs(X:Cx)(pos:Pos)(keys:`Da)(values:`bA)(trs:`C?):Prop :=
 ∀(pins:`aw) (s:`v) (σ:St) (H:Hp) (Q:`aFV),`C->`aFX ->
  `q `am X.A (evalPairs (pairTrees `lV values `w pos)) (λvs s'=>∃ps H',`mk/\VV ps vs/\Q ps H') `aH s
theorem Mn0:PPs X pos [] [] []:=λpins s σ H Q I h=>pairTrees_nil_walk `ax4
theorem Of0{k v:`I}{ks:`Da}{vs:`bA}{tk:TE}{trs:`C?}(hk:PE X k tk)(hv:PE X v tv)(hr:PPs X pos ks vs trs) :
  PPs X pos (`eW::ks) (v::vs) ((tk,tv)::trs):=λpins s σ H Q I h =>
 pairTrees_cons_walk (thn (hk `i s σ H _ I h) λu s1 #[x,H1,I1,rx,q1]=>thn (hv `i s1 σ H1 _ I1 q1) λw2 s2 #[y,H2,I2,ry,q2] =>
  thn (hr `i s2 σ H2 _ I2 q2) λws s3 #[ps,H3,I3,rel,q3]=>#[(x,y)::ps,H3,I3,`aq #[rx,ry] rel,q3])
def sq0(kvs more:`gW):`gW:=more.foldl (λacc kv=>`nG acc `qd kv.2) kvs
def KV.merge:∀{more:`gW} {rs:`acC} {kvs:`gW} {vs:`acC},KV more rs->`k!->KV (`aFY) (merged vs rs):=by
 intro more rs kvs vs r;unfold KV at r
 induction r generalizing kvs vs with
 | nil=>intro q;exact q
 | @cons p q ps qs h t ih =>
  intro r0;have e:KV `acH (stored vs q.1 q.2):=by
   have:=r0.put p.1 h.2;rw[← h.1];exact `E
  exact ih e
theorem mc0:∀(more kvs:`gW),(`aFY).length<=`jv+more.length
 | [],kvs=>by show `jv<=`jv+0;lia
 | p::r,kvs=>by
  have h1:=mc0 r `acH;have h2:=si0 kvs p.1 p.2;show (sq0 `acH r).length<=_;rw[`Y];lia
theorem g60{P:`ao}{w:`Q}:∀{kvs:`gW} {ws:`aFW},VV (`G8 `acI) ws->∃rs,Carries `sM ws rs/\KV kvs rs
 | [],_,r=>by rw[`lB] at r;cases r;exact#[[],`ll,`X]
 | p::kvs,_,r=>by
  rw[`ab] at r;cases r with
  | @cons a b as bs h t =>
   let#[rs,c,q]:=g60 (P:=P) (w:=w) t;let#[b1,b2]:=b;exact#[(p.1,b2)::rs,#[nt0 h.1,rfl,c],`aq #[rfl,h.2] q]
def G30(trs:`C?):TE:=fun σ H Q=>∀p,`d8->ix0 trs σ (upd H p (`wf)) λps H2=>H2 p=`a (`wf)/\∃kvs:`gW,ps=`G8 (`acI)/\`jv<=15/\Q `dv (upd H2 p (.dK (`aFZ)))
def Ki0{keys:`Da}{values:`bA}{trs:`C?}(h:PPs X pos `lV values trs)(hall:`aF_)(hl:`Nl=values.length)(h0:`lV≠[])
  (h15:`Nl<=15):PE X (.Dict `lV values pos) (G30 trs):=by
 intro pins s σ H Q I q;have hn:=`pK (A3 `U);have I1:=`kE (a:=`U) (o:=`wf) (h':=`KS) (t':=`bf) `aaN `bj (af0 `ar I.big);refine wpAny_Dict_walk (knd:=`aF0) hall hl h0 h15 (thn (h `i _ σ _ _ I1 (q _ hn)) λws s2 hq97=>?_);refine `e;let#[ps,H2,I2,rel,e,kvs,ep,lk,q2]:=hq97;subst ep;let#[rs,c,rk]:=g60 (P:=`aR) (w:=X.w) rel;let#[z,hd,O,r0,dd]:=b00 I2.hok e;cases r0;refine `b;refine#[rs,c,dd,λh' J hs=>#[`gI,_,?_,rfl,q2]];have hz:(`aFZ).length<=`R:=by
  have h1:=mc0 kvs [];rw[`fy] at h1;rw[`vk];lia
 have he:∃q,`aaE=`qf:=`acF
 exact ka0 I2 `G! hs he (av0 hz hd (rk.merge `X) J)
structure M2(X:Cx)(o:`I)(m:Str)(apos:Pos)(e f:`I)(cpos:Pos):Prop where
 base:`fh o m `w `nm=`hw
 few:(`aF1
 &&`aF2)=`c
 line:`fO
 trees:`aF3
def IsD(H:Hp)(a:`f):Prop:=(∃kvs,`acx)∨∃kvs,`Ne
def Iz0{σ:St}{s:`v}(I:`C)(d:IsD H a) :
  `aFR/\(∀b,`gD=`pL->∃ob,`pv=`K3/\`azZ)/\`sL:=by
 rcases d with⟨kvs,e⟩|⟨kvs,e⟩
 ·let#[_,hd,vs,_,dd]:=`C9
  refine`aF4;refine `e;cases q;let#[ob,_,_,h1,h2,_]:=dd;refine `b;exact`aF5
 ·let#[_,hd,xs,_,dd]:=`C!
  refine`aF4;refine `e;cases q;let#[ob,_,_,h1,h2,_]:=dd;refine `b;exact`aF5
universe L2
namespace DL
open Spec PyProof.Rows L2
section
variable{σ σ':St}{δ:Ds}
theorem Gr.fresh{p:`f}{o:HO}(h:`d8):Gr H `abG B `tz:=λb u n e=>by
 have hb:`Hd:=V5 e h;exact#[λz=>`d' n hb,by rw[m5 hb];exact e]
theorem Gr.own{o:HO}(h:B a):Gr H `gR B B:=λb u n e=>#[n,by rw[m5 (λz=>n (by rw[z];exact h))];exact e]
def RpO.mono{d:D}(s:`CC)(g:`eJ)(h:`jg):RpO K H' B' d a:=by
 cases d<;>try exact `mn
 ·let#[xs,e,r]:=h;exact#[xs,s _ e,`ty]
 ·let#[xs,e,l,r]:=h;exact#[xs,s _ e,l,`ty]
def RpG.mono{d:D}(s:`CC)(g:`eJ)(h:`mw):RpG K H' B' d a:=by
 cases d with
 | tup es=>let#[x,ns,e,r]:=h;exact`aF6
 | _=>exact(RpO.mono s g `MH).toG
def RpL.mono{d:D}(s:`CC)(g:`eJ)(h:`lx):RpL K H' B' d a:=by
 refine `e;cases d with
 | tup es =>
  rcases h with⟨d',q,r⟩|⟨ks,vs,q,ts,xs,q1,e,q2,r⟩|⟨x,ns,e,r⟩
  ·refine `b;exact `t #[d',q,`acJ s g r]
  ·refine `b;exact `s (`t #[ks,vs,q,ts,xs,q1,s _ e,q2,`ty])
  ·refine `b;exact `s (`s `aF6)
 | _=>refine `b;exact(RpO.mono s g `CI).toL
theorem Pd.get'{F:`kw}:∀{l:`aT} {m:`lv} {i:Nat} {a:α},`p4->`CJ->∃b,`abE/\`xW
 | _,_,_,_,`X,e=>`KW
 | _,_,0,_,`Y',e=>`Y!
 | _,_,i+1,a,`vn,e=>by
  let#[u,h1,h2]:=`nR (i:=i) (a:=a) t `By;exact`Y?
def Pd.impI{F G:`kw}:∀{l:`aT} {m:`lv},(∀(i:Nat) a b,`CJ->`abE->`ali)->`amX:=by
 intro l m h p
 induction p with
 | nil=>exact `X
 | cons r t ih=>exact `aq (h 0 _ _ rfl rfl r) (ih λi a b e1 e2=>h `es a b (`aB') (by simpa using e2))
theorem qd0:∀{l:`aT} {i:Nat} {a:α},`CJ->`abF=l
 | [],_,_,h=>`ia
 | x::l,0,a,h=>by simp at h;subst h;rfl
 | x::l,i+1,a,h=>by rw[List.set_cons_succ,qd0 `hZ]
def Pd.setR{F:`kw}{a:α}{b:β}(r:`xW){l:`aT}{m:`lv}(e:`CJ)(h:`p4):`bS F l `aCt:=by
 have:=`oS r i h
 rwa [qd0 e] at this
def get_set{l:`aT}{a b:α}(h:(`abF)[j]?=`nv):(i=j/\a=b/\j<`bW)∨(`Ia/\l[j]?=`nv):=by
 by_cases e:i=j
 ·subst e
  by_cases hl:i<`bW
  ·rw[`v2] at h
   exact `t #[rfl,`nM,hl]
  ·rw[`CK] at h;cases h
 ·rw[`lc e] at h
  exact `s #[e,h]
theorem Env.len(e:`a'):`pz=`lT:=`qx `hD
def Env.at(e:`a'){d:D}(h:`anH):∃a,`jP/\`aCs:=by
 let#[o,h1,a,rfl,hb,r]:=`aCx;exact#[a,h1,hb,r]
def Env.mut(e:`a'){d:D}{o:HO}(hi:`Db)(hs:`jP)(r:RpL K `gR B d a):`aF7:=by
 let#[a',h1,hb,_]:=`Nm;rw[hs] at h1;cases h1;refine`aF8
 ·
  have h0:`bS (λ(o':`dq) (s:Sl)=>SlR K `gR B o' s∨`acK) σ δ:=`tG (λo' s h=>by
   cases s with
   | un=>exact `acL
   | ex c n=>let#[v,e,r]:=h;exact `aF9
   | sh d=>let#[v,e,r]:=h;exact `aF9
   | ow d =>
    let#[b,e,J,r]:=h
    by_cases z:b=a
    ·subst z;exact `acM
    ·exact `t #[b,e,J,`df (λo h=>by rw[`oT];exact h) `lF]) `hD
  have h1:=`aF';refine `aF!;rcases h with h|⟨d',rfl,rfl⟩
  ·exact h
  ·refine `e;rcases `Nn with⟨rfl,e3,_⟩|⟨O,e3⟩
   ·cases e3;refine `b;exact`Hb
   ·refine `b;exact `aF?
 ·by_cases z':b=a
  ·subst z';exact `rS
  ·rw[m5 z'];exact `acN
 ·have q1:`aGa:=by
   refine `e;rcases `hh with⟨rfl,_,_⟩|⟨_,h⟩
   ·refine `b;exact`No
   ·refine `b;exact`Np
  have q2:`aGb:=by
   refine `e;rcases `kR with⟨rfl,_,_⟩|⟨_,h⟩
   ·refine `b;exact`No
   ·refine `b;exact`Np
  let#[d1,q1]:=q1;let#[d2,q2]:=q2;exact `aGc
def EnvS.mut(en:`ck)(s:`bb)(b1:`ly)(b2:`lz){d:D}{o:HO}(hi:`Db)(hs:`jP)
  (env:Env K (upd H' a o) B σ `qh):`cj K `O `L (upd H' a o) σ `qh:=by
 have h0:=`aGd;have J:i<`lT:=`Fj;refine`aGe
 ·have:`hJ:=λz=>by rw[z,h0] at h;cases h
  rw[`Dc];exact s _ _ `aGf
 ·by_cases z:b=a
  ·let#[a',e1,_,ro]:=`aGg
   rw[hs] at e1;cases e1;rw[z] at h;exact `aGh
  ·rw[`oT] at h
   exact `GS b ob xs (s.nf b ob xs h)
 ·refine `e;rcases `hh with⟨rfl,_,_⟩|⟨_,h⟩
  ·rw[hs] at h2;cases h2;refine `b;exact h0
  ·refine `b;exact `aGi
def EnvS.take(en:`ck)(b1:`ly)(b2:`lz)(e:`a')(i:Nat){d:D}{p:`f}(hp:`d8)(s:`bb)
  (r:`anf):`aGj:=by
 have g:`aGk:=`aGl
 have J:`abS:=`acO;have live:`aGm:=λ{j d' b} h1 h2=>by
  let#[a,q1,q2,q3]:=e.at h1;rw[h2] at q1;cases q1;exact `aGn
 refine`aGo
 ·rcases z with z|rfl
  ·exact b2 a z
  ·exact `s J
 ·refine `oS #[p,rfl,`b?,r.toL] i `aGp
  cases sl with
  | un=>trivial
  | ex c n=>let#[v,e,r]:=h;exact`CW
  | sh d=>let#[v,e,r]:=h;exact`CW
  | ow d=>let#[b,e,O,r]:=h;exact`aGq
 ·rcases z with z|rfl
  ·exact`aGr
  ·exact `rS
 ·refine `e;rcases `hh with⟨rfl,_,_⟩|⟨n1,h1⟩
  ·rcases `kR with⟨rfl,_,_⟩|⟨n2,h2⟩
   ·refine `b;rfl
   ·rcases `hI h3 with⟨_,e3,_⟩|⟨n3,_⟩
    ·cases e3
     rw[`Dd] at h4;refine `b;exact `aGs
    ·refine `b;exact `Nq
  ·rcases `kR with⟨rfl,_,_⟩|⟨n2,h2⟩
   ·rcases `hI h4 with⟨_,e4,_⟩|⟨n4,_⟩
    ·cases e4
     rw[`o2] at h3;refine `b;exact `aGt
    ·refine `b;exact `aGu
   ·rw[`o2] at h3
    rw[`Dd] at h4;refine `b;exact `ML
 ·refine `e;rcases `hh with⟨rfl,_,_⟩|⟨n1,h1⟩
  ·rcases `kR with⟨_,e3,_⟩|⟨n3,_⟩
   ·cases e3;refine `b;exact J
   ·refine `b;exact `Nq
  ·rw[`o2] at h2
   refine `b;exact `acP
def b30{d e:D}(h:`acQ=.ow e):`b':=by
 unfold DL.fz at h;split at h<;>cases h
def go0{s:Sl}{e:D}(h:xz0 s=.ow e):`b':=by
 cases s with
 | ow d=>exact b30 h
 | un=>cases h
 | sh d=>cases h
 | ex c n=>cases h
def RpL.fz{d:D}(l:`v0)(n:¬`p3)(h:`lx):SlR K H B' (`nx) (`acQ):=by
 refine `e;cases d with
 | tup es =>
  rcases h with⟨d',rfl,r⟩|⟨ks,vs,rfl,_⟩|⟨x,ns,rfl,_⟩
  ·cases d' with
   | tup es=>refine `b;trivial
   | _=>refine `b;exact#[_,rfl,RpO.rp l n (RpG.toO rfl r)]
  ·refine `b;trivial
  ·refine `b;trivial
 | _=>refine `b;exact#[_,rfl,RpO.rp l n `CI]
def Env.frz(e:`a'):∃B':BS,(`v0)/\(∀a,B a->`p3∨`Uf)/\Env K H B' σ `aGv:=by
 refine#[`aGw,`He,`gQ,?_,λa z=>`iF a z.1,`aGx]
 ·by_cases q:`Uf
  ·exact `s q
  ·exact `Nr
 ·have:`bS (λo s=>SlR K H (`aGw) o (xz0 s)) σ δ:=`zb (λi o s e1 e2 h=>by
   cases s with
   | un=>trivial
   | ex c n=>let#[v,e,r]:=h;exact`Ug
   | sh d=>let#[v,e,r]:=h;exact`Ug
   | ow d =>
    let#[a,rfl,hb,r]:=h;exact r.fz (`He) λz=>z.2 #[i,d,e2,e1]) `hD
  have mp:∀{l:St} {m:Ds} {F:`dq->Sl->Prop},`bS (λo s=>F o (xz0 s)) l m->`bS F l (m.map xz0):=by
   intro l m F h
   induction h with
   | nil=>exact `X
   | cons r t ih=>exact `Bz
  exact mp `E
 ·unfold DL.frz at h1
  rw[`cp] at h1;cases q:`cb with
  | none=>rw[q] at h1;cases h1
  | some s=>rw[q] at h1;exact`aGy
def EnvS.frz(en:`ck):`cj K `O `L H σ `aGv:=by
 refine `e;let#[B,b1,b2,env]:=`aK;let#[B',c1,c2,J]:=env.frz;refine `b;refine#[`fq,`aGz,λi ds a h1 _=>?_,`jR]
 ·refine `e;rcases `aGA with q|⟨i,d,q1,q2⟩
  ·refine `b;exact q
  ·refine `b;exact `aGB
 ·unfold DL.frz at h1
  rw[`cp] at h1;cases q:`cb with
  | none=>rw[q] at h1;cases h1
  | some s=>rw[q] at h1;exact`aGy
def Env.frzAt(e:`a')(i:Nat):∃B':BS,(`v0)/\(∀a,B a->`p3∨∃(d:D),`anI)/\Env K H B' σ (DL.frzAt i δ):=by
 unfold DL.frzAt;cases h:`cb with
 | none=>exact`Ns
 | some s =>
  cases s with
  | un=>dsimp only [xz0];rw[qd0 h];exact`Ns
  | ex c n=>dsimp only [xz0];rw[qd0 h];exact`Ns
  | sh d=>dsimp only [xz0];rw[qd0 h];exact`Ns
  | ow d =>
   let#[a,h1,hb,r]:=e.at h;refine#[`aGC,`aGD,`Ha,?_,λb z=>`iF b z.1,λj k b ds es Y O h3 h4=>?_]
   ·by_cases q:b=a
    ·subst q;exact `s #[d,rfl,h1]
    ·exact `Nr
   ·have h0:`bS (λ(o':`dq) (s:Sl)=>SlR K H (`aGC) o' s∨`acK) σ δ:=`tG (λo' s h=>by
     cases s with
     | un=>exact `acL
     | ex c n=>let#[v,e,r]:=h;exact `aGE
     | sh d=>let#[v,e,r]:=h;exact `aGE
     | ow d =>
      let#[b,e,J,r]:=h
      by_cases z:b=a
      ·subst z;exact `acM
      ·exact `t #[b,e,#[J,z],`df `acR (`iG `He)]) `hD
    have h2:=`T! (i:=i) (b:=`acQ) (`t (r.fz (`aGD) `aGF)) h1 h0;refine `zb (λj o' s e1 e2 hh=>?_) h2;rcases hh with hh|⟨d',rfl,rfl⟩
    ·exact hh
    ·rcases `Nn with⟨rfl,e3,_⟩|⟨U,e3⟩
     ·exact(b30 e3).elim
     ·exact `N (`nz i j a d d' h e3 h1 e1) U
   ·rcases `hI Y with⟨_,q,_⟩|⟨_,q1⟩
    ·exact`aGG
    ·rcases `hI O with⟨_,q,_⟩|⟨_,q2⟩
     ·exact`aGG
     ·exact `nz j k b ds es q1 q2 h3 h4
def EnvS.frzAt(en:`ck)(i:Nat):`cj K `O `L H σ (DL.frzAt i δ):=by
 refine `e;let#[B,b1,b2,env]:=`aK;let#[B',c1,c2,J]:=env.frzAt i;refine `b;refine#[`fq,`aGz,`Ue,`jR]
 ·rcases `aGA with q|⟨d,q1,q2⟩
  ·exact q
  ·exact `aGB
 ·refine `e;unfold DL.frzAt at h1
  cases q:`cb with
  | none=>rw[q] at h1;refine `b;exact `acP
  | some s =>
   rw[q] at h1;rcases `hh with⟨rfl,q',_⟩|⟨_,q1⟩
   ·refine `b;exact(go0 q').elim
   ·refine `b;exact `p' j ds a q1 h2
def s60{d:D}(h:`o1)(r:`cR):`To:=by
 cases d<;>simp[`cv] at h
 ·rw[V6] at r ⊢;exact r
 ·rw[Z9] at r ⊢;exact r
 ·rw[j6] at r ⊢;exact r
 ·rw[X5] at r ⊢;exact r
universe zz
section
variable{st:`a1}{g:GE}{gt:GB}
theorem l90(h:`cC):PD X e (wm0 g):=.mk λB δ pins s σ H Q I hq98=>by
 refine `e;let#[d,en,hq,k]:=hq98
 let#[B',c1,c2,J]:=`zc;unfold wm0 at hq;cases e1:`qb with
 | none=>rw[e1] at hq;cases hq
 | some x =>
  rw[e1] at hq
  by_cases hf:`anu
  ·simp only[`h,`wg] at hq
   cases hq;refine `b;exact h B' `qa `i s σ H Q I #[_,J,e1,λv H' s' r=>k v H' s' (s60 hf r)]
  ·simp only[`h,`Nt] at hq
   cases hq
theorem Wf0(h:`aCM):PTD X e (e70 gt):=.mk λB δ pins s σ H Q I hq99=>by
 refine `e;let#[d,en,hq,k]:=hq99
 let#[B',c1,c2,J]:=`zc;refine `b;exact h B' `qa `i s σ H Q I #[d,J,hq,k]
theorem ap0(i:Nat)(h:`abT):PSD X st (U50 i G):=.mk λH₀ B₀ δ pins s σ H D I #[r,en,hq,k]=>h `O `L _ `i s σ H D I #[r,en.frzAt i,hq,k]
theorem ag0(h:`cC):PSD X `rE (V0 (ji0 g)):=.mk λH₀ B₀ δ pins s σ H D I #[r,en,hq,k] =>
 X4 h `O `L `qa `i s σ H D I `aGH
theorem J8{gA:GA}(h:`v5):PDF X `_3 (U5 gA) :=
 .mk λB δ=>`aCQ fun σ H Q hq100=>by
  let#[d,en,h,k]:=hq100
  unfold U5 at h;cases e1:`cO with
  | none=>rw[e1] at h;cases h
  | some ds =>
   rw[e1] at h
   by_cases hl:`vZ
   ·simp only[`h,`my] at h
    cases h;refine#[ds,en,e1,λvs H1 s1 r1=>#[`am9,λp hp=>k _ _ (`lG hp) (`jN `fr) #[vs,m8,r1.mono `zq]]]
   ·simp only[`h,`abM] at h
    cases h
theorem eu0:PDF X `aFU `Wm:=.mk λB δ=>Q40.imp fun σ H Q hq101=>by
 let#[d,en,h,k]:=hq101
 cases h;exact λp hp=>k p _ hp `fr #[[],m8,rfl,`fS]
theorem zw0(i:Nat){px:Pos}(h:`v8)(hN:`ek)(hi:`b0:=by rfl)(hx:`rB:=by first|exact `aU|exact `fp)
  (hs:`Sn `Nu e `jA `w=`ff:=by rfl) (hw:`So `Nu e `w=`s_:=by rfl)
  (h1:(`lf `Nu `w).map `eU=[`hx `ez `w]:=by rfl)
  (hf:`rC:=by first|exact `bQ|exact `b?|assumption):PSD X (`hy `Nu e pos) (N8 i g):=.mk λH₀ B₀ δ pins s σ H D I hq102=>by
 refine `e;let#[r,en,e1,k]:=hq102
 unfold N8 at e1;let#[B,b1,b2,env]:=`aK;cases e2:`av with
 | none=>rw[e2] at e1;cases e1
 | some d =>
  rw[e2] at e1;cases e1;refine `b;exact i70 `c6 (`MS) hs hw h1 `i s σ H D I #[d,env,e2,λp H' hp s' r=>k _ H' (en.take b1 b2 env i hp s' r)]
universe zz
universe DL
namespace L2
open Spec PyProof.Rows
open PySem.AutoSeq1 (wpAny_loadPart')
theorem Wy0(p:`f)(xs:`aJ)(k:Nat)(q:`f)(ys:`aJ)(m:Nat)(dq:`bm)(sq:`h6)(h0:¬(!xs.isEmpty&&`L! (`tL+`zl))=`c)(h1:`tL<=`R)(h2:`tL+`zl<=`R+1) :
  Meets (Builtin.«list.extend» #[[`gL,`z q],[]]) (λ_ R s=>`dm p=`a { cls:=`en,dict:=`d,data:=`b7 xs k,slots:=⟨⟩ }/\`dm q=`a { cls:=`en,dict:=dq,data:=`b7 ys m,slots:=sq }/\R (.ok (`eR `lI)) { s with heap:=`qs p (`qk λz=>z++ys) }) :=
 `Nv λprog w A R s h=>by
  refine `e;let#[hp,g,d,tk,os]:=s;let#[hl,hb,h]:=h;have f1:=`aGI;have f2:=AutoSeq1.sub_tuple_tuple;have f3:=AutoSeq1.sub_list_list;have f4:=AutoSeq1.sub_tuple_list;have f5:=AutoSeq1.sub_list_tuple;have J:(xs++ys).size<=`R+1:=by rw[`acS];exact h2
  refine `b;wp_walk using (N3 hl rfl (hz:=h1) (_hz':=J)),B40 hl,B40 hb
  exact`Nw
def Om0(K:`A):`ib:=λx vs H Q=>∃l b xs zs,`L?/\vs=[`pL]/\`Cl/\`aED/\`aEE/\Q `x (upd H l `M8)
def ge0:MtM X "list.extend" (Om0 X.K):=by
 intro pins s σ H x vs v us Q I rx rv h;refine `e;let#[l,b,xs,zs,rfl,rfl,hH,hB,hz,q]:=h;cases rx;let#[u,rfl,ru]:=`Ma;cases ru;let#[z,its,n,r,hl,e]:=`aaO;let#[J,r2,p2,z2]:=`dt hB;let#[#[a4,a2,data2,Z],a3,U,n2,Y]:=`oZ;simp only at U Y;subst U Y;have hl2:=`nc;have a1:`aEF:=`acT
 have O:¬(!`Nx&&`L! (`anq))=`c:=by
  rw[O50 a1,`acU];exact B6
 refine `b;refine L5 F.slot_list_extend `aaP F.entry_list_extend (F.args_list_extend_2 _ _)
  (Wy0 l `bv n b `ab' n2 a2 Z O `tV `k) #[e,a3,?_]
 refine#[`x,_,I.lset (its':=its++J) hH e `ax (`FQ r2) ?_,rfl,q];rw[`Z];lia
def J20:`awg:=λo i v H Q=>∃a H',o=`bt/\DPut H a i v H'/\Q H'
def set_dict(hu:`kQ):Ja0 X J20:=by
 intro pins s σ H o i v ov iv u Q I ro ri rv h;let#[a,H',rfl,g,q]:=h;cases ro;exact S30 hu I g ri rv λs3 I3=>#[H',I3,q]
universe L2
namespace DL
open Spec PyProof.Rows L2
section
variable{σ σ':St}{δ:Ds}
def Rps.dropLast(h:`bp):Rps K H B `ant `S4:=by
 rw[`acV,`acV,h.length];exact h.take _
structure EnvV(K:`A)(H₀:Hp)(B₀:BS)(H:Hp)(σ:St)(δ:Ds)(d:D)(v:V):Prop where
 same:`MQ
 ex:∃B:BS,`CR/\`CS/\`a'/\`cR
 fr:`aCU
 b0:`abR
theorem EnvV.s{d:D}(h:`De):`ck:=#[`MK,let #[B,b1,b2,e,_]:=h.ex;#[B,b1,b2,e],h.fr,h.b0]
theorem EnvV.mk'{d:D}(h:`ck)(b1:`ly)(b2:`lz)(e:`a')(r:`cR):`De:=#[`MK,#[B,b1,b2,e,r],h.fr,h.b0]
universe zz
def tX(K:`A)(H₀:Hp)(B₀:BS)(δ:Ds)(gx:GX):TE:=fun σ H Q=>∃r,`ck/\`ey=`ew/\∀v H',EnvV K `O `L H' σ r.2 r.1 v->`m6
structure PX(X:Cx)(e:`I)(gx:GX):Prop where
 mk::go:`aGJ
instance{X:Cx}{e:`I}{gx:GX}:`e5 (`mE) (λ_=>`aGJ):=#[PX.go]
def tTG(K:`A)(H₀:Hp)(B₀:BS)(ft:`a8)(d:D)(δ:Ds):TG:=λv σ H Q=>∃δ',`De/\ft d δ=`p0/\∀σ' H',`aC0->`alC
structure PTG(X:Cx)(tg:`I)(ft:`a8):Prop where
 mk::go:`aGK
instance{X:Cx}{tg:`I}{ft:`a8}:`e5 (`aGL) (λ_=>`aGK):=#[PTG.go]
section
variable{st:`a1}{g:GE}{gt:GB}
theorem Z2(h:`cC):PX X e (Z8 g):=.mk λH₀ B₀ δ pins s σ H Q I hq103=>by
 refine `e;let#[r,en,e1,k]:=hq103
 unfold Z8 at e1;let#[B,b1,b2,env]:=`aK;cases e2:`av with
 | none=>rw[e2] at e1;cases e1
 | some d =>
  rw[e2] at e1;cases e1;refine `b;exact h B δ `i s σ H Q I #[d,env,e2,λv H' s' r=>k v H' (`gS (`tv s') b1 b2 (`abW) r)]
def aq0{δ:Ds}(h:`qc=`p1):`cb=`aEX:=by
 unfold owL at h;split at h
 ·cases h;assumption
 ·cases h
def Xt0{δ:Ds}{r:`aE3}(h:`G5=`ew):`cb=`a (.ow (`cQ (`t r.1) r.2)):=by
 unfold gw0 at h;split at h
 ·cases h;assumption
 ·cases h
theorem u50(i:Nat)(h:`cC)(hN:`b0:=by rfl)(hv:`dB:=by first|exact `aU|exact `cD|exact `cE)(hd:`aQ:=by decide)(hcd:`dC:=by decide)
  (hbase:`fh `ez `H7 `w `tI=`tH:=by rfl)
  (hfew:(`o_
  &&`Ny)=`c:=by rfl)
  (hline:`fO:=by rfl) (hs:`fW:=by rfl) (hplain:`mB:=by rfl) :
  PX X (`aV (`cI `ez `H7 `eV) [e] [] `ca) (z60 i g):=.mk λH₀ B₀ δ pins s σ H Q I hq104=>by
 refine `e;let#[r,en,e1,k]:=hq104
 unfold z60 at e1;let#[B,b1,b2,env]:=`aK;cases e2:`qc with
 | none=>rw[e2] at e1;cases e1
 | some ds =>
  cases e3:`av with
  | none=>rw[e2,e3] at e1;cases e1
  | some d =>
   rw[e2,e3] at e1;simp only[`h] at e1;split at e1
   ·rename_i hz
    cases e1;have hi:=aq0 e2;let#[a,O,hb,xs,hx,rx]:=`ij;refine `b;refine rl0 Q2 B50 B60 po0 `lH (R8 `c6 zt0 hs) `e3 `ja `gr hs `kH `i s σ H Q I
     #[_,O,`acW,d,env,e3,λv H1 s1 r1=>#[a,xs,v,rfl,rfl,`Uz,by rw[`acX];exact hz,?_]]
    have J:Env X.K (upd H1 a (`o `zL)) B σ (`aEY):=`Nz hi O #[_,m8,(`qm `Hm r1).mono `lF];exact `aGM
   ·cases e1
open T in
theorem Zt0(i:Nat)(h:`cC)(hN:`b0:=by rfl)(hv:`dB:=by first|exact `aU|exact `cD|exact `cE)(hd:`aQ:=by decide)(hcd:`dC:=by decide)
  (hbase:`fh `ez `NA `w `tI=`tH:=by rfl)
  (hfew:(`o_
  &&`Ny)=`c:=by rfl)
  (hline:`fO:=by rfl) (hs:`fW:=by rfl) (hplain:`mB:=by rfl) :
  PX X (`aV (`cI `ez `NA `eV) [e] [] `ca) (v40 i g):=.mk λH₀ B₀ δ pins s σ H Q I hq105=>by
 let#[r,en,e1,k]:=hq105
 unfold v40 at e1;let#[B,b1,b2,env]:=`aK;cases e2:`qc with
 | none=>rw[e2] at e1;cases e1
 | some ds =>
  cases e3:`av with
  | none=>rw[e2,e3] at e1;cases e1
  | some d =>
   rw[e2,e3] at e1;simp only[`h] at e1;cases d<;>try cases e1
   rename_i es;dsimp only at e1;split at e1
   ·rename_i hz
    cases e1;have hi:=aq0 e2;let#[a,O,hb,xs,hx,rx]:=`ij;refine rl0 Q2 Cy0 Cz0 ge0 `lH (R8 `c6 zt0 hs) `e3 `ja `gr hs `kH `i s σ H Q I
     #[_,O,`acW,_,env,e3,`y7]
    rw[X6] at r1;let#[b,zs,rfl,hq,rz]:=r1;refine#[a,b,xs,zs,rfl,rfl,`Uz,`mA,by rw[`acX,rz.length];exact hz,?_];have J:Env X.K (upd H1 a `M8) B σ (`aEZ):=`Nz hi O #[_,m8,(`aB? `Hm rz).mono `lF];exact `aGM
   ·cases e1
theorem Rr0(i:Nat)(hN:`b0:=by rfl)(hv:`dB:=by first|exact `aU|exact `cD|exact `cE)(hd:`aQ:=by decide)(hcd:`dC:=by decide)
  (hbase:`fh `ez `H? `w `tI=`tH:=by rfl) (hline:`fO:=by rfl) :
  PX X (`aV (`cI `ez `H? `eV) [] [] `ca) (qs0 i):=.mk λH₀ B₀ δ pins s σ H Q I hq106=>by
 refine `e;let#[r,en,e1,k]:=hq106
 unfold qs0 at e1;let#[B,b1,b2,env]:=`aK;cases e2:`qc with
 | none=>rw[e2] at e1;cases e1
 | some ds =>
  rw[e2] at e1;simp only[`h] at e1;cases e3:`aE_ with
  | none=>rw[e3] at e1;cases e1
  | some d =>
   rw[e3] at e1;cases e1;have hi:=aq0 e2;let#[a,O,hb,xs,hx,rx]:=`ij;rw[`aGN] at e3;let#[y,hy,ry]:=rx.get e3;refine `b;refine Us0 Q2 D00 D10 Rl0 `lH `e3 `gr `i s σ H Q I
    #[_,O,`acW,a,xs,y,rfl,rfl,hx,by rw[`acX];exact hy,?_]
   have J:Env X.K (upd H a `aaQ) B σ (`aE0):=env.mut hi O #[_,m8,rx.dropLast.mono `lF];exact k _ _ (`gS (`zd `tw b1 b2 hi O J) b1 b2 J (ry.mono `lF))
theorem qt0(h:`CT):PTG X tg f:=.mk λH₀ B₀ d δ pins s σ H v u Q I r hq107=>by
 refine `e;let#[δ',en,e1,k]:=hq107
 let#[B,b1,b2,env,rv]:=`aK;refine `b;exact h B d δ `i s σ H v u Q I r #[δ',rv,env,e1,fun σ' w en'=>k σ' H (en.s.wr b1 b2 `tw w en')]
theorem zx0{ft:`a8}(h:`mE)(hg:`aGL)(hs:`_g:=by rfl)(hw:`_h:=by rfl)
  (h1:`_i:=by rfl):PSD X `_j (G6 gx ft):=.mk λH₀ B₀ δ pins s σ H D I hq108=>by
 refine `e;let#[r,en,e1,k]:=hq108
 unfold G6 at e1;cases e2:`ey with
 | none=>rw[e2] at e1;cases e1
 | some q =>
  rw[e2] at e1;simp only[`h] at e1;cases e3:ft q.1 q.2 with
  | none=>rw[e3] at e1;cases e1
  | some δ' =>
   rw[e3] at e1;cases e1;refine `b;exact i70 (h `O `L δ) (hg `O `L q.1 q.2) hs hw h1 `i s σ H D I #[q,en,e2,λv H' J=>#[δ',J,e3,fun σ' H'' en''=>k σ' H'' en'']]
theorem W3(h:`mE)(hs:`Z':=by rfl):PSD X `Z! (j8 gx):=.mk λH₀ B₀ δ pins s σ H D I hq109=>by
 let#[r,en,e1,k]:=hq109
 unfold j8 at e1;cases e2:`ey with
 | none=>rw[e2] at e1;cases e1
 | some q =>
  rw[e2] at e1;cases e1;exact ru0 (h `O `L δ) hs `i s σ H D I #[q,en,e2,λv H' J=>k σ H' J.s]
theorem pj0(n:Nat){c:`I}{body:`b5}(hp:`BV)(hc:`MV)(hb:`aC9):PSD X `awo (S6 gt G n):=.mk λH₀ B₀ δ pins s σ H D I hq110=>by
 let#[r,en,e1,k]:=hq110
 have O:PT X c (`M1):=λpins s σ H Q I #[B,δ,h]=>hc B δ `i s σ H Q I h
 have U:PSs X `d1 (λD σ H=>∃δ,`aC?):=λpins s σ H D I #[δ,h]=>`aDa
 refine N20 hp O U `i s σ H D I #[λm σ H=>∃δ',`cj X.K `O `L H σ δ'/\`aGO,#[n,δ,en,e1],?_];rintro m σ1 H1 ⟨δ1,J,e2⟩;refine `e;cases m with
 | zero=>cases e2
 | succ m =>
  unfold S6 at e2;let#[B,b1,b2,env]:=J.ex;cases e3:gt δ1 with
  | none=>rw[e3] at e2;cases e2
  | some t =>
   rw[e3] at e2;refine `b;refine#[B,δ1,t,env,e3,λH2 s2=>?_];cases t with
   | false =>
    rw[`oB];cases e2;exact k σ1 H2 (J.grow s2)
   | true =>
    rw[`bc];dsimp only at e2;refine#[fun σ' H'=>∃δ',`cj X.K `O `L H' σ' δ'/\`aGO,fun σ' H' z=>#[m,i9 m,z],δ1,?_];cases e4:G δ1 with
    | none=>rw[e4] at e2;cases e2
    | some rb =>
     rw[e4] at e2;refine#[rb,J.grow s2,e4,?_];cases rb with
     | nx δn=>exact `aGP
     | ct δn=>exact `aGP
     | bk δn=>cases e2;exact fun σ' H' en'=>k σ' H' en'
     | rt d'=>cases e2;exact λv H' s' r'=>k v H' s' r'
     | rf d'=>cases e2;exact λp H' hp s' r'=>k p H' hp s' r'
open T in
theorem jf0(i j:Nat){p2 p3:Pos}{kk}(hN:`ek)(hij:`Ia)(hc:`bx:=by rfl)(hi:`b0:=by rfl)(hj:`o3:=by rfl)
  (hx:`rB:=by first|exact `aU|exact `fp) (hy:`ie:=by first|exact `aU|exact `fp)
  (hf:`rC:=by first|exact `bQ|exact `b?|assumption) (hf2:`ig:=by first|exact `bQ|exact `b?|assumption)
  (hs1:(`acY).map `eU=`hx (`anM) `w::`aGQ:=by rfl) (hs2:`aGQ=`hx (`Uk) `w::(`lf [] `w).map `eU:=by rfl)
  (hn:(`acY).length=2:=by rfl) (hst:(`acY).findIdx? `bK=`d:=by rfl) :
  PGD X (`lJ `anN kk pos) [i,j] (nr0 i j):=.mk λB d δ=>(Jo0 hc (Zx0 (`MS) (Zx0 (o70 (i:=j) hN hj hy hf2) M30 hs2) hs1) hn hst).imp λv σ H Q hq111=>by
 let#[δ',r,en,e1,k]:=hq111
 unfold nr0 at e1;split at e1
 ·rename_i da db
  cases e1;rw[U7] at r;let#[p,xs,rfl,hq,rs]:=r;rw[o8] at rs;let#[va,t1,rfl,ra,rs]:=rs;rw[o8] at rs;let#[vb,t2,rfl,rb,rs]:=rs;rw[m9] at rs;subst rs;refine#[p,_,rfl,`mA,rfl,va,[vb],rfl,vb,[],rfl,rfl,k _ ?_ ((en.set i ra).set j rb)];refine#[`a4,`wh,λq hq ds h=>?_]
  ·have h1:q≠i:=λz=>hq (by rw[z];exact B0)
   have h2:q≠j:=λz=>hq (by rw[z];exact A7 _ B0)
   rw[`aGR,`aGS,`aGR,`aGS];exact`ln
  ·rcases `hI h with⟨rfl,e3,_⟩|⟨n1,e3⟩
   ·cases e3
   ·rcases `hI e3 with⟨rfl,e4,_⟩|⟨n2,e4⟩
    ·cases e4
    ·simp at hq
     rcases hq with z|z
     ·exact n2 `pY
     ·exact n1 `pY
 ·cases e1
universe zz
universe DL
namespace HT
open PyProof.Rows
section
variable{w:`Q}{s:`v}
def me0{t sl:`f}{items:`aJ}{lo hi:`a5}{Q:`aj}(ht:`ay1)(hs:`LQ)(pl:`LR)(pu:`LS)
  (hw:`ay2) (h:Q `lo s):`ay4:=by
 let#[os,O,Y,Z]:=id hs;have U:`ay5 := #[os,O,Y];unfold getItem
 try with_reducible refine `tK
 first|refine `KQ|skip
 refine `ay6;refine A1 (j0 (name:=`ay7) `pM b5
  `ay8)
 show `ay9;refine A1 (`aal ht ?_);refine A1 (L7 U ?_);rw[`Bs];refine `ay';have J:`SQ:=by
  rw[hw.1,hw.2];simp
 show `ay!;rw[`V J];unfold Builtin.Tuple.tupleIsExact;refine A1 (A1 (L7 `pM `E0));rw[`Bs];exact A1 (Y2 `SR)
universe zz
universe HT
namespace L2
open Spec PyProof.Rows
def Hc0(K:`A):`rK:=λx lo hi H Q=>∃a xs,`c?/\`mo/\`azn/\Q `c2 H
def K50:SlR X (Hc0 X.K):=by
 intro pins s σ H x v vl vu lo hi sl Q I rx hs pl pu h;refine `e;let#[a,xs,rfl,hx,hw,q]:=h;cases rx;let#[its,r,ht,hz]:=`hu hx;have J:`hF=`ay:=`azp
 refine `b;exact#[`dk,_,b5.lookup,`pM,HT.me0 ht hs pl pu (`LU) #[`bt,H,I,rfl,q]]
def R80(K:`A):R2:=λx y H Q=>∃a b ys,`c?/\`Ce/\SqT K H a []/\`azs/\Q `Hc H
def Ou0:OpR X `B1 (R80 X.K):=by
 intro pins s σ H x y v u Q I rx ry h;refine `e;let#[a,b,ys,rfl,rfl,ha,hb,q]:=h;cases rx;cases ry;let#[its,r1,p1,_]:=`aaq;let#[Y,r2,p2,_]:=`hu hb;have e:its=[]:=r1.zero;subst e;let#[#[cls,dd,data,sl],ho,hc,n,hd]:=id p1;let#[#[a2,a1,data2,Z],U,J,n2,O]:=id p2;simp only at hc hd J O;subst hc hd J O;refine `b;exact t9 `kG `aGT Am0 An0 Ao0 Ap0 (Aq0 _ _)
  (tuple_addW0 a b _ Y.toArray n n2 dd a1 sl Z rfl) #[ho,U,#[`pL,H,I,rfl,q]]
def jl0(x:Str)(n:Int):Str:=`aco
def Nf0:R2:=λx y H Q=>∃z n,x=`jF/\y=`d7/\`acp/\n<`ft/\`acZ<=`R/\Q (`u (`NB)) H
def Mz0:OpR X `Lw Nf0:=by
 intro pins s σ H x y v u Q I rx ry h;refine `e;let#[z,n,rfl,rfl,h1,h2,hz,q]:=h;let#[t,rfl]:=rx;let#[t',rfl]:=ry;have fin:∀O k,EP X `i σ Q (`u (`NB) O) { s with toks:=k }:=λO k=>#[`bq,H,I.tok k,#[O,rfl],q]
 have a1:`_O<`NC:=`aa
 have Y:¬n<1->¬((`jE:Int) > `ND/n):=by
  intro hn;have Z:0<n:=`J
  have:(`jE:Int)*n<=`Ul:=by
   have e:n=(`hG:Int):=`J
   rw[e];have:((`acZ:Nat):Int)<=`NC:=by exact_mod_cast (`J:`acZ<=`NC)
   rw[`ac_] at this;lia
  exact Int.not_lt.mpr ((Int.le_ediv_iff_mul_le Z).mpr `E)
 refine `b;refine PySem.P.mul_str (by rw[`ee,`ee];rfl) (λhn _=>Y hn) (λ_ _=>?_) ?_
 ·show `B (`jE*`hG > sizeLine)=`p
  exact `L1
 ·by_cases hn:n<1
  ·rw[`V hn]
   have e:`NB=`yh:=by
    unfold jl0;rw[show `hG=0 by lia];rfl
   refine#[`aa,?_];rw[← e];exact fin _ _
  ·rw[`al hn]
   by_cases h3:(n==1||`jE==0)=`c
   ·rw[`ac0]
    have e:`NB=z:=by
     rw[Bool.or_eq_true] at h3;rcases h3 with h3|h3
     ·have:n=1:=`vP h3
      subst this;unfold jl0;show (#[⟨⟩++z.cps]:Str)=z;rw[Array.empty_append]
     ·have h3:`jE=0:=`vP h3
      have U:z.cps=⟨⟩:=Array.eq_empty_of_size_eq_zero h3;have:∀k:Nat,(`aW k (⟨⟩:`ps Nat)).foldl `nF ⟨⟩=⟨⟩:=by
       intro k
       induction k with
       | zero=>rfl
       | succ k ih=>rw[`eI,`L'];exact ih
      unfold jl0;rw[U,`E];cases z;simp at U;rw[U]
    have:=fin t `bf;rw[e] at this;exact `E
   ·rw[`al h3]
    have hl2:∀(k:Nat) (J:`ps Nat),((`aW k z.cps).foldl `nF J).size=J.size+k*`aGU:=by
     intro k
     induction k with
     | zero=>intro J;simp
     | succ k ih=>intro J;rw[`eI,`L',ih,`acS,`aaS];lia
    refine#[?_,fin _ _];show ((`aW `hG z.cps).foldl `nF ⟨⟩).size<=_;rw[hl2];have:`jE=`aGU:=rfl;rw[`E,`Df] at hz
    simpa using hz
theorem fu0:fillsNumberSlot `t3 "mul"=`ff :=
 PySem.fillsNumberSlot_seq (id := `ac1) (r:=`a (`bo `aGV)) `aGW `cZ `aGX `cZ
def Vf0:seqRepeat? `t3=`bI (`a (`bo `ac1)):=by
 unfold seqRepeat?;rw[`aGY (T := `dk) (name := "__mul__") (id := `ac1) `aGW `cZ,`aGY (T := `dk) (name := "__rmul__") (id := `aGV) `aGX `cZ];rfl
theorem bf0(a:Int)(t:Tok)(l:`f)(items:`aJ)(n:Nat)(dd:`bm)(sl:`h6) :
  Meets (Builtin.«int.__rmul__» #[[`g a t,`pO],[]]) (λ_ R s=>`ac2/\R (.ok (`eR Value.notImplemented)) s) :=
 `Nv λprog w A R s h=>by
  let#[hp,g,d,tk,os]:=s;let#[hl,h]:=h
  wp_walk
  exact`Nw
theorem Ov0(l:`f)(items:`aJ)(n:Nat)(dd:`bm)(sl:`h6)(k:Int)(t:Tok)(h2:2<=k)(h3:`C1)(he:`ac3=`p)(hsz:`d3*`fu<=`R) :
  Meets (Builtin.«tuple.__mul__» #[[`pO,`g k t],[]]) (λ_ R s=>`ac2/\R (.ok (`eR (`e! `U))) { s with heap:=`gC { cls:=`eQ,data:=`aGZ } }) :=
 `Nv λprog w A R s h=>by
  let#[hp,g,d,tk,os]:=s;let#[hl,h]:=h;have f1:=`aGI;have c1:¬((`B (k < `aay)||`B (k ≥ 2 ^ 63))=`c):=by
   rw[`ee,`ee];exact B6
  have c2:¬((`ac3||k==1)=`c):=by
   rw[he,`ac4 `k];exact B6
  have c3:¬((`B (k<=0)||`ac3)=`c):=by
   rw[he,`ee];exact B6
  have hk:(`ac5*k)=((`d3*`fu:Nat):Int):=by
   rw[`ac_];congr 1;lia
  have hb:`_O<`NC:=`aa
  have c4:¬(`ac5*k > `ND/8):=by
   rw[hk];lia
  have c5:¬(Builtin.Tuple.tupleTooMany (`ac5*k)=`c):=by
   rw[hk];unfold Builtin.Tuple.tupleTooMany;simp only[`rY];lia
  have U:∀(m:Nat) (J:`aJ),((`aW m `ba).foldl `nF J).size=J.size+m*`d3:=by
   intro m
   induction m with
   | zero=>intro J;simp
   | succ m ih=>intro J;rw[`eI,`L',ih,`acS,`aaS];lia
  have O:sizeOk (`aGZ):=by
   show (`anP).size<=`R;rw[U,`Df]
   simpa using hsz
  wp_walk
  rw[`al c1];show `q _ _ (`amh `F6>>=_) _ _ _;refine A1 (`aal #[_,hl,rfl,n,rfl] ?_);dsimp only;rw[`al c2,`al c3];rw[`al c4,`al c5];exact A1 (m:=`F0) (L4 (A2 `Nw) O)
def Nt0(K:`A):R2:=λx y H Q=>∃a xs k,`c?/\y=`j_/\`mo/\`Cf/\2<=k/\`C1/\`aFb/\∀p,`d8->Q `dv (upd H p (`acq))
def Kl0:OpR X `Lw (Nt0 X.K):=by
 intro pins s σ H x y v u Q I rx ry h;refine `e;let#[a,xs,k,rfl,rfl,ha,hx,h2,h3,hz,q]:=h;cases rx;let#[t,rfl]:=ry;let#[its,r1,p1,_]:=`aaq;let#[#[cls,dd,data,sl],ho,hc,n,hd]:=id p1;simp only at hc hd;subst hc hd;have hl:=`jO;have he:`Nx=`p:=by
  cases its with
  | nil=>exact `aG_
  | cons a b=>rfl
 have O:`ac6<=`R:=`aG0
 have J:(`aW `fu `bv).foldl `nF ⟨⟩=`aG1:=by
  have:=`aG2;rw[`gu] at this;exact `E
 refine `b;refine D40 (T := `dk) (U := `h!) `r `kG `aG3 fu0 `aG4 w8 Vf0 `aG5
  (L5 w8 `aG6 `aG7 `aG8 (bf0 k t a `bv n dd sl)
   #[ho,rfl,`kG,L5 F.slot_tuple_mul `kG F.entry_tuple_mul (F.args_tuple_mul_2 _ _) (Ov0 a `bv n dd sl k t h2 h3 he O) `aG9])
 rw[J];refine#[`gI,_,`kE (t':=`bf) (o:=`acq) `Cd `bj ?_,rfl,`LV];exact#[by rw[len_rep,`Df];exact hz,_,`aG',`LW]
universe L2
namespace DL
open Spec PyProof.Rows L2
mutual
theorem nd0:∀(d:D) (n:Nat),`nH->deq d d=`c
 | `x,_,_=>by unfold deq;rfl
 | `dK,_,_=>`ac7
 | `iW,_,_=>`ac7
 | `nN,_,_=>`ac7
 | `ch,0,h=>by unfold lean at h;cases h
 | `ch,n+1,h=>`aG!
 | `ci,0,h=>by unfold lean at h;cases h
 | `ci,n+1,h=>`aG!
 | `oX,n,h=>by unfold lean at h;cases h
 | `oY,n,h=>by unfold lean at h;cases h
theorem mp0:∀(ds:`n) (n:Nat),`NE->v10 ds ds=`c
 | [],_,_=>by unfold v10;rfl
 | `aB,n,h=>by
  unfold leans at h;rw[`aI] at h;unfold v10;rw[nd0 d n h.1,mp0 ds n h.2];rfl
end
theorem tf0:∀ds es:`n,v10 ds es=((`bF (`aG?)).all (`rZ)&&`aHa)
 | [],[]=>`ac8
 | [],`dD=>`ac8
 | `dD,[]=>`ac8
 | `aB,`Ft=>by
  unfold v10;rw[tf0 ds es];have h1:min `Mu `aaL=`aG?+1:=by simp only[`Y];lia
  rw[h1,`aHb,`mu,`ac9];have h2:(`Mu==`aaL)=(`aHa):=by
   rw[`vB];simp
  rw[h2,Bool.and_assoc];rfl
theorem lk0:∀{ds:`n} {n j:Nat} {d:D},`NE->ds[j]?=`bw->`nH
 | [],_,_,_,_,h=>`ia
 | `aB,n,0,_,h,e=>by
  unfold leans at h;rw[`aI] at h;simp at e;subst e;exact h.1
 | `aB,n,j+1,_,h,e=>by
  unfold leans at h;rw[`aI] at h;exact lk0 (j:=j) h.2 `By
section
variable{σ:St}{s:`v}
mutual
theorem Rp.inj(I:`C):∀{d e:D} {n m:Nat} {v:V},`nH->`Um->Rp X.K H B d v->Rp X.K H B' e v->d=e
 | `x,e,_,m,v,_,le,h,h'=>by
  refine `e;rw[V6] at h;subst h;cases e with
  | non=>refine `b;rfl
  | bl b=>rw[Z9] at h';cases h'
  | int b=>rw[j6] at h';cases h'
  | str b=>rw[X5] at h';cases h'
  | tup b=>rw[U7] at h';let#[_,_,z,_]:=h';cases z
  | lst b=>rw[X6] at h';let#[_,_,z,_]:=h';cases z
  | dct a b=>unfold lean at le;cases le
  | fn a b=>unfold lean at le;cases le
 | .bl c,e,_,m,v,_,le,h,h'=>by
  refine `e;rw[Z9] at h;subst h;cases e with
  | non=>rw[V6] at h';cases h'
  | bl b=>rw[Z9] at h';cases h';refine `b;rfl
  | int b=>rw[j6] at h';cases h'
  | str b=>rw[X5] at h';cases h'
  | tup b=>rw[U7] at h';let#[_,_,z,_]:=h';cases z
  | lst b=>rw[X6] at h';let#[_,_,z,_]:=h';cases z
  | dct a b=>unfold lean at le;cases le
  | fn a b=>unfold lean at le;cases le
 | `g c,e,_,m,v,_,le,h,h'=>by
  refine `e;rw[j6] at h;subst h;cases e with
  | non=>rw[V6] at h';cases h'
  | bl b=>rw[Z9] at h';cases h'
  | int b=>rw[j6] at h';cases h';refine `b;rfl
  | str b=>rw[X5] at h';cases h'
  | tup b=>rw[U7] at h';let#[_,_,z,_]:=h';cases z
  | lst b=>rw[X6] at h';let#[_,_,z,_]:=h';cases z
  | dct a b=>unfold lean at le;cases le
  | fn a b=>unfold lean at le;cases le
 | `lw,e,_,m,v,_,le,h,h'=>by
  refine `e;rw[X5] at h;subst h;cases e with
  | non=>rw[V6] at h';cases h'
  | bl b=>rw[Z9] at h';cases h'
  | int b=>rw[j6] at h';cases h'
  | str b=>rw[X5] at h';cases h';refine `b;rfl
  | tup b=>rw[U7] at h';let#[_,_,z,_]:=h';cases z
  | lst b=>rw[X6] at h';let#[_,_,z,_]:=h';cases z
  | dct a b=>unfold lean at le;cases le
  | fn a b=>unfold lean at le;cases le
 | `ch,e,0,m,v,ld,_,_,_=>by unfold lean at ld;cases ld
 | `ch,e,n+1,m,v,ld,le,h,h'=>by
  refine `e;rw[U7] at h;let#[a,xs,rfl,q,r]:=h;unfold lean at ld;cases e with
  | non=>rw[V6] at h';cases h'
  | bl b=>rw[Z9] at h';cases h'
  | int b=>rw[j6] at h';cases h'
  | str b=>rw[X5] at h';cases h'
  | tup es =>
   cases m with
   | zero=>unfold lean at le;cases le
   | succ m =>
    unfold lean at le;rw[U7] at h';let#[a',ys,z,q',r']:=h';cases z;have:=`awI `ex q'.to;subst this;refine `b;rw[`aHc]
  | lst es =>
   rw[X6] at h';let#[a',ys,z,q',r']:=h';cases z;let#[_,_,#[o,e1,c1,_],_]:=`hu `ex;let#[_,_,p,_]:=`dt q'.to;let#[o',e2,c2,_]:=`vw;rw[e1] at e2;cases e2;rw[c1] at c2;refine `b;injection c2 with z
   exact `aHd
  | dct a b=>unfold lean at le;cases le
  | fn a b=>unfold lean at le;cases le
 | `ci,e,0,m,v,ld,_,_,_=>by unfold lean at ld;cases ld
 | `ci,e,n+1,m,v,ld,le,h,h'=>by
  refine `e;rw[X6] at h;let#[a,xs,rfl,q,r]:=h;unfold lean at ld;cases e with
  | non=>rw[V6] at h';cases h'
  | bl b=>rw[Z9] at h';cases h'
  | int b=>rw[j6] at h';cases h'
  | str b=>rw[X5] at h';cases h'
  | lst es =>
   cases m with
   | zero=>unfold lean at le;cases le
   | succ m =>
    unfold lean at le;rw[X6] at h';let#[a',ys,z,q',r']:=h';cases z;have:=`Fy `ex q'.to;subst this;refine `b;rw[`aHc]
  | tup es =>
   rw[U7] at h';let#[a',ys,z,q',r']:=h';cases z;let#[_,_,#[o,e1,c1,_],_]:=`hu q'.to;let#[_,_,p,_]:=`dt `ex;let#[o',e2,c2,_]:=`vw;rw[e1] at e2;cases e2;rw[c1] at c2;refine `b;injection c2 with z
   exact `aHd
  | dct a b=>unfold lean at le;cases le
  | fn a b=>unfold lean at le;cases le
 | `cQ a b,e,n,m,v,ld,_,_,_=>by unfold lean at ld;cases ld
 | .fn a b,e,n,m,v,ld,_,_,_=>by unfold lean at ld;cases ld
theorem Rps.inj(I:`C):∀{ds es:`n} {n m:Nat} {xs:`S},`NE->`aHe->`NF->Rps X.K H B' es xs->ds=es
 | [],es,_,_,_,_,_,h,h'=>by
  rw[m9] at h;subst h;have:=h'.length;cases es with
  | nil=>rfl
  | cons a b=>simp at this
 | `aB,es,n,m,_,ld,le,h,h'=>by
  refine `e;rw[o8] at h;let#[x,r,rfl,h1,h2]:=h;cases es with
  | nil=>rw[m9] at h';cases h'
  | cons e es =>
   rw[o8] at h';let#[x',r',z,O,J]:=h';cases z;unfold leans at ld le;rw[`aI] at ld le;refine `b;rw[Rp.inj I ld.1 le.1 h1 O,Rps.inj I ld.2 le.2 h2 J]
end
def view(I:`C){d:D}{x:V}(l:`nH)(h:`Hg)(r:`hz) :
  (`p!/\u=`af)∨(∃b,d=`dK/\u=`Lg)∨(∃i t,d=`bi/\u=`RU)∨(∃z t,d=`jF/\u=`u z t) ∨
  (∃m ds a xs its,n=m+1/\`aHf/\d=`ch/\`c?/\u=`bt/\`NF/\`ow/\`alH) ∨
  (∃m ds a xs its,n=m+1/\`aHf/\d=`ci/\`c?/\u=`bt/\`NF/\`ow/\`Hn a `bv):=by
 refine `e;cases d with
 | non=>rw[V6] at h;subst h;refine `b;exact `t #[rfl,r]
 | bl b=>rw[Z9] at h;subst h;refine `b;exact `s (`t #[b,rfl,r])
 | int i=>rw[j6] at h;subst h;let#[t,e]:=r;refine `b;exact `s (`s (`auz))
 | str z=>rw[X5] at h;subst h;let#[t,e]:=r;refine `b;exact `s (`s (`s (`t #[z,t,rfl,e])))
 | tup ds =>
  cases n with
  | zero=>unfold lean at l;cases l
  | succ m =>
   unfold lean at l;rw[U7] at h;let#[a,xs,rfl,q,rr]:=h;let#[its,rv,p,_]:=`hu `ex;refine `b;exact `s (`s (`s (`s (`t #[m,ds,a,xs,its,rfl,l,rfl,rfl,r,rr,rv,p]))))
 | lst ds =>
  cases n with
  | zero=>unfold lean at l;cases l
  | succ m =>
   unfold lean at l;rw[X6] at h;let#[a,xs,rfl,q,rr]:=h;let#[its,rv,p,_]:=`dt `ex;refine `b;exact `s (`s (`s (`s (`s #[m,ds,a,xs,its,rfl,l,rfl,rfl,r,rr,rv,`vw]))))
 | dct a b=>unfold lean at l;cases l
 | fn a b=>unfold lean at l;cases l
theorem in1_units:`Up=`np+1:=rfl
def ov0{es:`n}{ys:`S}{ws:`K}{m:Nat}{A:`bT}(ld:`NE)(le:`aHe)(r1:`NF)(r2:Rps X.K H B' es ys)(v1:`dW)(v2:`auH)
  (ih:∀d e x y u w,`aHg) :
  ∀j (h1:j<us.toArray.size) (h2:j<ws.toArray.size),`Hh A s `aHh `aHi (`anU):=by
 intro j h1 h2;refine `e;have l1:j<`bR:=by rw[← `jO,`ac'];simpa using h1
 have l2:j<`ge:=by rw[← `nc,`ac!];simpa using h2
 let#[x,ex,rx]:=r1.get (C4 l1);let#[y,ey,ry]:=r2.get (C4 l2);let#[u,eu,ru]:=v1.get ex;let#[w,ew,J]:=v2.get ey;have hu:`aHh=u:=by
  have:us[j]?=`a?:=eu;simp at h1;rw[`iD h1] at this
  simpa using `UW
 have hw:`aHi=w:=by
  have:ws[j]?=`a w:=ew;simp at h2;rw[`iD h2] at this
  simpa using `UW
 refine `b;rw[hu,hw];have e1:`anS=ds[j]:=by simp[`bD,l1]
 have e2:`anT=es[j]:=by simp[`bD,l2]
 rw[e1,e2];exact ih _ _ _ _ _ _ (lk0 ld (C4 l1)) (lk0 le (C4 l2)) rx ry ru J
def Re0(I:`C):∀(n m:Nat) (d e:D) (x y:V) (u w:`G) (A:`bT),`aHj->`aHg:=by
 intro n
 induction n with
 | zero =>
  intro m d e x y u w A hu ld le hx hy rx ry;have J:`ac?:=`J
  rcases `ada with⟨rfl,rfl⟩|⟨b,rfl,rfl⟩|⟨i,t,rfl,rfl⟩|⟨z,t,rfl,rfl⟩|⟨n',_,_,_,_,hn,_⟩|⟨n',_,_,_,_,hn,_⟩<;>(try (exact `N hn `k)) <;>
  rcases `adb with⟨rfl,rfl⟩|⟨b',rfl,rfl⟩|⟨i',t',rfl,rfl⟩|⟨z',t',rfl,rfl⟩|⟨m',es,a',ys,Y,rfl,Z,rfl,rfl,rfl,O,U,p'⟩|⟨m',es,a',ys,Y,rfl,Z,rfl,rfl,rfl,O,U,p'⟩ <;>
  unfold deq <;>
  first
  | with_reducible exact P2 _|with_reducible exact Ax0 _ _|with_reducible exact `aHk|with_reducible exact `aHl|with_reducible exact Ay0 _ _ _|with_reducible exact B00 _ _ _
  | with_reducible exact Av0 _|with_reducible exact m4 _ _|with_reducible exact n0 _ _|with_reducible exact Aw0 _|with_reducible exact Az0 _ _ _|with_reducible exact n5 _ _|with_reducible exact `aHm
  | with_reducible exact o0 _ _|with_reducible exact B10 _ _ _|with_reducible exact `aHn
  | with_reducible exact `aHo|with_reducible exact `aHp|with_reducible exact `aHq|with_reducible exact `aHr
  | with_reducible exact A90 p' J|with_reducible exact `aHs|with_reducible exact `aHt|with_reducible exact `aHu
 | succ n ih =>
  intro m d e x y u w A hu ld le hx hy rx ry;have J:`ac?:=`J
  have a2:`Up+n<`lr:=`adc
  rcases `ada with⟨rfl,rfl⟩|⟨b,rfl,rfl⟩|⟨i,t,rfl,rfl⟩|⟨z,t,rfl,rfl⟩|⟨n',ds,a,xs,its,hn,a1,rfl,rfl,rfl,rr,rv,p⟩|⟨n',ds,a,xs,its,hn,a1,rfl,rfl,rfl,rr,rv,p⟩ <;>
  rcases `adb with⟨rfl,rfl⟩|⟨b',rfl,rfl⟩|⟨i',t',rfl,rfl⟩|⟨z',t',rfl,rfl⟩|⟨m',es,a',ys,Y,rfl,Z,rfl,rfl,rfl,O,U,p'⟩|⟨m',es,a',ys,Y,rfl,Z,rfl,rfl,rfl,O,U,p'⟩
  case inr.inr.inr.inr.inl.inr.inr.inr.inr.inl =>
   cases hn
   by_cases hab:a=a'
   ·subst hab
    have e:`c8 ds=`c8 es:=`aHv;rw[← e,`aHw];exact P2 _
   ·refine `aHx
    have:=Ad0 (e:=`rZ) p p' J `aHy;unfold deq;rw[tf0]
    simpa [← `qi,← `anW,`GZ,`ze] using `E
  case inr.inr.inr.inr.inr.inr.inr.inr.inr.inr =>
   cases hn
   by_cases hab:a=a'
   ·subst hab
    have e:`eD ds=`eD es:=`aHv;rw[← e,`aHw];exact P2 _
   ·refine `aHx
    have s1:`add:=`ade
    have s2:Y.toArray.size=`ge:=`adf
    unfold deq;rw[tf0]
    by_cases hl:`bR=`ge
    ·have:=`aHz (e:=`rZ) p p' `adg J `aHy
     rw[s1] at this;rw[hl] at this ⊢
     simpa using `E
    ·have:=`aHA
     rw[`ac4 hl,`acU];exact `E
  all_goals
   unfold deq
   first
   | with_reducible exact P2 _|with_reducible exact Ax0 _ _|with_reducible exact `aHk|with_reducible exact `aHl|with_reducible exact Ay0 _ _ _|with_reducible exact B00 _ _ _
   | with_reducible exact Av0 _|with_reducible exact m4 _ _|with_reducible exact n0 _ _|with_reducible exact Aw0 _|with_reducible exact Az0 _ _ _|with_reducible exact n5 _ _|with_reducible exact `aHm
   | with_reducible exact o0 _ _|with_reducible exact B10 _ _ _|with_reducible exact `aHn
   | with_reducible exact `aHo|with_reducible exact `aHp|with_reducible exact `aHq|with_reducible exact `aHr
   | with_reducible exact A90 p' J|with_reducible exact `aHs|with_reducible exact `aHt|with_reducible exact `aHu
   | with_reducible exact SeqAt.EqAt.list_none p J|with_reducible exact SeqAt.EqAt.list_bool _ p J|with_reducible exact SeqAt.EqAt.list_int _ _ p J|with_reducible exact SeqAt.EqAt.list_str _ _ p J
   | with_reducible exact SeqAt.EqAt.tuple_none p J|with_reducible exact SeqAt.EqAt.tuple_bool _ p J|with_reducible exact SeqAt.EqAt.tuple_int _ _ p J|with_reducible exact SeqAt.EqAt.tuple_str _ _ p J
   | with_reducible exact SeqAt.EqAt.list_tuple p p' J|with_reducible exact SeqAt.EqAt.tuple_list p p' J
universe zz
universe DL
namespace DL
open Spec PyProof.Rows L2
section
variable{σ:St}{s:`v}
def T80(I:`C)(n m:Nat)(d e:D)(x y:V)(u w:`G)(A:`bT)(hu:`aHj)(ld:`nH)(le:`Um)(hx:`Hg)(hy:`anV)(rx:`hz)(ry:`Un) :
  SeqAt.RcAt A s u w (`Uo)/\SeqAt.RcNeAt A s u w (!`Uo):=by
 have J:`ac?:=`J
 rcases `ada with⟨rfl,rfl⟩|⟨b,rfl,rfl⟩|⟨i,t,rfl,rfl⟩|⟨z,t,rfl,rfl⟩|⟨n',ds,a,xs,its,hn,a3,rfl,rfl,rfl,rr,rv,p⟩|⟨n',ds,a,xs,its,hn,a3,rfl,rfl,rfl,rr,rv,p⟩ <;>
 rcases `adb with⟨rfl,rfl⟩|⟨b',rfl,rfl⟩|⟨i',t',rfl,rfl⟩|⟨z',t',rfl,rfl⟩|⟨m',es,a',ys,Z,rfl,a1,rfl,rfl,rfl,O,U,p'⟩|⟨m',es,a',ys,Z,rfl,a1,rfl,rfl,rfl,O,U,p'⟩
 case inr.inr.inr.inr.inl.inr.inr.inr.inr.inl =>
  subst hn;have a2:`aHB:=`adc
  have Y:=`aHC
  have q1:=Ad0 (e:=`rZ) p p' J Y;have q2:=SeqAt.RcNeAt.tuples (e:=`rZ) p p' J Y;unfold deq;rw[tf0];have s1:`add:=`ade
  have s2:`aHD:=`adf
  rw[s1,s2] at q1 q2;exact`Dg
 case inr.inr.inr.inr.inr.inr.inr.inr.inr.inr =>
  subst hn;have a2:`aHB:=`adc
  have Y:=`aHC
  have s1:`add:=`ade
  have s2:`aHD:=`adf
  unfold deq;rw[tf0]
  by_cases hl:`bR=`ge
  ·have q1:=`aHz (e:=`rZ) p p' `adg J Y
   have q2:=SeqAt.RcNeAt.lists (e:=`rZ) p p' `adg J Y;rw[s1] at q1 q2;rw[hl] at q1 q2 ⊢;simp only[`ql,`KI,Bool.and_true];exact`Dg
  ·have q1:=`aHA
   have q2:=SeqAt.RcNeAt.lists_lengths (A:=A) p p' `anX J;rw[`ac4 hl,`acU];exact`Dg
 all_goals
  unfold deq;constructor
  ·first
   | with_reducible exact SeqAt.RcAt.none_none|with_reducible exact SeqAt.RcAt.bool_bool _ _|with_reducible exact SeqAt.RcAt.int_int _ _ _ _|with_reducible exact SeqAt.RcAt.str_str _ _ _ _|with_reducible exact SeqAt.RcAt.bool_int _ _ _|with_reducible exact SeqAt.RcAt.int_bool _ _ _
   | with_reducible exact SeqAt.RcAt.none_bool _|with_reducible exact SeqAt.RcAt.none_int _ _|with_reducible exact SeqAt.RcAt.none_str _ _|with_reducible exact SeqAt.RcAt.bool_none _|with_reducible exact SeqAt.RcAt.bool_str _ _ _|with_reducible exact SeqAt.RcAt.int_none _ _|with_reducible exact SeqAt.RcAt.int_str _ _ _ _
   | with_reducible exact SeqAt.RcAt.str_none _ _|with_reducible exact SeqAt.RcAt.str_bool _ _ _|with_reducible exact SeqAt.RcAt.str_int _ _ _ _
   | with_reducible exact SeqAt.RcAt.none_list p' J|with_reducible exact SeqAt.RcAt.bool_list _ p' J|with_reducible exact SeqAt.RcAt.int_list _ _ p' J|with_reducible exact SeqAt.RcAt.str_list _ _ p' J
   | with_reducible exact SeqAt.RcAt.none_tuple p' J|with_reducible exact SeqAt.RcAt.bool_tuple _ p' J|with_reducible exact SeqAt.RcAt.int_tuple _ _ p' J|with_reducible exact SeqAt.RcAt.str_tuple _ _ p' J
   | with_reducible exact SeqAt.RcAt.list_none p J|with_reducible exact SeqAt.RcAt.list_bool _ p J|with_reducible exact SeqAt.RcAt.list_int _ _ p J|with_reducible exact SeqAt.RcAt.list_str _ _ p J
   | with_reducible exact SeqAt.RcAt.tuple_none p J|with_reducible exact SeqAt.RcAt.tuple_bool _ p J|with_reducible exact SeqAt.RcAt.tuple_int _ _ p J|with_reducible exact SeqAt.RcAt.tuple_str _ _ p J
   | with_reducible exact SeqAt.RcAt.list_tuple p p' J|with_reducible exact SeqAt.RcAt.tuple_list p p' J
  ·try rw[Bool.not_false]
   try rw[`YR]
   first
   | with_reducible exact SeqAt.RcNeAt.none_none|with_reducible exact SeqAt.RcNeAt.bool_bool _ _|with_reducible exact SeqAt.RcNeAt.int_int _ _ _ _|with_reducible exact SeqAt.RcNeAt.str_str _ _ _ _|with_reducible exact SeqAt.RcNeAt.bool_int _ _ _|with_reducible exact SeqAt.RcNeAt.int_bool _ _ _
   | with_reducible exact SeqAt.RcNeAt.none_bool _|with_reducible exact SeqAt.RcNeAt.none_int _ _|with_reducible exact SeqAt.RcNeAt.none_str _ _|with_reducible exact SeqAt.RcNeAt.bool_none _|with_reducible exact SeqAt.RcNeAt.bool_str _ _ _|with_reducible exact SeqAt.RcNeAt.int_none _ _|with_reducible exact SeqAt.RcNeAt.int_str _ _ _ _
   | with_reducible exact SeqAt.RcNeAt.str_none _ _|with_reducible exact SeqAt.RcNeAt.str_bool _ _ _|with_reducible exact SeqAt.RcNeAt.str_int _ _ _ _
   | with_reducible exact SeqAt.RcNeAt.none_list p' J|with_reducible exact SeqAt.RcNeAt.bool_list _ p' J|with_reducible exact SeqAt.RcNeAt.int_list _ _ p' J|with_reducible exact SeqAt.RcNeAt.str_list _ _ p' J
   | with_reducible exact SeqAt.RcNeAt.none_tuple p' J|with_reducible exact SeqAt.RcNeAt.bool_tuple _ p' J|with_reducible exact SeqAt.RcNeAt.int_tuple _ _ p' J|with_reducible exact SeqAt.RcNeAt.str_tuple _ _ p' J
   | with_reducible exact SeqAt.RcNeAt.list_none p J|with_reducible exact SeqAt.RcNeAt.list_bool _ p J|with_reducible exact SeqAt.RcNeAt.list_int _ _ p J|with_reducible exact SeqAt.RcNeAt.list_str _ _ p J
   | with_reducible exact SeqAt.RcNeAt.tuple_none p J|with_reducible exact SeqAt.RcNeAt.tuple_bool _ p J|with_reducible exact SeqAt.RcNeAt.tuple_int _ _ p J|with_reducible exact SeqAt.RcNeAt.tuple_str _ _ p J
   | with_reducible exact SeqAt.RcNeAt.list_tuple p p' J|with_reducible exact SeqAt.RcNeAt.tuple_list p p' J
universe zz
section
variable{a:`I}{p:Pos}{ga:`cq}
def U20(K:`A)(neg:`M):R2:=λx y H Q=>∃B B' dx dy,`abH/\Rp K H B' dy y/\`fs dx 50=`c/\`fs dy 50=`c/\Q (.bl (xor neg (deq dx dy))) H
def Sy0(hu:`aHE):OpR X (`d2 .Eq) (U20 X.K `p):=by
 intro pins s σ H x y v u Q I rx ry h;refine `e;let#[B,B',dx,dy,hx,hy,lx,ly,q]:=h;refine `b;exact(`aHF).1 _ _ _ _ #[`bN,H,I,rfl,by rw[`wi] at q;exact q]
def Ij0(hu:`aHE):OpR X (`d2 .NotEq) (U20 X.K `c):=by
 intro pins s σ H x y v u Q I rx ry h;refine `e;let#[B,B',dx,dy,hx,hy,lx,ly,q]:=h;refine `b;exact(`aHF).2 _ _ _ _ #[`bN,H,I,rfl,by rw[`NG] at q;exact q]
def Xh0:Op2 K (U20 K `p) la0:=by
 intro H B x y dx dy d Q hb rx ry h k;unfold la0 at h;split at h
 ·rename_i hl
  cases h;exact#[B,B,dx,dy,rx,ry,hl.1,hl.2,k _ H `dO (by rw[Z9,`wi])]
 ·cases h
def Kh0:Op2 K (U20 K `c) fg0:=by
 intro H B x y dx dy d Q hb rx ry h k;unfold fg0 at h;split at h
 ·rename_i hl
  cases h;exact#[B,B,dx,dy,rx,ry,hl.1,hl.2,k _ H `dO (by rw[Z9,`NG])]
 ·cases h
def Oy0:Op2 K (λx y H Q=>rI0 (`aw5) x y H Q∨(`axj)∨N80 K x y H Q∨Nn0 K x y H Q∨R80 K x y H Q) d8:=by
 intro H B x y dx dy d Q hb rx ry h k;cases dx<;>cases dy<;>simp only[d8] at h<;>try cases h
 ·rw[j6] at rx ry
  subst rx ry;exact `t #[_,_,rfl,rfl,`qj]
 ·split at h
  ·cases h
   rw[X5] at rx ry;subst rx ry;exact `s (`t #[_,_,rfl,rfl,`v?,`MN])
  ·cases h
 ·split at h
  ·refine `e;rename_i hz
   cases h;have U:=ry;have O:=rx;rw[U7] at rx ry;let#[a,xs,rfl,q1,r1]:=rx;let#[b,ys,rfl,q2,r2]:=ry
   by_cases he:`vQ
   ·subst he
    have e:`aHG=`aHG:=rfl;have hn:=`jO;simp at hn;have J:=`NH;subst J;refine `b;exact `s (`s (`s (`s #[a,b,ys,rfl,rfl,`wj,q2.to,k _ H `dO (by rw[`gu];exact U)])))
   ·refine `b;refine `s (`s (`s (`t #[a,b,xs,ys,rfl,rfl,`wj,q2.to,he,`adh,`jT,λz p hp=>k _ _ `fr (kj0 hb hp (`LX))])))
    subst z;have hn:=`nc;simp at hn;have J:=`NH;subst J;exact k _ H `dO (by rw[`dh];exact O)
  ·cases h
 ·split at h
  ·refine `e;rename_i hz
   cases h;rw[X6] at rx ry;let#[a,xs,rfl,q1,r1]:=rx;let#[b,ys,rfl,q2,r2]:=ry;refine `b;exact `s (`s (`t #[a,b,xs,ys,rfl,rfl,`wj,q2.to,`adh,λp hp=>k _ _ `fr (om0 hb hp (`LX))]))
  ·cases h
theorem Y7(ha:`cW)(hb:`dE):PD X `aHH (o2 ga gb d8):=nl0 (Jh0.or (U40.or (X00.or (Kk0.or Ou0)))) Oy0 ha hb
theorem gx0(h:`bp):∀k:Nat,Rps K H B (`aW k ds).flatten `az7
 | 0=>`abt
 | k+1=>by
  rw[`eI,`eI,`kI,`kI];exact h.append (gx0 h k)
def Qs0:Op2 K (λx y H Q=>rI CMul (`aw7) x y H Q∨Nf0 x y H Q∨Nt0 K x y H Q) U6:=by
 intro H B x y dx dy d Q hb rx ry h k;cases dx<;>cases dy<;>simp only[U6] at h<;>try cases h
 ·split at h
  ·cases h
   rw[j6] at rx ry;subst rx ry;exact `t #[_,_,rfl,rfl,`v?,`qj]
  ·cases h
 ·split at h
  ·rename_i hz
   cases h;rw[X5] at rx;rw[j6] at ry;subst rx ry;exact `s (`t #[_,_,rfl,rfl,hz.1,`NI,hz.2.2,k _ H `dO (by rw[X5];rfl)])
  ·cases h
 ·split at h
  ·refine `e;rename_i hz
   cases h;rw[U7] at rx;rw[j6] at ry;subst ry;let#[a,xs,rfl,q1,r1]:=rx;refine `b;refine `s (`s #[a,xs,_,rfl,rfl,`wj,`aHI,`NI,hz.2.2.1,`aHJ,λp hp=>k _ _ `fr (kj0 hb hp `aHK)]);subst z;have hn:=`jO;simp at hn;exact `NH
  ·cases h
theorem O1(ha:`cW)(hb:`dE):PD X `aHL (o2 ga gb U6):=nl0 (J60.or (Mz0.or Kl0)) Qs0 ha hb
def Uq0{xs:`n}{lo hi:`a5}(h:`abk=0/\`aBJ=`ay):`acr=xs:=by
 unfold cutD;rw[h.1,h.2];simp
open T in
theorem xb0{hi:`jU}{p2:Pos}(he:`cC)(hl:`adi)(hh:`adj) :
  PD X `aam (xi0 g gl gh):=.mk λB δ =>
 (br0 (It0.or (Xg0.or (Kx0.or K50))) `NJ (hl B δ) (hh B δ)).imp fun σ H Q hq112=>by
  let#[d,en,h,k]:=hq112
  unfold xi0 at h;cases e1:`av with
  | none=>rw[e1] at h;cases h
  | some x =>
   cases e2:`y' with
   | none=>rw[e1,e2] at h;cases h
   | some l =>
    cases e3:`y! with
    | none=>rw[e1,e2,e3] at h;cases h
    | some u =>
     rw[e1,e2,e3] at h;simp only[`h] at h;refine`aHM;have S:=`o4;have r3:=`adk;have hb:=(`adl).bad;cases x<;>simp only[slA] at h<;>try cases h
     ·split at h
      ·cases h
       rw[X5] at r3;exact `t #[_,r3,`v?,k _ H3 S `GI]
      ·cases h
     ·have r4:=r3
      rw[U7] at r3;let#[a,xs,rfl,q,r]:=r3;rename_i dxs
      by_cases hw:sIx `NK 0 l=0/\sIx `NK `NK u=`NK
      ·refine `s (`s (`s #[a,xs,rfl,`ex,`aHN,k _ _ S ?_]))
       rw[Uq0 hw];exact r4
      ·exact `s (`s (`t #[a,xs,rfl,`ex,`aHN,λp hp=>k _ _ `adm (kj0 hb hp (`adn))]))
     ·rw[X6] at r3
      let#[a,xs,rfl,q,r]:=r3;exact `s (`t #[a,xs,rfl,`ex,λp hp=>k _ _ `adm (om0 hb hp (`adn))])
def Wl0{d:D}(h:Rps K H B [d,d'] xs):∃v v',xs=[v,v']/\`cR/\Rp K H B d' v':=by
 refine `e;rw[o8] at h;let#[x,r,rfl,h1,h2]:=h;let#[y,rfl,h3]:=yc0 h2;refine `b;exact#[x,y,rfl,h1,h3]
def Iq0:FnR K `axp jg0:=by
 intro H B xs ds d Q hb r h k;unfold jg0 at h;split at h
 ·refine `e;cases h
  let#[v,v',rfl,r1,r2]:=Wl0 r;rw[j6] at r1 r2;subst r1 r2;refine `b;exact`aHO
 ·cases h
def Is0:FnR K `axq intOfD:=by
 intro H B xs ds d Q hb r h k;unfold intOfD at h;split at h
 ·cases h
  let#[v,rfl,r1]:=`jj;rw[j6] at r1;subst r1;exact `t `aHP
 ·cases h
  let#[v,rfl,r1]:=`jj;rw[Z9] at r1;subst r1;exact `s `aHP
 ·cases h
def L00:FnR K (λxs H Q=>∃p ys,`nl/\(`aca∨`acb)/\`azT) wu0:=by
 intro H B xs ds d Q hb r h k;unfold wu0 at h;split at h
 ·refine `e;cases h
  let#[v,rfl,r1]:=`jj;rw[X6] at r1;let#[a,ys,rfl,q,rr]:=r1;refine `b;exact#[a,ys,rfl,`acc,`aHQ]
 ·refine `e;cases h
  let#[v,rfl,r1]:=`jj;rw[U7] at r1;let#[a,ys,rfl,q,rr]:=r1;refine `b;exact#[a,ys,rfl,`acd,`aHQ]
 ·cases h
universe zz
universe DL
namespace DL
open Spec PyProof.Rows L2
section
variable{a:`I}{p:Pos}{ga:`cq}
theorem Wn0(i:Nat){y:Str}{tg:`I}{py spos:Pos}{sc scope:`cz}{elt iter:`I}{ifs:`bA}{N N':`j}{n:Nat}{caps:`m}{gi:`fQ}{idx:`m}{f:`a8}{gt:`gt}{ge:`cq}
  (hnd:`BL) (ok:`o0) (hidx:∀j∈idx,j<n) (hi:`hg)
  (hg:`ii) (ht:`rT) (he:`oW)
  (hc:`bx:=by rfl) (hsc:`fP:=by rfl) (hN:`rU:=by rfl)
  (hiN:`kL:=by rfl) (hy:`ie:=by first|exact `aU|exact `fp)
  (hsw:`Mn:=by rfl)
  (hs:`eG:=by intro _;rfl)
  (hf:`ig:=by first|exact `bQ|exact `b?|assumption) :
  PSD X `TR (N8 i `y1):=.mk λH₀ B₀ δ pins s σ H D I hq113=>by
 refine `e;let#[r,en,e1,k]:=hq113
 unfold N8 at e1;let#[B,b1,b2,env]:=`aK;cases e2:`abp with
 | none=>rw[e2] at e1;cases e1
 | some d =>
  rw[e2] at e1;cases e1;refine `b;refine ow0 (i:=i) `aEV hiN hy hc hsc `rV `GQ (g:=`p8) (tt:=`M1) (te:=`M2)
   `v9
   `ab8
   `M3 hsw hs hf `i s σ H D I (pg0 `fV #[d,env,e2,λp H' hp s' r'=>k _ H' (en.take b1 b2 env i hp s' r')])
universe zz
universe DL
namespace DL
open Spec PyProof.Rows
@[simp] def ra0:`bn
 | `c1,`yv=>`aFa
 | _,_=>`d
def xa0{gA:GA}{δ:Ds}(h:`kN)(hl:`vZ):y00 gA δ=`Mo:=by
 unfold y00;rw[h,`h,`my]
def M10{n:Int}{d:D}(h:d∈`wk):∃k:Nat,`eX<n/\d=`lN:=by
 let#[k,hk,rfl]:=`d9 h;have:=`Af hk;exact#[k,`J,by rw[`NL]]
def K10(f:D->α)(n:Int):(`wk).map f=`aHR λ(k:Nat)=>f (`lN):=by
 unfold zf0;rw[`b6];have:n - 0=n:=`J
 rw[`E];refine k7 λk _=>?_
 show f (`g (0+`eX))=_;rw[`NL]
def s00(n:Int):(`wk).length=`hG:=by unfold zf0;simp
def fv0{n:Int}{d:D}(h:(`wk)[j]?=`bw):j<`hG/\d=`fx:=by
 have hj:j<`hG:=by
  have:=(`ds h).1
  rwa [s00] at this
 refine#[hj,?_];unfold zf0 at h;rw[`cp,List.getElem?_range (`CB)] at h;have:=`nM;rw[← `E];show `a7 (0+`cw)=_;rw[`NL]
def Qa0{gt:GB}{ge:GE}{δ:Ds}{n:Int}(h:Nat->D)(H:∀k:Nat,`eX<n->∃δ',gN 0 (`lN) δ=`p0/\`Cy=`e6/\`Gu=`a (h k)) :
  zk0 `bP gt ge δ (`wk)=`a (`aHR h):=by
 rw[vb0 (λd=>match d with|`f'=>h `ix|_=>`x) (λd hd=>by
  let#[k,hk,rfl]:=M10 hd;exact H k hk),K10]
 rfl
universe DL
namespace DL
open Spec PyProof.Rows L2
section
variable{a:`I}{p:Pos}{ga:`cq}
theorem gu0(ha:`cW)(hb:`dE):PDF X `aHH (o2 ga gb ra0):=.mk λB δ=>(N60 X00 `bs `fU).imp fun σ H Q hq114=>by
 refine `e;let#[d,en,h,k]:=hq114
 unfold o2 at h;cases e1:`de with
 | none=>rw[e1] at h;cases h
 | some x =>
  cases e2:`et with
  | none=>rw[e1,e2] at h;cases h
  | some y =>
   rw[e1,e2] at h;simp only[`h] at h;refine `b;refine`v3;cases x<;>cases y<;>simp only[ra0] at h<;>try cases h
   split at h
   ·refine `e;rename_i hz
    cases h;have r1:=`tu;rw[X6] at r1 r2;let#[a,xs,rfl,q1,r1]:=r1;let#[b,ys,rfl,q2,r2]:=r2;refine `b;exact#[a,b,xs,ys,rfl,rfl,`wj,q2.to,`adh,λp hp=>k p _ (`aHS hp) (`Hi `fr) #[_,m8,(`LX).mono `zq]]
   ·cases h
theorem Z20(hm:`oA)(hv:`sS=`an5)(ha:`cC)(hg:`c!:=by rfl)
  (hn:`k? := by decide) (hdb:`aQ:=by decide) (he:`fW:=by rfl) (hpl:`jk:=by rfl) :
  PDF X `aHT (oA `Hj wu0):=.mk λB δ=>(pk0 l80 hg hm hv (R8 `bs zt0 he) hn hdb he hpl).imp fun σ H Q hq115=>by
 let#[d,en,h,k]:=hq115
 unfold oA z7 v6 at h;cases e1:`av with
 | none=>rw[e1] at h;cases h
 | some x =>
  rw[e1] at h;simp only[`h,`id] at h;refine#[x,en,e1,`y7];cases x<;>simp only[wu0] at h<;>try cases h
  ·rw[U7] at r1
   let#[q,xs,rfl,hq,rr]:=r1;exact#[q,xs,rfl,`s `mA,`aHU]
  ·rw[X6] at r1
   let#[q,xs,rfl,hq,rr]:=r1;exact#[q,xs,rfl,`t `mA,`aHU]
universe zz
section
variable{p:Pos}
def FnN(P:`ao)(w:`Q)(K:`A)(mg:`a2)(base:`D)(x:Str)(k:Nat)(ps:`j)(f:`T):Prop :=
 ∃(fa:`f) (fd:`e1),`W P w K mg `l CX0 k fa fd ps (spN K f)/\`acg
def q70{k m:Nat}{f:`T}(C:`aHV)(hr:`wa)(hk:k<=m)(ha:`oV)(hg:`c!:=by rfl)(hdb:`aQ:=by decide)
  (he:`eH:=by rfl) (hpl:`hf:=by rfl):PDF X `yo `GL:=by
 let#[fa,fd,F,hm,kp,hb]:=C;exact .mk λB δ=>(ki0 (E:=E0) F `kO hg hm kp hb `X p30 `bs hdb he hpl).imp fun σ H Q h=>by
  let#[d,en,h,k]:=h;unfold oA at h;cases e1:`cO with
  | none=>rw[e1] at h;cases h
  | some ds =>
   rw[e1] at h;refine`aCT;show spN X.K f `abQ H1 Q E0;rw[`dh];exact#[B,ds,d,`abO,r1,h,λp H' hp s r=>k p H' (`lG hp) (`jN s) r]
theorem vi0{k m:Nat}{f:`T}(C:`aHV)(hr:`wa)(hk:k<=m)(ha:`oV)(hg:`c!:=by rfl)(hdb:`aQ:=by decide)
  (he:`eH:=by rfl) (hpl:`hf:=by rfl):`CQ:=(q70 C hr hk ha hg hdb he hpl).pd
theorem M6(h:`v8):PSD X `rE (Q7 g):=.mk λH₀ B₀ δ pins s σ H D I hq116=>by
 refine `e;let#[r,en,e1,k]:=hq116
 unfold Q7 at e1;let#[B,b1,b2,env]:=`aK;cases e2:`av with
 | none=>rw[e2] at e1;cases e1
 | some d =>
  rw[e2] at e1;cases e1;refine `b;exact o50 `c6 `i s σ H D I #[d,env,e2,λp H' hp s' r=>k p H' (`acO) (`Uc s') (`df `acR (`iG λa z=>z.imp (b1 a) id)).toL]
open T in
theorem nz0(i:Nat){px:Pos}(hN:`b0:=by rfl)(hv:`dB:=by first|exact `aU|exact `cD|exact `cE)(hd:`aQ:=by decide)(hcd:`dC:=by decide) :
  PSD X (`Sm (`a `ez) pos) (m30 i):=.mk λH₀ B₀ δ pins s σ H D I hq117=>by
 let#[r,en,e1,k]:=hq117
 unfold m30 at e1;let#[B,b1,b2,env]:=`aK;split at e1
 ·rename_i d hi
  let#[a,hs,hb,ro]:=`ij;cases e1;exact o50 `lH `i s σ H D I #[_,hs,k a H (`p' i d a hi hs) `fq (ro.mono `acR (`iG λb z=>`d' (b1 b) λq=>by rw[q];exact hb))]
 ·cases e1
universe zz
universe DL
namespace DL
@[simp] def V40:`T
 | `ado=>`a (`y `adp)
 | _=>`d
@[simp] def tw0:`T
 | `CA=>`a (`o `aHW)
 | _=>`d
def Ub0:`Mt
 | `ado=>`a `adp
 | _=>`d
def Pi0(gA:GA):GA:=fun δ=>`gX Ub0
def p70(ds:`n):`n:=(`bF `bR).map λ(k:Nat)=>`y [`lN,ds.getD k `x]
def Zu0:`Mt
 | `CA=>`a (p70 ds)
 | _=>`d
def is0(gA:GA):GA:=fun δ=>`gX Zu0
mutual
def tree:`cA
 | `b_=>`p
 | `oX=>`p
 | `oY=>`p
 | `ch=>`adq
 | _=>`c
def trees:`C0
 | []=>`c
 | `aB=>tree d&&`adq
end
def mv0(g:GE):GE:=fun δ=>`ach λd=>if `adr then `bw else `d
def gt0{g:GE}{δ:Ds}{d:D}(h:`qb=`bw)(ht:`adr):mv0 g δ=`bw:=by
 unfold mv0;rw[h,`h,`ads]
def sl0(g:GE)(gA:GA)(f:`wl):GE:=fun δ=>`cB λd=>`gX λds=>f d ds
def Mc0{g:GE}{gA:GA}{f:`wl}{δ:Ds}{d:D}(h1:`ih)(h2:`kN):sl0 g gA f δ=f d ds:=by
 unfold sl0;rw[h1,h2];rfl
def s40:`wl
 | `hK,[`nN]=>`a `aoA
 | _,_=>`d
def mr0:GS:=`ry
def rw0{gA:GA}{δ:Ds}{n:Int}(h:`cO=`a [`d7])(h1:`acp)(h2:n<`ft):u00 gA δ=`a (`wk):=by
 unfold u00;rw[h,`h];simp only[U10];rw[`V `aFy]
def al0{g:GE}{δ:Ds}(h:`av=`rP):`aHX=`a (`g `aHY):=by
 rw[d9 `aHZ];rfl
universe DL
namespace RevL
open Spec PyProof.Rows
def Wx0:`lp `NM "__len__"=`s_:=by rw[`vl,`vm];kernel_rfl
def O30:`lp `NM `Uu=`bI (`a (`bo "list_reverseiterator.__length_hint__")):=by rw[`vl,`vm];kernel_rfl
def Mp0:`YK `NM `NM=`Gp:=by rw[`Y3];kernel_rfl
section
variable{w:`Q}{s:`v}{R:`mf}
variable{wr:`aS}{G:`aH_}{P:`aH0}{St:`aa9}
def Ml0(W:`aH1)(hT:`adt)(C:`f)(res:`G)(c0:Nat)(st:St 0 s)(hC:C∉fp)(hI:I∈fp)
  (gC:`dm C=`aH2)
  (hR:∀s' acc' c',`aH3->`aH4->`adu->R (.ok (`eR res)) s') (hn:`vT) :
  `q `ag `bU (`zg `bu `Hk res)
   `Bv `Bw s:=by
 have ne:C≠I:=λe=>hC (e▸hI)
 unfold Builtin.List.listExtendWith;refine A1 (L7 `NN (by
  have q1:`wm `bu `Hk=`p:=by simp[`wm,ne]
  have q2:(`aH5==`jZ `eS)=`p:=`aa
  have q3:(`aH5==`jZ `dk)=`p:=`aa
  simp only[q1,q2,q3,`Br,`oM,`cS];refine A1 (W.self 0 _ _ _ st (A1 (D3 (by
   unfold Builtin.List.listLengthHint;refine A1 (E5 `NN Wx0 (by
    show `q _ `bU (`aoj (`e! I) `aok>>=_) _ _ _;refine A1 (E5 `NN O30 ?_);refine A1 (Ae0 `NN Mp0 ?_);rw[`cU];dsimp only;rw[`V `cZ,`cU];refine `iq;rw[`aH6];refine A2 #[c9 PySem.F.plain_extend_loop _,?_];exact codeAny_extend_loopS W hn _ hC _ n 0 _ _ _ rfl `rN st gC (ItemsOf.nil P) λs' acc' c' m e J=>hR s' acc' c' m e J))))))))
def N30(W:`aH1)(hT:`adt)(C:`f)(st:St 0 s)(hC:C∉fp)(hI:I∈fp)
  (gC:`dm C=`NO)
  (hR:∀s' acc' c',`aH3->`aH4->`adu->R (.ok (`eR `af)) s') (hn:`vT) :
  `q `ag `bU (`aH7 #[[`em,`z I],[]])
   `Bv `Bw s:=by
 show `q _ `bU (do let old ← `aH8 `bu;`aH9 `bu `NP;`aH';`aH!) _ _ s;refine A1 (by
  unfold Builtin.List.listItems;refine A1 (i8 gC rfl (A2 (by
   show `q _ `bU (`r_ C `NP>>=λ_=>`aH?>>=λ_=>`aH!) _ _ s;have g2:=D5 `Ij gC rfl;have oth:∀b o,b≠C->`fb->(`qs C `Ij).get? b=`ap:=`adv
   refine A1 (N3 gC rfl (A1 (`aIa (Ml0 W hT C `af _ (W.frame 0 s _ `bf st `bj λb hb o e=>oth b o (λh=>hC (h▸hb)) e) hC hI g2 (λs' acc' c' m e J=>?_) hn))));exact hR s' acc' c' (Moved.trans W.gtrans ((Moved.refl W.grefl).then_heap `bj λb o hb e=>oth b o (λh=>hb (h▸B0)) e) m) e J))))
universe zz
section
variable{w:`Q}{s:`v}
variable{wr:`aS}{G:`aH_}{P:`aH0}{St:`aa9}
def cm0{Q:`aj}(W:WalksS `k6 w A.in1.in1 I fp wr G n P St)(hT:`adt)(st:St 0 s)(hfp:∀b∈fp,b<`U)(hI:I∈fp)
  (hQ:∀s' acc' c',Moved (`U::wr) G `aIb s' ->
   `an2 `U=`an3->`adu->Q `iH s') (hn:`vT) :
  `q `ag A (`d_ `zf [`z I]) Q E s:=by
 have hC:`U ∉fp:=λz=>D8 _ (hfp _ z)
 refine B70 (Q₁:=λob s1=>ob=`gI/\s1=`aIb) Dh0 (Di0 _) Dj0 `aIc λob s1 h1=>?_
 let#[rfl,rfl]:=h1;have gC:(`an4).get? `U=`NO:=`f0;exact#[`aId,Dl0 _ _,N30 W hT _ (W.frame 0 s _ `bf st `bj λb _ o e=>`pF) hC hI gC (λs' acc' c' m e J=>#[rfl,hQ s' acc' c' m e J]) hn]
def dr0{l:`f}{its:`aJ}{Q:`aj}(hh:`gq)(hl:`Hn l its)(hz:`Sl)
  (h:∀(h':`D) (tk c:Nat) (a:`f),`BH->`gB a=`a { cls:=`en,dict:=`d,data:=`b7 `adw c,slots:=⟨⟩ }->`adx->Q `c2 `qq) :
  `q `ag A (`d_ (`a! `nI) [`pO]) `aIe E s:=by
 refine call_reversed_list hl ?_;let#[ol,gl,_,_]:=id hl;have U:l<`U:=A5 gl;have a1:A.in1.in1.handled=`d:=`NQ
 have Wk:=(Walks.listRev (prog:=`k6) (w:=w) a1 `U l (B4 U) its).toS;refine cm0 Wk (λi s x=>x.2.1.typeIs) #[`cN,#[_,`f0,rfl,by
  show `awK ⟨`pO,`oC (`NR)⟩=_;have z:`NR - `s3=`NR:=`J
  rw[z]],hl.push _] `Lc `ax (λs' O c' m e J=>?_) hz
 ·show b<`ady
  rw[`NS];simp only[`eL,`hi,`hj] at hb;rcases hb with rfl|rfl
  ·exact i9 _
  ·exact Dm0 U
 ·refine `e;let#[h',g',d',Y,Z]:=s'
  obtain rfl:g'=`vr:=m.gens;obtain rfl:d'=`Lb:=m.drawn;obtain rfl:Z=s.os:=m.os;have ea:O=`adw:=by
   apply Array.ext
   ·rw[J.1,Array.size_reverse]
   ·intro i h1 h2
    have q:its[`Fq - 1 - i]?=`a O[i]:=J.2 i O[i] (d4 h1);have hi:i<`Fq:=by rw[← J.1];exact h1
    rw[Array.getElem?_eq_getElem `k] at q;rw[Array.getElem_reverse];exact(A4 q).symm
  subst ea;have a2:(`gC (revObj l (`NR))).objs.size=`s6:=Aj0 ..;refine `b;refine h h' Y c' _ ?_ e λb o eb=>?_
  ·show `U<=`ady
   rw[`NS];exact A20 _
  ·have lb:=A5 eb
   refine m.heap b o ?_ (B3 _ (B3 _ eb));simp only[`eL,`hi,`hj,`Dh];refine#[?_,B4 lb];show b≠`ady;rw[`NS];exact B4 (Dm0 lb)
universe zz
universe RevL
namespace DL
open Spec PyProof.Rows L2
theorem Rps.reverse:∀{ds:`n} {xs:`S},`bp->Rps K H B `aHW `L9
 | [],_,h=>`abu
 | `aB,_,h=>by
  rw[o8] at h;let#[x,r,rfl,h1,h2]:=h;rw[`e4,`e4];exact `qm (Rps.reverse h2) h1
section
variable{p:Pos}
def Yh0:`fd `nI=`a (`a! `nI):=`aG
def L10:`adz:=`aG
def Ma0(hc:`bx)(hl:`adA)(hs:`aIf)(he:`gp)(hgl:`adB := by rfl)(hgs:`aIg := by rfl)
  (e1:`aIh:=by rfl) (e2:`fW:=by rfl)
  (h1:`jk:=by rfl) (h2:`aIi:=by rfl) :
  PE X `aIj (fun σ H Q=>te σ H λv H'=>∃q xs,v=`z q/\SqL X.K H' q xs/\∀l,H' l=`d->Q `F6 (upd H' l (`o `L9))):=by
 intro pins s σ H Q I h;refine M0 (uh0 I hgl hl L10 ?_ `r `r);refine `aIk;rw[e1];show `q _ _ (`BO (`an6::`G_)) _ _ s;refine P8 ?_;refine M0 (uh0 I hgs hs Yh0 ?_ `r `r);refine L8 ?_ e2 h2;rw[e2];show `q _ _ (`BO (`pI::`an7)) _ _ s;refine P8 (thn `h9 λu s1 hq118=>?_);refine `e;let#[v,H1,I1,r1,q,xs,ev,hq,k]:=hq118;refine `b;refine b4 ?_;subst ev;obtain rfl:u=`e! q:=r1;let#[its,rv,pl,hz]:=`BX hq;have J:=`qi;refine thn (RevL.dr0 (I1.ok.hd hc) `mt (by rw[`bM,← J];exact hz) (Q:=`alv) (E:=`aH) λh' tk c a ha ga hk=>?_) `aIl
 have hf:H1 a=`d:=`s1 ha;refine#[`bt,_,`FO (a:=a) (o:=`o `L9) (t':=tk) hk ha ?_,rfl,k a hf];exact#[by rw[`iU];exact hz,`adw,c,rv.reverse,by rw[ga];simp]
theorem no0(hl:`adA)(hs:`aIf)(he:`cC)(hc:`bx:=by rfl)(hgl:`adB := by rfl)(hgs:`aIg := by rfl)
  (e1:`aIh:=by rfl) (e2:`fW:=by rfl)
  (h1:`jk:=by rfl) (h2:`aIi:=by rfl) :
  PDF X `aIj (oA `Hj tw0):=.mk λB δ =>
 (Ma0 hc hl hs `NJ hgl hgs e1 e2 h1 h2).imp fun σ H Q hq119=>by
  let#[d,en,h,k]:=hq119
  unfold oA z7 v6 at h;cases e3:`av with
  | none=>rw[e3] at h;cases h
  | some x =>
   rw[e3] at h;simp only[`h,`id] at h;cases x<;>simp only[tw0] at h<;>try cases h
   refine#[_,en,e3,λv H1 s1 r=>?_];rw[X6] at r;let#[q,xs,rfl,hq,rr]:=r;exact#[q,xs,rfl,`mA,λl hl=>k l _ (`lG hl) (`jN (Z5 hl)) #[_,m8,rr.reverse.mono (`Uh hl)]]
universe zz
theorem wf0[`mC]:∀{ks:`mD} {ds:`n} {xs:`S} {q:κ},`bp->(∀d,`acj=`bw->∃x,`aIm=`dn/\`yS)/\(`tr->(`aIm).isSome=`rW)
 | [],ds,xs,q,h=>by
  refine#[λd e=>?_,`adC]
  ·unfold u30 at e;cases e
  ·rfl
 | `kP,[],xs,q,h=>by
  rw[m9] at h;subst h;refine#[λd e=>?_,`jT]
  ·unfold u30 at e;cases e
  ·simp at z
 | `kP,`aB,xs,q,h=>by
  refine `e;rw[o8] at h;let#[x,r,rfl,h1,h2]:=h;let#[i1,i2]:=wf0 (ks:=ks) (q:=q) h2
  by_cases e:k=q
  ·subst e
   refine `b;refine#[`aIn,`adC]
   ·unfold u30 at e'
    rw[`bc] at e';cases e';exact#[x,qa0 rfl,h1]
   ·rw[`dX,qa0 rfl]
    unfold yi0;simp
  ·refine `b;refine#[`aIn,`jT]
   ·unfold u30 at e'
    rw[`eK] at e';rw[`dX,`C4];exact i1 d' e'
   ·rw[`dX,`C4,i2 `aDV]
    unfold yi0;simp[e]
theorem X60[`mC]:∀{ks:`mD} {xs:`S} {q:κ},`tr->((`Tm).any λkv=>`B (`qd=q))=`rW
 | [],_,_,_=>rfl
 | `kP,[],_,h=>`ia
 | `kP,`mr,q,h=>by
  rw[`dX,`oL,X60 `hZ];rfl
def fa0[`mC]{ks:`mD}{q:κ}(h:`tr):∃ys,`nG `yQ q v=`aIo/\(`Ux).length=`er/\(`rW=`c->ys=`adD)/\(`rW=`p->ys=`Ui):=by
 unfold putK xq0;rw[X60 h];cases hk:`rW with
 | true =>
  rw[`bc,`bc];refine#[`adD,?_,`aIp,`i0,λz=>by cases z];clear hk
  induction ks generalizing xs with
  | nil=>rfl
  | cons k ks ih =>
   cases xs with
   | nil=>simp at h
   | cons x xs =>
    rw[`dX,`ab,`ab,`dX,ih `hZ]
    by_cases e:k=q<;>simp[e]
 | false =>
  rw[`jm,`jm];refine#[`Ui,?_,`aIp,`aBW,`i0];rw[List.zip_append h];rfl
theorem m20[`mC]{q:κ}{d:D}(hv:`cR):∀{ks:`mD} {ds:`n} {xs:`S},`bp->Rps K H B (`aE2 λp=>if p.1=q then d else p.2) (`adD)
 | [],_,_,_=>`abt
 | `kP,[],xs,h=>`abu
 | `kP,d'::ds,xs,h=>by
  rw[o8] at h;let#[x,r,rfl,h1,h2]:=h;rw[`dX,`dX,`ab,`ab,o8];refine#[_,_,rfl,?_,m20 hv h2]
  by_cases e:k=q
  ·simp only[e,`eY];exact hv
  ·simp only[e,`cS];exact h1
section
variable{a:`I}{p:Pos}{ga:`cq}
def pm0{d:D}{k:J3}(h:`G3=`eW)(r:`cR):v=kV k:=by
 cases d<;>simp[xg0] at h
 ·subst h;rw[j6] at r;subst r;rfl
 ·subst h;rw[X5] at r;subst r;rfl
theorem jz0:∀{ds:`n} {ks:`gd} {xs:`S},`M?=`a ks->`bp->xs=`G'
 | [],ks,xs,h,r=>by cases h;rw[m9] at r;exact r
 | `aB,ks,xs,h,r=>by
  refine `e;unfold qy0 at h;rw[o8] at r;let#[x,r',rfl,h1,h2]:=r;cases e1:`G3 with
  | none=>rw[e1] at h;cases h
  | some k =>
   cases e2:`M? with
   | none=>rw[e1,e2] at h;cases h
   | some l =>
    rw[e1,e2] at h;cases h;refine `b;rw[pm0 e1 h1,jz0 e2 h2];rfl
def Z10{d:D}{k:`gd}(h:qx0 d=`eW)(r:`cR):∃b,v=`pL/\`C6:=by
 cases d<;>simp only[qx0] at h<;>try cases h
 rw[U7] at r;let#[a,xs,rfl,q,rr]:=r;exact#[a,rfl,by rw[← jz0 h rr];exact q.2]
open T in
theorem W60(hu:`kQ)(ha:`cW)(hb:`dE)(hs:Uh0 b:=by exact `mx):PD X `Ch (o2 ga gb pc0):=.mk λB δ=>(W70 hu `bs `fU hs).imp fun σ H Q hq120=>by
 let#[d,en,h,k]:=hq120
 unfold o2 at h;cases e1:`de with
 | none=>rw[e1] at h;cases h
 | some x =>
  cases e2:`et with
  | none=>rw[e1,e2] at h;cases h
  | some y =>
   rw[e1,e2] at h;simp only[`h] at h;refine`v3;cases x<;>simp only[pc0] at h<;>try cases h
   rename_i ks ds;have r1:=`tu;cases ks with
   | inl ks =>
    simp only at h;cases e3:xg0 y with
    | none=>rw[e3] at h;cases h
    | some q =>
     rw[e3] at h;simp only[`h] at h;rw[ir0] at r1;let#[p,xs,rfl,_,hp,hl,rr]:=r1;let#[v,hv,rv]:=(wf0 rr).1 d h;have:=pm0 e3 r2;subst this;exact#[p,v,rfl,by rw[← hv];exact `adE,`aIq]
   | inr ks =>
    simp only at h;cases e3:qx0 y with
    | none=>rw[e3] at h;cases h
    | some q =>
     rw[e3] at h;simp only[`h] at h;rw[f70] at r1;let#[p,xs,rfl,_,hp,hl,rr]:=r1;let#[v,hv,rv]:=(wf0 rr).1 d h;let#[b,rfl,hb]:=Z10 e3 r2;exact#[p,v,rfl,by rw[← hv];exact `adF,`aIq]
open T in
theorem Kn0(hu:`kQ)(ha:`cW)(hb:`dE)(hm:`Fo .In b=`p:=by first|rfl|with_unfolding_all rfl):PTD X (`x8 a [.In] [b] pos) (ob (o2 ga gb `aqp)):=.mk λB δ=>(H30 (Kr0 hu `bs `fU) hm).imp fun σ H Q hq121=>by
 let#[t,en,h,k]:=hq121
 unfold ob o2 at h;cases e1:`de with
 | none=>rw[e1] at h;cases h
 | some x =>
  cases e2:`et with
  | none=>rw[e1,e2] at h;cases h
  | some y =>
   rw[e1,e2] at h;simp only[`h] at h;refine`v3;cases y<;>simp only[vr0] at h<;>try cases h
   rename_i ks ds;cases ks with
   | inl ks =>
    simp only at h;cases e3:xg0 x with
    | none=>rw[e3] at h;cases h
    | some q =>
     rw[e3] at h;simp only[`id,`h,asB,`wi] at h;cases h;rw[ir0] at r2;let#[p,xs,rfl,_,hp,hl,rr]:=r2;have:=pm0 e3 r1;subst this;refine#[p,_,rfl,`adE,_,rfl,?_];rw[`NT];exact `aIr
   | inr ks =>
    simp only at h;cases e3:qx0 x with
    | none=>rw[e3] at h;cases h
    | some q =>
     rw[e3] at h;simp only[`id,`h,asB,`wi] at h;cases h;rw[f70] at r2;let#[p,xs,rfl,_,hp,hl,rr]:=r2;let#[b,rfl,hb]:=`aIs;refine#[p,_,rfl,`adF,_,rfl,?_];rw[`NT];exact `aIr
theorem lt0(i:Nat)(hu:`kQ)(h:`cC)(hN:`b0:=by rfl)(hv:`dB:=by first|exact `aU|exact `cD|exact `cE)(hd:`aQ:=by decide)(hcd:`dC:=by decide)
  (ha:∀v,`aIt=(do
   let ov ← `aIu
   let iv ← `aIv
   `_d
   `_e
   `_f):=by intro _;rfl):PTG X `Uy (`zU i g):=.mk λH₀ B₀ d δ pins s σ H v u Q I r hq122=>by
 refine `e;let#[δ',en,e1,k]:=hq122
 unfold putAt at e1;let#[B,b1,b2,env,rv]:=`aK;cases e2:`G5 with
 | none=>rw[e2] at e1;cases e1
 | some pr =>
  cases e3:`av with
  | none=>rw[e2,e3] at e1;cases e1
  | some dk =>
   rw[e2,e3] at e1;simp only[`h] at e1;cases e4:`HQ with
   | none=>rw[e4] at e1;cases e1
   | some q =>
    rw[e4] at e1;simp only[`h] at e1;split at e1
    ·rename_i hz
     cases e1;have hi:=Xt0 e2;let#[a,J,hb,xs,hx,hl,rx]:=`ij;have hl:`adG=`ay:=hl;refine `b;refine `aIw;have:=pm0 e4 r1;subst this;let#[ys,hy,Z,Y,U]:=`aIx;refine`aIy;have rr:Rps X.K H1 B `UA ys:=by
      unfold xr0;cases hk:`NU with
      | true=>rw[`bc,Y hk];exact `aIz
      | false=>rw[`jm,U hk];exact `aIA
     rw[hy];have O:Env X.K (upd H1 a `aIB) B σ (`adH):=`Nz hi J `aIC;exact `aID
    ·cases e1
universe zz
universe DL
namespace DL
open Spec PyProof.Rows L2
section
variable{a:`I}{p:Pos}{ga:`cq}
theorem jb0{sc scope:`cz}{elt iter tg:`I}{ifs:`bA}{N N':`j}{n:Nat}{caps:`m}{gi:`fQ}{idx:`m}{f:`a8}{gt:`gt}{ge:`cq}
  (ok:`o0) (hidx:∀j∈idx,j<n) (hi:`hg)
  (hg:`ii) (ht:`rT) (he:`oW)
  (hc:`bx:=by rfl) (hsc:`fP:=by rfl) (hN:`rU:=by rfl) (hs:`eG:=by intro _;rfl) :
  `aD!:=bk0 hc hsc `rV `fV hi hg ht he hs
def Tc0{d:D}(h:`o1)(r:`cR):un0 v=`c/\∀e u,`cv e=`c->Rp K H B e u->eqV v u=eqF d e:=by
 cases d<;>simp[`cv] at h
 ·rw[V6] at r;subst r
  refine`NV;cases e<;>simp[`cv] at he<;>simp only[V6,Z9,j6,X5] at ru<;>subst ru<;>rfl
 ·rw[Z9] at r;subst r
  refine`NV;cases e<;>simp[`cv] at he<;>simp only[V6,Z9,j6,X5] at ru<;>subst ru<;>rfl
 ·rw[j6] at r;subst r
  refine`NV;cases e<;>simp[`cv] at he<;>simp only[V6,Z9,j6,X5] at ru<;>subst ru<;>rfl
 ·rw[X5] at r;subst r
  refine`NV;cases e<;>simp[`cv] at he<;>simp only[V6,Z9,j6,X5] at ru<;>subst ru<;>rfl
theorem Tf0{d:D}(h:`o1)(r:`cR):∀{ds:`n} {xs:`S},`adI=`c->`bp->`L3/\inV v xs=ds.any λy=>eqF y d
 | [],_,_,rs=>by rw[m9] at rs;subst rs;exact`ln
 | e::ds,_,ha,rs=>by
  refine `e;rw[o8] at rs;let#[x,t,rfl,r1,r2]:=rs;rw[`mu,`aI] at ha;let#[i1,i2]:=Tf0 h r ha.2 r2;let#[f1,f2]:=Tc0 ha.1 r1;refine `b;refine#[by rw[`mu,f1,i1];rfl,?_];unfold inV at i2 ⊢;rw[`oL,`oL,f2 d v h r,i2]
def eo0(neg:`M):Op2 K (rIn K neg) (wv0 neg):=by
 intro H B x y dx dy d Q hb rx ry h k;have J:∀(ds:`n) (xs:`S),`bp->`cv dx=`c/\`adI=`c->d=.bl (xor neg (ds.any λy=>eqF y dx))->∀p,y=`gL->(`L0∨`aav)->rIn K neg x y H Q:=by
  intro ds xs rs hf hd p hp hq;let#[f1,f2]:=Tf0 hf.1 rx hf.2 rs;refine#[p,xs,hp,hq,(Tc0 hf.1 rx).1,f1,`GY];rw[hd,Z9,f2];cases neg<;>simp
 cases dy<;>simp only[wv0] at h<;>try cases h
 ·split at h
  ·rename_i hf
   have hd:=`adJ;rw[U7] at ry;let#[p,xs,e,q,rs]:=ry;exact J _ xs rs hf hd p e (`acd)
  ·cases h
 ·split at h
  ·rename_i hf
   have hd:=`adJ;rw[X6] at ry;let#[p,xs,e,q,rs]:=ry;exact J _ xs rs hf hd p e (`acc)
  ·cases h
universe zz
universe DL
namespace ZipL
open Spec PyProof.Rows
abbrev IsZ(h:`D)(z TI TO a:`f)(f:`M):Prop :=
 `e? z=`a { cls:=`a! `f7,dict:=`d,data:=`k8 ⟨`oC a,`gA f,`RO,`z TI,`z TO⟩,slots:=⟨⟩ }
section
variable{w:`Q}{s:`v}
def alive{o:Obj}{Q:`Y_->`eO}(ho:`U4)(h:Q (`ap) s):`q `ag A (`aIE a) Q E s:=by
 have h':Q (`Fk) s:=by rw[ho];exact h
 exact λ_ _ _=>h'
def Zp0{TI TO:`f}{f:`M}{Q:`YJ}(hz:`Di)(ha:`Dj)
  (hQ:∀h',`adK->`sY z `ar h'->Q `p `hv):`q `ag A (`aoe) Q E s:=by
 unfold Builtin.SmallTypes.ownedTupleIsFree;refine A1 (D7 hz rfl (x:=`oC a) rfl ?_);show `q _ _ (`aIE ((a:Int).toNat)>>=_) _ _ _;rw[`cy];refine A1 (alive ha ?_);simp only[Option.isNone_some,`oM,`cS];refine A1 (D7 hz rfl (x:=`gA f) rfl ?_);cases f with
 | true =>
  rw[`al (show ¬((`Md != `Md)=`c) from B6)];exact A2 (hQ _ hz (Heap.SameBut.refl _ _))
 | false =>
  rw[`V (show (`yD `p != `Md)=`c from rfl)];exact A1 (wpAny_setField_rec hz `ax λh3 O J=>A2 (hQ h3 O J))
def Ox0{TI TO a:`f}{f:`M}{oa:Obj}{k1 k2:Nat}{xs ys:`aJ}{x y:`G}{Q:`aj}(D:`jn)
  (hz:`Di) (ha:`Dj) (hTI:`NW)
  (h1:`NX) (h2:`NY) (hl1:`wn) (hl2:`wo) (hx:`Hp=`dn) (hy:ys[k2]?=`fc)
  (hQ:∀h',`adK->`aIF->`aIG->`adL->`aIH ->
   `NZ->Q `iH `hv) :
  `q `ag A `aII (λfin s'=>∃v,fin=`sD (`eR v)/\Q v s') E s:=by
 show `aIJ;refine `aIK;show `aIL;refine `aIM;refine `aIN;show `aIO;refine A1 (Zp0 hz ha λh₁ a1 J=>?_);simp only[`oM,`cS];refine `mW;simp only[`aIP,`Mk,`aIQ];refine `N_;show `aIR;refine A1 (B80 `adM `adN hx λh₂ a2 O=>`iq);refine `iq;refine `N_;show `aIS;refine A1 (B80 `aIT `aIU hy λh₄ a3 Y=>`iq);refine A2 `E0;refine A1 (wpAny_newTuple (hsz:=`UX) ?_);have U:`aIV=`U:=by rw[Y.1,O.1,J.1]
 have Z:IsZ h₄ z TI TO a `c:=`adO _ _ D.i2z.symm (`zj _ _ D.i1z.symm a1);have a4:∀c o,`Ho->`UD->`UE->`UF->h₄.get? c=`ap:=λc o c1 c3 c4 e=>`adO _ _ c4 (`zj _ _ c3 (`qo _ _ c1 e))
 refine A2 #[_,rfl,?_];show Q (`z `aIV) _;have hq:=hQ (h₄.push { cls:=`eQ,data:=`b7 ⟨x,y⟩ }) (B3 _ Z) ((a2.extBut `adO D.i12).at `aIW) (a3.at `aIW)
  (by rw[← U];exact `f0) (by rw[`NS,U]) λc o c1 c3 c4 e=>B3 _ (a4 c o c1 c3 c4 e)
 rw[U];exact hq
def Lf0{TI TO a:`f}{f:`M}{oa:Obj}{k1 k2:Nat}{xs ys:`aJ}{Q:`KJ}(hh:`gq)(D:`jn)
  (hz:`Di) (ha:`Dj) (hTI:`NW)
  (h1:`NX) (h2:`NY) (hl1:`wn) (hl2:`wo) (hend:`aIX)
  (hE:∀h' e,`NZ->(∃o,`gB e=`ap/\`k9=`a! `aIY)->E `gV `hv) :
  `q `ag A `aII Q E s:=by
 show `aIJ;refine `aIK;show `aIL;refine `aIM;refine `aIN;show `aIO;refine A1 (Zp0 hz ha λh₁ Y J=>?_);simp only[`oM,`cS];refine `mW;simp only[`aIP,`Mk,`aIQ];refine `N_;show `aIR;cases hx:`Hp with
 | none =>
  refine A1 (`aIZ hh `adM `adN hx λh₂ e O he=>?_);exact hE h₂ e (λc o c1 c3 _ x=>O _ _ c3 (`qo _ _ c1 x)) he
 | some x =>
  have hy:ys[k2]?=`d:=by rcases hend with h|h;rw[hx] at h;cases h;exact h
  refine A1 (B80 `adM `adN hx λh₂ Z O=>`iq);refine `iq;refine `N_;show `aIS;refine A1 (`aIZ hh `aIT `aIU hy λh₄ e U he=>?_);exact hE h₄ e (λc o c1 c3 c4 x=>U _ _ c4 (`zj _ _ c3 (`qo _ _ c1 x))) he
def Ws0{TI TO a:`f}{f:`M}{oa:Obj}{k1 k2:Nat}{xs ys:`aJ}{x y:`G}{Q:`rv}(D:`jn)
  (hz:`Di) (ha:`Dj) (hTI:`NW)
  (h1:`NX) (h2:`NY) (hl1:`wn) (hl2:`wo) (hx:`Hp=`dn) (hy:ys[k2]?=`fc)
  (hQ:∀h',`adK->`aIF->`aIG->`adL->`aIH ->
   `NZ->`aI_) :
  `N0:=by
 have hT:`Dk := `adP;unfold pyNext;exact A1 (`aI0 (j0 (name:=`s? "__next__") hT x0
  (O0 x0 hT `aI1
   (Ox0 D hz ha hTI h1 h2 hl1 hl2 hx hy λh' a1 a3 a4 a5 a6 a7=>A2 (hQ h' a1 a3 a4 a5 a6 a7)) `aI2)))
def e50{TI TO a:`f}{f:`M}{oa:Obj}{k1 k2:Nat}{xs ys:`aJ}{Q:`rv}(hh:`gq)(D:`jn)
  (hz:`Di) (ha:`Dj) (hTI:`NW)
  (h1:`NX) (h2:`NY) (hl1:`wn) (hl2:`wo) (hend:`aIX)
  (hQ:∀h',`NZ->`aI3):`N0:=by
 have hT:`Dk := `adP;unfold pyNext;refine A1 (`aI0 (j0 (name:=`s? "__next__") hT x0
  (O0 x0 hT `aI1 (Lf0 hh D hz ha hTI h1 h2 hl1 hl2 hend λh' e hk he=>?_) `aI2)))
 let#[o,ho,hc]:=he;refine A1 (Ae0 (T := `aIY) (b:=`c) #[o,ho,hc] isSubtype_stop ?_);exact A2 (hQ _ hk)
universe zz
structure ZSt(h:`D)(z TI TO i1 i2 l1 l2 S:`f)(xs ys:`aJ)(i:Nat):Prop where
 own:(i=0/\`aI4/\`aI5)∨∃a f oa,IsZ h z TI TO a f/\`ip=`a oa/\a≠z/\a≠i1/\a≠i2/\a≠S
 hTI:`aI6
 h1:`x' i1 l1 i
 h2:`x' i2 l2 i
 hl1:h.IsList l1 xs
 hl2:h.IsList l2 ys
structure ZLow(z TI TO i1 i2 l1 l2 S:`f):Prop where
 z:z<S
 TI:TI<S
 TO:TO<S
 i1:i1<S
 i2:i2<S
 l1:l1<S
 l2:l2<S
structure ZG(xs ys:`aJ)(S:`f)(h:`D)(as:`aS):Prop where
 rise:as.Pairwise (·<·)
 above:∀a∈as,S<a
 pairs:∀(j:Nat) (a:`f),`aon->∃x y,`F4=`dn/\`aom/\`tJ h a x y
section
variable{w:`Q}{s:`v}{TI TO S:`f}{xs:`aJ}{h:`D}
def ZG.there(g:`aI7)(ha:a∈as):a<`dl:=by
 let#[j,hj]:=x3.mp ha;let#[_,_,_,_,e]:=`aI8;exact `dJ
def ZSt.keep(x:`aI9)(L:`N1)(hk:∀b o,b≠S->`Bu):ZSt h' z TI TO i1 i2 l1 l2 S xs ys i:=by
 refine#[?_,hk _ _ (B4 L.TI) x.hTI,x.h1.at λo e=>hk _ o (B4 L.i1) e,x.h2.at λo e=>hk _ o (B4 L.i2) e,x.hl1.at λo e=>hk _ o (B4 L.l1) e,x.hl2.at λo e=>hk _ o (B4 L.l2) e];refine `e;rcases x.own with⟨e,hz,p,q,hp⟩|⟨a,f,oa,hz,ha,n1,n2,n3,n4⟩
 ·refine `b;exact `t #[e,`aI',p,q,hk _ _ (B4 L.TO) hp]
 ·refine `b;exact `s #[a,f,oa,`aI',hk _ _ n4 ha,n1,n2,n3,n4]
def He0{x y:`G}{Q:`rv}(D:`jn)(st:`aI!)(hS:S<`U)(hx:`m?)(hy:`adQ)
  (hQ:∀h',ZSt h' z TI TO i1 i2 l1 l2 S xs ys `es->`adL->`aI?->`aI_) :
  `N0:=by
 refine `e;let#[o1,e1,_]:=id `Dl;let#[o2,e2,_]:=id `Dm;rcases st.own with⟨rfl,hz,p,q,hp⟩|⟨a,f,oa,hz,ha,n1,n2,n3,n4⟩
 ·refine `b;refine `aJa D hz `wp hp `Dl `Dm `N2 `N3 hx hy λh' a1 a2 a3 a4 a5 a6 hk=>hQ h' #[`s #[_,`p,_,a1,a5,C6 (A5 hz),C6 (A5 e1),C6 (A5 e2),C6 hS],hk _ _ D.TIz D.TITO D.TIi1 D.TIi2 `wp,a3,a4,
   st.hl1.at λo e=>hk _ o D.l1z D.l1TO D.l1i1 D.l1i2 e,st.hl2.at λo e=>hk _ o D.l2z D.l2TO `UH D.l2i2 e] a5 hk
 ·refine `b;refine Ws0 D hz ha `wp `Dl `Dm `N2 `N3 hx hy λh' a1 a3 a4 a5 a6 hk=>hQ h' #[`s #[a,`c,oa,a1,hk _ _ n1 n2 n3 ha,n1,n2,n3,n4],hk _ _ D.TIz D.TIi1 D.TIi2 `wp,a3,a4,
   st.hl1.at λo e=>hk _ o D.l1z D.l1i1 D.l1i2 e,st.hl2.at λo e=>hk _ o D.l2z `UH D.l2i2 e] a5 `aJb
def Ge0{Q:`rv}(hh:`gq)(D:`jn)(st:`aI!)(hend:`aJc)
  (hQ:∀h',`aI?->`aI3):`N0:=by
 refine `e;rcases st.own with⟨rfl,hz,p,q,hp⟩|⟨a,f,oa,hz,ha,n1,n2,n3,n4⟩
 ·refine `b;exact `aJd hh D hz `wp hp `Dl `Dm `N2 `N3 hend hQ
 ·refine `b;exact e50 hh D hz ha `wp `Dl `Dm `N2 `N3 hend λh' hk=>hQ h' `aJb
universe zz
section
variable{w:`Q}{s:`v}{R:`mf}{TI TO S lo:`f}{xs:`aJ}{h₁:`D}
def N90(hh:`gq)(D:`jn)(L:`N1)(hlo:`Dn)(hn:`r0)(res:`G)
  (hR:∀h' tk acc c as,(∀b o,b<lo->`aa?->`pu)->`adR->`wq->`adS ->
   `aJe) :
  ∀(k i:Nat) (h:`D) (tk c:Nat) (acc:`aJ) (as:`aS),`zm - i=k->i<=`zm->`aI9->(∀b o,b<lo->`aa?->`fa) ->
   `e? S=`aog->`UJ->`hC=i->`aI7 ->
   `f_ `ag A `aJf R `adT:=by
 have b3:=hlo.1;have b2:lo<S:=`adU;have lk:∀(h h':`D),`aJg->∀b o,b<lo->`Bu:=λh h' hk b o hb e =>
  hk b o (B4 (B7 hb hlo.1)) (B4 (B7 hb hlo.2.1)) (B4 (B7 hb hlo.2.2.1)) (B4 (B7 hb hlo.2.2.2)) e
 have Y:∀(h h':`D),`aJg->∀b o,S<=b->`Bu:=λh h' hk b o hb e =>
  hk b o (C6 (B7 L.z hb)) (C6 (B7 L.TO hb)) (C6 (B7 L.i1 hb)) (C6 (B7 L.i2 hb)) e
 intro k
 induction k with
 | zero =>
  intro i h tk c acc as hk hi a3 J hS O U hG;have b1:`aJc:=by
   rcases `aJh `tL `zl with q|q
   ·exact `t (Du0 `k)
   ·exact `s (Du0 `k)
  refine `aJi;rw[`aJj];show `aJk;refine A1 (Ge0 (s:=`adT) (A:=`bU) hh D a3 b1 λh' he=>?_);refine A2 (hR h' tk acc c as (λb o h1 e=>lk h h' he b o h1 (J b o h1 e)) (Y h h' he S _ `bj hS) `k #[hG.rise,`Hs,`aJl] O);let#[x,y,e1,e2,e3]:=`aJm;exact#[x,y,e1,e2,Y h h' he a _ (K0 (`Hs a (D0 hj))) e3]
 | succ k ih =>
  intro i h tk c acc as hk hi a3 J hS O U hG;have a1:i<`zm:=`J
  have a6:i<`tL:=B7 a1 (Nat.min_le_left ..);have a8:i<`zl:=B7 a1 (Cd0 ..);have a7:acc.size=i:=by rw[← `Lk,O,`P,U]
  have a2:S<`dl:=A5 hS;refine `aJi;rw[`aJj];show `aJk;refine A1 (He0 (s:=`adT) D a3 a2 (d4 a6) (d4 a8) λh' b0 ht Z=>?_);dsimp only at ht Z ⊢;have a5:=Y h h' Z S _ `bj hS;have up:∀b o,b≠S->`pu->(h'.update S (`qk `aJn)).get? b=`ap:=`adv
  show `q _ `bU (`r_ S `aJn>>=_) _ _ _;refine `mW;refine N3 a5 rfl (A2 #[`adV,ih `es _ tk _ (`aJo) `aJp `k a1 (b0.keep L up)
   (λb o h1 e=>up b o (B4 (E8 h1 b2)) (lk h h' Z b o h1 (J b o h1 e))) (D5 _ a5 rfl) (by rw[Array.toList_push,O,`aZ];rfl) (by rw[`Z,U];rfl) #[?_,?_,?_]]) (by rw[a7];lia) (by show (`aJo).size<=`R+1;rw[Array.size_push,a7];lia)
  ·refine List.pairwise_append.mpr #[hG.rise,`adW,λa ha b hb=>?_]
   rw[`XQ];exact hG.there ha
  ·intro a ha
   rcases `ep ha with ha|ha
   ·exact `adX
   ·rw[`fv ha];exact a2
  ·intro j b hj
   rcases Nat.lt_trichotomy j `hC with h1|h1|h1
   ·rw[`ga h1] at hj
    let#[x',y',e1,e2,e3]:=`aoi j b hj;have hb:=`Hs b (D0 hj);exact#[x',y',e1,e2,up b _ (C6 hb) (Y h h' Z b _ (K0 hb) e3)]
   ·subst h1
    have hb:`dl=b:=`CB
    subst hb;exact#[_,_,by rw[U];exact d4 a6,by rw[U];exact d4 a8,up _ _ (C6 a2) ht]
   ·have a4:`aJp[j]?=`d:=`am1 (`Do)
    rw[a4] at hj;cases hj
universe zz
def gh0:`lp `tM "__len__"=`s_:=by rw[`vl,`vm];kernel_rfl
def ku0:`lp `tM `Uu=`s_:=by rw[`vl,`vm];kernel_rfl
section
variable{w:`Q}{s:`v}{TI TO lo:`f}{xs:`aJ}
def Ks0(xs ys:`aJ)(lo:`f)(s:`v)(h':`D)(as:`aS):Prop :=
 `adY/\`wq/\ZG xs ys `U h' as
def Yr0{Q:`K->`eO}(hh:`gq)(D:`jn)(hlo:`Dn)
  (st:`aJq) (hn:`r0) (L:`aJr)
  (hT:`Dk) (hI:`N4)
  (hQ:∀h' tk as,`aJs->`aJt->Q (`qp) `qq):`q `ag A (collect `gU) Q E s:=by
 have a1:`U≠z:=C6 L.z;let#[f0,hI]:=hI;unfold collect;refine A1 (wpAny_runValue (Y1 F.entry_proto_collect ?_));rw[`Hq F.plain_proto_collect _];show `q _ `bU (`aa!>>=λl=>`ya (`bo "list.__iadd__" #[[l,`qn],[]])) _ _ s;refine A1 (L4 ?_);refine A2 #[c9 `aJu _,Y1 F.entry_list_iadd ?_];rw[`Hq `aJu _];have Y:(`UM).get? `U=`a `Gn:=`f0;have U:=B3 `Gn hI;have J:Shared.TypeIs `aJv `gU `f7 := `aGT;show `q _ `bU (`zg `iH `gU `iH) _ _ _;unfold Builtin.List.listExtendWith;refine A1 (L7 J ?_);have h1:`wm `iH `gU=`p:=by simp[`wm,a1]
 have h2:`aJw:=`aa
 have h3:`aJx:=`aa
 simp only[h1,h2,h3,`Br,`oM,`cS];refine A1 (x4 (s:=`aJv) U ?_);refine `UG;unfold Builtin.List.listLengthHint;refine A1 (E5 J gh0 ?_);show `aJy;refine A1 (E5 J ku0 ?_);refine `iq;show `q _ `bU (`aJz>>=λ_=>`aJA `iH>>=λ_ =>
  `ya (`bo `aoh #[[`gI,`qn,`gI],[]])) _ _ _
 refine `aJB;refine `mW;show `q _ `bU (`r_ `U (`Hr `af)>>=λ_=>`r_ `U `UN) _ _ _;refine A1 (N3 Y rfl ?_);have Z:=D5 `N5 Y rfl;refine N3 Z rfl ?_;have a3:=D5 `N6 Z rfl;have oth:∀b o,b≠`U->`fb ->
   (((`UM).update `U `N5).update `U `N6).get? b=`ap :=
  λb o hb e=>`zh (`zh (`pF))
 refine A2 #[`adV,N90 (s:=s) (lo:=lo) (h₁:=`ar) hh D L hlo hn _ (λh' tk a4 c as hk O hl hG a2=>?_) _ 0 _ `bf _ ⟨⟩ [] rfl `rN
  ((st _ a1 (C6 L.i1) (C6 L.i2)).keep L oth) (λb o hb e=>oth b o `_a e) a3 rfl rfl `aJC]
 show `q _ A (load `U>>=_) _ _ _;refine A1 (`awz O ?_);refine `iq;have:=hQ h' tk as #[hk,hl,hG] (A5 O);rw[← a2] at this;exact `E
universe zz
section
variable{w:`Q}{s:`v}{TI TO lo:`f}{xs:`aJ}
def my0{Q₁:`aj}(hh:`gq)(D:`jn)(hlo:`Dn)
  (st:`aJq) (hn:`r0) (L:`aJr)
  (hT:`Dk) (hI:`N4)
  (h:∀h' tk as,`aJs->`aJt->Q₁ (`azY) { s with heap:=`aaF `aJD,toks:=tk }) :
  `f_ `ag A (`lq (`bo `adZ) `ad_) (wants Q₁ E) s:=by
 refine `at9;show `q _ `bU (do `Bo `adZ `ad_;`ya (`bo `adZ `ad_)) _ _ s;refine A1 (wpAny_of_eq (F.newCall_tuple_1 _) (A2 #[c9 `aJE _,Y1 F.entry_tuple_new ?_]));rw[`Hq `aJE _];have Y:=sub_tuple_self;have U:=init_tuple_lookup;have Z:=madeHere_tuple;have O:A.in1.handled=`d:=`NQ
 wp_walk using L7 hT,Yr0 (lo:=lo) O D hlo st hn L hT hI
 intro h' tk as hz J;show `q _ _ (`amj `Ht>>=λv=>ret v) _ _ _;unfold Builtin.Tuple.tupleExact;refine A1 (L4 ?_ (by show (`qp).toArray.size<=`R;rw[`bM,`P,`NI];exact hn));exact A2 (h h' tk as hz J)
def Rw0{Q:`aj}(hh:`gq)(hl1:`wn)(hl2:`wo)(hn:`r0)
  (h:∀(h':`D) (tk:Nat) (as:`aS) (t:`f),`adx->`wq->(∀a∈as,`BH/\a<t)->`mv->`U<=t ->
   `aJF->`gB t=`a `aJD->`aJG) :
  `q `ag A `aJH (λv s1=>`q `ag A (`d_ `t3 [v]) Q E s1) E s:=by
 have a1:l1<`U:=`aJI
 have a2:l2<`U:=`aJJ
 refine `ad0 hl1 hl2 λh1 hz hTI U a3 a4 Z hk=>?_
 have O:`aJK:=`aJL
 have J:`aJM:=`aJN
 have H:`aJO:=λk hk=>by rw[Z];exact Dy0 hk _
 refine B70 (Q₁:=λobj s₁=>s₁.TypeIs obj `dk/\Q obj `dN) F.called_tuple (F.typeCall_tuple_1 _) F.entry_object_init
  (my0 (lo:=`U) (xs:=xs) (ys:=ys) (`NQ) `aJP `aJQ (λS n1 n2 n3=>#[`t #[rfl,hz,_,_,U],hTI,a3,a4,O,J]) hn
   `aJR
   `adP `aJS λh' tk as ze Y=>#[#[_,`f0,rfl],?_]) λobj s₁ h₁=>?_
 ·let#[k1,k2,g]:=ze
  refine h (`aaF _) tk as `yx (λb o e=>B3 _ (k1 b o `m3 (hk b o e))) k2 (λa ha=>#[?_,g.there ha]) (g.rise.imp λh=>B4 h) ?_ (`aJl) (`f0)
  ·exact K0 (E8 `tO (g.above a ha))
  ·exact K0 (E8 `tO Y)
  ·let#[x,y,e1,e2,e3]:=`aI8
   exact#[x,y,e1,e2,B3 _ e3]
 ·exact#[h₁.1,F.args_object_init_2 obj _,object_init_meets F.called_tuple.init.lookup F.called_tuple.made `r `k6 w `bU _ `dN #[h₁.1,rfl,h₁.2]]
universe zz
universe ZipL
namespace L2
open Spec PyProof.Rows
def v00(H:Hp):`r1->Hp
 | []=>H
 | p::l=>upd `zn p.1 p.2
theorem q90{b:`f}:∀{l:`r1},(∀p∈l,p.1≠b)->`UR=H b
 | [],_=>rfl
 | p::l,h=>by
  show `aJT=_;rw[m5 (A9 (h p B0)),q90 `aJU]
theorem p40{b:`f}{u:HO}:∀{l:`r1},`UR=`a?->(∃p∈l,p.1=b/\p.2=u)∨`kv
 | [],e=>`s e
 | p::l,e=>by
  by_cases h:b=p.1
  ·subst h
   have e':upd `zn p.1 p.2 p.1=`a?:=e;rw[m8] at e';exact `t #[p,B0,rfl,A4 e']
  ·have e':`aJT=`a?:=e
   rw[m5 h] at e';rcases p40 e' with⟨q,hq,x⟩|x
   ·exact `t #[q,A7 _ hq,x]
   ·exact `ov
theorem qo0:∀{l:`r1},(`dx `Hu).Nodup->∀p∈l,v00 H l p.1=`sW
 | [],_,p,h=>nomatch h
 | q::l,n,p,h=>by
  rw[`ab,`ad1] at n;show upd `zn q.1 q.2 p.1=_;rcases `AK with rfl|h
  ·rw[m8]
  ·rw[m5 (λz=>n.1 (by rw[← z];exact S4 h)),qo0 n.2 p h]
section
variable{s:`v}
def Inv.laidL{l:`r1}{t':Nat}(I:`C)(k:`Le)
  (hl:∀p∈l,`aJV/\∃xs,`aJW):`aJX:=by
 have J:`aJY:=λb hb=>q90 λp hp z=>by
  have:=(`N7).1;rw[z] at this;exact `aJZ
 refine `kz #[`Zw,`Zx,`aJ_,`Zy,`aJ0,
  `aJ1,`aJ2] `Ld
 refine `e;rcases p40 e with⟨p,hp,rfl,rfl⟩|e'
 ·let#[_,xs,ex,ok]:=`N7
  refine `b;rw[ex];exact ok
 ·refine `b;exact`aJ3
universe zz
def i30(X:Cx)(f1 f2:`G)(r:`ni):Prop :=
 ∀(pins:`aw) (s:`v) (σ:St) (H:Hp) (xs:`S) (us:`K) (Q:VK),`C->`dW->`Lr ->
  `q `am X.A (`d_ f2 us) (λv s1=>`q `am X.A (`d_ f1 [v]) `fj `aH s1) `aH s
section
variable{p:Pos}{x1:Str}{T1 T2:`cd}{t:TA}
def d70(hc:`aJ4)(hg1:Gl X x1)(hg2:Gl X x2)(hm1:`aJ5)(hm2:`aJ6)(hv1:`aJ7)(hv2:`aJ8)(ha:`vM)
  (hn1:`aJ9 := by decide) (hd1:`aJ':=by decide) (hn2:`aJ! := by decide) (hd2:`aJ?:=by decide)
  (e1:`aKa:=by rfl) (h1:`jk:=by rfl)
  (he:`eH:=by rfl) (hpl:`aKb:=by rfl) :
  PE X `aKc (tCB r t):=by
 intro pins s σ H Q I h;refine M0 (uh0 I hg1 hm1 hv1 ?_ hn1 hd1);refine `aIk;rw[e1];show `q _ _ (`BO (`aov::`G_)) _ _ s;refine P8 ?_;refine M0 (uh0 I hg2 hm2 hv2 ?_ hn2 hd2);refine L8 (thn (ha `nJ `i s σ H _ I h) λus s1 hq123=>?_) he hpl;let#[vs,H1,I1,r1,q1]:=hq123;exact thn (`amb) `aIl
universe zz
universe L2
namespace DL
open Spec PyProof.Rows L2
section
variable{p:Pos}{x1:Str}{T1 T2:`cd}{f:`T}
theorem Rk0(hc:`aJ4)(hf:`MO)(hm1:`aJ5)(hm2:`aJ6)(hv1:`aJ7)(hv2:`aJ8)(ha:`oV)(hg1:Gl X x1:=by rfl)(hg2:Gl X x2:=by rfl)
  (hn1:`aJ9 := by decide) (hd1:`aJ':=by decide) (hn2:`aJ! := by decide) (hd2:`aJ?:=by decide)
  (e1:`aKa:=by rfl) (h1:`jk:=by rfl)
  (he:`eH:=by rfl) (hpl:`aKb:=by rfl) :
  PD X `aKc `GL :=
 .mk λB δ=>(d70 hc hg1 hg2 hm1 hm2 hv1 hv2 `bs hn1 hd1 hn2 hd2 e1 h1 he hpl).imp `abP
universe zz
def G5:`aS->`lD->`r1
 | `nO,`mF=>(a,`Uq)::`UV
 | _,_=>[]
theorem p60:∀{as:`aS} {ps:`lD},`hC=`aD->`aKd=as
 | [],[],_=>rfl
 | [],`dD,h=>`ia
 | `dD,[],h=>`ia
 | `nO,`mF,h=>by
  show a::`aKd=_;rw[p60 `hZ]
theorem ms0:∀{as:`aS} {ps:`lD} {q:`UQ},q∈`UV->∃(j:Nat) (p:V×V),as[j]?=`a q.1/\`aKe/\q.2=`Uq
 | [],_,q,h=>`N8
 | `dD,[],q,h=>`N8
 | `nO,`mF,q,h=>by
  rcases `AK with rfl|h
  ·exact#[0,p,rfl,rfl,rfl]
  ·let#[j,p',h1,h2,h3]:=ms0 h
   exact#[j+1,p',`sI,`LK,h3]
def Nm0(K:`A):`ni:=λvs H Q=>∃q1 q2 xs ys,`aKf/\`aKg/\`aKh /\
 ∀(t:`f) (as:`aS),`Dp->`mv->`N9->`Dq->`aKi->Q `lo (v00 H ((t,`y `zo)::`ad2))
theorem mu0:∀as:`aS,`bJ `zo (`qp)
 | []=>`X
 | `nO=>`aq rfl (mu0 as)
def fc0(hc:`bx:=by rfl):i30 X `t3 `tM (Nm0 X.K):=by
 intro pins s σ H vs us Q I r h;refine `e;let#[q1,q2,xs,ys,rfl,h1,h2,k]:=h;cases r with
 | cons r1 r =>
  cases r with
  | cons r2 r =>
   cases r;obtain rfl:=r1;obtain rfl:=r2;let#[us1,v1,p1,z1]:=`dt h1;let#[us2,v2,p2,z2]:=`dt h2;have l1:=`ac';have l2:=`ac!;refine `b;refine ZipL.Rw0 `hc `ji `oZ (`acT) λh' tk as t hk hl ha U ht hp gt=>?_
   rw[`bM,`bM] at hl;have O:`Dp:=`aKj
   refine#[`s',_,I.laidL (t':=tk) hk λp J=>?_,rfl,`aKk];rcases `cf J with rfl|J
   ·refine#[ht,_,rfl,?_,`qp,mu0 as,#[_,gt,rfl,_,rfl,rfl]]
    rw[`P,hl];lia
   ·refine `e;let#[j,#[x,y],e1,e2,e3]:=ms0 J
    let#[u,w,f1,f2,f3]:=`aKl;have hz:=x5.mp e2;let#[u',g1,g2]:=`aKm;let#[w',g3,g4]:=`aKn;have eu:u'=u:=by
     have:`aKo:=`aKp
     rw[f1] at this;exact`N'
    have ew:w'=w:=by
     have:`aKq:=`aKr
     rw[f2] at this;exact`N'
    subst eu;subst ew;refine `b;exact#[`aKs,_,e3,`wr,[u',w'],`aKt,`aKu]
theorem le0:∀{ds es:`n} {xs ys:`S} {as:`aS},`bp->`aB!->`Dp->(∀p∈`ad2,`sP=`sW/\¬B p.1) ->
  Rps K H B (`aKv) `zo
 | [],es,xs,ys,as,r1,r2,hl,h=>by
  rw[m9] at r1;subst r1;simp at hl;subst hl;simp[m9]
 | `aB,[],xs,ys,as,r1,r2,hl,h=>by
  rw[m9] at r2;subst r2;simp at hl;subst hl;simp[m9]
 | `aB,`Ft,xs,ys,as,r1,r2,hl,h=>by
  refine `e;rw[o8] at r1 r2;let#[x,xs',rfl,a1,a2]:=r1;let#[y,J,rfl,b1,b2]:=r2;cases as with
  | nil=>simp at hl
  | cons a as =>
   have h0:=h (a,`y `ye) B0;refine `b;rw[`dX,`ab,`ab,o8];refine#[_,_,rfl,?_,le0 a2 b2 `TA λp hp=>h p (A7 _ hp)];rw[U7];refine#[a,`ye,rfl,#[h0.2,h0.1],?_];rw[o8];refine#[_,_,rfl,a1,?_];rw[o8];exact#[_,_,rfl,b1,`fS]
theorem Wb0:∀{as:`aS} {zs:`lD} {p:`UQ},p∈G5 as zs->∃xs,p.2=`eT
 | [],_,_,h=>`N8
 | `dD,[],_,h=>`N8
 | `nO,z::zs,p,h=>by
  unfold G5 at h;rcases `AK with rfl|h
  ·exact`ad
  ·exact Wb0 h
def W20{t b:`f}{o:HO}{zs:`lD}{ob:Obj}(ho:`aCA)(h:v00 H ((t,o)::G5 as zs) b=`aKw):H b=`aKw:=by
 refine `e;rcases p40 h with⟨p,hp,_,e⟩|h
 ·rcases `cf hp with rfl|hp
  ·refine `b;exact `N e (ho _ _)
  ·let#[ys,e']:=Wb0 hp
   rw[e] at e';cases e'
 ·refine `b;exact h
open T in
def R00:FnR K (Nm0 K) V40:=by
 intro H B xs ds d Q bad r h k;unfold V40 at h;split at h<;>try cases h
 rename_i ds es;rw[o8] at r;let#[x,r',rfl,r1,r]:=r;rw[o8] at r;let#[y,r',rfl,r2,r]:=r;rw[m9] at r;subst r;rw[X6] at r1 r2;let#[q1,us,rfl,s1,t1]:=r1;let#[q2,ws,rfl,s2,t2]:=r2;refine#[q1,q2,us,ws,rfl,s1.to,s2.to,λt as hl O ht ft fa=>?_];have J:(`aKx)=t::as:=`aKy
 have hN:(`aKx).Nodup:=by rw[J];exact `Ic #[ht,O]
 have fr:∀p∈(`Hv),`sP=`d:=λp hp=>by
  have:p.1∈t::as:=`aKz
  rcases `cf `E with e|e
  ·rw[e];exact ft
  ·exact fa _ e
 have sm:`dw H (v00 H (`Hv)):=#[λb u e=>by
  rw[q90 λp hp z=>by rw[← z,`ad3] at e;cases e];exact e,`aKA]
 have nb:∀p∈(`Hv),¬B p.1:=λp hp z=>bad _ z (`ad3)
 refine k _ _ sm ?_;rw[U7];refine#[t,`aow,rfl,#[nb _ B0,`aKB],le0 (t1.same sm) (t2.same sm) hl λp hp=>#[`aKC,nb p (A7 _ hp)]]
universe DL
namespace L2
open Spec PyProof.Rows
section
variable{s:`v}
def Inv.turnedL(I:`C)(hf:∀b∈fp,`Fv)(k:`aKD):`ZM:=by
 have J:∀b u,`kv->b∉fp:=λb u e z=>by rw[(hf b z).1] at e;cases e
 refine `La (g':=`vr) (d':=`Lb) (ch:=fp) (λb hb=>#[(`pE).2.2.2.1,(`pE).2.1,(`pE).2.2.2.2.1,(`pE).2.2.2.2.2]) (λb o _ _ hc e _=>`ad4) (λb o _ _ hc e _=>#[`Bx,`ad4]) `avp
  (λb o hc e=>#[o,`ad4]) (`ZO) (λ_ _ _ e=>e) `avq (λm hm=>?_) (`Ld) `d!
 ·let#[o,es,ep,ho,r]:=hm
  exact#[o,es,ep,k _ o (λz=>(hf _ z).2.1 rfl) ho,r]
 ·refine`avr
  rcases hc with z|z
  ·rw[z];exact J b u e
  ·exact J c _ z
def Inv.turnedNew{t':Nat}{x y:V}{w:`G}(I:`C)(hf:∀b∈fp,`Fv)(rx:`hz)(ry:`Un)(hlt:∀b∈fp,b<`U)
  (hob:`aaE=`a `aoy) (k:`aKD) :
  Inv X `i σ `aKE `m4/\∀b∈fp,`aKF:=by
 have ne:∀b∈fp,b≠`U:=λb hb=>B4 (hlt b hb)
 have fr:∀b∈fp,`aKF:=λb hb=>by rw[m5 (ne b hb)];exact(`pE).1
 have I1:Inv X `i σ `aKE `aKG :=
  `kE (`s0) `bj #[`wr,[u,w],`aq rx (`aq ry `X),`Za]
 refine#[Inv.turnedL (s:=`aKG) (t':=t') (fp:=fp) I1 (λb hb=>#[fr b hb,(`pE).2]) λb o hb e=>?_,fr];rcases Heap.get?_push_cases e with⟨rfl,rfl⟩|e
 ·exact hob
 ·exact k b o hb e
universe zz
def Itz(K:`A)(a b:`f):It :=
 #[λi H=>∃xs ys x y,`lh/\`ad5/\`m?/\`adQ,
   λi H v H'=>∃t x y,v=`s'/\`Dq/\H'=upd H t `Hw/\(`_u)/\∀ys,`ad5->`adQ,
   λi H=>∃xs ys,`lh/\`ad5/\(`Fw∨`er<=i)]
theorem Qt0{P:`ao}{w:`Q}{x1}{TI TO b:`f}(D:`an? z TI TO i1 i2 a b):`pD P w K `aKH `aKI `ad6 z
  (λi h=>`aI4/\`aI6/\(`aI5)/\`x' i1 a i/\`x' i2 b i) where
 mem:=`a4
 obj:=λi h st c hc=>by
  refine `e;let#[hz,hTI,#[p,q,J],#[o1,e1,c1,d1],#[o2,e2,c2,d2]]:=st;simp only[`eL,`hi,`hj] at hc;rcases hc with rfl|rfl|rfl|rfl|rfl
  ·refine `b;exact#[_,hz,λv z=>nomatch z]
  ·refine `b;exact#[_,hTI,λv z=>nomatch z]
  ·refine `b;exact#[_,J,λv z=>nomatch z]
  ·refine `b;exact`aKJ
  ·refine `b;exact#[_,e2,λv z=>by rw[d2] at z;cases z]
 keep:=λi h h' st k=>by
  refine `e;let#[hz,hTI,#[p,q,J],h1,h2]:=st;refine `b;exact#[k z `ax _ hz,k TI `ax _ hTI,#[p,q,k TO `ax _ J],h1.at λo e=>k i1 `ax o e,h2.at λo e=>k i2 `ax o e]
 item:=by
  intro X hP hw hK hc i pins s σ H E I hf st hg;refine `e;subst hP hw hK;let#[hz,hTI,#[p,q,J],h1,h2]:=st;let#[xs,ys,x,y,U,O,hx,hy]:=hg;let#[us,Y,p1,z1]:=`dt U;let#[ws,Z,p2,z2]:=`dt O;let#[u,hu,ru]:=Y.get hx;let#[w,hw,b0]:=Z.get hy;refine `b;refine `aJa D hz hTI J h1 h2 `ji `oZ (x:=u) (y:=w) `Lm `SY λh' a1 a2 a3 a4 a5 a6 hk=>?_
  refine#[_,rfl,wpAny_letOwnedTupleGo_zip (s:=`hv) a1 λb2 b1 hs=>?_];have lt:∀{c o},`UF->c<`U:=λe=>`dJ
  have lz:=lt hz;have c3:=lt J;have b3:=lt hTI;let#[o1,e1,_]:=id h1;let#[o2,e2,_]:=id h2;have l1:=lt e1;have l2:=lt e2;let#[I1,fr]:=`aKK (h':=b2) (t':=`bf) (fp:=`ad6) hf ru b0 (λc hc=>by
   simp only[`eL,`hi,`hj] at hc;rcases hc with rfl|rfl|rfl|rfl|rfl<;>assumption) (`ws _ _ (C6 lz) a5) (λc o hc e=>by
   simp only[`eL,`hi,`hj,`Dh] at hc;exact `ws _ _ hc.1 (`aKL))
  exact#[`gI,_,I1,rfl,#[_,x,y,rfl,`FU,rfl,λys a7=>by rw[`Fy a7 U];exact hx,λc4 a7=>by rw[`Fy a7 O];exact hy],
   #[b1,`ws _ _ D.TIz (hk _ _ D.TIz D.TITO D.TIi1 D.TIi2 hTI),#[_,_,`ws _ _ D.TOz a2],a3.extBut `ws D.i1z,a4.extBut `ws D.i2z],fr]
 done:=by
  intro X hP hw hK hc i pins s σ H E I hf st hg;refine `e;subst hP hw hK;let#[hz,hTI,#[p,q,J],h1,h2]:=st;let#[xs,ys,U,O,a8]:=hg;let#[us,Y,p1,z1]:=`dt U;let#[ws,Z,p2,z2]:=`dt O;have l1:=Y.length;have l2:=Z.length;refine `b;refine `aJd `hc D hz hTI J h1 h2 `ji `oZ (a8.imp (`aKM) `aKM) λh' hk=>#[rfl,I.turnedL (t':=`bf) (fp:=`ad6) hf λc o hc e=>?_]
  simp only[`eL,`hi,`hj,`Dh] at hc;exact `aKL
 self:=λ_ _ _ _ _ st h=>x4 st.1 h
def Ite(K:`A)(a:`f):It :=
 #[`awA,
   λi H v H'=>∃t x,v=`s'/\`Dq/\H'=upd H t (`y [`AF,x])/\`_u,
   `awB]
theorem S10{P:`ao}{w:`Q}{x1}{e:`f}(hei:e≠it):`pD P w K `aKH (Ite K a) [e,it] e
  (λi h=>(∃old,IsEnum h e it i old)/\`awC) where
 mem:=`a4
 obj:=λi h st c hc=>by
  refine `e;let#[#[old,he],#[o1,e1,c1,d1]]:=st;simp only[`eL,`hi,`hj] at hc;rcases hc with rfl|rfl
  ·refine `b;exact#[_,he,λv z=>nomatch z]
  ·refine `b;exact`aKJ
 keep:=λi h h' st k=>by
  let#[#[old,he],h1]:=st;exact#[#[old,k e `ax _ he],h1.at λo x=>k it `ax o x]
 item:=by
  intro X hP hw hK hc i pins s σ H E I hf st hg;refine `e;subst hP hw hK;let#[#[old,he],h1]:=st;let#[xs,x,hq,hx]:=hg;let#[us,rv,p1,z1]:=`hd;let#[u,hu,ru]:=`_x;refine `b;refine wpAny_pyNext_enum_item he h1 `ji (x:=u) `Lm hei λh' a1 a2 a3 a4 hk=>?_
  refine#[_,rfl,wpAny_letOwnedTupleGo_enum (s:=`Mh) a1 λJ b1 hs=>?_];have le:=A5 he;let#[o1,e1,_]:=id h1;have l1:=A5 e1;let#[I1,fr]:=`aKK (h':=J) (t':=`sE) (fp:=[e,it]) (x:=`AF) (u:=`g i `bf) hf `ad ru (λc hc=>by
   simp only[`eL,`hi,`hj] at hc;rcases hc with rfl|rfl<;>assumption) ((`ht _ (C6 le)).trans a3) (λc o hc x=>by
   simp only[`eL,`hi,`hj,`Dh] at hc;exact(`ht _ hc.1).trans (hk c o hc.1 hc.2 x))
  exact#[`gI,_,I1,rfl,#[_,x,rfl,`FU,rfl,`awG],#[#[_,by simpa using b1],a2.at λo y=>(`ht it hei.symm).trans y],fr]
 done:=by
  intro X hP hw hK hc i pins s σ H E I hf st hg;refine `e;subst hP hw hK;let#[#[old,he],h1]:=st;let#[xs,hq,O]:=hg;let#[us,rv,p1,z1]:=`hd;have l1:=`qi;refine `b;refine wpAny_pyNext_enum_end `hc he h1 `ji `oE λh' hk=>#[rfl,I.turnedL (t':=`bf) (fp:=[e,it]) hf λc o hc x=>?_]
  simp only[`eL,`hi,`hj,`Dh] at hc;exact hk c o hc.2 x
 self:=λ_ _ _ _ _ st h=>by
  let#[#[old,he],_]:=st;exact `aKN he h
def Gv0(K:`A)(ta:TA):TI:=fun σ H R=>ta σ H λvs H1=>∃a b,vs=[`bt,`pL]/\`_y/\(∃ys,SqL K H1 b ys)/\R `aKI H1
def boot_zip:`ad7:=`aG
def S50:`fd `m!=`a (`a! `m!):=`aG
def Ji0{a:`I}{ta:TA}{p pos:Pos}(hg:`ad8)(hm:`ad9)(ha:PA X `nD ta)(hs:`aKO:=by rfl)(hs2:`aKP:=by rfl) :
  PI X `N! `aKQ (Gv0 X.K ta):=by
 intro pins s σ H R I h;refine Call_ (uh0 I hg hm boot_zip (L8 (thn `yp λus s1 hq124=>?_) (by rw[hs,hs2]) (by rw[hs2];rfl)));refine `e;let#[vs,H1,I1,r1,q1]:=hq124;let#[qa,qb,e,#[xs,h1],#[ys,h2],q]:=q1;subst e;cases r1 with
 | cons r rr =>
  cases rr with
  | cons r' rr =>
   cases rr;obtain rfl:=r;obtain rfl:=r';let#[us1,v1,p1,z1]:=`BX h1;let#[us2,v2,p2,z2]:=`BX h2;have a1:qa<`f8:=by let#[_,e,_]:=`ji;exact `dJ
   have a2:qb<`f8:=by let#[_,e,_]:=`oZ;exact `dJ
   refine `b;refine `ad0 `ji `oZ λh' hz hTI J O U Y hk=>?_
   refine x4 (s:=`aKR) hz ?_;refine#[_,_,_,_,H1,rfl,`aKS,Qt0 `aJP,#[hz,hTI,#[_,_,J],O,U],`iv,q];refine `e;simp only[`eL,`hi,`hj] at hb;rcases hb with rfl|rfl|rfl|rfl|rfl
   ·refine `b;exact `x! (`UO) (`s1 (`UO))
   ·refine `b;exact `x! (D4 _ 2) (`s1 (D4 _ 2))
   ·refine `b;exact `x! (`UP) (`s1 (`UP))
   ·refine `b;exact `vx
   ·refine `b;exact `aKT
def Hw0(K:`A)(ta:TA):TI:=fun σ H R=>ta σ H λvs H1=>∃a,vs=`d4/\`_y/\R (Ite K a) H1
def L50{a:`I}{ta:TA}{p pos:Pos}(hg:`aKU)(hm:`aKV)(ha:`awQ)(hs:`Lq:=by rfl) :
  PI X `N! `aKW (Hw0 X.K ta):=by
 intro pins s σ H R I h;refine Call_ (uh0 I hg hm S50 (L8 (thn `yp λus s1 hq125=>?_) hs rfl));refine `e;let#[vs,H1,I1,r1,q1]:=hq125;let#[qa,e,#[xs,h1],q]:=q1;subst e;cases r1 with
 | cons r rr =>
  cases rr;obtain rfl:=r;let#[us1,v1,p1,z1]:=`BX h1;refine `b;refine call_enumerate_list `ji λh' hz J O hk=>?_
  refine `aKN (s:=`aKR) hz ?_;refine#[_,_,_,_,H1,rfl,`aKS,S10 (C6 (i9 _)),#[`aJS,J],`iv,q];simp only[`eL,`hi,`hj] at hb;rcases hb with rfl|rfl
  ·exact `aKT
  ·exact `vx
universe L2
namespace DL
open Spec PyProof.Rows L2
section
variable{a:`I}{p:Pos}
def Xj0{t:`f}{x y:V}{d e:D}(hn:¬B t)(ht:H t=`a `Hw)(r1:`yS)(r2:Rp K H B e y):Rp K H B (`y [d,e]) `lo:=by
 rw[U7];refine#[t,`ye,rfl,#[hn,ht],?_];rw[o8];refine#[_,_,rfl,r1,?_];rw[o8];exact#[_,_,rfl,r2,`fS]
open T in
theorem K70(hm:`ad9)(ha:PDA X `nD gA)(hg:`ad8 := by rfl)(hs:`aKO:=by rfl)(hs2:`aKP:=by rfl) :
  PID X `N! `aKQ (Pi0 gA):=.mk λB δ=>`v6 (Ji0 hg hm `bs hs hs2) fun σ H R hq126=>by
 let#[items,en,e1,k]:=hq126
 unfold Pi0 at e1;cases e2:`cO with
 | none=>rw[e2] at e1;cases e1
 | some ds =>
  rw[e2] at e1;simp only[`h] at e1;unfold Ub0 at e1;split at e1<;>try cases e1
  rename_i ds es;refine`ab3;rw[o8] at r;let#[x,t,rfl,r1,r]:=r;rw[o8] at r;let#[y,t,rfl,r2,r]:=r;rw[m9] at r;subst r;rw[X6] at r1 r2;let#[q1,us,rfl,s1,t1]:=r1;let#[q2,ws,rfl,s2,t2]:=r2;have J:(`aKv).length=min `kt `vO:=by rw[`P,`gT,`ad',t2.length]
  refine#[q1,q2,rfl,`aKX,#[ws,s2.to],`aKY]
  ·rw[J] at hi
   have h1:i<`kt:=`J
   have h2:i<`vO:=`J
   exact#[us,ws,us[i],ws[i],`zp,`ad!,by simp[h1],by simp[h2]]
  ·let#[t,x,y,rfl,ht,rfl,hx,hy]:=y
   rw[`P,`gT] at hi;have h1:i<`bR:=`J
   have h2:i<`ge:=`J
   let#[x',e4,rx]:=t1.get (i:=i) (C4 h1);let#[y',e5,ry]:=t2.get (i:=i) (C4 h2);have ex:=`aKZ;have ey:=hy ws `ad!;rw[e4] at ex;rw[e5] at ey;cases ex;cases ey;refine#[Z5 ht,`y [ds[i],es[i]],by rw[`cp,show (ds.zip es)[i]?=`a (ds[i],es[i]) from x5.mpr #[C4 h1,C4 h2]];rfl,`aK_];exact Xj0 `aK0 m8 (rx.mono gB) (ry.mono gB)
  ·rw[J] at hi
   exact#[us,ws,`zp,`ad!,`J]
open T in
theorem Qf0(hm:`aKV)(ha:`aC8)(hg:`aKU := by rfl)(hs:`Lq:=by rfl) :
  PID X `N! `aKW (is0 gA):=.mk λB δ=>`v6 (L50 hg hm `bs hs) fun σ H R hq127=>by
 let#[items,en,e1,k]:=hq127
 unfold is0 at e1;cases e2:`cO with
 | none=>rw[e2] at e1;cases e1
 | some ds =>
  rw[e2] at e1;simp only[`h] at e1;unfold Zu0 at e1;split at e1<;>try cases e1
  rename_i ds;refine`ab3;rw[o8] at r;let#[x,t,rfl,r1,r]:=r;rw[m9] at r;subst r;rw[X6] at r1;let#[q1,us,rfl,s1,t1]:=r1;have J:(p70 ds).length=`kt:=by unfold p70;simp[`ad']
  refine#[q1,rfl,`aKX,`aKY]
  ·rw[J] at hi
   exact#[us,us[i],`zp,by simp[hi]]
  ·let#[t,x,rfl,ht,rfl,hx]:=y
   rw[J,`ad'] at hi;let#[x',e4,rx]:=t1.get (i:=i) `TL;have ex:=`aKZ;rw[e4] at ex;cases ex;refine#[Z5 ht,`y [`AF,ds[i]],by unfold p70;simp[hi],`aK_];exact Xj0 `aK0 m8 `tt (rx.mono gB)
  ·rw[J] at hi
   exact#[us,`zp,hi]
universe zz
section
mutual
theorem Xu0(hB:`aK1):∀(d:D) (v:V),`adr->Rp K H B' d v->`cR
 | `x,v,_,r=>by rw[V6] at r ⊢;exact r
 | `bN,v,_,r=>by rw[Z9] at r ⊢;exact r
 | `co,v,_,r=>by rw[j6] at r ⊢;exact r
 | `bq,v,_,r=>by rw[X5] at r ⊢;exact r
 | `b_,v,h,_=>by unfold tree at h;cases h
 | `oX,v,h,_=>by unfold tree at h;cases h
 | `oY,v,h,_=>by unfold tree at h;cases h
 | `ch,v,h,r=>by
  unfold tree at h;rw[U7] at r ⊢;let#[a,xs,rfl,q,rs]:=r;refine#[a,xs,rfl,?_,Y30 hB ds xs h rs];let#[n,q]:=q;refine#[`jT,q];exact(hB a z).elim n λz=>z _ q
theorem Y30(hB:`aK1):∀(ds:`n) (vs:`S),`adq=`c->Rps K H B' ds vs->`MP
 | [],vs,_,r=>`aK2
 | `aB,vs,h,r=>by
  unfold trees at h;rw[`aI] at h;rw[o8] at r ⊢;let#[x,t,rfl,r1,r2]:=r;exact#[x,t,rfl,Xu0 hB d x h.1 r1,Y30 hB ds t h.2 r2]
end
universe zz
theorem Nz0{g:GE}(h:`cC):PD X e (mv0 g):=.mk λB δ pins s σ H Q I hq128=>by
 refine `e;let#[d,en,hq,k]:=hq128
 let#[B',c1,c2,J]:=`zc;unfold mv0 at hq;cases e1:`qb with
 | none=>rw[e1] at hq;cases hq
 | some x =>
  rw[e1] at hq
  by_cases hf:tree x=`c
  ·simp only[`h,`wg] at hq
   cases hq;refine `b;refine h B' `qa `i s σ H Q I #[_,J,e1,λv H' s' r=>k v H' s' (Xu0 (`gQ) _ _ hf r)];refine `e;rcases c2 a z with q|⟨i,d',h1,h2⟩
   ·refine `b;exact `mj
   ·let#[o,h3,a',e4,_,ro]:=`ny `Vd h1
    rw[h2] at h3;cases h3;cases e4;refine `b;exact `s λys z=>(ro.live.same s').nt ys z
  ·simp only[`h,`Nt] at hq
   cases hq
universe DL
namespace L2
open Spec PyProof.Rows
def Ts0:MtR X "str.startswith" `aK3:=by
 intro pins s σ H x xs v us Q I rx rs h;refine `e;let#[a,b,rfl,rfl,q]:=h;let#[t,rfl]:=rx;cases rs with
 | cons r rr =>
  cases rr;let#[u,rfl]:=r;refine `b;exact SC.startswith #[`bN,H,I,rfl,q]
universe L2
namespace DL
open Spec PyProof.Rows L2
section
variable{name:`Hx}{id:`cd}{r:`ib}{f:`wl}
def MfR(K:`A)(r:`ib)(f:`wl):Prop:=∀(H:Hp) (B:BS) (dx:D) (xs:`S) (ds:`n) (d:D) (Q:VK),`oU->`bp->f dx ds=`bw->(`CL)->∃a,dx=`hK/\r (`hK) xs H Q
theorem Oq0(slot:Slot `i? `cF id)(hty:`aaH)(hm:`aaI)(hf:MfR X.K r f)(hstr:∀d ds e,f d ds=`a e->`aK4)(ho:`ace)(ha:`CZ)(hbase:`aaJ:=by rfl)
  (hfew:(`o_
  &&`M')=`c:=by rfl)
  (hline:`fO:=by rfl) (hs:`fW:=by rfl) (hplain:`mB:=by rfl) :
  PD X (`aV `aaK [e] [] `ca) (sl0 g gA f):=.mk λB δ =>
 (rl0 `aES slot hty hm (ho B δ) `bs `e3 `ja `gr hs `kH).imp fun σ H Q hq129=>by
  refine `e;let#[d,en,h,k]:=hq129
  unfold sl0 at h;cases e1:`av with
  | none=>rw[e1] at h;cases h
  | some x =>
   cases e2:`cO with
   | none=>rw[e1,e2] at h;cases h
   | some ds =>
    rw[e1,e2] at h;simp only[`h] at h;let#[a,rfl]:=hstr x ds d h;refine `b;refine`acf;rw[X5] at r1;subst r1;refine`aET;let#[a',e',q]:=hf H2 B (`hK) vs ds d Q `abI r2 h λv H' s' r'=>k v H' (`Hi s') r'
    cases e';exact q
def K00{y:`Hx}(r:Rps K H B [`p7] xs):xs=[`p7]:=by
 rw[o8] at r;let#[x,t,rfl,r1,r2]:=r;rw[m9] at r2;rw[X5] at r1;rw[r1,r2]
def Sj0:MfR K `aK3 s40:=by
 intro H B dx xs ds d Q bad r h k;unfold s40 at h;split at h<;>try cases h
 exact#[_,rfl,_,_,rfl,K00 r,`T_]
def Vo0(d:D)(ds:`n)(e:D)(h:s40 d ds=`a e):`aK4:=by
 unfold s40 at h;split at h<;>try cases h
 exact`ad
theorem S20{st:`a1}:PSD X st mr0:=.mk λH₀ B₀ δ pins s σ H D I hq130=>by let#[r,en,hq,k]:=hq130;unfold mr0 at hq;cases hq
universe zz
@[simp] def pv0(ga gb gc:GE)(f f':`bn):GE:=fun δ=>`vX λx=>`abf λy=>(f x y).bind λt=>(asB t).bind λk=>if k=`c then (gc δ).bind λz=>f' y z else `vY
section
variable{a c:`I}{ga gc:`cq}
def Ru0{r r':R2}{f f':`bn}(hf:Op2 K r f)(hf':Op2 K r' f'){δ:Ds}{σ:St}{Q:VK}(h:tD K B δ `aK5 σ H Q):Q10 r r' (tD K B δ ga) (tD K B δ gb) (tD K B δ gc) σ H Q:=by
 refine `e;let#[d,en,h,k]:=h;unfold pv0 at h;cases e1:`de with
 | none=>rw[e1] at h;cases h
 | some x =>
  cases e2:`et with
  | none=>rw[e1,e2] at h;cases h
  | some y =>
   rw[e1,e2] at h;simp only[`h] at h;cases e3:f x y with
   | none=>rw[e3] at h;cases h
   | some t =>
    rw[e3] at h;simp only[`h] at h;cases e4:asB t with
    | none=>rw[e4] at h;cases h
    | some kb =>
     rw[e4] at h;simp only[`h] at h;cases am0 e4;refine `b;refine`v3;refine hf H2 B v1 v2 x y _ _ `abI `Hl r2 e3 `ad?
     rw[Z9] at r3;refine#[kb,r3,?_];cases kb with
     | false =>
      rw[`oB] at h ⊢;cases h;exact k _ H3 (`o4) `yX
     | true =>
      rw[`bc] at h ⊢;cases e5:gc δ with
      | none=>rw[e5] at h;cases h
      | some z =>
       rw[e5] at h;simp only[`h] at h;refine#[z,`adl,e5,λv4 H4 s4 r4=>?_];exact hf' H4 B v2 v4 y z d _ ((`adl).same s4).bad ((`aK6).same s4) r4 h λv' H5 s5 r5=>k v' H5 (((`o4).trans s4).trans s5) r5
theorem Q70{op op':`hb}{r r':R2}{f f':`bn}(ho:`vD)(hf:`CO)(ho':`axg)(hf':Op2 X.K r' f')(ha:`cW)(hb:`dE)(hc:PD X c gc)
  (hm:`axh:=by with_unfolding_all rfl):PD X `axi `aK5 :=
 .mk λB δ=>(Pn0 ho ho' `bs `fU (hc B δ) hm).imp fun σ H Q h=>Ru0 hf hf' h
open Builtin Builtin.Str Builtin.Int in
theorem Hs0{prog:`ao}{w:`Q}{A:`bT}{E:`aj}{s:`v}{x:Str}{n:Int}{t u:Tok}{Q:`aj}(hr:(`B (n < `aay)||`B (n ≥ 2 ^ 63))=`p)
  (hb:¬n<1->`aK7->¬((`pH:Int) > `ND/n)) (hl:¬n<1->`aK7->tooLong (`pH*`hG)=`p)
  (h:(if n<1 then Made.str `yh else if `aoB=`c then Made.val `KV else Made.str `aco).post Q s) :
  `q `ag A (`li .Mult (`g n u) `KV) Q E s :=
 PySem.lm_binaryOp_repeat_right (T := `i?) (U := `h!) `r (λs'=>Q1 s' n u) `aK8 PySem.F.fills_int_mul PySem.noFill_str_mul E00 PySem.lm_noRepeat_int PySem.repeat_str PySem.F.slot_int_index.lookup
  (`aK9 E00 (Q1 s n u) PySem.F.entry_int_mul (PySem.F.args_int_mul_2 _ _) (PySem.AutoIntG3.int___mul___int_str_0 n u x t)
   #[rfl,b6 _ x t,`aK9 PySem.F.slot_str_mul `aK8 PySem.F.entry_str_mul (PySem.F.args_str_mul_2 _ _) (gives_str_mul x n t u hr hb hl) h])
universe zz
universe DL
namespace DL
open Spec PyProof.Rows L2
section
variable{σ:St}{δ:Ds}
def Env.fresh{p:`f}{o:HO}(e:`a')(hp:`d8)(no:∀ob u,o≠`R2:=by exact λ_ _ z=>nomatch z)(nt:∀xs,o≠`eT:=by exact λ_ z=>nomatch z):Env K `abG `tz σ δ:=by
 refine#[`tG (λv s h=>?_) `hD,`gQ,`nz]
 ·cases s with
  | un=>trivial
  | ex c n=>let#[u,q,r]:=h;exact`aK'
  | sh d=>let#[u,q,r]:=h;exact`aK'
  | ow d =>
   let#[a,q,hb,r]:=h;exact#[a,q,`t hb,`df (λo ho=>by rw[m5 (V5 ho hp)];exact ho) `zq]
 ·rcases z with z|z
  ·have:=`iF a z
   by_cases q:a=p
   ·rw[q,m8];exact `aK!
   ·rw[m5 q];exact `E
  ·rw[z,m8];exact `aK!
universe zz
@[simp] def V90:`T
 | `FH=>`a `alW
 | _=>`d
def Kt0:FnR K `axn V90:=by
 intro H B xs ds d Q hb r h k;unfold V90 at h;split at h
 ·refine `e;cases h
  let#[v,v',rfl,r1,r2]:=Wl0 r;rw[j6] at r1 r2;subst r1 r2;refine `b;exact`aHO
 ·cases h
def flats(ds:`n):`M:=`adI
def mw0(g:GE):GE:=fun δ=>`ach λd=>match d with
 | `ci=>if `wt then `rP else `d
 | _=>`d
def M60{g:GE}{δ:Ds}(h:`qb=`rP)(hf:`wt):mw0 g δ=`rP:=by
 unfold mw0;rw[h,`h];simp only[];rw[`wg]
section
variable{g:GE}
theorem wh0:∀{ds:`n} {xs:`S},`wt->`abr
 | [],xs,_,r=>`aK2
 | `aB,xs,h,r=>by
  rw[o8] at r ⊢;let#[x,r',e1,r1,r2]:=r;unfold flats at h;rw[`mu,`aI] at h;exact#[x,r',e1,s60 h.1 r1,wh0 (ds:=ds) h.2 r2]
theorem Rc0(h:`v8):PSD X `rE (Q7 (ji0 g)):=.mk λH₀ B₀ δ pins s σ H D I #[r,en,hq,k] =>
 M6 h `O `L `qa `i s σ H D I `aGH
theorem Oc0(h:`v8):PDF X e (mw0 g):=.mk λB δ pins s σ H Q I hq131=>by
 refine `e;let#[d,en,hq,k]:=hq131
 let#[B',c1,c2,J]:=`zc;unfold mw0 at hq;cases e1:`qb with
 | none=>rw[e1] at hq;cases hq
 | some x =>
  rw[e1,`h] at hq;cases x with
  | lst ds =>
   simp only[] at hq
   by_cases hf:`wt
   ·rw[`wg] at hq
    cases hq;refine `b;exact h B' `qa `i s σ H Q I #[_,J,e1,λp H' hp s' r=>k p H' hp s' (by
     let#[xs,e5,r5]:=r;exact#[xs,e5,wh0 hf r5])]
   ·rw[`Nt] at hq;cases hq
  | non=>cases hq
  | bl _=>cases hq
  | int _=>cases hq
  | str _=>cases hq
  | tup _=>cases hq
  | dct _ _=>cases hq
  | fn _ _=>cases hq
universe zz
universe DL
namespace L2
def Tbk(ok:`fR)(h:`D)(e:`f)(v:`G):Prop:=∃T oT ts,v=`z T/\T≠e/\ok T/\`e? T=`a oT/\oT.data=`k8 ts/\3<ts.size
def Lie(ok:`fR)(h:`D)(C:`G)(od:`bm)(e:`f):Prop:=∃oe vs,`YW/\`Bt=C/\`YX/\`vi/\`KN/\ok e /\
 ∃v,`xV=`bL/\(v=`af∨`aea)
def LieT(ok:`fR)(h:`D)(C:`G)(od:`bm)(e:`f):Prop:=∃oe vs,`YW/\`Bt=C/\`YX/\`vi/\`KN/\ok e /\
 ∃v,`xV=`bL/\`aea
def LieT.lie{ok:`fR}{h:`D}{C:`G}{e:`f}(l:LieT ok h C od e):`aK?:=by
 refine `e;let#[oe,vs,h1,h2,h3,h4,h5,h6,v,h7,h8]:=l;refine `b;exact#[oe,vs,h1,h2,h3,h4,h5,h6,v,h7,`s h8]
structure Noted(ok:`fR)(F:`aS)(h h':`D):Prop where
 keep:∀b o,`fa->¬ok b->b∉F->`pu
 slot:∀b o,`fa->¬ok b->`Zs
 there:∀b o,`fa->`Zt
section
variable{M:`e2}{s:`v}
def Wi0{base:`D}{ok:`fR}{env:Env}{outer:`eF}{L e:`f}{oe:Obj}{vs:`aJ}{head:`G}{hadNext:`M}{Q:`dV}
  (hfr:`aeb) (hl:`aec) (hf:`aed) (he:`dm e=`xT) (hd:`vi) (hsz:`KN) (oke:ok e)
  (new:`aee)
  (h:∀h',`aef->LieT ok h' `Bt `RP e->`HB) :
  `q M A (do let a ← frameOf env;let pl ← entryPlaceOf L hadNext;let b ← EntryCells.newEntry head a `af (`oC L) `af pl;setField `gV 1 b) Q E s:=by
 have O:e∉`aoD:=λz=>by
  let#[_,o,q,n]:=hl.mem z;rw[he] at q;cases q;exact n vs hd
 refine A1 (wpAny_frameOf_fun hfr hl hf λg sl=>A1 (wpAny_entryPlaceOf λpl hp=>?_));unfold EntryCells.newEntry newFields;refine A1 (L4 ?_ (hp.sizeOk5 _ _ _ _ _));refine `e;obtain⟨ar,J⟩:∃ar,ar=([head,`t0,`af,`oC L,`af]++(if pl.isEmpty then `aW 6 `lI else pl)).toArray:=`ad;have U:3<ar.size:=by rw[J];simp only[`bM,`Z,`Y,`fy];lia
 refine `b;rw[← J];have ge:g.get? e=`xT:=(sl.2.1 e O).trans he;have nT:`Hz≠e:=C6 (A5 ge);have pe:=B3 (h:=g) `aoF ge;have d3:=X2 hd `aoE;have e3:=D5 `aeg pe (i5 d3);have t3:=(E7 (`aLa) `aeg (A9 nT)).trans (C7 g rfl);refine X1 pe hd hsz `aLb
 ·have oth:∀b o,g.get? b=`ap->`xX->((`aLa).update e `aeg).get? b=`ap:=λb o q n=>by
   rw[`aub];exact `ta
  refine#[λb o q n1 n2=>oth b o ((sl.2.1 b n2).trans q) `aLc,λb o q n1=>?_,λb o q=>?_]
  ·let#[x,hx]:=`aLd
   exact#[x,oth b _ hx `aLc]
  ·by_cases z:b=e
   ·subst z
    exact#[_,e3]
   ·let#[x,hx]:=`aLd
    exact#[_,oth b _ hx z]
 ·refine#[_,_,e3,`at?,?_,d3,`aLe,oke,`z `Hz,`aLe,`Hz,_,_,rfl,nT,new _ (by rw[sl.1];exact `ho),t3,rfl,U]
  let#[c,d,dt,x]:=oe;cases dt<;>rfl
theorem Noted.refl{ok:`fR}{F:`aS}{h:`D}:`qr ok F h h:=#[λb o z _ _=>z,λb o z _=>#[`Bx,z],λb o z=>#[o,z]]
def Xd0{ok:`fR}{C:`G}{e:`f}{f:`bm}{Q:`dV}(lie:LieT ok `ar C od e)
  (h:∀h',`aLf->`aLg):`q M A (`U2 `gV f) Q E s:=by
 refine `e;let#[oe,vs,he,rfl,rfl,hd,U,O,v,q,T,oT,ts,rfl,nT,okT,hT,J,q3]:=id lie;refine `b;unfold setFlight;refine `Dr;rw[`V `ax];refine X1 hT J q3 `aLb
 ·have oth:∀b o,`fb->b≠T->(`qs T (`U1 (`HA 3 (f.elim `lI λf=>`oC f)))).get? b=`ap:=λb o z n=>(`aLh).trans z
  refine#[λb o z n _=>`aLi,λb o z n=>#[`Bx,`aLi],λb o z=>?_]
  by_cases w:b=T
  ·subst w
   exact`aLj
  ·exact#[o,oth b o z w]
 ·exact#[oe,vs,(E7 _ _ nT).trans he,rfl,rfl,hd,U,O,_,q,T,_,_,rfl,nT,okT,`aoG,X2 J _,by simp[q3]]
def flight{ok:`fR}{C:`G}{e:`f}{Q:`dV}(lie:`aeh)
  (h:∀h',`aLf->`aLk):`aei:=by
 refine `e;let#[oe,vs,he,hc,U,hd,J,O,v,q,q2]:=id lie;rcases q2 with rfl|t
 ·refine `b;unfold setFlight
  refine `Dr;rw[`cU];exact A2 (h _ .refl lie)
 ·refine `b;exact Xd0 #[oe,vs,he,hc,U,hd,J,O,v,q,t] λh' n l=>h h' n l.lie
def Gb0{base:`D}{ok:`fR}{env:Env}{outer:`eF}{L e:`f}{C:`G}{od:`bm}{Q:`dV}
  (hfr:`aeb) (hl:`aec) (hf:`aed) (lie:`aeh)
  (new:`aee)
  (h:∀h',`aef->`aLg) :
  `q M A (`Cu `gV env) Q E s:=by
 refine `e;let#[oe,vs,he,rfl,rfl,hd,U,O,v,q,q2]:=id lie;refine `b;unfold noteFrame;simp only[hf];refine `e;rcases q2 with rfl|⟨T,oT,ts,rfl,nT,okT,hT,J,q3⟩
 ·refine `b;refine `Dr
  rw[`cU];exact Wi0 hfr hl hf he hd U O new h
 ·refine `b;refine `Dr
  rw[`V `ax];refine A1 (D7 hT J (d4 q3) ?_)
  by_cases hin:(ts[3]==`oC L)=`c
  ·rw[`V hin]
   exact A2 (h _ .refl #[oe,vs,he,rfl,rfl,hd,U,O,_,q,T,oT,ts,rfl,nT,okT,hT,J,q3])
  rw[`al hin];refine A1 (X1 hT J q3 ?_);have oth:∀b,b≠T->`aLl b=`pv:=λb n=>`aLh
  have self:∃o',`aLl T=`Fa:=`aLj;have nr:∀b o,`fb->(∀vs,`mY≠`xU)->b≠T:=λb o h1 h2 z=>by
   rw[z,hT] at h1;cases h1;exact h2 ts J
  refine Wi0 hfr (hl.of_keeps λb o h1 h2=>#[o,(oth b (nr b o h1 h2)).trans h1,rfl]) hf ((oth e (A9 nT)).trans he) hd U O (λb hb=>new b (by rw[Heap.size_after_update] at hb;exact hb)) λh' nd le=>h h' #[λb o h1 n1 n2=>`N? b o `aLm n1 n2,λb o h1 n1=>`Oa b o `aLm n1,λb o h1=>?_] le
  by_cases z:b=T
  ·let#[o',Y]:=self
   exact `aej b o' (by rw[z];exact Y)
  ·exact `aej b o ((oth b z).trans h1)
theorem Noted.trans0{ok:`fR}{F:`aS}{h h'':`D}(a:`qr ok F h h')(b:`qr ok [] h' h''):`qr ok F h h'' :=
 #[λc o e n1 n2=>b.keep c o (a.keep c o e n1 n2) n1 `ax,λc o e n=>by
  let#[x,hx]:=a.slot c o e n;let#[y,hy]:=b.slot c _ hx n;exact#[y,hy],λc o e=>by
  let#[x,hx]:=a.there c o e;exact b.there c x hx]
theorem note{base:`D}{ok:`fR}{env:Env}{outer:`eF}{L e:`f}{C:`G}{od:`bm}{Q:`dV}
  (hfr:`aeb) (hl:`aec) (hf:`aed) (lie:`aeh)
  (new:`aee)
  (h:∀h',`aef->`aLk) :
  `q M A (`Cu `gV env) (λ_ s'=>`q M A `U3 Q E s') E s :=
 Gb0 hfr hl hf lie new λh1 n1 l1=>Xd0 l1 λh2 n2 l2=>h h2 (n1.trans0 n2) l2.lie
universe zz
universe L2
namespace L2
open Spec PyProof.Rows
def Tbk.mono{ok ok':`fR}{h:`D}{e:`f}{v:`G}(q:`aLn)(l:`aea):Tbk ok' h e v:=by
 refine `e;let#[T,oT,ts,t1,t2,t3,t4]:=l;refine `b;exact#[T,oT,ts,t1,t2,q _ t3,t4]
def Lie.mono{ok ok':`fR}{h:`D}{C:`G}{e:`f}(q:`aLn)(l:`aK?):Lie ok' h C od e:=by
 refine `e;let#[oe,vs,h1,h2,h3,h4,h5,h6,v,h7,h8]:=l;refine `b;exact#[oe,vs,h1,h2,h3,h4,h5,q _ h6,v,h7,h8.imp id (Tbk.mono q)]
def FpW(X:Cx)(pins:`aw)(H:Hp)(b:`f):Prop :=
 `c_/\`m1/\`vq/\(`Fe∨`R9=`d)/\`R'
abbrev fh0(X:Cx)(pins:`aw)(H:Hp)(h:`D)(C:`f)(od:`bm)(e:`f):Prop:=Lie (FpW X `i H) h `bu od e
section
variable{σ:St}{s:`v}
def Inv.fpW{b:`f}(I:`C)(hb:`aek)(hn:`m2):FpW X `i H' b:=by
 refine#[hn,`jT,`jT,?_,`_l,`_m]
 ·refine `e;let#[m,#[o,_,_,ho,_],_]:=`dr
  rw[← z,hb] at ho;cases ho
 ·let#[_,o,ho,_]:=I.funs.mem z
  rw[hb] at ho;cases ho
 ·by_cases q:`Fe
  ·exact `mj
  ·refine `s ?_
   cases e:`R9 with
   | none=>rfl
   | some o =>
    let#[o',h']:=`x2 b o e q;rw[hb] at h';cases h'
 ·let#[v,o,q,_]:=`vs
  rw[z,hb] at q;cases q
 ·have q:=(`kx).1
  rw[z,hb] at q;cases q
def Inv.dead{b:`f}(I:`C)(hb:`aek):`c_:=by
 cases e:H b with
 | none=>rfl
 | some o =>
  have:∃u,`pv=`a?:=by
   have z:=`bg b o e;clear e
   induction o with
   | lst xs=>let#[_,_,_,_,q]:=z;exact`jb
   | tup xs=>let#[_,_,_,_,q,_]:=z;exact`jb
   | dK kvs=>refine `e;let#[_,_,_,_,_,_,_,q,_]:=z;refine `b;exact`jb
   | dT kvs=>refine `e;let#[_,_,_,_,_,_,_,q,_]:=z;refine `b;exact`jb
   | dX kvs=>exact `fk z
   | set S n=>let#[_,_,_,_,q,_]:=z;exact`jb
   | ins C dx fs=>let#[_,_,_,q,_]:=z;exact`jb
   | own y=>exact z
   | xd fs=>refine `e;let#[_,#[_,_,_,q,_],_]:=z;refine `b;exact`jb
   | rng lo hi=>let#[_,_,_,q]:=z;exact`jb
   | frz ob u ih=>exact#[_,z.1]
   | tbl ps=>let#[_,q,_]:=(show TabOk H `ar _ _ from z);exact`jb
   | met f y=>exact#[_,z]
   | ext φ=>exact z.2.1
   | deep sub=>exact z.1
  let#[u,q]:=`E;rw[hb] at q;cases q
def Inv.afterNote{F:`aS}(I:`C)(hF:∀b∈F,b∈`vt)(nd:`qr (FpW X `i H) F `ar h'):`tQ:=by
 have nt:∀b u,`kv->¬`ael:=λb u q z=>by
  rw[z.1] at q;cases q
 have hok:`avz:=λa o q=>(`bg a o q).stay (λb u hb e=>by
  have tr:∃v,H b=`bL:=by
   rcases hb with rfl|hb
   ·exact`jb
   ·exact#[_,hb]
  let#[v,tr]:=tr;exact `N? b u e (nt b v tr) λz=>by
   rw[I.stkFree b (hF b z)] at tr;cases tr) `x3 `x4 `m5
 have nF:∀b,`m1->`vq->b∉F:=λb n1 n2 z=>(`cf (`ZH b (hF b z))).elim n1 n2
 have up:`ZK:=`avg
 have old:∀b o,`Ff->`ZE->¬`ael:=λb o e hx z=>by
  rcases z.2.2.2.1 with q|q
  ·exact hx q
  ·rw[e] at q
   cases q
 have J:`avh:=λx c e v hq132=>by
  let#[o,ho,hd]:=hq132
  let#[sl,q]:=`Oa c o ho λz=>z.2.2.2.2.1 x c e rfl
  exact`avj
 refine#[`lK,`fw,`d!,#[λb o e n hb hx=>`N? b o `K' (old b o e hx) (nF b `aoI hb),`pA,`x0,`Fl,`R?,`Fm,`Sb],?_,`tR,`dP,`gF,`gf,hok,`c0]
 ·let#[sl,e1]:=`K!
  let#[O,e2]:=`Oa b _ e1 (old b o e hx);exact#[O,e2]
 ·let#[o',e1]:=`BJ
  exact `aej b o' e1
 ·refine `e;let#[m,#[o,es,ep,ho,r],hl]:=`dr
  let#[sl,hL]:=`Oa _ o ho λz=>z.2.1 rfl
  refine `b;refine#[m,#[_,es,ep,hL,r],`ZL];let#[u,r,l]:=`avk;refine`avl;refine `e;rcases l with l|⟨k,c,e,z⟩
  ·refine `b;exact `t l
  ·refine `b;exact `s #[k,c,e,J x c e _ z]
 ·let#[v,z]:=`vs
  exact#[v,J x c e v z]
 ·let#[e,n,ne,nf,d]:=`kx
  exact#[`N? p.1 p.2 e (λz=>z.2.2.2.2.2 p hp rfl) (nF p.1 ne nf),n,ne,nf,d]
def Inv.frame(I:`C)(st:`K5):`au':=by
 rcases `ZG with q|q
 ·rw[st] at q
  exact `N (C8 `Ae q) `ax
 ·exact q.2
def Inv.noted{M:`e2}{E:`aj}{C e:`f}{Q:`dV}(I:`C)(st:`K5)(lie:`aem)
  (h:`aLo) :
  `q M X.A (`Cu `gV `w) (λ_ s1=>`q M X.A `U3 Q E s1) E s:=by
 refine note (base:=`cH) (outer:=`py) (by rw[`aya,st]) (st▸I.stack) (I.frame st) lie (λb hb=>I.fpW (i3 hb) (`pK hb)) λh' nd le=>h h' (`aLp `Lc nd) le
 rw[st];exact hb
theorem Inv.flown{M:`e2}{A:`bT}{E:`aj}{C e:`f}{Q:`dV}(I:`C)(lie:`aem)
  (h:`aLo):`aei :=
 flight lie λh' nd le=>h h' (`aLp (λb hb=>by cases hb) nd) le
def Inv.track{φ:`mS}(I:`C)(fp:`aLq)(hφ:φ `ar)(ho:`Ob)(st:`auR) :
  Inv X `i σ (upd H a (`BA)) s:=by
 let#[z1,z2,z3,z4,z5,z6]:=fp;have oth:∀b u,`kv->upd H a (`BA) b=`a?:=`aLr
 refine`aLs
 ·have:`hJ:=λw=>by
   subst w;rcases z4 with z4|z4
   ·exact hx z4
   ·rw[e] at z4
    cases z4
  rw[`Dc];exact `Sa
 ·let#[J,q]:=`BK
  exact`aLt
 ·rw[`aLu];exact `dP
 ·rw[m5 (z5 x c e)];exact `R!
 ·let#[e,n,r]:=`kx
  exact`aLv
 ·by_cases w:b=a
  ·subst w
   rw[m8] at q;cases q;exact#[hφ,ho,st]
  ·rw[m5 w] at q
   exact`aLw
def Inv.goes{M:`e2}{A:`bT}{E:`aj}{pos:Pos}{Q:`dV}(I:`C)(hN:`ek)(hi:`b0)(hx:`Fh)
  (h:∀s',Inv X `i (`x5 i `d) H s'->`BM):`q M A (do bindName `w x `af;unbindBehindTheSuite `w x pos) Q E s:=by
 have J:`avv:=`avw
 have hk:`yI=`la:=hx;refine A1 (wpAny_bindName (ns0 I hN hi `Hf (v:=`x) (u:=`af) rfl (λs1 I1=>?_) (`s hx)));unfold unbindBehindTheSuite;refine wpAny_onRaise ?_;unfold unbindName;refine A1 (u8 `KL);unfold deleteName;simp only[hk,J];rw[`cU];have cne:=I1.cne;let#[m,hn,hl]:=id I1.loc;have hiσ:i<`pz:=`avx
 have hm:(m x).isSome=`c:=by
  let#[u,_,l]:=hl i x `x hi (by rw[`Lf]) `Hf;rcases l with⟨_,l⟩|⟨l,_⟩
  ·rw[l];rfl
  ·rw[hk] at l
   rcases l with l|l<;>cases l
 refine A1 (wpAny_nsDel_keeps hn λh' w O hs=>?_);rw[hm];simp only[`YR,`oM,`cS];refine A2 (u8 (`T'));let#[oL,_,_,U,_]:=id hn;have up:`ZK:=λb o e=>B4 (B7 `m3 I1.ok.above)
 refine#[I1.ok,I1.os,I1.bare,#[`pA,`pA,I1.base.free,`Fl,I1.base.tups,I1.base.frzs,I1.base.tbls],#[_,O,`ZQ],`avC,`aen,I1.freeC,`gf,`U7,`ZR]
 ·exact`aeo (I1.base.keep b o e n hb hx)
 ·let#[sl,e1]:=I1.base.slot b o e n hb hx
  exact#[sl,`aeo e1]
 ·let#[o',e1]:=I1.base.there b o e hx
  exact#[o',`aeo e1]
 ·by_cases hj:j=i
  ·subst hj
   rw[`Lf] at e2;cases e2
  ·rw[`oy] at e2
   let#[u',r',q]:=hl j y v' e1 (by rw[`oy];exact e2) e3;refine`ZT;refine `e;rcases q with⟨k,e⟩|⟨k,c,e,z⟩
   ·refine `b;refine `t #[k,?_]
    have:y≠x:=`avE
    simp[`E,e]
   ·refine `b;exact `avF
 ·let#[w',z]:=I1.cell y c e
  exact`avG
 ·let#[e,n,ne,nf,d]:=I1.pin p hp
  exact`avH
 ·refine(I1.hok b u q).stay (λc w' hc z=>`avA z) `x3 `x4 `m5
  rintro rfl;rcases hc with rfl|hc
  ·rw[`aen] at q;cases q
  ·rw[`aen] at hc;cases hc
universe zz
def CXE(P:`ao)(w:`Q):CXT:=λouter H s E e s'=>∃ea C od H',e=`Kd/\`ZW/\`Gc/\`ax'/\`ax! /\
 Lie (λb=>`m2/\`aek) `na `bu od ea/\`aLx
def lw0(X:Cx)(σ:St)(H:Hp)(C:`f)(od:`bm):Prop:=∀pins s e,`C->`aem->`aH `gV s
def RawAt(e C:`f)(od:`bm):`mS:=λh=>XC.Raw h e C od
def RawAt.stay{e C:`f}(h1 h2:`D)(r:`zs e C od h1)(k:∀o,`mV e=`ap->h2.get? e=`ap):`zs e C od h2:=by
 let#[oe,vs,he,r]:=r;exact#[oe,vs,k _ he,r]
def J90{o:HO}(h:`tq):`ak9=H:=by
 funext b
 unfold upd;split
 ·rename_i e;rw[e,h]
 ·rfl
section
variable{σ:St}{s:`v}
def Mu0{j:Nat}{cp np fp pos:Pos}(hN:`b0)(hv:`dB)(hy:`aLy)(hd:`aQ:=by decide)(hcd:`dC:=by decide) :
  PE X (`aoP [`iJ `HH j cp,`aoQ (`bh x np) `qt `d fp] pos) (fun σ H Q=>∃n:Int,`Fd=`aoS/\`wu/\∀z,Q `zA H):=by
 intro pins s σ H Q I #[n,e,hn,q];have e1:=int_text_length_le (k:=1920) `r hn;have z1:(`yh++y).length<=`R:=by rw[`aep,`vk];show 0+`HD<=_;lia
 refine JoinedStr_many (`aLz (`avL #[z1,`aLz (FormattedValue_plain (thn (R0 hN hv hd hcd `i _ σ H (λv H'=>v=`d7/\H'=H) `qe #[`d7,e,rfl,rfl]) λu s1 hq133=>?_))]));refine `e;let#[v,H1,I1,r1,J,hH]:=hq133;subst J hH;let#[t,rfl]:=r1;have z2:(`yh++y++`s? (toString n)).length<=`R:=by rw[`aep,`aep,PySem.ofString_length,`vk];show 0+`HD+_<=_;lia
 refine `b;exact formatField_int_small hn #[z2,joinParts_nil (#[`bq,H1,(I1.tok _),`ad,q _]) z2]
def Yo0{Wc:`f}{np apos pos:Pos}{a:`I}{as:`bA}{t:TA}{pl:`i!}(hm:`aeq=`a `Ds)(hg:`Oc)
  (hsp:`aLA X.K `Ds `or=`aer) (hr:W.readsIn X.K Wc `wv=`c) (hf:W.findCls X.K `Ds `wv `dZ=`aLB)
  (ha:PA X (`nO) t) (hdb:`Od:=by decide) (hst:`aLC=`FC::`aLD:=by rfl) (hpl:(`d0 pos (`aLD)).any `bK=`p:=by rfl)
  (ht:`aY `aLE `w=(do
   let ov ← `aY `U' `w
   `oI
   let (f,`f?) ← `aLF
   `yl pos f `f? (`d0 pos (`aLC)) `FT):=by rfl) :
  PE X `aLE (fun σ H Q=>t σ H λvs H1=>∃e C v,vs=`YY/\H1 e=`U?/\(`aLG)/\Q `x H1):=by
 intro pins s σ H Q I h;refine t5 (pl:=pl) `al7 ht;refine W.method_cls `dc hsp (W.cls_value `dc hr hf `cZ ?_);refine Cc0 (thn (ha pos `i _ σ H _ `qe h) λus s1 hq134=>?_) hst hpl;refine `e;let#[vs,H1,I1,r1,q1]:=hq134;let#[e,C,v,rfl,hH,#[tl,cl],q]:=q1;cases r1 with
 | cons ra r1 =>
  cases r1 with
  | cons rb r1 =>
   cases r1;cases ra;let#[hh,g,d,t',os]:=s1;let#[O,_,_]:=I1.hok e _ hH;refine `b;refine XC.Rs0 (`aLH) O λh' J oth=>?_
   let#[oe,vs,he,r]:=id J;have I2:=I1.write (x:=e) (e:=e) (o:=`U!) (t':=t') (by rw[hH];trivial) `f3 `aLI `aLJ #[J,`aLJ,`aes];rw[J90 hH] at I2;exact#[`x,H1,I2,rfl,q]
def Inv.trackO{o:HO}(I:`C)(fp:`aLq)(new:`cG `aR X.w `gR `ar a o):Inv X `i σ `gR s:=by
 let#[z1,z2,z3,z4,z5,z6]:=fp;have oth:∀b u,`kv->`auK=`a?:=`aLr
 refine`aLs
 ·have:`hJ:=λw=>by
   subst w;rcases z4 with z4|z4
   ·exact hx z4
   ·rw[e] at z4
    cases z4
  rw[`Dc];exact `Sa
 ·let#[J,q]:=`BK
  exact`aLt
 ·rw[`aLu];exact `dP
 ·rw[m5 (z5 x c e)];exact `R!
 ·let#[e,n,r]:=`kx
  exact`aLv
 ·by_cases w:b=a
  ·subst w
   rw[m8] at q;cases q;exact new
  ·rw[m5 w] at q
   exact`aLw
def Inv.forget{φ:`mS}(I:`C)(ha:H a=`a (`BA))(hn:H' a=`d)(hs:∀b,`hJ->`f2=H b):`aLK:=by
 have up:∀b u,`kv->u≠`BA->`f2=`a?:=λb u q n=>by
  rw[hs b λz=>by
   subst z;rw[ha] at q;cases q;exact n rfl]
  exact q
 have dn:∀b u,`f2=`a?->`kv:=λb u q=>by
  rw[← hs b (V5 q hn)];exact q
 have no:`aLL:=λb q=>by
  rw[hs b λz=>by
   subst z;rw[ha] at q;cases q]
  exact q
 refine#[`lK,`fw,`d!,#[`x_,`x1,`aLM,`x2,λb xs e=>up b _ `HC `dy,λb o u e=>up b _ `U5 `dy,`U6],`dr,`fe,`aLN,`aLO,`gf,`U7,`c0]
 ·let#[J,q]:=`BK
  exact#[J,up b _ q λz=>nomatch z]
 ·let#[e,n,r]:=`kx
  exact#[e,no _ n,r]
 ·exact(`bg b u (dn b u q)).stay (λ_ _ _ z=>z) (λc z=>up c _ z λz=>nomatch z) (λc xs z=>up c _ z λz=>nomatch z) λc _ _ z=>up c _ z λz=>nomatch z
structure ErrC(K:`A)(C r:`f)(f:Str):Prop where
 ex:∃cd,W.clsIn K C=`KO/\`xQ=`em::`aet/\`Y1=`c
 na:`LC
 sa:`_S
def Gk0{f:Str}(ha:`vG)(hv:`__)(hs:`axV:=by rfl) :
  PS X `axW (λD σ H=>tv σ H λy H1=>ta σ H1 λx H2=>∃e C r,x=`k7/\H2 e=`U?/\ErrC X.K C r f /\
   ∀dx,`HI->H2 dx=`d->`gG σ (upd (upd H2 e `zu) dx (.xd [(f,y)]))):=by
 intro pins s σ H D I h;refine C90 (thn `axX λu s1 hq135=>?_) hs;let#[y,H1,I1,ry,q]:=hq135;refine thn `axY λov s2 hq136=>?_;refine `e;let#[x,H2,I2,rx,e,C,r,ex,ea,c,q2]:=hq136;subst ex;obtain rfl:ov=`e! e:=rx;let#[cd,h1,h2,h3]:=c.ex;let#[#[oe,vs,he,hc,J,hd,Y,O,U],_,_]:=I2.hok e _ ea;let#[oc,a2,a1,Z]:=oe;dsimp only at hc J hd;subst hc J hd;refine `b;refine XC.Tn0 I2.kIn #[he,rfl,rfl,`lE] h1 h2 h3 c.na c.sa λh' dx t' n1 n2 ns hx oth=>#[σ,_,?_,q2 dx n2 (`aLP)]
 have I3:=I2.write (x:=e) (e:=e) (o:=`aoN) (t':=t') (h':=h') (by rw[ea];trivial) `f3 `aLI `aLQ #[#[_,vs,hx,rfl,rfl,rfl,Y,O,U],`aLQ,`aes];refine I3.trackO (I2.fpW n1 (by rw[m5 n2];exact `aLP)) #[_,ns,λg=>?_]
 by_cases z:g=f
 ·subst z
  rw[`bc];simp only[`h?,`KI];exact ry
 ·rw[`mz]
  have:`axF:=`als
  simp only[`h?,`E];trivial
universe zz
def bw0(C:`f):Sp:=λvs H Q _=>∃e n,vs=`aeu/\`aev/\`wu/\∀dx,`HI->`HJ->Q `x `aoT
structure RootC(K:`A)(Wc:`f):Prop where
 sp:`aLA K `Ds `or=`aer
 rd:W.readsIn K Wc `wv=`c
 fc:W.findCls K `Ds `wv `dZ=`aLB
theorem T10{W C r:`f}{j:Nat}{p1 p2 p3 p4 p5 p6 p7 p8 p9 pa pa' pb pc:Pos}{pl:`i!}(hm:`aeq=`a `xP)(rc:RootC X.K W)(cl:`aLG)(ec:ErrC X.K C r `c5)(hy:`aLy)
  (hN0:X.N[0]?=`a (`c9 : Str):=by rfl) (hN1:X.N[1]?=`a `aLR:=by rfl) (hg:`Oc:=by rfl) (hv0:Vis `m_ `c9 := by exact `aU) (hv1:Vis `m_ `c5 := by exact `aU) (hdb:`Od:=by decide)
  (hs:`gH `aew `d p9.line `w=`ff:=by rfl)
  (hs2:`gH (`bh `c5 pb) (`a (`aLS)) pc.line `w=`ff:=by rfl)
  (ht:`aY `aew `w=(do
   let ov ← `aY `aoO `w
   `Fp p2.atName
   let (f,`f?) ← `aLF
   `yl p8 f `f? (`d0 p8 (`b! `aoR `w)) (`SI p8 `SJ)):=by rfl) :
  ∃t,PSs X [`Fs `aew p9,`hy [`aLS] (`bh `c5 pb) pc] t /\
   ∀(D:`fM) σ H e n,`aLT->`aLU->`aev->`wu ->
    `aLV :=
 #[_,T7 (ru0 (Yo0 hm hg rc.sp rc.rd rc.fc (R8 (R0 hN0 hv0) (R8 (Mu0 hN1 hv1 hy) zt0)) hdb (ht:=ht)) hs) (T7 (Gk0 (R0 hN0 hv0) (R0 hN1 hv1) hs2) sg0),
  λD σ H e n h0 h1 hH hn q=>#[`k7,h0,n,h1,hn,λz=>#[e,C,`jF,rfl,hH,cl,`d7,h1,`k7,h0,e,C,r,rfl,hH,ec,q]]]
def Pc0{h:`D}{e C:`f}{rest:`K}(m:`YT):`zs e C `d h':=by
 let#[t,h1,_,_]:=m.there;exact#[_,_,h1,rfl,rfl,rfl,(by show 1<6;decide),rfl,t,rfl]
def Vg0{M:`e2}{s:`v}{e:`f}{oe:Obj}{vs:`aJ}{Q:`dV}(he:`dm e=`xT)(hd:`vi)(q:`at!)(h:Q () s):`aei:=by
 unfold setFlight;refine `Dr;rw[`cU];exact A2 h
def Uy0{M:`e2}{E:`aj}{s:`v}{env:`ani}{x:`FE}{C:`f}{tl:`K}{Q:Flow->`eO}(hbase:`aLW)(hh:`gq)
  (h:`q M A x (λv s₁=>∃e od,v=`k7/\XC.Cl `nn C tl/\XC.Raw `nn e C od/\E `gV `dN) E s) :
  `q M A (raiseStmt env (`dn) `d) Q E s:=by
 have U:`atL:=by rw[`YH,`e3,Bool.or_true]
 unfold raiseStmt;refine A1 (C9 h (λv s₁ h₁=>?_) `rx);refine `e;let#[e,od,rfl,c,#[oe,vs,he,hc,J,hd,a4,O,a3],hE]:=h₁;let#[nm,q,N,bs,Z,sn,sub,ab,a5,dd,k0,k1,k2,k3,k5,Y,hC]:=c.obj;let#[hp,g,d,tk,os]:=`dN;let#[oc,a6,a2,a1]:=oe;dsimp only at hc J hd;subst hc J hd
 refine `b;repeat (first|with_reducible refine E9 he ?_|with_reducible refine `KK|(with_reducible refine A00 hC ?_;rw[U])|with_reducible refine Vg0 he rfl O ?_|wp_step)
 exact wpAny_raiseNew_none hh hE
universe L2
namespace DL
open Spec PyProof.Rows L2
inductive RX where
 | ok (r:Res)|ex (c:Str) (n:`a5) (δ:Ds)
abbrev GZ:=Ds->`aL RX
def Vm0:GZ:=`aLX
def js0(G1 G2:GZ):GZ:=fun δ=>match `fo with
 | `r2=>`oP
 | r=>r
def XdX(K:`A)(H₀:Hp)(B₀:BS)(H:Hp)(σ:St)(δ:Ds)(od:`bm):`abD
 | `d=>`g?
 | `eW=>∃(dx:`f) (B:BS),`MI/\`O dx=`d/\`sJ=`aLY/\`CR/\`CS/\`a'/\¬B dx
def XdS(H H':Hp)(od:`bm):`abD
 | `d=>`g?
 | `eW=>∃dx,`MI/\`HJ/\H' dx=`aLY
def eg0(s:`bb)(h:H' a=`d):`tP:=by
 cases e:H a with
 | none=>rfl
 | some o=>rw[s a o e] at h;cases h
def Ii0(X:Cx)(H₀:Hp)(B₀:BS)(D:`fM):RX->Prop
 | .ok r=>J70 X.K `O `L D r
 | `aLZ=>`aL_
def tXS(X:Cx)(H₀:Hp)(B₀:BS)(δ:Ds)(G:GZ):TS:=λD σ H=>∃r,`zv/\`MR/\Ii0 X `O `L D r
structure PSX(X:Cx)(st:`a1)(G:GZ):Prop where
 mk::go:∀H₀ B₀ δ,PS X st `aL0
structure PSsX(X:Cx)(st:`b5)(G:GZ):Prop where
 mk::go:∀H₀ B₀ δ,PSs X st `aL0
section
variable{st:`a1}{as bs:`b5}{G1 G2 Ga Gb:GZ}{gt:GB}{gA:GA}{c:`I}
theorem je0:PSsX X [] Vm0:=.mk λH₀ B₀ δ pins s σ H D I hq137=>by
 let#[r,en,e,k]:=hq137
 cases e;exact `MT
theorem dn0(h1:PSX X st G1)(h2:PSsX X `a3 G2):PSsX X `BT (js0 G1 G2):=.mk λH₀ B₀ δ pins s σ H D I hq138=>by
 refine `e;let#[r,en,e,k]:=hq138
 unfold js0 at e;cases e1:`fo with
 | none=>rw[e1] at e;cases e
 | some r1 =>
  rw[e1] at e;cases r1 with
  | ex c n δ'=>cases e;refine `b;exact `o5
  | ok r1 =>
   cases r1 with
   | nx δ'=>refine `b;exact `aex
   | rt d=>cases e;refine `b;exact `o5
   | bk δ'=>cases e;refine `b;exact `o5
   | ct δ'=>cases e;refine `b;exact `o5
   | rf d=>cases e;refine `b;exact `o5
def Or0{r:`f}:(`aL1).contains `EX=`c:=by
 rw[`YH];rfl
structure IniC(P:`ao)(w:`Q)(K:`A)(mg:`a2)(base:`D)(cn:Str)(r:`f)(k:Nat):Prop where
 ex:∃(C f:`f) (fd:`e1),XC.At K mg cn C (`aet)/\(∀h:`D,`eA->XC.Ri h C (`aet) f)/\`W P w K mg `l CX0 k f fd `j0 (bw0 C)/\`aL2
universe zz
universe DL
namespace DL
open Spec PyProof.Rows L2
section
variable{r:`f}{p:Pos}
def Lg0{C C':`f}{tl:`K}(a:XC.At K mg c C tl)(n:`amY=`a (`a (`z C'))):C'=C:=by
 have:=n.symm.trans a.ns;cases `E;rfl
universe zz
universe DL
namespace L2
open Spec PyProof.Rows
abbrev Cx.body(X:Cx)(pn:`aw)(xe:`aj):Cx:={ X with pn:=pn,xe:=xe }
abbrev Cx.hand(X:Cx)(A:`bT):Cx:={ X with A:=A,calm:=`p,xe:=`lt }
section
variable{pins':`aw}{σ:St}{s:`v}{W:`aj}
theorem Cx.Ok.body(o:X.Ok){pn:`aw}:`aL3:=`aL4
theorem Cx.Ok.unbody{pn:`aw}(o:`aL3):X.Ok:=`aL4
theorem Inv.toBody(I:`C):`aL5:=#[I.ok.body,`fw,`d!,`ox,`dr,`fe,`dP,`gF,λp hp=>`iu p (by simpa using hp),`bg,`c0]
theorem Inv.ofBody(I:Inv `zw pins' σ H s):`C:=#[I.ok.unbody,`fw,`d!,`ox,`dr,`fe,`dP,`gF,λp hp=>`iu p (D6 _ hp),`bg,`c0]
theorem FpW.ofBody{b:`f}(f:FpW `zw pins' H b):`ael:=#[f.1,f.2.1,f.2.2.1,f.2.2.2.1,f.2.2.2.2.1,λp hp=>f.2.2.2.2.2 p (D6 _ hp)]
theorem Cx.Ok.hand(o:X.Ok)(hf:`Hy=`ZD):(`HL A).Ok:=#[o.mod,o.kind,o.glob,o.blt,o.above,o.inj,o.has,o.cab,`aL6,hf.trans `aoX,o.stk,o.exf,o.bs,o.bsz,o.noex,o.exfs,o.funs,o.frf]
theorem Inv.toHand(I:`C)(hf:`Hy=`ZD):`aL7:=#[I.ok.hand hf,`fw,`d!,`ox,`dr,`fe,`dP,`gF,`iu,`bg,`c0]
theorem Inv.ofHand{σ':St}(I:`aL7)(J:`m'):`C:=#[J.ok,`fw,`d!,`ox,`dr,`fe,`dP,`gF,`iu,`bg,`c0]
universe zz
universe L2
namespace DL
open Spec PyProof.Rows L2
section
variable{σ:St}{δ:Ds}{C:`f}
def h40{s:Sl}{d:D}(hs:`aey)(h:(`aX i s)[j]?=`qg):j≠i:=by
 rintro rfl
 by_cases hl:j<`lT
 ·rw[`v2] at h
  cases h;exact hs _ rfl
 ·rw[`CK] at h
  cases h
def Env.setSl{o:`dq}{s:Sl}(e:`a')(hs:`aey)(r:`MJ):Env K H B `Oe (`aX i s):=by
 refine#[`oS r i `hD,`iF,`anF];have hj:=h40 hs h1;have hk:=h40 hs h2;rw[`oy] at h1 h3;rw[`aCz] at h2 h4;exact `nz j k b ds es h1 h2 h3 h4
def EnvS.setSl{o:`dq}{s:Sl}(e:`ck)(hs:`aey)(r:∀B,`a'->`MJ):`cj K `O `L H `Oe (`aX i s):=by
 let#[B,b1,b2,en]:=e.ex;refine#[e.same,#[B,b1,b2,en.setSl hs (r B en)],`Ua,e.b0];have hj:=h40 hs h1;rw[`oy] at h1 h2;exact `aL8
def xdB{n:`a5}(e:`ck)(x:XdX K `O `L H σ δ od n):∃B,`CR/\`CS/\`a'/\`aCo:=by
 refine `e;cases n with
 | none =>
  let#[B,b1,b2,en]:=e.ex;refine `b;exact#[B,b1,b2,en,`lE]
 | some k =>
  let#[dx,B,h1,h2,h3,b1,b2,en,nb]:=x;refine `b;exact#[B,b1,b2,en,dx,h1,nb,h3]
def EnvS.setEx{m:`a5}(e:`ck)(x:XdX K `O `L H σ δ od m)(hH:`tP)(n:`jM):`cj K `O `L `aez (`x5 i (`nx)) (`aX i (`aeA)):=by
 let#[B,b1,b2,en,xd]:=xdB e x;have nb:`p2:=λz=>`M_ a z hH
 have O:Env K `aez B σ δ:=`fq (Z5 hH);have J:Oe0 `aez B od m:=by
  cases m with
  | none=>trivial
  | some k =>
   let#[dx,h1,h2,h3]:=xd;exact#[dx,h1,h2,by rw[m5 (V5 h3 hH)];exact h3]
 refine#[`abU (Z5 hH),#[B,b1,b2,O.setSl `Of #[a,rfl,C,od,nb,m8,n,J]],`Ua,e.b0];have hj:=h40 (s:=`aeA) `Of h1;rw[`oy] at h1 h2;exact `aL8
universe zz
universe DL
namespace XC
open PySem.W
section
variable{w:`Q}{h:`D}{g:`jY}{d:`os}{t:Nat}{os:`vh}{C:`f}{o:Obj}{tl:`K}{K:`cT}{od:`Y_}{f:Str}{v:`G}
def Jx0{tk:Tok}{Q:`KJ}(X:`eA)(J:`Og)(hf:`Oh)(hq:Q (`sD (`eR v)) `cY) :
  `q `ag A (`aur `aL9) Q E `cY:=by
 have L0:=J.type (M:=`RN);have L1:=looks_find (M:=`RN) X J hf;refine A1 (A2 (A1 (A2 (A1 (L0.at (A1 (L1.at ?_)))))));exact A2 hq
theorem Mr0{tk:Tok}{R:`mf}(c:`i7)(X:`eA)(J:`Og)(hf:`Oh)(hq:R (.ok (`eR v)) `cY) :
  `f_ `ag A (`lq (`bo `zx) `aL9) R `cY :=
 i4 F.attr_ValueError.ga.plain F.entry_bexc_ga (Tq0 c J.at_ J.cls (Jx0 X J hf hq))
def Ha0{tk:Tok}{fill expr:`M}(c:`i7)(X:`eA)(J:`Og)(hf:`Oh)(hh:handedIn v=`c)(hq:Q v `cY) :
  `q `ag A (getAttrBy `c2 (`aoZ) fill expr) Q E `cY:=by
 have hx:=J.at_;have hc:=J.cls;have f3:=F.attr_ValueError.ga.bind `c2;have z0:(expr&&onTheHeap (`ao0))=`p:=by cases expr<;>rfl
 have z2:(`aL')=`p:=`aG
 have z1:(onTheHeap (`EW)&&`aL')=`p:=by rw[z2];rfl
 have ho:=handedOut_of hh
 repeat (any_goals (first|with_reducible assumption|(with_reducible refine `YL;rw[hc])|with_reducible refine c.look n2 F.attr_ValueError.ga.lookup ?_|with_reducible refine c.look n3 F.attrBase_ValueError.noGetattr ?_|wp_step))
 refine Mr0 c X J hf ?_
 repeat (any_goals (first|with_reducible assumption|(rw[ho])|wp_step))
theorem Mx0{expr:`M}(c:`i7)(X:`eA)(J:`Og)(hf:`Oh)(hh:handedIn v=`c)(hq:Q v #[h,g,d,t+1,os]) :
  `q `ag A (`FM `c2 f expr) Q E `cY:=A1 (wpAny_mkText (Ha0 c X J hf hh hq))
universe zz
universe XC
namespace L2
open Spec PyProof.Rows
structure ErrG(K:`A)(C:`f)(f:Str):Prop where
 cl:`aL!
 hd:`Lx
 na:`LC
section
variable{σ:St}{s:`v}
def Yl0{C:`f}{f:Str}{b:`M}{Q:`aj}(I:`C)(ha:H a=`a (`px (DL.fs0 a C `HG)))(hx:`sJ=`a (.xd `Ly))(c:ErrG X.K C f)
  (h:`axM):`axN:=by
 refine `e;let#[#[oe,h1,h2,h3,vs,h4],_,_]:=`bg a _ ha;let#[mA,ns,r]:=`bg dx _ hx;let#[od,ho,hl]:=dd0 ns;have l:(`Ly:`h8).lookup f=`bL:=by simp[`h?]
 let#[u,hu,ru]:=`axO;have J:W.InstAt `ar a oe C (`_P):=#[h1,h2,by unfold W.notCls;rw[h4],by rw[h3 dx rfl];exact ho];let#[tl,cl]:=c.cl;let#[hh,g,d,t,os]:=s;refine `b;exact XC.Mx0 (cl _ `dc) `dc J (`axz c.hd c.na rfl (by rw[hl,hu])) (de0 ru) (h u _ `qe ru)
universe zz
universe L2
namespace DL
open Spec PyProof.Rows L2
def atG(i:Nat)(as:`j):GE:=fun δ=>match `cb with
 | `a (.ex c (`pP))=>if as.contains c=`c then `U9 else `d
 | _=>`d
open T in
theorem Hi0(i:Nat){as:`j}(T:∀c∈as,∃C,`HK/\ErrG X.K C `c5)(hi:`b0:=by rfl)
  (hv:`dB:=by first|exact `aU|exact `cD|exact `cE) (hd:`aQ:=by decide) (hcd:`dC:=by decide)
  (hb:`fh `ez `c5 `w `tI=`tH:=by rfl) :
  PD X (`cI `ez `c5 pos) (atG i as):=.mk λB δ pins s σ H Q I hq139=>by
 let#[d,en,h,k]:=hq139
 unfold atG at h;split at h
 ·rename_i c n hδ
  split at h
  ·rename_i hc
   cases h;let#[o,h1,a,rfl,C,od,nb,hH,ns,dx,rfl,J,hx]:=`aeB;let#[C',n',g]:=T c (E30.mp hc);obtain rfl:C=C':=by
    have:=ns.symm.trans n';cases `E;rfl
   refine Xq0 hb (thn (R0 hi hv hd hcd `i s σ H (λv H'=>`iB/\H'=H) I #[_,h1,rfl,rfl]) λu s1 hq140=>?_);let#[v,H1,I1,r1,e1,e2]:=hq140;subst e1 e2;obtain rfl:u=`gD:=r1;exact Yl0 I1 hH hx g λu s' I' ru=>#[`d7,H1,I',ru,k _ _ `tw `tt]
  ·cases h
 ·cases h
universe DL
namespace XC
open PySem.W
def riB(K:`cT)(C:`f)(tl:`K)(f:`f):`M:=match `bE C with
 | `YN=>(match `YO with
  | `atR=>`atS&&`atT==`yf&&(match `Cc with
   | `a #[`sF,_,_,_]=>`c
   | _=>`p)
  | _=>`p)
 | _=>`p
def V50{K:`cT}{h:`D}{N:`f}{m:`a2}{n:Str}{v:`G}(X:`eA)(G:h.Ns N m)(e:`sw K N n=`mZ):m n=`bL:=by
 refine `e;let#[o,es,ep,ho,hd,_,hf]:=G;unfold nsIn at e;split at e
 ·rename_i q
  have z:=(X _ _ q).symm.trans ho;cases z;cases hd;split at e
  ·rename_i he
   cases e;refine `b;rw[← hf];unfold nsFind findBy;rw[← `axt,he];rfl
  ·refine `b;split at e<;>cases e
 ·cases e
open T in
def Hq0{K:`cT}{h:`D}{C f:`f}{tl:`K}(X:`eA)(e:riB K C tl f=`c):`YS:=by
 unfold riB at e;split at e
 ·rename_i dd cd sl ho
  split at e
  ·rename_i k0 k1 k2 k3 n k5 hs
   simp only[`aI,`ot,`YP] at e;let#[#[#[#[#[#[hm,rfl],J],ht],hok],O],hf]:=e;let#[nm,bs,mro,ns,qn,hd,sn,sub,ab,Y,Z]:=cd;dsimp only at hm J hok O;subst hm J;have U:`atU:=by
    let#[l]:=sl;simp only at hs;rw[hs]
   subst U;refine#[#[nm,qn,ns,bs,hd,sn,sub,ab,Y,dd,k0,k1,k2,k3,k5,_,`KH,`YQ,V50 X (`YQ) O,`atV],?_];split at hf
   ·rename_i o _ _ hfo
    exact#[_,X _ _ hfo,rfl]
   ·cases hf
  ·cases e
 ·cases e
def O80(K:`cT)(C r:`f):`M:=(match `Y0 with
 | `KO=>`xQ==`ak4&&`Y1
 | `d=>`p)&&`aL?==`b8&&`auh==`Sz
open T in
def Iv0{K:`cT}{C r:`f}(e:O80 K C r=`c):`aMa/\hasDictIn K C=`c/\`aL?=`b8:=by
 unfold O80 at e;simp only[`aI,`ot] at e;let#[#[h1,h2],h3]:=e;split at h1
 ·rename_i cd hc
  simp only[`aI,`ot] at h1;exact#[#[#[cd,hc,h1.1,h1.2],h2,h3],by unfold hasDictIn;rw[hc];exact h1.2,h2]
 ·cases h1
def Ud0(K:`cT)(W:`f):`M:=specialIn K `xP `or==`aer&&readsIn K W `wv&&(match findCls K `xP `wv `dZ with
 | `a (`tS (`bo n))=>n == `RQ
 | _=>`p)
open T in
def L80{K:`cT}{W:`f}(e:Ud0 K W=`c):L2.RootC K W:=by
 unfold Ud0 at e;simp only[`aI,`ot] at e;let#[#[h1,h2],h3]:=e;split at h3
 ·rename_i n hn
  rw[`KG h3] at hn;exact#[h1,h2,hn]
 ·cases h3
def Z90(K:`cT)(root c:Str)(f:`f):`M:=match `atW,`sx with
 | `atX,`sy=>riB K C `sz f&&O80 K C r&&Ud0 K r
 | _,_=>`p
def Sc0{K:`cT}{r f:`f}(T:`at2)(hc:c∈cs)(e:Z90 K `jt c f=`c) :
  ∃C,`at1/\(∀h:`D,`eA->Ri h C `sz f)/\`aMa/\L2.ErrG K C `c5/\L2.RootC K r:=by
 let#[C,a]:=T.all c hc;unfold Z90 at e;rw[T.top.ns,a.ns] at e;simp only[`aI] at e;let#[#[h1,h2],h3]:=e;let#[e1,e2,e3]:=Iv0 h2;exact#[C,a,λh X=>Hq0 X h1,e1,#[`aMb,e2,e3],L80 h3]
universe XC
namespace DL
open Spec PyProof.Rows L2
def La0(X:Cx)(C:`f)(body:`b5):Prop:=∃t,PSs X `d1 t/\∀(D:`fM) σ H e n,`aLT->`aLU->`aev->`wu ->
 `aLV
def Oo0{P:`ao}{w:`Q}{base:`D}{r f:`f}{qual:Str}{st:`a1}{fd:`e1}(T:`aMc)(hc:c∈cs)(ib:`aMd)
  (F:Fun K `dZ `eq st f fd) (S:`ai `j0 `j0 `jH) (hb:`aL2)
  (body:∀C,(`aL!)->ErrC K C r `c5->RootC K r->mg `jt=`ak3->∀cdv A outer s H E,La0 (qc0 CX0 P w K mg `l `j0 `eq `jH f cdv A `b2 s H E).nox C `pT):IniC P w K mg `l c r 1:=by
 let#[C,a,ri,ec,eg,rc]:=`aMe;refine #[C,f,fd,a,ri,F.ok (k:=0) S (λvs H Q E #[e,n,h,_]=>`aMf) λcdv A outer s H vs Q E hr hq141=>?_,hb];refine `e;let#[e,n,hv,hH,hn,q]:=hq141;let#[t,ht,go]:=`d1 C `aMb ec rc T.top.mg cdv A `b2 s H E;subst hv;refine `b;exact#[t,ht,go _ _ _ e n rfl rfl hH hn q]
def at_of{r f:`f}(T:`aMc)(hc:c∈cs)(ib:`aMd):`aeC := by
 let#[C,a,ri,ec,eg,rc]:=`aMe;exact#[C,a.ns,eg]
universe DL
namespace DL
open Spec PyProof.Rows L2
@[simp] def ny0:`T
 | [`b1]=>match `aMg with
  | [c]=>`a (`g (c:Nat))
  | _=>`d
 | _=>`d
open T in
def Sv0:FnR K `axr ny0:=by
 intro H B xs ds d Q hb r h k;unfold ny0 at h;split at h
 ·rename_i x
  split at h
  ·rename_i c hc
   cases h;let#[v,rfl,r1]:=`jj;rw[X5] at r1;subst r1;let#[#[l]]:=x;have:l=[c]:=hc;subst this;exact#[_,rfl,rfl,k _ H `dO (by rw[j6];rfl)]
  ·cases h
 ·cases h
universe DL
namespace L2
open Spec PyProof.Rows
theorem d90:∀{ys:`j} {us:`K},`aEi->∀(m:Nat) (y:Str),`Oi->∃t,us[m]?=`aCI
 | [],_,`X,m,y,h=>by cases h
 | `Oj,_,`mg,0,y,h=>by
  cases h;let#[tk,rfl]:=r;exact`aeD
 | `Oj,_,`mg,m+1,y,h=>by
  let#[tk,e]:=d90 t m y `hZ;exact`aMh
theorem ei0:∀ys:`j,(`TX).all un0=`c
 | []=>rfl
 | `CY=>by
  rw[`ab,`mu,ei0 ys];rfl
universe L2
namespace PySem.SeqAt
open PySem.AutoSeq1 (wpAny_loadPart')
open MeetsSeq MeetsSeq2 MeetsSeq3 SeqRoads2
def kn0{M:`e2}{A:`bT}{E:`aj}{s:`v}(f:Nat->β->Sem (ForInStep β))(I:`m->β->`eO)(Q:β->`eO)
  (turn:∀x rest b s,I (x::`a3) b s->`q M A (f x b) (λr s'=>match r with|.yield b'=>I `a3 b' s'|`sD b'=>Q b' s') E s)
  (fin:∀b s,I [] b s->Q b s) (lo hi:Nat) (b:β) (h:I `aMi b s):`q M A (`aMj) Q E s:=by
 have e:(`aMj:Sem β)=`tU `aMi b f:=`a4
 rw[e];exact A60 f I Q turn fin _ b h
theorem tuple_indexAt(l:`f)(items:`aJ)(n:Nat)(dd:`bm)(sl:`h6)(x:`G)(e:`auv)(j:Nat)(hj:j<`d3)
  (hit:e items[j]=`c) (hno:∀m (hm:m<`d3),m<j->e items[m]=`p) :
  Meets (Builtin.«tuple.index» #[[`pO,x],[]])
   (λA R s=>`ac2/\(∀y,y∈`ba->EqAt `bU s y x (e y))/\R (.ok (`eR (`g j `bf))) `jD) :=
 `Nv λprog w A R s h=>by
  refine `e;let#[hp,g,d,tk,os]:=s;let#[hl,he,h]:=h
  refine `b;wp_walk using B40 hl,kn0 _ (λrest b s'=>b.1=`d/\s'=#[hp,g,d,tk,os]/\∃i,i<=j/\`a3=`zy i (`d3 - i)) _
  case turn =>
   rintro y rest b s' ⟨hb,rfl,i,hi,hr⟩;have J:i<`d3:=`J
   have e1:`d3 - i=(`d3 - `es)+1:=`J
   rw[e1,`aeE] at hr;let#[rfl,rfl]:=T0 hr;have hy:`ba[y]?=`a items[y]:=by simp[J]
   rw[hy];refine A1 (he items[y] (Array.getElem_mem J) `k6 w _ _ ?_)
   by_cases hyj:y=j
   ·subst hyj
    rw[hit]
    wp_walk
    exact`Nw
   ·rw[hno y J `k]
    wp_walk
    exact#[rfl,rfl,y+1,`J,rfl]
  case fin =>
   rintro b s' ⟨hb,rfl,i,hi,hr⟩;have:=C8 `Ae hr;simp at this;lia
  case h =>
   exact#[rfl,rfl,0,`cN,`a4]
universe PySem.SeqAt
namespace L2
open Spec PyProof.Rows
def Gd0(K:`A):`ib:=λx vs H Q=>∃(p:`f) (ys:`j) (z:Str) (j:Nat),`L_/\vs=`F5/\SqT K H p `y4/\`aMk
def Lp0:MtR X "tuple.index" (Gd0 X.K):=by
 intro pins s σ H x vs v us Q I rx rv h;refine `e;let#[p,ys,z,j,rfl,rfl,hq,hj,U,q]:=h;cases rx;let#[u,rfl,ru]:=`Ma;let#[its,r,pl,hz]:=`kC;let#[o,h1,h2,n,h3]:=id pl;have Z:`nk=`er:=`aMl
 have a1:j<`er:=`aeF;have at_:∀m (hm:m<`hF),∃y t,`Oi/\`aMm=`u y t:=λm hm=>by
  have J:`Ok:=`aMn
  let#[t,e]:=d90 r m ys[m] (C4 J);refine`aMo;have:`aMp:=`aeG;rw[`E] at e;have e':=`oz
  simpa using e'
 let#[c0,dd,dt,sl]:=o;obtain rfl:c0=`eQ := h2;obtain rfl:dt=`RX:=h3;let#[t,rfl]:=ru;have O:∀(y:Str) (tk:Tok),`aMq=`c↔y=z:=λy tk=>by
  show (eqV `HH `zA)=`c↔_;simp[eqV]
 refine `b;refine L5 (T := `dk) `aMr (show `nh `dv `dk from `aMs) F.entry_tuple_index (F.args_tuple_index_2 _ _) (SeqAt.tuple_indexAt p `bv n dd sl (`u z t) (eqU `zA) j `tV ?_ ?_) #[h1,λy hy=>uq0 (x:=`jF) `Co rfl r (ei0 ys) y `aMt,`aMu]
 ·let#[y,tk,e1,e2]:=`aMv
  rw[e2,O];rw[hj] at e1;cases e1;rfl
 ·intro m hm Y
  let#[y,tk,e1,e2]:=at_ m hm;rw[e2];cases hb:`aMq with
  | false=>rfl
  | true=>exact `N `aMw (U m Y)
def ah0(K:`A)(mg:`a2)(x:Str)(ys:`j):Prop :=
 ∃(a:`f) (o:Obj) (its:`aJ) (n:Nat),mg x=`nx/\`Lj/\`KY/\`KZ/\`alz/\`Sl/\`bJ `y4 `Fr
universe L2
namespace DL
open Spec PyProof.Rows L2
def f60(ys:`j):`T
 | `F5=>`aMx
 | _=>`d
section
variable{a:`I}{ga gb:GE}{gA:GA}{ys:`j}
open T in
theorem Mo0(hK:`aMy)(ha:`CZ)(hg:`c!:=by rfl)(hd:`aQ:=by decide)
  (hbase:`fh `HM `Ol `w (`aMz)=`aMz:=by rfl)
  (hfew:(`o_
  &&`M')=`c:=by rfl)
  (hline:`fO:=by rfl) (hs:`fW:=by rfl) (hplain:`mB:=by rfl) :
  PD X (`aV (`cI `HM `Ol `eV) [e] [] `ca) (oA gA (f60 ys)):=.mk λB δ=>by
 let#[p,o,its,n,hm,hk,hc,J,O,Y,hv]:=hK;refine (rl0 F.plainAttrs_tuple `aMr F.type_tuple_index Lp0 `aMA `bs `e3 `ja `gr hs `kH).imp fun σ H Q hq142=>?_;let#[d,en,h,k]:=hq142
 unfold oA at h;cases e2:`cO with
 | none=>rw[e2] at h;cases h
 | some es =>
  rw[e2,`h] at h;unfold f60 at h;split at h
  ·rename_i z
   cases e4:`aMB with
   | none=>rw[e4] at h;cases h
   | some j =>
    rw[e4] at h;cases h;refine#[`s (`t #[rfl,o,hk,hc,J]),_,en,e2,`G2];rw[o8] at r2;let#[y,rr,rfl,r3,r4]:=r2;rw[m9] at r4;subst r4;rw[X5] at r3;subst r3;let#[hj,h1,h2]:=E50.mp e4;refine#[p,ys,z,j,rfl,rfl,`s #[o,its,n,hk,hc,O,Y,hv],?_,`aMC,k _ _ s2 `tt]
    ·rw[`aeH,`aeI h1]
    ·have U:`Ok:=`J
     rw[`iD U] at he;exact `aMD
  ·cases h
universe zz
universe DL
namespace DL
open Spec PyProof.Rows L2
def cpX(i j:Nat):GS:=fun δ=>match `jI with
 | `a (.ex c n)=>`a (.nx (`aX i (.ex c n)))
 | _=>`d
def exN(i:Nat):GE:=fun δ=>match `cb with
 | `a (.ex _ _)=>`vY
 | `a (`uR)=>`i5
 | _=>`d
section
variable{a0:`I}{gA:GA}{posg p pg:Pos}
open T in
theorem Lq0(i j:Nat)(hN:`ek)(hj:X.N[j]?=`dn:=by rfl)(hi:`kL:=by rfl)(hx:`ie:=by first|exact `aU|exact `fp)(hf:`ig:=by first|exact `bQ|exact `b?|assumption)
  (hv:`dB:=by first|exact `aU|exact `cD|exact `cE) (hd:`aQ:=by decide) (hcd:`dC:=by decide)
  {ap:Pos} (hs:`Sn `Om `nd ap.line `w=`ff:=by rfl) (hw:`So `Om `nd `w=`s_:=by rfl)
  (h1:(`lf `Om `w).map `eU=[`hx `Vu `w]:=by rfl) :
  PSD X (`hy `Om `nd ap) (cpX i j):=.mk λH₀ B₀ δ pins s σ H D I hq143=>by
 let#[r,en,e1,k]:=hq143
 unfold cpX at e1;split at e1
 ·rename_i c n hδ
  cases e1;let#[B,b1,b2,env]:=`aK;let#[o,ho,a,rfl,xc]:=`ny env.all hδ;refine i70 (R0 (i:=j) hj hv hd hcd) (`MS) hs hw h1 `i s σ H D I #[`bt,ho,?_];exact k _ H (en.setSl `Of λB' O=>by
   let#[o',J,a',e',U]:=`ny O.all hδ;rw[ho] at J;cases J;cases e';exact#[a,rfl,U])
 ·cases e1
open T in
theorem Lj0(i:Nat){j:Nat}{pc:Pos}(hi:`b0:=by rfl)
  (hv:`dB:=by first|exact `aU|exact `cD|exact `cE) (hd:`aQ:=by decide) (hcd:`dC:=by decide) :
  PTD X (`x8 `nd [.Is] [`iJ `af j pc] pos) (ob (exN i)):=.mk λB δ=>(k20 mh0 (R0 (i:=i) hi hv hd hcd) Uo0 (`v4)).imp fun σ H Q hq144=>by
 let#[t,en,h,k]:=hq144
 unfold ob exN at h;split at h
 ·rename_i c n hδ
  cases h;let#[o,ho,a,rfl,xc]:=`aeB;exact#[`bt,ho,rfl,`p,rfl,`MZ]
 ·rename_i hδ
  cases h;let#[o,ho,v,rfl,rv]:=`aeB;rw[V6] at rv;subst rv;exact#[`x,ho,rfl,`c,rfl,`MZ]
 ·cases h
universe zz
def Vn0(x y:D):`d5:=match y with
 | `x=>`a (.bl (match x with|`x=>`p|_=>`c))
 | _=>`d
def Ob0:Op2 K `axd Vn0:=by
 intro H B x y dx dy d Q hb rx ry h k;have hy:dy=`x:=by cases dy<;>first|rfl|cases h
 subst hy;cases h;rw[V6] at ry;refine`aEK;rw[Z9];cases dx<;>simp only[V6,Z9,j6,X5,U7,X6,q30,Vs0] at rx
 all_goals first
  | (subst rx;rfl)
  | (let#[a,xs,rfl,_]:=rx;rfl)
universe DL
namespace L2
open Spec PyProof.Rows
def Ni0(K:`A):R2:=λx y H Q=>∃a xs k,`c?/\y=`j_/\`lh/\`Cf/\`jo/\`C1/\`aME/\∀p,`d8->Q `dv (upd H p `aMF)
def Ka0:OpR X `Lw (Ni0 X.K):=by
 intro pins s σ H x y v u Q I rx ry h;refine `e;let#[a,xs,k,rfl,rfl,ha,hx,h2,h3,hz,q]:=h;cases rx;let#[t,rfl]:=ry;let#[its,r1,p1,_]:=`dt ha;let#[#[cls,dd,data,sl],ho,hc,n,hd]:=`ji;simp only at hc hd;subst hc hd;have hl:=`jO;have he:`Nx=`p:=by
  cases its with
  | nil=>exact `aG_
  | cons a b=>rfl
 have O:`ac6<=`Vf:=`aG0
 have J:(`aW (if `Nx=`c then 0 else `fu) `bv).foldl `nF ⟨⟩=`aG1:=by
  rw[he];have:=`aG2;rw[`gu] at this;exact `E
 have a1:¬(!`aMG)=`c:=by
  have:`aMG=`c:=by unfold Builtin.List.listFitsIndex;simp;lia
  rw[`E];decide
 have Y:¬`hF*`fu > `ND/8:=`J
 have Z:¬`L! (`ac6)=`c:=by
  rw[`bM] at O ⊢;unfold Builtin.List.listTooLong;simp;unfold sizeLine;lia
 refine `b;refine D40 (T := `eS) (U := `h!) `r `kG `aG3 noFill_list_mul `aG4 w8 repeat_list `aG5
  (L5 w8 `aG6 `aG7 `aG8 (lm_int_rmul_list_any k t a `bv n dd sl)
   #[ho,rfl,`kG,L5 F.slot_list_mul `kG F.entry_list_mul (F.args_list_mul_2 _ _) (lm_list_mul_any a `bv n dd sl k t a1 Y Z) `aG9])
 rw[J];exact#[`z _,_,I.lnew (t':=`bf) (`aG') (by rw[len_rep,`Df];unfold sizeLine;lia),rfl,`aEG]
universe L2
namespace DL
open Spec PyProof.Rows L2
def mulL:`bn
 | `c1,`j_=>if `Cf/\`jo/\`C1/\`aME then `a `aMF else `d
 | _,_=>`d
section
variable{a:`I}{ga gb:GE}
def Q60:Op2 K (Ni0 K) mulL:=by
 intro H B x y dx dy d Q hb rx ry h k;unfold mulL at h;split at h
 ·split at h
  ·refine `e;rename_i hz
   cases h;rw[X6] at rx;rw[j6] at ry;subst ry;let#[a,xs,rfl,q1,r1]:=rx;refine `b;refine#[a,xs,_,rfl,rfl,`wj,`aHI,`NI,hz.2.2.1,`aHJ,λp hp=>k _ _ `fr (om0 hb hp `aHK)];subst z;have hn:=`jO;simp at hn;exact `NH
  ·cases h
 ·cases h
theorem k70(ha:`cW)(hb:`dE):PD X `aHL (o2 ga gb mulL):=nl0 Ka0 Q60 ha hb
universe zz
structure But(p:`f)(H H':Hp):Prop where
 old:`aMH
 nf:∀b o xs,`Hd->`aAv
instance{p:`f}{H H':Hp}:`e5 (`tY) (λ_=>`aMH):=#[But.old]
section
variable{σ:St}{δ:Ds}
theorem Gr.but{p:`f}(hb:B p)(h:`tY):`aBZ:=λb u n e=>#[n,h b u (λz=>n (z▸hb)) e]
def Env.mutB(e:`a'){d:D}(hi:`Db)(hs:`jP)(hh:`On)(r:`aCn):`aMI:=by
 let#[a',h1,hb,_]:=`Nm;rw[hs] at h1;cases h1;refine`aF8
 ·have h0:`bS (λ(o':`dq) (s:Sl)=>SlR K H' B o' s∨`acK) σ δ:=`tG (λo' s h=>by
   cases s with
   | un=>exact `acL
   | ex c n=>let#[v,e,r]:=h;exact `aMJ
   | sh d=>let#[v,e,r]:=h;exact `aMJ
   | ow d =>
    let#[b,e,J,r]:=h
    by_cases z:b=a
    ·subst z;exact `acM
    ·exact `t #[b,e,J,`df (λo h=>hh b o z h) `ao4]) `hD
  have h1:=`aF';refine `aF!;rcases h with h|⟨d',rfl,rfl⟩
  ·exact h
  ·refine `e;rcases `Nn with⟨rfl,e3,_⟩|⟨O,e3⟩
   ·cases e3;refine `b;exact`Hb
   ·refine `b;exact `aF?
 ·by_cases z':b=a
  ·subst z';exact `rS
  ·cases q:H b with
   | none=>exact `N q (`acN)
   | some o=>exact(`acN).keep λo h=>hh b o z' h
 ·have q1:`aGa:=by
   refine `e;rcases `hh with⟨rfl,_,_⟩|⟨_,h⟩
   ·refine `b;exact`No
   ·refine `b;exact`Np
  have q2:`aGb:=by
   refine `e;rcases `kR with⟨rfl,_,_⟩|⟨_,h⟩
   ·refine `b;exact`No
   ·refine `b;exact`Np
  let#[d1,q1]:=q1;let#[d2,q2]:=q2;exact `aGc
def EnvS.mutB(en:`ck)(b1:`ly)(b2:`lz){d:D}(hi:`Db)(hs:`jP)(hh:`On)
  (env:`aMI):`cj K `O `L H' σ `qh:=by
 have h0:=`aGd;have J:i<`lT:=`Fj;refine`aGe
 ·have:`hJ:=λz=>by rw[z,h0] at h;cases h
  exact hh _ _ `E `aGf
 ·by_cases z:b=a
  ·let#[a',e1,_,ro]:=`aGg
   rw[hs] at e1;cases e1;rw[z] at h;exact `aGh
  ·exact `GS b ob xs (hh.nf b ob xs z h)
 ·refine `e;rcases `hh with⟨rfl,_,_⟩|⟨_,h⟩
  ·rw[hs] at h2;cases h2;refine `b;exact h0
  ·refine `b;exact `aGi
universe zz
universe DL
namespace L2
open Spec PyProof.Rows PySem.W
def Fj0(td ty tx:TE):TE:=fun σ H Q=>td σ H λx H1=>∃a,`c?/\IsD H1 a/\ty σ H1 λy H2=>tx σ H2 λz H3=>∃kvs k,H3 a=`S1/\y=kV k/\`C8 /\
 (∀v,`lC=`bL->Q v H3)/\(`aeJ->Q z (upd H3 a (.dK (`nG kvs k z))))
section
variable{f:`I}{tx:TE}
def G70{σ:St}{s:`v}{k:Key}{r:`G}{A:`bT}{E:`aj}{Q:`aj}(I:`C)(e:`C7)(ry:`aFB)(rv:`dp v r)(l:`C8)
  (h1:∀x,`lC=`dn->∀w' s',`yi->`dp x w'->Q w' s') (h2:`aeJ->∀s',Inv X `i σ (`acy) s'->Q r s') :
  `q `am A (`d_ (`bo "dict.setdefault") [`bt,u,r]) Q E s:=by
 let#[z,hd,vs,rel,dd]:=`aFL;have hz:`aFM:=`aFN
 have hv:=`T9;refine call_meetsIn E60 `G? PySem.F.entry_dict_setdefault (PySem.F.args_dict_setdefault_3 _ _ _) (kt_meets_setdefault (`aF0) a `C' hd r) #[vs,dd,hz,λw hw=>?_,λhn h' J hs=>?_]
 ·rw[hw] at hv
  cases e1:`lC with
  | none=>rw[e1] at hv;exact hv.elim
  | some x=>rw[e1] at hv;exact h1 x e1 _ _ `qe hv
 ·rw[hn] at hv
  have e1:`aeJ:=by
   cases e1:`lC with
   | none=>rfl
   | some x=>rw[e1] at hv;exact hv.elim
  have hl:`acD:=`acE
  have he:`acB:=`acF
  exact h2 e1 _ (`aFP)
def H00(ho:`Nk)(he:PE X e ty)(hf:PE X f tx)(m:M2 X o `Oo `eV e f `ca):PE X (`aV (`cI o `Oo `eV) `tE [] `ca) (Fj0 td ty tx):=by
 intro pins s σ H Q I h;refine wpAny_Call_method m.base m.few m.line PySem.F.plainAttrs_dict E60 PySem.F.type_dict_setdefault (thn `BU λu s1 hq145=>?_);refine `e;let#[x,H1,I1,rx,a,ex,d,q1]:=hq145;subst ex;cases (show `GW from rx);let#[t1,t2,_]:=Iz0 I1 d;refine `b;refine#[t1,t2,?_];rw[m.trees];refine B20 rfl (B30 (P8 (thn (he `i s1 σ H1 _ I1 q1) λiv s2 hq146=>?_)));let#[y,H2,I2,ry,q2]:=hq146;refine P8 (thn (hf `i s2 σ H2 _ I2 q2) λfv s3 hq147=>?_);refine `e;let#[z,H3,I3,rz,kvs,k,ea,ey,l,q3,q4]:=hq147;refine `b;refine b4 ?_;subst ey;exact G70 I3 ea ry rz l (λx ex w' s4 I4 r4=>#[x,H3,I4,r4,q3 x ex]) λen s4 I4=>#[z,_,I4,rz,q4 en]
universe zz
universe L2
namespace DL
open Spec PyProof.Rows L2
def jm0(i:Nat)(gk g:GE):GX:=fun δ=>`aE4 λpr=>`Op λdk=>`cB λd=>`aMK λq=>if `adG<`R then (if `NU=`c then (u30 pr.1 pr.2 q).map λr=>(r,δ) else `a (d,`adH)) else `d
section
variable{a f:`I}{ga gb g:GE}
open T in
theorem My0(hu:`kQ)(ha:`cW)(hb:`dE)(hm:`Fo `vC b=`p:=by first|rfl|with_unfolding_all rfl):PD X (`x8 a [`vC] [b] pos) (o2 ga gb (vr0 `c)):=.mk λB δ=>(I50 (Ro0 hu `bs `fU) hm).imp fun σ H Q hq148=>by
 let#[t,en,h,k]:=hq148
 unfold o2 at h;cases e1:`de with
 | none=>rw[e1] at h;cases h
 | some x =>
  cases e2:`et with
  | none=>rw[e1,e2] at h;cases h
  | some y =>
   rw[e1,e2] at h;simp only[`h] at h;refine`v3;cases y<;>simp only[vr0] at h<;>try cases h
   rename_i ks ds;cases ks with
   | inl ks =>
    simp only at h;cases e3:xg0 x with
    | none=>rw[e3] at h;cases h
    | some q =>
     rw[e3] at h;simp only[`id,`NG] at h;cases h;rw[ir0] at r2;let#[p,xs,rfl,_,hp,hl,rr]:=r2;have:=pm0 e3 r1;subst this;refine#[p,_,rfl,`adE,?_];rw[`NT];exact `aML
   | inr ks =>
    simp only at h;cases e3:qx0 x with
    | none=>rw[e3] at h;cases h
    | some q =>
     rw[e3] at h;simp only[`id,`NG] at h;cases h;rw[f70] at r2;let#[p,xs,rfl,_,hp,hl,rr]:=r2;let#[b,rfl,hb]:=`aIs;refine#[p,_,rfl,`adF,?_];rw[`NT];exact `aML
theorem Jj0(i:Nat)(h0:PD X e g0)(h:PD X f g)(hN:`b0:=by rfl)(hv:`dB:=by first|exact `aU|exact `cD|exact `cE)(hd:`aQ:=by decide)(hcd:`dC:=by decide)
  (hbase:`fh `ez `Oo `w `tI=`tH:=by rfl)
  (hfew:(`aF1
  &&`aF2)=`c:=by rfl)
  (hline:`fO:=by rfl) (htrees:`aF3:=by rfl) :
  PX X (`aV (`cI `ez `Oo `eV) `tE [] `ca) (jm0 i g0 g):=.mk λH₀ B₀ δ pins s σ H Q I hq149=>by
 refine `e;let#[r,en,e1,k]:=hq149
 unfold jm0 at e1;let#[B,b1,b2,env]:=`aK;cases e2:`G5 with
 | none=>rw[e2] at e1;cases e1
 | some pr =>
  cases e4:g0 δ with
  | none=>rw[e2,e4] at e1;cases e1
  | some dk =>
   cases e3:`av with
   | none=>rw[e2,e4,e3] at e1;cases e1
   | some d =>
    cases e5:`HQ with
    | none=>rw[e2,e4,e3] at e1;simp only[`h] at e1;rw[e5] at e1;cases e1
    | some q =>
     rw[e2,e4,e3] at e1;simp only[`h] at e1;rw[e5] at e1;simp only[`h] at e1;split at e1
     ·rename_i hz
      have hi:=Xt0 e2;let#[p,U,hb,xs,hx,hl,rx]:=`ij;have hl:`adG=`ay:=hl;refine `b;refine H00 `lH (h0 B δ) `c6 #[`e3,`ja,`gr,htrees] `i s σ H Q I #[_,U,p,rfl,`t #[_,`t hx],dk,env,e4,λiv H1 s1 r1=>#[d,`jV,e3,λfv H2 s2 r2=>?_]];have:=pm0 e5 r1;subst this;have J:=`nB;refine#[_,q,J _ _ hx,rfl,`an',λv Z=>?_,λhn=>?_]
      ·refine `e;have hk:`NU=`c:=by
        rw[← `aMM,Z];rfl
       rw[`B5] at e1;let#[w,hw,e1]:=u7.mp e1;cases e1;let#[v',Y,rv]:=(wf0 rx).1 w hw;rw[Z] at Y;cases Y;refine `b;exact k v H2 (`gS (`tv J) b1 b2 (`iC J) (`nL J))
      ·have hk:`NU=`p:=by
        rw[← `aMM,hn];rfl
       rw[hk,`jm] at e1;cases e1;let#[ys,hy,a2,a3,a1]:=fa0 (q:=q) (v:=fv) hl;have rr:Rps X.K H2 B `UA ys:=by
        unfold xr0;rw[hk,`jm,a1 hk];exact `qm (`Uj J) r2
       rw[hy];have O:Env X.K (upd H2 p `aIB) B σ (`adH):=(`iC J).mut hi U #[ys,m8,a2,rr.mono `lF];exact k _ _ (`gS (`zd J b1 b2 hi U O) b1 b2 O (r2.mono `lF))
     ·cases e1
universe zz
universe DL
namespace L2
open Spec PyProof.Rows PySem.W
def p50:`fl X `aaD `aMN:=by
 intro pins s σ H xs us Q I r h;refine `e;let#[p,kvs,rfl,hq,q]:=h;let#[u,rfl,rx]:=`oF;cases rx;have hn:=py0;let#[z,hd,vs,rel,dd]:=b00 `bg hq;have hl:=`any;refine `b;exact call_len_dict hd dd `k #[`g `jv,H,`f9,#[`sE,by rw[hl]],q]
universe L2
namespace DL
open Spec PyProof.Rows L2
def xt0:`T
 | [`cQ `Gx _]=>`a (`g `gN)
 | _=>`d
def lv0:FnR K `aMN xt0:=by
 intro H B xs ds d Q hb r h k;unfold xt0 at h;split at h
 ·refine `e;cases h
  let#[v,rfl,r1]:=`jj;rw[ir0] at r1;let#[p,ys,rfl,_,hp,hl,rr]:=r1;refine `b;refine#[p,_,rfl,hp,`GY];rw[j6,`gT,← hl,`ql]
 ·cases h
universe DL
namespace L2
open Spec PyProof.Rows ZipL DL
section
variable{s:`v}
def Inv.laidM{l:`r1}{t':Nat}(I:`C)(k:`Le)
  (hl:∀p∈l,`aJV/\∃xs,(`aJW)∨(p.2=`c1/\`cG `aR X.w H h' p.1 `m9)):`aJX:=by
 have J:`aJY:=λb hb=>q90 λp hp z=>by
  have:=(`N7).1;rw[z] at this;exact `aJZ
 refine `kz #[`Zw,`Zx,`aJ_,`Zy,`aJ0,
  `aJ1,`aJ2] `Ld
 refine `e;rcases p40 e with⟨p,hp,rfl,rfl⟩|e'
 ·obtain⟨_,xs,⟨ex,ok⟩|⟨ex,ok⟩⟩:=`N7
  ·refine `b;rw[ex]
   exact ok
  ·refine `b;rw[ex]
   exact ok
 ·refine `b;exact`aJ3
universe zz
universe L2
namespace DL
open Spec PyProof.Rows L2
def aj0:`aw->`M
 | []=>`c
 | p::K=>(match p.2.cls with
  | `a! n=>!(n == `eS)
  | _=>`c)&&aj0 K
theorem Xb0:∀{K:`aw} {a:`f} {o:Obj},`aeK->`Lj->`k9≠`en
 | [],_,_,_,h=>nomatch h
 | (b,u)::K,a,o,h,e=>by
  unfold aj0 at h;rw[`aI] at h;rw[`gs] at e;split at e
  ·cases e
   intro z;rw[z] at h;exact `N h.1 `r
  ·exact Xb0 h.2 e
def script_at(hK:`aeK)(h:`lh):SqL' K H `ww a xs:=by
 refine `e;rcases h with h|⟨o,its,n,e,c,_⟩
 ·refine `b;exact `t #[`xY,h]
 ·refine `b;exact `N c (Xb0 hK e)
theorem Op0{l:`aa1}{n k:Nat}{q:`ao}{loose:`j}{XP:`Bm}{YP:`Bn}{d:DefRec}{K:`aAp}{CX:CXT}{sp:`A->Sp}{x:Str}
  (hn:`Mb) (hn2:`vT) (hdf:`aaU) (hr:`aaX) (hY:`aAq)
  (F:∀(w:`Q) (mg:`a2) (fa:`f) (h:`D),`yE h->`Bp->`aaV ->
   ∃fd:`e1,(`aaY)/\∀base:`D,`yE `l->`BE->`W `ak w `tf mg `l CX k fa fd [x] (sp `tf))
  (hsp:∀(w:`Q) (H:Hp) (a:`f) (ns:`_),`Cn->`aAr->sp `tf `d4 H `Mc `pR)
  (hCX:∀(H:Hp) (s:`v) (e:`G) (s':`v),CX [] H s `vU e s'->`b'):`aAs :=
 Lr0 (K:=K) (CX:=λ_=>CX) (sp:=λw=>sp `tf) hn hn2 hdf hr hY F (λw H a ns h1 _ h3=>hsp w H a ns h1 h3) λ_ H s e s'=>hCX H s e s'
universe DL
namespace L2
open Spec PyProof.Rows
def SubO.ho:`dI->HO
 | `c1=>`c1
 | `yy=>`yy
 | `lk=>`lk
def SubO.no_own(o:`dI)(x:`f):o.ho≠`f1 x:=by cases o<;>exact λz=>nomatch z
def SubO.no_tup(o:`dI)(xs:`S):o.ho≠`eT:=by cases o<;>exact λz=>nomatch z
def SubO.no_frz(o:`dI)(ob:Obj)(u:HO):o.ho≠`R2:=by cases o<;>exact λz=>nomatch z
def SubO.no_tbl(o:`dI)(ps:`aJ):o.ho≠`R5:=by cases o<;>exact λz=>nomatch z
theorem wk0:∀{l:`mh} {k:`f} {v:`dI},l.lookup k=`bL->`FK∈l
 | [],_,_,h=>by cases h
 | (k',v')::l,k,v,h=>by
  rw[`gs] at h;cases q:k==k' with
  | true =>
   rw[q] at h;cases h;rw[`vP q];exact B0
  | false =>
   rw[q] at h;exact A7 _ (wk0 h)
def opened(H:Hp)(sub:`mh):Hp:=λb=>match `j1 with
 | `ap=>`a o.ho
 | `d=>H b
def closed(H:Hp)(a:`f)(sub:`mh):Hp:=λb=>if b=a then `Dt else match `j1 with
 | `a _=>`k'
 | `d=>H b
section
variable{P:`ao}{w:`Q}{h:`D}{sub:`mh}
theorem HOk.opened(x:`fL)(ha:H a=`Dt)(hin:`Oq)(hdx:`aMO):HOk P w (L2.opened H sub) h:=λb u e=>by
 refine `e;obtain⟨_,all⟩:(`K0)/\∀p∈sub,`auQ:=x a _ ha;unfold L2.opened at e;cases l:`j1 with
 | some o =>
  rw[l] at e;have e:=`oz;subst e;have m:=wk0 l;let#[_,q]:=all _ m;cases o with
  | lst xs=>refine `b;exact q
  | dK kvs=>refine `b;exact q
  | ins C dx fs =>
   let#[rfl,d,z,ne,e,r]:=q;refine `b;refine#[?_,z,ne,e,r];unfold L2.opened;rw[hdx _ C dx fs m];exact d
 | none =>
  rw[l] at e;have J:`hJ:=λz=>by rw[z] at l;rw[l] at hin;cases hin
  refine `b;refine`Zl (`m5) (λc q=>?_) (λc xs q=>?_) λc ob u' q=>?_
  ·unfold L2.opened
   cases lc:`r3 with
   | none=>exact q
   | some o =>
    rcases `aeL with z|z
    ·have z:c=a:=z
     rw[z,ha] at q;cases q
    ·have z:`aeM:=z
     rw[z] at q;cases q;exact `N rfl J
  ·unfold L2.opened
   cases lc:`r3 with
   | none=>exact q
   | some o =>
    rcases `aeL with z|z
    ·have z:c=a:=z
     rw[z,ha] at q;cases q
    ·have z:`aeM:=z
     rw[z] at q;cases q
  ·unfold L2.opened
   cases lc:`r3 with
   | none=>exact q
   | some o =>
    rcases `aeL with z|z
    ·have z:c=a:=z
     rw[z,ha] at q;cases q
    ·have z:`aeM:=z
     rw[z] at q;cases q
def SubO.there{b:`f}(o:`dI)(x:`cG P w H h b o.ho):∃ob,`pt=`K3:=by
 refine `e;cases o with
 | lst xs=>let#[_,_,_,_,e]:=x;refine `b;exact`aeN
 | dK kvs=>let#[_,_,_,_,_,_,_,e,_]:=x;refine `b;exact`aeN
 | ins C dx fs=>let#[_,_,_,e,_]:=x;refine `b;exact`aeN
theorem HOk.closed(x:`fL)(ha:`Oq)(hs:∀p∈sub,`sP=`a p.2.ho)(hi:∀p∈sub,`aMP):HOk P w (`HS H a sub) h:=λb u e=>by
 have J:∀{c:`f} {o:`dI},`r3=`ap->H c=`a o.ho:=λl=>hs _ `Vi
 have own:∀c y,H c=`Zp->`aeO=`Zp:=λc y q=>by
  unfold L2.closed;have hc:c≠a:=λz=>by
   cases l:`tW with
   | none=>rw[l] at ha;cases ha
   | some o=>rw[z,J l] at q;exact `aMQ o y `wx
  rw[`Ct];cases l:`r3 with
  | none=>exact q
  | some o=>rw[J l] at q;exact `N `wx (`aMQ o y)
 have tup:∀c xs,H c=`hr->`aeO=`hr:=λc xs q=>by
  unfold L2.closed;have hc:c≠a:=λz=>by
   cases l:`tW with
   | none=>rw[l] at ha;cases ha
   | some o=>rw[z,J l] at q;exact `aeP o xs `wx
  rw[`Ct];cases l:`r3 with
  | none=>exact q
  | some o=>rw[J l] at q;exact `N `wx (`aeP o xs)
 have frz:∀c ob u',H c=`Zr->`aeO=`Zr:=λc ob u' q=>by
  unfold L2.closed;have hc:c≠a:=λz=>by
   cases l:`tW with
   | none=>rw[l] at ha;cases ha
   | some o=>rw[z,J l] at q;exact `aMR o ob u' `wx
  rw[`Ct];cases l:`r3 with
  | none=>exact q
  | some o=>rw[J l] at q;exact `N `wx (`aMR o ob u')
 by_cases hb:b=a
 ·subst hb
  have e:`HS H b sub b=`a?:=e;unfold L2.closed at e;rw[`bc] at e;have e:=`oz;subst e;refine#[?_,λp hp=>`Mm]
  ·cases l:`j1 with
   | none=>rw[l] at ha;cases ha
   | some o=>exact `aMS
  ·by_cases z:p.1=b
   ·exact `gc
   ·refine `s ?_
    unfold L2.closed;rw[`mz];cases l:`zB p.1 with
    | none =>
     exact `N l (by
      intro l;rw[List.lookup_eq_none_iff] at l;have:=l p hp;simp at this)
    | some o=>rfl
  ·refine `e;have q:=x p.1 _ (hs p hp)
   let#[pa,po]:=p;cases po with
   | lst xs=>refine `b;exact q
   | dK kvs=>refine `b;exact q
   | ins C dx fs =>
    have O:pa=b:=hi _ hp C dx fs rfl;subst O;let#[d,z,ne,e,r]:=q;refine `b;exact#[rfl,own _ _ d,z,ne,e,r]
 ·have e:`aMT=`a?:=e
  unfold L2.closed at e;rw[`ic] at e;cases l:`j1 with
  | some o =>
   rw[l] at e;have e:=`oz;subst e;exact `aMS
  | none =>
   rw[l] at e;exact`Zl (`m5) (λc q=>own c b q) (λc xs q=>tup c xs q) λc ob u' q=>frz c ob u' q
universe zz
section
variable{σ:St}{s:`v}
theorem Inv.view(I:`C)(no:`aLL)(tp:`K1)(fz:`Zu)(tb:∀b ps,H b=`R6->`f2=`R6)
  (hok:HOk `aR X.w H' `ar):`aLK :=
 #[`lK,`fw,`d!,#[`x_,`x1,`aLM,`x2,λb xs e=>tp b xs `HC,λb o u e=>fz b o u `U5,λb ps e=>let #[m,q]:=`BK;#[m,tb _ _ q]],
  `dr,`fe,`aLN,`aLO,λp hp=>let #[e,n,r]:=`kx;#[e,no _ n,r],hok,`c0]
universe zz
structure OpenOk(H:Hp)(a:`f)(sub:`mh):Prop where
 at':H a=`Dt
 root:`Oq
 dx:`aMO
structure CloseOk(H:Hp)(a:`f)(sub:`mh):Prop where
 root:`Oq
 at':∀p∈sub,`sP=`a p.2.ho
 ins:∀p∈sub,`aMP
section
variable{σ:St}{s:`v}{sub:`mh}
def Inv.opened(I:`C)(o:`aMU):Inv X `i σ `aMV s:=by
 obtain⟨_,all⟩:(`Ob)/\∀p∈sub,`aeQ:=`bg a _ o.at';have no:∀{b:`f} {so:`dI},`j1=`tX->H b=`Dt∨`E!:=λ{b so} l=>by
  rcases (all _ `Vi).1 with z|z
  ·have z:b=a:=z
   rw[z];exact `t o.at'
  ·exact `s z
 have other:∀b u,H b=u->u≠`Dt->u≠`k'->L2.opened H sub b=u:=λb u q n1 n2=>by
  unfold L2.opened;cases l:`j1 with
  | none=>exact q
  | some so =>
   rcases no l with z|z
   ·exact `N (`Vh z) n1
   ·exact `N (`Vh z) n2
 exact I.view (λb q=>`Or) (λb xs q=>`Or) (λb o u q=>`Or) (λb ps q=>`Or) (I.hok.opened o.at' o.root o.dx)
def Inv.closed(I:`C)(c:`mG):Inv X `i σ `mH s:=by
 have other:∀b u,H b=u->(`aMW)->`aMT=u:=λb u q n=>by
  have nl:`aMX:=`aMY
  unfold L2.closed;have hb:`hJ:=λz=>by
   cases l:`tW with
   | none=>have:=`Os;rw[l] at this;cases `E
   | some so=>exact `aMZ
  rw[`ic];cases l:`j1 with
  | none=>exact q
  | some so=>exact `aM_
 exact I.view (λb q=>`zC b _ q λso z=>nomatch z) (λb xs q=>`zC b _ q `aM0) (λb o u q=>`zC b _ q `aM1) (λb ps q=>`zC b _ q `aM2) (I.hok.closed `Os c.at' c.ins)
universe zz
def Ends.closing(a:`f)(D:`fM):`fM where
 nx:=fun σ H=>∃sub,`mG/\`gG σ `mH
 bk:=fun σ H=>∃sub,`mG/\D.bk σ `mH
 ct:=fun σ H=>∃sub,`mG/\D.ct σ `mH
 rt:=λv H=>∃sub,`mG/\D.rt v `mH
section
variable{st:`b5}{t:TS}
def SP.closing{D:`fM}{f:Flow}(h:SP X `i `aM3 f s'):`av!:=by
 refine `e;cases f with
 | next=>let#[σ',H',I,sub,c,k]:=h;refine `b;exact`aeR
 | brk=>let#[σ',H',I,sub,c,k]:=h;refine `b;exact`aeR
 | cont=>let#[σ',H',I,sub,c,k]:=h;refine `b;exact`aeR
 | ret u=>let#[v,σ',H',I,r,sub,c,k]:=h;refine `b;exact#[v,σ',_,`HV,r,k]
theorem jw0(h:`gp):PE X e (fun σ H Q=>∃a sub,`mG/\te σ `mH λv H'=>∃sub',`HT H' a sub'/\Q v (`hL H' sub')):=λpins s σ H Q I #[a,sub,c,q] =>
 thn (h `i s σ _ _ (`HV) q) λu s' #[v,H',I',r,sub',o,k]=>`apb
universe zz
universe L2
namespace DL
open Spec PyProof.Rows L2
def z9(p:`f)(b:D):D:=`y [`g `qT,b]
def vd0{p:`f}{b:D}:RpL K H B (z9 p b) a↔a=p/\`aM4:=by
 constructor
 ·rintro (⟨d',e,h⟩|⟨ks,vs,e,_⟩|⟨x,ns,e,_⟩)
  ·cases e
   exact#[rfl,h]
  ·cases e
  ·cases e
 ·rintro⟨rfl,h⟩
  exact `t #[b,rfl,h]
theorem RpG.less{d:D}(l:`v0)(h:`mw):RpG K H B' d a:=`acJ (λ_ e=>e) (`iG l) h
inductive ResB where
 | nx (δ:Ds)|rt (d:D) (δ:Ds)
abbrev GSB:=Ds->`mI
def Np0(K:`A)(H₀:Hp)(B₀:BS)(D:`fM):ResB->Prop
 | `Gs=>`aCV
 | .rt d δ=>∀v σ H,`De->D.rt v H
variable{Ga Gb:DL.GSB}
def tDB(K:`A)(H₀:Hp)(B₀:BS)(δ:Ds)(G:GSB):TS:=λD σ H=>∃r,`ck/\`MR/\Np0 K `O `L D r
structure PSB(X:Cx)(st:`a1)(G:GSB):Prop where
 mk::go:∀H₀ B₀ δ,PS X st `aM5
structure PSsB(X:Cx)(st:`b5)(G:GSB):Prop where
 mk::go:∀H₀ B₀ δ,PSs X st `aM5
def j9(G:GS):GSB:=fun δ=>match `jQ with
 | `d6=>`d6
 | _=>`d
def nilB:GSB:=`aBy
def o5(G1 G2:GSB):GSB:=fun δ=>match `fo with
 | `d6=>`oP
 | r=>r
def V3(gx:GX):GSB:=fun δ=>`wb λr=>.rt r.1 r.2
def ifB(gt:GB)(Ga Gb:GSB):GSB:=`aBz
section
variable{c:`I}{st:`a1}{as bs:`b5}{G1 G2:GSB}{gt:GB}
open T in
theorem b7(h:`abT):PSB X st (j9 G):=.mk λH₀ B₀ δ pins s σ H D I hq150=>by
 let#[r,en,e,k]:=hq150
 unfold j9 at e;split at e
 ·rename_i δ' e1
  cases e;exact `Ot
 ·cases e
theorem o4:`j2 X [] `H:=.mk λH₀ B₀ δ pins s σ H D I hq151=>by
 let#[r,en,e,k]:=hq151
 cases e;exact `MT
theorem v9(h1:PSB X st G1)(h2:`j2 X `a3 G2):`j2 X `BT (o5 G1 G2):=.mk λH₀ B₀ δ pins s σ H D I hq152=>by
 refine `e;let#[r,en,e,k]:=hq152
 unfold o5 at e;cases e1:`fo with
 | none=>rw[e1] at e;cases e
 | some r1 =>
  rw[e1] at e;cases r1 with
  | nx δ'=>refine `b;exact `aex
  | rt d δ'=>cases e;refine `b;exact `o5
theorem c7(h:`mE):PSB X `rE (V3 gx):=.mk λH₀ B₀ δ pins s σ H D I hq153=>by
 let#[r,en,e1,k]:=hq153
 unfold V3 at e1;cases e2:`ey with
 | none=>rw[e2] at e1;cases e1
 | some q =>
  rw[e2] at e1;cases e1;exact o50 `ik `i s σ H D I #[q,en,e2,λv H' ev=>k v σ H' ev]
theorem S9(hc:`MV)(ha:`aM6)(hb:`aM7):PSB X `CU (ifB gt Ga Gb):=.mk λH₀ B₀ δ pins s σ H D I hq154=>by
 refine `e;let#[r,en,e1,k]:=hq154
 unfold ifB at e1;let#[B,b1,b2,env]:=`aK;cases e2:`eu with
 | none=>rw[e2] at e1;cases e1
 | some t =>
  rw[e2] at e1;refine `b;refine ig0 (hc B δ) `r4 `aM8 `i s σ H D I `aC5;cases t with
  | true=>exact`MW
  | false=>exact`MW
universe zz
def spB(K:`A)(j:Nat)(f:`aF):Sp:=λvs H Q _=>∃(B:BS) (ds:`n) (us:`S) (p:`f) (b b' r:D),`oU/\B p/\vs=`Vp/\`wy/\`aM9/\`aM'/\`aeS /\
 ∀v H',`tY->`aeT->Rp K H' B r v->`m6
structure FnB(P:`ao)(w:`Q)(K:`A)(mg:`a2)(base:`D)(x:Str)(k:Nat)(ps:`j)(j:Nat)(f:`aF):Prop where
 ex:∃fa fd,`W P w K mg `l CX0 k fa fd ps `aM!/\`acg
@[simp] def Q5(N:`j)(j:Nat)(p:`f)(b:D)(ds:`n):Ds:=`aM? .sh++.ow (z9 p b)::(`aNa .sh++`aW (`Cb - (`HZ)) .un)
def uy0{p:`f}{b:D}{d:D}(hj:`wy)(h:`lL[i]?=`qg):i=j/\d=z9 p b:=by
 unfold Q5 at h;have hl:(`aM? `l!).length=j:=`aNb
 have J:∀(l:`n) (i:Nat),(`dx `l!)[i]?≠`qg:=λl i z=>by
  rw[`cp] at z;cases q:`GD with
  | none=>rw[q] at z;cases z
  | some x=>rw[q] at z;cases z
 by_cases hi:i<j
 ·rw[`ga (by rw[hl];exact hi)] at h
  exact `aNc
 ·rw[`s9 (by rw[hl];lia),hl] at h
  cases q:i - j with
  | zero=>rw[q] at h;cases h;exact#[`J,rfl]
  | succ n =>
   rw[q,`aNd] at h
   by_cases hn:n<(`aNa `l!).length
   ·rw[`ga hn] at h
    exact `aNc
   ·rw[`Ou,`rI] at h
    split at h<;>cases h
def EndB(G:GSB)(δ:Ds)(j:Nat)(p:`f)(r b':D):Prop:=(∃δ',`jQ=`a `aeU/\`r5)∨(r=`x/\∃δ',`aeV/\`r5)
section
variable{P:`ao}{w:`Q}
def okB{st:`a1}{k j:Nat}{f:`aF}{G:GSB}(F:`M4)(S:`Cq)
  (body:∀(cdv:`G) (A:`bT) (outer:`TT) (s:`v) (H:Hp) (E:XK),`TU->`j2 `anj `pT G)
  (hf:∀b ds r b',`aeS->`HZ=`aD/\`aeW) :
  `W P w K mg `l CX0 `f! fa fd ps `aM!:=by
 refine F.ok S (λvs H Q E #[B,ds,us,p,b,b',r,_,_,hv,_,hr,_,h,_]=>?_) (λcdv A outer s H vs Q E hr #[B,ds,us,p,b,b',r,hb,hp,hv,hj,rs,ro,h,q]=>?_)
 ·rw[hv,`Z,`Y,`dg,`g9,hr.length]
  have:=(`aNe).1;lia
 ·subst hv
  refine`aNf;have sm:`aNg:=#[λb o e=>by
   by_cases z:b=p
   ·simp only[z,`eY] at e;cases e
   ·simp only[z,`cS] at e;exact e,λb o xs e=>by
   by_cases z:b=p
   ·exfalso
    rw[z] at e;exact `aNh
   ·simp only[z,`cS];exact e]
  have sb:`aNi:=`aNj
  have U:`aNk:=`aNl
  have en:`aNm:=by
   refine#[sm,#[B,`aeX,`gQ,#[?_,hb,λi j a Y es h1 h2 _ _=>?_]],λi Y a h1 h2=>?_,`gQ]
   ·by_cases q:a=p
    ·exact `aNn
    ·exact `Nr
   ·unfold L2.start Q5
    rw[`aZ,`ab,`bB,`e7,`Z,`Y,`dg,`g9,`GN];refine `aNo;rw[`aNp];exact pz0 _
   ·rw[(`Ov).1,`aNq]
   ·let#[rfl,_]:=`Ov
    have:`aNr:=by
     unfold L2.start;rw[`aZ,`bB,`aNs,`P,U,`kS];rfl
    rw[`E] at h2;cases h2;simp only[`eY]
   ·simp only[z.2,`cS]
    exact hb a z.1
  rcases (`aNe).2 p with⟨δ',e,e'⟩|⟨rn,δ',e,e'⟩
  ·refine`aNt
   let#[B',c1,c2,J,rv]:=`gv;let#[a,h1,hB,rl]:=`Du;let#[rfl,O]:=`Dv;have less:`Dw:=λx z=>by
    by_cases q:x=a
    ·rw[q];exact hB
    ·exact `wz
   exact `aNu
  ·refine`aNv
   let#[B',c1,c2,J]:=en'.ex;let#[a,h1,hB,rl]:=`Du;let#[rfl,O]:=`Dv;have less:`Dw:=λx z=>by
    by_cases q:x=a
    ·rw[q];exact hB
    ·exact `wz
   exact `aNw
universe zz
def mkB(n:Nat)(N:`j)(j:Nat)(G:GSB)(b:D)(ds:`n):`Vk:=(by classical exact if h:`kT/\`aNx then `aNy else none)
def O6{G:GSB}{b:D}{r:D}(h:`aeY):`kT/\`aeW:=by
 unfold mkB at h;split at h
 ·rename_i hh
  have e:=`nM;have:=x8 hh.2;rw[e] at this;exact`aNz
 ·cases h
def EndB.one{G:GSB}{δ:Ds}{p:`f}{r b r':D}(h:EndB G δ j p r b)(h':EndB G δ j p r' b'):r=r'/\b=b':=by
 have lb:∀{δ1:Ds},δ1[j]?=`aeZ->δ1[j]?=`Vo->b=b':=λe1 e2=>by
  rw[e1] at e2;have e8:=A4 e2;injection e8 with e9
  unfold z9 at e9;injection e9 with e10
  exact`aNA
 rcases h with⟨δ1,e1,e2⟩|⟨rn,δ1,e1,e2⟩<;>rcases h' with⟨δ2,e3,e4⟩|⟨J,δ2,e3,e4⟩<;>rw[e1] at e3
 ·have e5:=`Dx
  injection e5 with e6 e7
  subst e7;exact#[e6,lb e2 e4]
 ·cases e3
 ·cases e3
 ·have e5:=`Dx
  injection e5 with e7
  subst e7;exact#[rn.trans J.symm,lb e2 e4]
def it0{G:GSB}{b:D}{r:D}(hl:`kT)(h:`aeW):`aeY:=by
 have hh:`kT/\`aNx:=#[hl,(r,b'),h];unfold mkB;rw[`aNB];let#[e1,e2]:=`aNC;exact C8 `a (Prod.ext e1 e2)
def y60:`Ms->`aL (D×(`kM))
 | `aND=>`a (`Vt,`Ow)
 | `a (.ow (`Ah))=>`a (`Ah,`Ow)
 | `a `aNE=>`a (`zE,`Ow)
 | `a (.ow (`y [`Dy,b]))=>`a (b,λd=>`y [`Dy,d])
 | _=>`d
open T in
def w50{s:`Ms}{bm:D×(`kM)}(h:y60 s=`a bm):∃d0,s=`anE/\∀(K:`A) (H:Hp) (B:BS) (a:`f),RpL K H B d0 a->RpG K H B `gw a/\∀(H':Hp) (B':BS) (b':D),RpG K H' B' b' a->RpL K H' B' (bm.2 b') a:=by
 unfold y60 at h;split at h
 ·cases h
  exact`aNF
 ·cases h
  exact`aNF
 ·rename_i x ns
  cases h;refine#[_,rfl,λK H B a r=>#[?_,`ao']];rcases r with⟨d',e,h⟩|⟨ks,vs,e,_⟩|h
  ·cases e
  ·cases e
  ·exact h
 ·rename_i p b
  cases h;refine#[_,rfl,λK H B a r=>?_];rcases r with⟨d',e,h⟩|⟨ks,vs,e,_⟩|⟨x,ns,e,_⟩
  ·cases e
   exact#[h,λH' B' b' r'=>`t #[b',rfl,r']]
  ·cases e
  ·cases e
 ·cases h
def T6(i:Nat)(gA:GA)(f:`aF):GX:=fun δ=>`r6 λb=>`aNG
structure PAB(X:Cx)(i j:Nat)(es:`bA)(gA:GA):Prop where
 mk::go:∀B δ,PA X es (fun σ H Q=>∃ds a,`T1/\`kN/\`jP/\∀vs H',`bb->Rps X.K H' B ds vs->`wy->Q `aNH H')
section
variable{g:GE}{gA:GA}{p:Pos}
theorem pab(i:Nat)(ha:`v5)(hN:`kL:=by rfl)(hv:`wA:=by first|exact `aU|exact `cD|exact `cE)(hd:`rR:=by decide)(hcd:`wB:=by decide)
  (hs:`b! (`HN::es) `w=(`p,`Dz)::`sZ:=by rfl):PAB X i 0 (`HN::es) gA:=.mk λB δ=>(R8 `lH `bs hs).imp fun σ H Q hq155=>by
 let#[ds,a,en,h,hi,k]:=hq155
 exact#[_,hi,ds,en,h,λvs H' s r=>k vs H' s r `rN]
theorem xl0(i:Nat){k m:Nat}{f:`aF}(C:FnB `aR X.w X.K `bz `cH x k ps j f)(hj:∀b ds q,`qu=`qf->`wy)(hr:`wa)(hk:k<=m)(ha:PAB X i j `gK gA)
  (hg:`c!:=by rfl) (hdb:`aQ:=by decide) (he:`eH:=by rfl) (hpl:`hf:=by rfl) :
  PX X `yo (T6 i gA f):=.mk λH₀ B₀ δ pins s σ H Q I hq156=>by
 refine `e;let#[r,en,e1,kk]:=hq156
 unfold T6 at e1;let#[B,b1,b2,env]:=`aK;let#[fa,fd,F,hm,Z,hb]:=C.ex;cases eb:`gh with
 | none=>rw[eb] at e1;cases e1
 | some bm =>
 rw[eb,`h] at e1;let#[d0,hi,Y]:=`mJ;cases e2:`cO with
 | none=>rw[e2] at e1;cases e1
 | some ds =>
 rw[e2,`h] at e1;cases e3:f `gw ds with
 | none=>rw[e3] at e1;cases e1
 | some q =>
 rw[e3] at e1;cases e1;let#[a,O,hB,ro]:=`ij;let#[h1,h2]:=`aNI;refine `b;refine(ki0 (E:=E0) F `kO hg hm Z hb `X p30 `wC hdb he hpl) `i s σ H Q I #[ds,a,env,e2,O,λvs H1 s1 r1 _=>?_];show spB X.K j f (`aNH++[]) H1 _ _;rw[`dh];refine#[B,ds,vs,a,`gw,q.2,q.1,`ae_,hB,rfl,hj _ _ _ e3,r1,`aNJ,e3,λv H' hh a1 rv=>?_];have U:`On:=`aNK;have J:`Ox:=`ok hi O U (h2 H' B q.2 a1);exact `aNL
universe zz
def putL(i:Nat)(g:GE):`a8:=λv δ=>match `cb with
 | `a (.ow (`y [`Dy,`CF]))=>`cB λd=>`M! λk=>if `gN<`R then `a (`aX i (.ow (`y [`Dy,`cQ `aNM (xr0 ks ds k v)]))) else `d
 | _=>`d
section
variable{g:GE}
open T in
theorem P30(i:Nat)(hu:`kQ)(h:`cC)(hN:`b0:=by rfl)(hv:`dB:=by first|exact `aU|exact `cD|exact `cE)(hd:`aQ:=by decide)(hcd:`dC:=by decide)
  (ha:∀v,`aIt=(do
   let ov ← `aIu
   let iv ← `aIv
   `_d
   `_e
   `_f):=by intro _;rfl):PTG X `Uy (putL i g):=.mk λH₀ B₀ d δ pins s σ H v u Q I r hq157=>by
 let#[δ',en,e1,k]:=hq157
 unfold putL at e1;let#[B,b1,b2,env,rv]:=`aK;split at e1
 ·rename_i p' ks ds hi
  cases e3:`av with
  | none=>rw[e3] at e1;cases e1
  | some dk =>
   rw[e3] at e1;simp only[`h] at e1;cases e4:`HQ with
   | none=>rw[e4] at e1;cases e1
   | some q =>
    rw[e4] at e1;simp only[`h] at e1;split at e1
    ·rename_i hz
     cases e1;obtain⟨a,J,hb,⟨d',hq,hr⟩|⟨_,_,hq,_⟩|⟨_,_,hq,_⟩⟩:=`ij
     rotate_left
     ·cases hq
     ·cases hq
     cases hq;let#[xs,hx,hl,rx]:=hr;have hl:`tr:=hl;refine `aIw;have:=pm0 e4 r1;subst this;let#[ys,hy,Z,Y,U]:=`aIx;refine`aIy;have rr:Rps X.K H1 B (xr0 ks ds q d) ys:=by
      unfold xr0;cases hk:`rW with
      | true=>rw[`bc,Y hk];exact `aIz
      | false=>rw[`jm,U hk];exact `aIA
     rw[hy];have O:Env X.K (upd H1 a (.dK (`aIo))) B σ (`aX i (.ow (`y [`IT,`cQ (`t (`Ux)) (xr0 ks ds q d)]))):=`Nz hi J (`t #[`cQ (`t _) _,rfl,`aIC]);exact `aID
    ·cases e1
 ·cases e1
universe zz
def u90{G:GSB}{b:D}{q:D×D}(hn:j+1<=n)(h:`Vs=`qf):`wy:=by
 have:=(O6 (r:=q.1) (b':=q.2) h).1;lia
universe DL
variable{Ga Gb:DL.GSB}
namespace L2
open Spec PyProof.Rows
section
variable{st:`a1}{t:TS}
theorem U9(h:`gp):PE X e (fun σ H Q=>te σ H λv H'=>∃a sub,`aNN/\Q v (`hL H' sub)):=λpins s σ H Q I q =>
 thn `ae0 `aNO
theorem K9(h:`gp):PE X e (fun σ H Q=>te σ H `aNP):=λpins s σ H Q I q =>
 thn `ae0 λu s' #[v,H',I',r,a,sub,o,k]=>#[v,_,I'.closed o,r,k]
theorem rr0(h:PS X st t):PS X st (λD σ H=>∃a,t `aM3 σ H):=λpins s σ H D I #[a,q] =>
 thn `ae0 λf s' z=>SP.closing z
universe zz
universe L2
namespace DL
open Spec PyProof.Rows L2
def O5(k:Nat):D:=`y `aNQ
def wn0(k:Nat):yq0 `aNQ=`eW:=by
 show (if ("@" : Str) = "@" then `a (k:Int).toNat else `d)=_;rw[`bc];rfl
mutual
def nrf:`cA
 | `ch=>(`jL).isNone&&`Vv
 | _=>`c
def vo0:`C0
 | []=>`c
 | `aB=>nrf d&&`Vv
end
section
def xj0:`jK K H B as [] xs=(`vQ):=by unfold RpNs;rfl
def J4{d:D}:`jK K H B as `kd xs=`aCd:=by conv=>lhs;unfold RpNs
def yv0:RpN K H B as `tl v=(`aCc):=by conv=>lhs;unfold RpN
theorem R9:∀{ds:`n} {xs:`S},`gO↔`bS (RpN K H B as) ds xs
 | [],xs=>by
  rw[xj0];constructor
  ·rintro rfl;exact `X
  ·intro h;cases h;rfl
 | `aB,xs=>by
  rw[J4];constructor
  ·rintro⟨x,r,rfl,h1,h2⟩;exact `aq h1 (`qw h2)
  ·intro h;cases h with
   | cons h1 h2=>exact#[_,_,rfl,h1,`r7 h2]
mutual
theorem Zc0:∀{d:D} {v:V},`kU->`jh->`cR
 | `x,_,_,h=>`Oy
 | `bN,_,_,h=>`Oy
 | `co,_,_,h=>`Oy
 | `bq,_,_,h=>`Oy
 | `ch,_,n,h=>by
  unfold nrf at n;rw[`aI] at n;rw[yv0] at h;rw[U7];refine `e;rcases h with⟨k,a,e,_⟩|⟨_,a,xs,e,q,r⟩
  ·rw[e] at n;cases n.1
  ·refine `b;exact#[a,xs,e,q,op0 n.2 r]
 | `ci,_,_,h=>`ae1
 | `jf,_,_,h=>`ae1
 | `oQ,_,_,h=>`ae1
theorem op0:∀{ds:`n} {xs:`S},`ae2->`gO->`bp
 | [],_,_,h=>by rw[xj0] at h;rw[m9];exact h
 | `aB,_,n,h=>by
  unfold vo0 at n;rw[`aI] at n;rw[J4] at h;let#[x,r,e,h1,h2]:=h;rw[o8];exact#[x,r,e,Zc0 n.1 h1,op0 n.2 h2]
end
mutual
theorem mk0:∀{d:D} {v:V},`kU->`cR->`jh
 | `x,_,_,h=>`Oz
 | `bN,_,_,h=>`Oz
 | `co,_,_,h=>`Oz
 | `bq,_,_,h=>`Oz
 | `ch,_,n,h=>by
  unfold nrf at n;rw[`aI] at n;rw[U7] at h;rw[yv0];let#[a,xs,e,q,r]:=h;refine `s #[?_,a,xs,e,q,nw0 n.2 r];cases z:`jL with
  | none=>rfl
  | some k=>rw[z] at n;cases n.1
 | `ci,_,_,h=>`ae3
 | `jf,_,_,h=>`ae3
 | `oQ,_,_,h=>`ae3
theorem nw0:∀{ds:`n} {xs:`S},`ae2->`bp->`gO
 | [],_,_,h=>by rw[m9] at h;rw[xj0];exact h
 | `aB,_,n,h=>by
  unfold vo0 at n;rw[`aI] at n;rw[o8] at h;let#[x,r,e,h1,h2]:=h;rw[J4];exact#[x,r,e,mk0 n.1 h1,nw0 n.2 h2]
end
theorem RpN.same{d:D}(s:`bb)(h:`jh):`aNR:=RpN.mono `ts `OA h
theorem RpNs.same(s:`bb)(h:`gO):`jK K H' B as ds xs:=`abw `ts `OA h
def RpNs.atI{i:Int}{d:D}(r:`gO)(h:DL.atI ds i=`bw):∃v,`ab?=`bL/\`jh:=by
 have p:=`qw r;rw[R60];unfold DL.atI at h ⊢;rw[← `qx p];cases e:ixN `bR i with
 | none=>rw[e] at h;cases h
 | some j =>
  rw[e,`h] at h;rw[`h];exact `nR p h
universe zz
theorem fy0:∀{as:`aS} {sos:`CG} {k:Nat} {c:`f} {so:`dI},`mv->`lS->`nS->`aNS
 | [],_,_,_,_,_,h,_=>`ia
 | `dD,[],_,_,_,_,_,h=>`ia
 | x::as,y::sos,0,c,so,_,h1,h2=>by
  simp at h1 h2;subst h1 h2;rw[`dX,`gs,`KI]
 | x::as,y::sos,k+1,c,so,nd,h1,h2=>by
  rw[`ad1] at nd;have h1':`lS:=`sI
  have J:`aNT:=`nP λz=>nd.1 (z▸D0 h1')
  rw[`dX,`gs,J];exact fy0 nd.2 h1' (`LK)
theorem yk0:∀{as:`aS} {sos:`CG} {c:`f},c∉as->(`a9).lookup c=`d
 | [],_,_,_=>`a4
 | `dD,[],_,_=>`a4
 | x::as,y::sos,c,h=>by
  rw[`eL] at h;have hne:`aNT:=`aNU
  rw[`dX,`gs,hne];exact yk0 `aNV
def vw0(hl:`MG){c:`f}(h:c∈as)(nd:`mv):∃so,`aNS:=by
 let#[k,hk,e]:=Bc0.mp h;exact#[sos[k],fy0 nd (by rw[`iD hk,e]) (`aeG)]
theorem RpW.in0(h:`fT):a∈as:=D0 h.hd
def RpW.openOk(h:`fT):`HT H a `ev:=by
 refine#[`v1,?_,λb C dx fs hm=>yk0 ?_]
 ·let#[so,e]:=vw0 `lP h.in0 `hM
  rw[e];rfl
 ·let#[k,hk,e]:=Bc0.mp hm
  rw[`aNW] at e;have J:`OB:=by rw[`gT] at hk;lia
  have e2:`am_:=by rw[`iD J];exact C8 `a (k9 e).2
  let#[n,_,hn]:=`ny h.all e2;unfold NodeOk at hn;split at hn
  ·let#[xs,z,_]:=hn;cases z
  ·let#[xs,z,_]:=hn;cases z
  ·refine `e;let#[C',U,O,xs,z,_,_,_,q,_]:=hn
   refine `b;injection z with z1 z2 z3
   rw[z2];exact q
  ·exact hn.elim
def RpW.opAt(h:`fT){k:Nat}{c:`f}(h1:`lS)(h2:`nS):`hL H `ev c=`HU:=by
 unfold opened;rw[fy0 `hM h1 h2]
def xw0{b:`f}(h:`OC):`aNX=H b:=by
 unfold opened;rw[yk0 h]
def dg0{Ho:Hp}(off:∀b,`OC->Ho b=H b)(own:∀b∈as,`R0)(hl:`MG)(nd:`mv)(ha:a∈as):`gg Ho a `ev=upd H a `amZ:=by
 funext b
 unfold closed upd
 by_cases hb:b=a
 ·rw[`jc,`jc]
 ·rw[`ic,`ic]
  by_cases hm:b∈as
  ·let#[so,e]:=vw0 hl hm nd
   rw[e];rcases own b hm with z|z
   ·exact `aNY
   ·exact `pY
  ·rw[yk0 hm]
   exact off b hm
def rt0{Ho:Hp}(hd:`aCi)(nd:`mv)(hl:`MG)(at':∀(k:Nat) c so,`lS->`nS->Ho c=`HU)(ins:`aCj):`iK Ho a `ev:=by
 have ge:∀p∈`a9,∃k,`Ts=`a p.1/\`Tw=`sW:=λp hp=>by
  let#[k,hk,e]:=Bc0.mp hp;have J:=hk;rw[`gT] at J;rw[`aNW] at e;exact#[k,`aNZ,`aNZ]
 refine#[?_,`gf,λp hp C dx fs e=>?_]
 ·let#[so,e]:=vw0 hl (D0 hd) nd
  rw[e];rfl
 ·let#[k,e1,e2]:=ge p hp
  exact at' k _ _ e1 e2
 ·let#[k,e1,e2]:=ge p hp
  rw[e] at e2;rw[ins k _ _ _ e2,hd] at e1;exact(A4 e1).symm
def RpW.back(h:`fT):`iK `t_ a `ev/\`gg `t_ a `ev=H:=by
 refine#[rt0 h.hd `hM `lP (λk c so e1 e2=>`aN_) `CH,?_];rw[dg0 (H:=H) (λb hb=>xw0 hb) `aN0 `lP `hM h.in0]
 funext b
 unfold upd
 by_cases hb:b=a
 ·rw[`jc,hb,`v1]
 ·rw[`ic]
theorem RpW.same(s:`bb)(h:`fT):RpW K H' B ns a as sos:=#[h.hd,`hM,s _ _ `v1,λb hb=>`Vw id λz=>#[z.1,s _ _ z.2],`lP,rp0 (λ_ _ r=>`df `ts) h.all,`CH]
def RpW.put(h:`fT)(hB:B a){k:Nat}{c:`f}{so':`dI}(h1:`lS)(h2:`nS)(r:`hB K H B as n' so')(hi:`aN1) :
  `iK `aN2 a `Vx/\`gg `aN2 a `Vx=`aN3 /\
   RpW K (`aN3) B `aN4 a as (`H1):=by
 have hl:`hC=(`H1).length:=by rw[List.length_set];exact `lP
 have hk:`OB:=(`ds h2).1;have ins:∀(j:Nat) C dx fs,(`H1)[j]?=`nb->j=0:=λj C dx fs e=>by
  refine `e;rcases `hI e with⟨rfl,e,_⟩|⟨_,e⟩
  ·refine `b;exact hi C dx fs e
  ·refine `b;exact `CH j C dx fs e
 refine#[rt0 h.hd `hM hl (λj d s e1 e2=>?_) ins,dg0 `Lc `aN0 hl `hM h.in0,h.hd,`hM,m8,`iv,hl,?_,ins]
 ·refine `e;rcases `Nn with⟨rfl,e,_⟩|⟨n,e⟩
  ·rw[h1] at e1
   cases e1;refine `b;rw[m8,e]
  ·have:d≠c:=λz=>by
    let#[g1,g2]:=`ds h1;let#[g3,g4]:=`ds e1;exact n ((Af0 `hM).mp (g2.trans (z▸g4.symm)))
   refine `b;rw[`Dc];exact h.opAt e1 e
 ·have:b≠c:=λz=>hb (z▸D0 h1)
  rw[`Dc];exact xw0 hb
 ·rcases `am0 with z|z
  ·exact `gc
  ·by_cases q:b=a
   ·exact `mj
   ·exact `s #[z.1,by rw[m5 q];exact z.2]
 ·exact `oS (`aN5) k (rp0 (λ_ _ r=>`aN5) h.all)
def dpN(i:Nat)(δ:Ds):`ti:=`r6 λb=>match b.1 with
 | `aN6=>`a ns
 | _=>`d
def setN(i k:Nat)(n:D)(δ:Ds):Ds:=match `gh with
 | `VI=>`aX i (.ow (mk (`y (`b1::`Vy k n))))
 | _=>δ
structure AtN(K:`A)(H:Hp)(B:BS)(σ:St)(δ:Ds)(i:Nat)(a:`f)(ns:`n)(as:`aS)(sos:`CG):Prop where
 sl:`jP
 bad:B a
 dp:`Ib
 w:`fT
section
variable{σ:St}{δ:Ds}
open T in
def Env.atN(e:`a')(h:`Ib):∃a as sos,`r8:=by
 have h0:=h;unfold dpN at h;cases eb:`gh with
 | none=>rw[eb] at h;cases h
 | some bm =>
  rw[eb,`h] at h;let#[d0,hi,J]:=`mJ;let#[a,O,hB,ro]:=`Nm;let#[h1,_]:=J _ _ _ _ ro;split at h
  ·rename_i x ns' hbm
   cases h;rw[hbm] at h1;let#[y,ms,e1,as,sos,w]:=h1;cases e1;exact#[a,as,sos,O,hB,h0,w]
  ·cases h
theorem AtN.same(s:`bb)(h:`r8):AtN K H' B σ δ i a ns as sos:=#[h.sl,h.bad,h.dp,h.w.same s]
open T in
def Env.setN(e:`a')(h:`r8){k:Nat}{o:HO}{sos':`CG}(w:RpW K `gR B `aN4 a as' sos') :
  ∃d0 d,`Db/\`aN7=`anr/\`aF7:=by
 have dp:=h.dp;unfold dpN at dp;cases eb:`gh with
 | none=>rw[eb] at dp;cases dp
 | some bm =>
  rw[eb,`h] at dp;let#[d0,hi,U]:=`mJ;let#[a',O,hB,ro]:=`Nm;let#[_,h2]:=U _ _ _ _ ro;split at dp
  ·rename_i x ns' J
   have dp:=A4 dp;subst dp;rw[h.sl] at O;cases O;let#[bd,mk]:=bm;have J:bd=`y (`b1::ns'):=J;subst J;refine#[d0,mk (`y (`b1::ns'.set k n')),hi,?_,e.mut hi h.sl (h2 _ _ _ #[x,_,rfl,as',sos',w])];unfold DL.setN;rw[eb]
  ·cases dp
universe zz
universe DL
namespace DL
open Spec PyProof.Rows L2
def tN(K:`A)(B:BS)(δ:Ds)(i:Nat)(g:GE):TE:=fun σ H Q=>∃d a ns as sos,`a'/\`ih/\`r8/\∀v H',`bb->`aNR->`m6
structure PN(X:Cx)(i:Nat)(e:`I)(g:GE):Prop where
 mk::go:∀B δ,PE X e (tN X.K B δ i g)
def oz0(ns:`n):`yM
 | `ch=>`ae4 `ae5
 | _=>`d
def k90(ns:`n)(d y:D):`d5:=match d,y with
 | `ch,`iN=>(match `jL with
  | `eW=>(match `iL with
   | `kV=>atI es z
   | _=>`d)
  | `d=>atI ds z)
 | _,_=>`d
def J2(i:Nat)(ga gb:GE):GE:=fun δ=>`vX λd=>`abf λy=>`fY λns=>k90 ns d y
def j7(i:Nat):GE:=fun δ=>(`dQ).map λ_=>O5 0
def plN(g:GE):GE:=fun δ=>`cB λd=>if `kU then `bw else `d
def zc0(i:Nat)(g:GE):GE:=fun δ=>`cB λd=>`fY λns=>match `DA with
 | `kV=>`a (`g `ge)
 | _=>`d
section
variable{σ:St}{δ:Ds}
open T in
def RpW.node(w:`fT){d n:D}(r:`jh)(h:`DA=`pP):∃(k:Nat) (c:`f) (so:`dI),v=`vp/\`lS/\`nS/\`iL=`pP/\`MF:=by
 unfold oz0 at h;split at h
 ·rename_i ds
  cases e:`jL with
  | none=>rw[e] at h;cases h
  | some k =>
   rw[e,`h] at h;rw[yv0] at r;rcases r with⟨k',c,e1,e2,e3⟩|⟨e1,_⟩
   ·rw[e] at e1
    cases e1;let#[so,hs,hn]:=`nR `H6 h;exact#[k,c,so,e3,e2,hs,h,hn]
   ·rw[e] at e1;cases e1
 ·cases h
theorem wr0{es:`n}(h:`hB K H B as `H2 so):∃xs,`aby/\`jK K H B as es xs:=h
universe zz
section
variable{a:`I}{p:Pos}{g ga gb:GE}
theorem W2(i:Nat)(hN:`b0:=by rfl)(hv:`dB:=by first|exact `aU|exact `cD|exact `cE)(hd:`aQ:=by decide)(hcd:`dC:=by decide) :
  PN X i `le (j7 i):=.mk λB δ=>`aCH fun σ H Q hq158=>by
 refine `e;let#[d,a,ns,as,sos,en,h,at',k]:=hq158
 unfold j7 at h;rw[`wD] at h;cases h;refine `b;refine#[_,`gi,`GY];unfold O5;rw[yv0];exact `t #[0,a,wn0 0,`t1,rfl]
theorem yz0(h:`OD)(hdp:∀δ d,`ih->`ae6):PD X e (plN g):=.mk λB δ=>(h.go B δ).imp fun σ H Q hq159=>by
 let#[d,en,e1,k]:=hq159
 unfold plN at e1;cases e2:`av with
 | none=>rw[e2] at e1;cases e1
 | some d' =>
  rw[e2,`h] at e1;split at e1
  ·rename_i hn
   cases e1;have:=hdp δ _ e2;cases e3:`dQ with
   | none=>rw[e3] at this;cases `E
   | some ns =>
    let#[a,as,sos,at']:=en.atN e3;exact#[d,a,ns,as,sos,en,e2,at',λv H' s r=>k v H' s (Zc0 hn r)]
  ·cases e1
def oo0{δ:Ds}{d:D}(h:J2 i ga gb δ=`bw):`ae6:=by
 unfold J2 at h;cases e1:`de with
 | none=>rw[e1] at h;cases h
 | some x =>
  rw[e1,`h] at h;cases e2:`et with
  | none=>rw[e2] at h;cases h
  | some y =>
   rw[e2,`h] at h;cases e:`dQ with
   | none=>rw[e] at h;cases h
   | some ns=>rfl
open T in
theorem ro0(ha:PN X i a ga)(hb:`dE)(hs:`Cg:=by exact `mx):PN X i `Ch (J2 i ga gb):=.mk λB δ =>
 (K9 (Vz0 (Wd0.or bo0) `wC (U9 (`zD B δ)) hs)).imp fun σ H Q hq160=>by
  let#[d,ad,ns,as,sos,en,h,at',k]:=hq160
  unfold J2 at h;cases e1:`de with
  | none=>rw[e1] at h;cases h
  | some dx =>
  rw[e1,`h] at h;cases e2:`et with
  | none=>rw[e2] at h;cases h
  | some y =>
  rw[e2,`h,`wD,`h] at h;refine#[dx,ad,ns,as,sos,en,e1,at',`am7];have J:=(`il).same s2;let#[c1,c2]:=`DB;refine`ae7;have O:=`tu;have U:=`nB;unfold k90 at h;split at h
  ·rename_i ds z
   rw[j6] at r2;subst r2;cases e3:`jL with
   | some kk =>
    rw[e3] at h;dsimp only at h;split at h
    ·rename_i es hes
     have hn:oz0 ns `tl=`kV:=by show `ae4 (`ae5)=_;rw[e3];exact hes
     let#[k',c,so,rfl,f1,f2,f3,f4]:=`Vz O hn;let#[xs,rfl,rx]:=`o6;let#[w,w1,w2]:=rx.atI h;refine `t #[c,xs,z,w,rfl,rfl,`VA,w1,ad,`a9,c1,?_];rw[c2];exact `aN8
    ·cases h
   | none =>
    rw[e3] at h;dsimp only at h;rw[yv0] at O;rcases O with⟨k',c,f,_⟩|⟨_,c,xs,rfl,q,rx⟩
    ·rw[e3] at f;cases f
    ·let#[w,w1,w2]:=rx.atI h
     have hc:c∉as:=λz=>by
      rcases J.w.own c z with z|z
      ·exact(`fq U).bad c (z▸`t2) |>.nt xs q.2
      ·rw[q.2] at z;cases z.2
     refine `s #[c,xs,z,w,rfl,rfl,`t (`t (by rw[xw0 hc];exact q.2)),w1,ad,`a9,c1,?_];rw[c2];exact `aN8
  ·cases h
theorem w40(hm:`aEP)(ha:`OD)(hg:`aEQ := by rfl)(he:`fW:=by rfl)(hpl:`jk:=by rfl) :
  PD X `aER (zc0 i g):=.mk λB δ=>(K9 (oy0 lo0 hg hm c6 (R8 (U9 `wC) zt0 he) `r `r he hpl)).imp fun σ H Q hq161=>by
 refine `e;let#[d,en,h,k]:=hq161
 unfold zc0 at h;cases e1:`av with
 | none=>rw[e1] at h;cases h
 | some dx =>
 rw[e1,`h] at h;cases e2:`dQ with
 | none=>rw[e2] at h;cases h
 | some ns =>
 rw[e2,`h] at h;let#[ad,as,sos,at']:=en.atN e2;refine `b;refine`aN9;have J:=`il;let#[c1,c2]:=`DB;refine`ae7;refine `e;split at h
 rotate_left
 ·cases h
 rename_i es hn;cases h;let#[k',c,so,rfl,f1,f2,f3,f4]:=`aN';let#[xs,rfl,rx]:=`o6;refine `b;refine#[c,xs,rfl,`t (`VA),ad,`a9,c1,?_];rw[c2];exact k _ H1 s1 (by rw[j6,`OE])
universe zz
universe DL
namespace DL
open Spec PyProof.Rows L2
section
variable{σ σ':St}{δ:Ds}
def EnvS.takeL(en:`ck)(b1:`ly)(b2:`lz)(e:`a')(i:Nat){d:D}{p:`f}(hp:`d8)(s:`bb)
  (r:RpL K H' `tz d p):`aGj:=by
 have g:`aGk:=`aGl
 have J:`abS:=`acO;have live:`aGm:=λ{j d' b} h1 h2=>by
  let#[a,q1,q2,q3]:=e.at h1;rw[h2] at q1;cases q1;exact `aGn
 refine`aGo
 ·rcases z with z|rfl
  ·exact b2 a z
  ·exact `s J
 ·refine `oS #[p,rfl,`b?,r] i `aGp
  cases sl with
  | un=>trivial
  | ex c n=>let#[v,e,r]:=h;exact`CW
  | sh d=>let#[v,e,r]:=h;exact`CW
  | ow d=>let#[b,e,O,r]:=h;exact`aGq
 ·rcases z with z|rfl
  ·exact`aGr
  ·exact `rS
 ·refine `e;rcases `hh with⟨rfl,_,_⟩|⟨n1,h1⟩
  ·rcases `kR with⟨rfl,_,_⟩|⟨n2,h2⟩
   ·refine `b;rfl
   ·rcases `hI h3 with⟨_,e3,_⟩|⟨n3,_⟩
    ·cases e3
     rw[`Dd] at h4;refine `b;exact `aGs
    ·refine `b;exact `Nq
  ·rcases `kR with⟨rfl,_,_⟩|⟨n2,h2⟩
   ·rcases `hI h4 with⟨_,e4,_⟩|⟨n4,_⟩
    ·cases e4
     rw[`o2] at h3;refine `b;exact `aGt
    ·refine `b;exact `aGu
   ·rw[`o2] at h3
    rw[`Dd] at h4;refine `b;exact `ML
 ·refine `e;rcases `hh with⟨rfl,_,_⟩|⟨n1,h1⟩
  ·rcases `kR with⟨_,e3,_⟩|⟨n3,_⟩
   ·cases e3;refine `b;exact J
   ·refine `b;exact `Nq
  ·rw[`o2] at h2
   refine `b;exact `acP
universe zz
def u40:D->`LY
 | `ch=>`jL
 | _=>`d
def qf0(i:Nat)(go gv:GE):GX:=fun δ=>`wE λd=>`wF λdv=>`fY λns=>`DC λk=>match `iL with
 | `kV=>if `aN!/\`ge<`R then `a (`x,`e8 i k `aN? δ) else `d
 | _=>`d
section
variable{σ:St}{δ:Ds}
open T in
def O00{d:D}{k:Nat}(h:`nQ=`eW):`DA=`iL:=by
 unfold u40 at h;split at h
 ·rename_i ds
  show `ae4 (`ae5)=_;rw[h];rfl
 ·cases h
open T in
def RpW.nodeK(w:`fT){d n:D}{k:Nat}(r:`jh)(h:`nQ=`eW)(hn:`iL=`pP):∃(c:`f) (so:`dI),v=`vp/\`lS/\`nS/\`MF:=by
 unfold u40 at h;split at h
 ·rename_i ds
  rw[yv0] at r;rcases r with⟨k',c,e1,e2,e3⟩|⟨e1,_⟩
  ·rw[h] at e1
   cases e1;let#[so,hs,hn]:=`aOa;exact#[c,so,e3,e2,hs,hn]
  ·rw[h] at e1;cases e1
 ·cases h
def EnvS.setN(en:`ck)(b1:`ly)(b2:`lz)(env:`a')(s:`bb)(h:`r8){k:Nat}{c:`f}{so':`dI}{n':D}(h1:`lS)(h2:`nS)
  (r:`hB K H' B as n' so') (hi:`aN1) {d:D} {v:V} (rv:`TB) :
  ∃sub',`iK `aOb a sub'/\EnvV K `O `L (`gg `aOb a sub') σ (`aN7) d v:=by
 have h':=`MK s;let#[p1,p2,p3]:=h'.w.put h.bad h1 h2 r hi;refine#[_,p1,?_];rw[p2];let#[d0,d',O,e1,J]:=(`iC s).setN h' p3;rw[e1];exact `gS (`zd s b1 b2 O h.sl J) b1 b2 J (`H0 (`za h.bad))
universe zz
section
variable{f:`I}
open T in
theorem fq0(ho:`DD)(h1:PD X e g1)
  (hbase:`aOc:=by rfl)
  (hfew:(`o_
  &&`Ny)=`c:=by rfl)
  (hline:`fO:=by rfl) (hs:`fW:=by rfl) (hplain:`mB:=by rfl) :
  PX X (`aV `aps [e] [] `ca) (qf0 i go g1):=.mk λH₀ B₀ δ pins s σ H Q I hq162=>by
 let#[r,en,e1,k]:=hq162
 unfold qf0 at e1;let#[B,b1,b2,env]:=`aK;cases e2:`qy with
 | none=>rw[e2] at e1;cases e1
 | some d =>
 rw[e2,`h] at e1;cases e4:g1 δ with
 | none=>rw[e4] at e1;cases e1
 | some dv =>
 rw[e4,`h] at e1;cases e5:`dQ with
 | none=>rw[e5] at e1;cases e1
 | some ns =>
 rw[e5,`h] at e1;cases e6:`nQ with
 | none=>rw[e6] at e1;cases e1
 | some kk =>
 rw[e6,`h] at e1;split at e1
 rotate_left
 ·cases e1
 rename_i es hnode;split at e1
 rotate_left
 ·cases e1
 rename_i hz;cases e1;let#[a,as,sos,at']:=`ae8;refine K9 (rl0 Q2 B50 B60 po0 `OF `aOd `e3 `ja `gr hs `kH) `i s σ H Q I `OG;have J:=`il;let#[c,so,rfl,f1,f2,f4]:=`OH;let#[xs,rfl,rx]:=`o6;refine`aOe;let#[c1,c2]:=`DB;refine`aOf;rw[c2];refine#[dv,`jV,e4,`yY];have U:=`nB;have O:=`qv U;have Z:=`ae9;refine#[_,`aOg,c,xs,v2,rfl,rfl,`aOh,by rw[← `OE];exact hz.2,?_];have nk:`hB X.K H2 B as `aN? (`o (xs++[v2])):=#[_,rfl,`r7 (`iE (`qw Z) (`aq (mk0 hz.1 r2) `X))];let#[Y,q1,q2]:=`wG b1 b2 env U at' f1 f2 nk `OI (d:=`x) (v:=`x) `jW;exact#[a,Y,q1,k _ _ q2]
universe zz
universe DL
namespace L2
open Spec PyProof.Rows
section
variable{t:TA}{k:Nat}{f C:`f}{E:XK}{ds:`K}
theorem Y90(h:`vH):PA X es (fun σ H Q=>t σ H λvs H'=>∃a sub,`aNN/\Q vs (`hL H' sub)):=λpos pins s σ H Q I q =>
 thn (h pos `i s σ H _ I q) `aNO
theorem ey0(h:`vH):PA X es (fun σ H Q=>∃a sub,`mG/\t σ `mH Q):=λpos pins s σ H Q I #[a,sub,c,q]=>h pos `i s σ _ Q (`HV) q
def Rq0{pl:`i!}(he:`vG)(c:`vF)(hm:`_')(F:`vI)(hr:`rG)(hb:`oG)(hd:`oH)(hx:`vJ)
  (ht:`aOi=(do
   let ov ← `hw
   `oI
   let (f,`f?) ← `rH
   `OJ):=by rfl) :
  PE X `VC (fun σ H Q=>ta σ H λx H1=>∃a dx fs,`c?/\`B8/\`B6/\∃a' sub,`aOj/\sp (x::([]++dvs)) (`gg H1 a' sub) Q E):=by
 intro pins s σ H Q I h;refine t5 (pl:=pl) (thn `h9 λu s1 hq163=>?_) ht;refine `e;let#[x,H1,I1,rx,a,dx,fs,ex,ea,l,a',sub,cl,q]:=hq163;subst ex;obtain rfl:u=`gD:=rx;refine `b;refine `_!;exact Ak0 (first:=`d4) `zt hm.kp (bp0 (us:=`d4) (vs:=`d4) F hr hb hd hx (I1.closed cl) `aa0 q)
universe zz
universe L2
namespace DL
open Spec PyProof.Rows L2
def um0:`n->`n->Str->`d5
 | `aOk,`aB,f=>if n=f then `bw else `OK
 | _,_,_=>`d
def n00:`n->`n->Str->D->`n
 | `aOk,`aB,f,v=>if n=f then v::ds else d::n00 fs ds f v
 | _,ds,_,_=>ds
theorem li0:∀{ns:`j} {ds:`n} {xs:`S} {f:Str} {d:D},`gO->`aOl=`bw->∃v,(`Gz).lookup f=`bL/\`jh
 | [],_,_,_,_,_,h=>by unfold um0 at h;cases h
 | `o7,[],_,_,_,_,h=>by rw[`ab] at h;unfold um0 at h;cases h
 | `o7,d'::ds,xs,f,d,r,h=>by
  rw[J4] at r;let#[x,r',rfl,h1,h2]:=r;rw[`ab] at h;unfold um0 at h;rw[`dX,`gs]
  by_cases e:n=f
  ·rw[`fX] at h
   cases h;rw[show (f==n)=`c from P7.mpr e.symm];exact`MD
  ·rw[`eK] at h
   rw[show `aOm from `nP (A9 e)];exact li0 h2 h
theorem gi0:∀{ns:`j} {xs:`aT} {f:Str},f∉ns->(`Gz).lookup f=`d
 | [],_,_,_=>`a4
 | `dD,[],_,_=>`a4
 | `o7,`mr,f,h=>by
  rw[`eL] at h;rw[`dX,`gs,show `aOm from `aNU];exact gi0 `aNV
theorem ja0{f:Str}{d:D}(rv:`jh):∀{ns:`j} {ds:`n} {xs:`S},`gO->`fg=`ay->f∈ns ->
  ∃ys,ys0 f v (`Gz)=`yU ns ys/\`fg=`er/\`jK K H B as (n00 (`Tv) ds f d) ys
 | [],_,_,_,_,h=>by cases h
 | `o7,[],xs,r,hl,_=>by rw[xj0] at r;subst r;cases hl
 | `o7,d'::ds,xs,r,hl,hf=>by
  rw[J4] at r;let#[x,r',rfl,h1,h2]:=r;rw[`dX,`ab];unfold ys0 n00
  by_cases e:n=f
  ·rw[`fX,`fX]
   refine#[v::r',rfl,hl,?_];rw[J4];exact#[v,r',rfl,rv,h2]
  ·rw[`eK,`eK]
   let#[ys,e1,e2,e3]:=ja0 rv h2 `TA ((`cf hf).resolve_left (A9 e));refine#[x::ys,`aOn,by rw[`Y,`Y,e2],?_];rw[J4];exact#[x,ys,rfl,h1,e3]
structure ClsN(K:`A)(c:Str)(fs:`j):Prop where
 ok:∀C,`jM->`qz/\∀f∈fs,`vE
def j4(i:Nat)(c f:Str)(g:GE):GE:=fun δ=>`cB λd=>`fY λns=>match `DA with
 | `a (`apg)=>if c'=c then `OK else `d
 | _=>`d
theorem s20{fs:`n}(h:`hB K H B as (`aCg) so):`aCh:=h
section
variable{p:Pos}{g ga gb:GE}{f:Str}
def we0{δ:Ds}{d:D}(h:j4 i c f g δ=`bw):`ae6:=by
 unfold j4 at h;cases e1:`av with
 | none=>rw[e1] at h;cases h
 | some x =>
  rw[e1,`h] at h;cases e:`dQ with
  | none=>rw[e] at h;cases h
  | some ns=>rfl
open T in
theorem W4(ha:`OD)(hc:`DE)(hf:`DF:=by decide)(hb:`axU:=by rfl):PN X i `_Z (j4 i c f g):=.mk λB δ =>
 (K9 (Jf0 (U9 `wC) hb)).imp fun σ H Q hq164=>by
  let#[d,ad,ns,as,sos,en,h,at',k]:=hq164
  unfold j4 at h;cases e1:`av with
  | none=>rw[e1] at h;cases h
  | some dx =>
  rw[e1,`h,`wD,`h] at h;refine`aN9;have J:=`il;let#[c1,c2]:=`DB;refine`ae7;split at h
  rotate_left
  ·cases h
  rename_i c' fs ds hn;split at h
  rotate_left
  ·cases h
  rename_i hcc;subst hcc;let#[k',a,so,rfl,f1,f2,f3,f4]:=`aN';let#[C,O,nm,xs,rfl,rfl,hl,hC,U,rx]:=s20 f4;let#[v,hv,rv]:=li0 rx h;let#[q1,q2]:=`DG;refine#[a,C,O,_,v,rfl,`H3,q1,`H9,hv,ad,`a9,c1,?_];rw[c2];exact k v H1 s1 rv
universe zz
def u20(i:Nat)(c f:Str)(gv:GE):GS:=fun δ=>`wF λdv=>`fY λns=>match ns with
 | `OL=>if c'=c/\`aN!/\(`OK).isSome=`c/\`zJ then `a (.nx (`e8 i 0 (`y [`iM,`p5,`o (n00 fs ds f dv)]) δ)) else `d
 | _=>`d
def ay0(i:Nat)(c f:Str)(gv:GE):GS:=fun δ=>`wF λdv=>`fY λns=>match ns with
 | `OL=>if c'=c/\`zJ then (match `OK,dv with
  | `a (`oK),`iW=>`a (.nx (`e8 i 0 (`y [`iM,`p5,`o (n00 fs ds f (`g (a+b)))]) δ))
  | _,_=>`d) else `d
 | _=>`d
theorem ld0:∀{ns:`j} {ds:`n} {f:Str},(`aOl).isSome=`c->f∈ns
 | [],_,_,h=>by unfold um0 at h;cases h
 | `o7,[],_,h=>by rw[`ab] at h;unfold um0 at h;cases h
 | `o7,`aB,f,h=>by
  rw[`ab] at h;unfold um0 at h
  by_cases e:n=f
  ·rw[e];exact B0
  ·rw[`eK] at h
   exact A7 _ (ld0 h)
section
variable{gv:GE}{f:Str}
open T in
theorem s70(i:Nat)(hv:`ae')(hc:`DE)(hf:`DF:=by decide)(hN:`b0:=by rfl)(hvis:`dB:=by first|exact `aU|exact `cD|exact `cE)(hd:`aQ:=by decide)(hcd:`dC:=by decide)
  (hs:`ae!:=by rfl):PSD X `ae? (u20 i c f gv):=.mk λH₀ B₀ δ pins s σ H De I hq165=>by
 let#[r,en,e1,kk]:=hq165
 unfold u20 at e1;let#[B,b1,b2,env]:=`aK;cases e2:`zF with
 | none=>rw[e2] at e1;cases e1
 | some dv =>
 rw[e2,`h] at e1;cases e3:`dQ with
 | none=>rw[e3] at e1;cases e1
 | some ns =>
 rw[e3,`h] at e1;split at e1
 rotate_left
 ·cases e1
 rename_i c' fs ds rest;split at e1
 rotate_left
 ·cases e1
 rename_i hq;let#[a2,hn,a3,O]:=hq;subst a2;cases e1;let#[a,as,sos,at']:=`OM;refine `aOo;have J:=`il;let#[so,Y,nk]:=`afa;let#[C,U,nm,xs,rfl,rfl,hl,hC,a1,rx]:=`DH;let#[q1,q2]:=`DG;refine`aOp
 ·rw[`gT,← hl,`ql]
  rw[`P] at O;exact O
 ·let#[ys,y1,y2,y3]:=ja0 (mk0 (as:=as) hn r1) rx hl (ld0 a3)
  rw[y1];let#[Z,z1,z2]:=`wG b1 b2 env s1 at' `H8 Y (n':=`y [`iM,`DI,`o (n00 `H! ds f dv)]) (so':=`hq C U `aOq) #[C,U,nm,ys,rfl,rfl,y2,hC,a1,y3] `ON (d:=`x) (v:=`x) `jW;exact`afb
open T in
theorem Pa0(i:Nat)(hv:`ae')(hc:`DE)(hf:`DF:=by decide)(hN:`b0:=by rfl)(hvis:`dB:=by first|exact `aU|exact `cD|exact `cE)(hd:`aQ:=by decide)(hcd:`dC:=by decide) :
  PSD X (`axZ (`cI `ez f tpos) .Add `fi pos) (ay0 i c f gv):=.mk λH₀ B₀ δ pins s σ H De I hq166=>by
 let#[r,en,e1,kk]:=hq166
 unfold ay0 at e1;let#[B,b1,b2,env]:=`aK;cases e2:`zF with
 | none=>rw[e2] at e1;cases e1
 | some dv =>
 rw[e2,`h] at e1;cases e3:`dQ with
 | none=>rw[e3] at e1;cases e1
 | some ns =>
 rw[e3,`h] at e1;split at e1
 rotate_left
 ·cases e1
 rename_i c' fs ds rest;split at e1
 rotate_left
 ·cases e1
 rename_i hq;let#[a3,O]:=hq;subst a3;split at e1
 rotate_left
 ·cases e1
 rename_i n1 n2 hlk;cases e1;let#[a,as,sos,at']:=`OM;refine rr0 (Q00 `VD (jw0 `VE) H80) `i s σ H De I #[a,`bt,`gi,a,`a9,at'.w.openOk,?_];let#[so,Y,nk]:=`nR `VT (i:=0) rfl;let#[C,J,nm,xs,rfl,rfl,hl,hC,a2,rx]:=`DH;let#[q1,q2]:=`DG;let#[v,a1,rv]:=li0 rx hlk;unfold RpN at rv;subst rv;let#[c1,c2]:=at'.w.back;refine#[a,C,J,_,`g n1,rfl,at'.w.opAt `t1 Y,q1,`H9,a1,a,`a9,c1,?_];rw[c2];refine#[`g n2,env,e2,`yY];rw[j6] at r2;subst r2;have U:=`qv s2;refine#[`a9,U.w.openOk,n1,n2,rfl,rfl,J,_,U.w.opAt U.w.hd Y,?_,?_]
 ·rw[`gT,← hl,`ql]
  rw[`P] at O;exact O
 ·let#[ys,y1,y2,y3]:=ja0 (d:=`afc) (v:=`afc) (f:=f) (by unfold RpN;rfl) (`ae9) hl (ld0 (by rw[hlk];rfl))
  rw[y1];let#[Z,z1,z2]:=`wG b1 b2 env s2 at' `t1 Y (n':=`y [`iM,`DI,`o (n00 `H! ds f (`afc))]) (so':=`hq C J `aOq) #[C,J,nm,ys,rfl,rfl,y2,hC,a2,y3] `ON (d:=`x) (v:=`x) `jW;exact`afb
universe zz
def Z50(i:Nat)(go gv:GE):GX:=fun δ=>`wE λd=>`wF λdv=>`fY λns=>`DC λk=>match `iL,dv with
 | `kV,`p5=>if vo0 fs=`c/\`ge+`E7<=`R then `a (`x,`e8 i k (`o (es++fs)) δ) else `d
 | _,_=>`d
def popS(i:Nat)(go:GE):GS:=fun δ=>`wE λd=>`fY λns=>`DC λk=>match `iL with
 | `kV=>if es=[] then `d else `a (.nx (`e8 i k `aOr δ))
 | _=>`d
section
variable{f:`I}
open T in
theorem Ls0(ho:`DD)(h1:PD X e g1)
  (hbase:`fh o `NA `w `nm=`hw:=by rfl)
  (hfew:(`o_
  &&`Ny)=`c:=by rfl)
  (hline:`fO:=by rfl) (hs:`fW:=by rfl) (hplain:`mB:=by rfl) :
  PX X (`aV (`cI o `NA `eV) [e] [] `ca) (Z50 i go g1):=.mk λH₀ B₀ δ pins s σ H Q I hq167=>by
 let#[r,en,e1,k]:=hq167
 unfold Z50 at e1;let#[B,b1,b2,env]:=`aK;cases e2:`qy with
 | none=>rw[e2] at e1;cases e1
 | some d =>
 rw[e2,`h] at e1;cases e4:g1 δ with
 | none=>rw[e4] at e1;cases e1
 | some dv =>
 rw[e4,`h] at e1;cases e5:`dQ with
 | none=>rw[e5] at e1;cases e1
 | some ns =>
 rw[e5,`h] at e1;cases e6:`nQ with
 | none=>rw[e6] at e1;cases e1
 | some kk =>
 rw[e6,`h] at e1;split at e1
 rotate_left
 ·cases e1
 rename_i es fs hnode;split at e1
 rotate_left
 ·cases e1
 rename_i hz;cases e1;let#[a,as,sos,at']:=`ae8;refine K9 (rl0 Q2 Cy0 Cz0 ge0 `OF `aOd `e3 `ja `gr hs `kH) `i s σ H Q I `OG;have J:=`il;let#[c,so,rfl,f1,f2,f4]:=`OH;let#[xs,rfl,rx]:=`o6;refine`aOe;let#[c1,c2]:=`DB;refine`aOf;rw[c2];refine#[`p5,`jV,e4,`yY];have Y:=`nB;have O:=`qv Y;have a1:=`ae9;rw[X6] at r2;let#[b,zs,rfl,sq,rz]:=r2;let#[nb,hb]:=sq.at;have U:`OC:=λz=>by
  rcases O.w.own b z with q|q
  ·exact nb (q▸`t2)
  ·rcases hb with hb|⟨ob,hb⟩
   ·rw[hb] at q;cases q.2
   ·rw[hb] at q;cases q.2
 refine#[_,`aOg,c,b,xs,zs,rfl,rfl,`aOh,?_,by rw[← `OE,rz.length];exact hz.2,?_]
 ·refine `t ?_
  rcases hb with hb|⟨ob,hb⟩
  ·exact `t (`aOs)
  ·exact `s #[ob,`aOs]
 have nk:`hB X.K H2 B as (`o (es++fs)) `M8:=#[_,rfl,`r7 (`iE (`qw a1) (`qw (nw0 hz.1 rz)))];let#[Z,q1,q2]:=`wG b1 b2 env Y at' f1 f2 nk `OI (d:=`x) (v:=`x) `jW;exact#[a,Z,q1,k _ _ q2]
open T in
theorem j90(ho:`DD)
  (hbase:`fh o `H? `w `nm=`hw:=by rfl) (hline:`fO:=by rfl)
  (hsw:`gH `aOt `d `jA `w=`ff:=by rfl) :
  PSD X (`Fs `aOt pos) (popS i go):=.mk λH₀ B₀ δ pins s σ H De I hq168=>by
 let#[r,en,e1,k]:=hq168
 unfold popS at e1;let#[B,b1,b2,env]:=`aK;cases e2:`qy with
 | none=>rw[e2] at e1;cases e1
 | some d =>
 rw[e2,`h] at e1;cases e5:`dQ with
 | none=>rw[e5] at e1;cases e1
 | some ns =>
 rw[e5,`h] at e1;cases e6:`nQ with
 | none=>rw[e6] at e1;cases e1
 | some kk =>
 rw[e6,`h] at e1;split at e1
 rotate_left
 ·cases e1
 rename_i es hnode;split at e1
 ·cases e1
 rename_i hne;cases e1;let#[a,as,sos,at']:=`ae8;refine ru0 (K9 (Us0 Q2 D00 D10 Rl0 `OF `e3 `gr)) hsw `i s σ H De I `OG;have J:=`il;let#[c,so,rfl,f1,f2,f4]:=`OH;let#[xs,rfl,rx]:=`o6;have pr:=`qw rx;obtain⟨dl,e7⟩:∃dl,es[`ge - 1]?=`a dl:=#[_,C4 (by have:=`OO hne;lia)];let#[y,hy,ry]:=`nR pr e7;refine#[a,`a9,`lO,`VB,c,xs,y,rfl,rfl,`H3,by rw[← `qx pr];exact hy,?_];have nk:`hB X.K H1 B as `aOr `aaQ:=by
  refine#[_,rfl,`r7 ?_];have:∀{l:`n} {m:`S},`bS `aOu l m->`bS `aOu `az8 m.dropLast:=by
   intro l m h
   induction h with
   | nil=>exact `X
   | cons r t ih =>
    cases t with
    | nil=>exact `X
    | cons r' t'=>exact `Bz
  exact `E pr
 let#[O,q1,q2]:=`wG b1 b2 env s1 at' f1 f2 nk `OI (d:=`x) (v:=`x) `jW;exact#[a,O,q1,k _ _ q2.s]
universe zz
def RpW.backS(h:`fT)(s:`dw `t_ H'):`iK H' a `ev/\`dw H (`gg H' a `ev):=by
 refine#[rt0 h.hd `hM `lP (λk c so e1 e2=>s _ _ (`aN_)) `CH,`aAn,λb o xs e=>?_]
 ·unfold closed
  by_cases hb:b=a
  ·rw[`jc]
   rw[hb,`v1] at e;exact e
  ·rw[`ic]
   by_cases hm:b∈as
   ·let#[so,q]:=`aOv
    rw[q];rcases h.own b hm with z|z
    ·exact `aNY
    ·rw[z.2] at e;exact e
   ·rw[yk0 hm]
    exact s b o (by rw[xw0 hm];exact e)
 ·unfold closed at e
  by_cases hb:b=a
  ·rw[`jc] at e;cases e
  ·rw[`ic] at e
   by_cases hm:b∈as
   ·let#[so,q]:=`aOv
    rw[q] at e;cases e
   ·rw[yk0 hm] at e
    have:=s.nf b o xs e;rw[xw0 hm] at this;exact `E
def fnN(i:Nat)(go:GE)(gA:GA)(f:`T):GE:=fun δ=>`wE λd=>`gX λds=>`fY λns=>match `DA with
 | `kV=>if `OP/\`wt then (f (`jX::ds)).bind `aOw else `d
 | _=>`d
theorem ri0:∀{ds:`n},`wt->`ae2
 | [],_=>rfl
 | `aB,h=>by
  unfold flats at h;rw[`mu,`aI] at h;unfold vo0;rw[`aI];refine#[?_,ri0 h.2];cases d<;>first|rfl|(cases h.1)
section
variable{p:Pos}{gA:GA}
open T in
def ej0{k m:Nat}{f:`T}(C:`aEU)(hr:`wa)(hk:k<=m)(ho:`DD)(ha:`v5)(hg:`c!:=by rfl)(hdb:`aQ:=by decide)
  (he:`b! (o::es) `w=(`p,`hw)::`sZ:=by rfl) (hpl:`hf:=by rfl):PD X (`aV `nd (o::es) [] pos) (fnN i go gA f):=by
 let#[fa,fd,F,hm,kp,hb]:=C;exact .mk λB δ=>(K9 (ki0 (E:=E0) F `kO hg hm kp hb `X p30 (R8 (ho.go B δ) (Y90 `bs) he) hdb he hpl)).imp fun σ H Q hq169=>by
  let#[r,en,h,k]:=hq169
  unfold fnN at h;cases e1:`qy with
  | none=>rw[e1] at h;cases h
  | some d =>
  rw[e1,`h] at h;cases e2:`cO with
  | none=>rw[e2] at h;cases h
  | some ds =>
  rw[e2,`h] at h;cases e3:`dQ with
  | none=>rw[e3] at h;cases h
  | some ns =>
  rw[e3,`h] at h;split at h
  rotate_left
  ·cases h
  rename_i ls hn;split at h
  rotate_left
  ·cases h
  rename_i hfl;cases e4:f (`aOx) with
  | none=>rw[e4] at h;cases h
  | some r' =>
  rw[e4,`h] at h;split at h
  rotate_left
  ·cases h
  rename_i hfr;cases h;let#[a,as,sos,at']:=en.atN e3;refine#[d,a,ns,as,sos,en,e1,at',λv1 H1 s1 r1=>#[ds,`gP,e2,`G2]];have O:=`nB;have J:=`qv O;let#[k',c,so,rfl,f1,f2,f3,f4]:=`Vz `Hl hn;let#[xs,rfl,rx]:=`o6;refine#[a,`a9,`lO,?_];show spD X.K f ((`vp::vs)++[]) (`hL H2 `ev) _ E0;rw[`dh];refine#[`HR,`aOx,r,`aOy,?_,e4,`ad?]
  ·rw[o8]
   refine#[`vp,vs,rfl,?_,wh0 hfl.2 r2];rw[X6];exact#[c,xs,rfl,`aOz,wh0 hfl.1 (op0 (ri0 hfl.1) rx)]
  ·let#[c1,c2]:=`afd s3
   exact#[a,`a9,c1,k v _ (O.trans c2) (s60 hfr r3)]
universe zz
structure FnT(P:`ao)(w:`Q)(K:`A)(mg:`a2)(base:`D)(c m:Str)(k:Nat)(ps:`j)(F:`j)(f:`aF):Prop where
 ex:∃C fa fd,`aOA/\`aOB
def wa0(c:Str)(F:`j):`cA
 | `y (`bq::`y [`iM,`p5,`b_]::_)=>`B (c'=c)&&fs.all λn=>match n with|`b1=>F.contains x|_=>`p
 | _=>`p
def Y0(i:Nat)(c:Str)(F:`j)(gA:GA)(f:`aF):GX:=fun δ=>`r6 λb=>if `afe then `aNG else `d
open T in
def p90{d:D}(h:wa0 c F d=`c)(r:`mw)(hm:m∉F):∃x ns as sos C dx fs,d=`zE/\`fT/\`aff/\`jM/\`B6:=by
 unfold wa0 at h;split at h
 ·rename_i x c' fs ds rest
  rw[`aI,`OQ] at h;let#[hc,J]:=h;subst hc;let#[x',ns,e,as,sos,w]:=r;cases e;let#[so,O,nk]:=`nR `H6 (i:=0) rfl;let#[C,U,nm,xs,rfl,rfl,hl,hC,Y,rx]:=`DH;refine#[x,_,as,sos,C,U,_,rfl,w,O,hC,gi0 λz=>hm ?_];rw[`h7] at J;have:=J (`u m) (S4 z);exact E30.mp `E
 ·cases h
section
variable{gA:GA}
theorem O9(i:Nat){pl:`i!}{k:Nat}{f:`aF}(C:`aOC)(hr:`wH)(hk:k<=n)(ha:`oV)(hN:`kL:=by rfl)(hv:`wA:=by first|exact `aU|exact `cD|exact `cE)(hd:`rR:=by decide)(hcd:`wB:=by decide)
  (hst:`eH:=by rfl) (hpl:`hf:=by rfl)
  (ht:`aY `aOD `w=(do
   let ov ← `Dz
   `oI
   let (f,`f?) ← `rH
   `aym):=by rfl) :
  PX X `aOD (Y0 i c F gA f):=.mk λH₀ B₀ δ pins s σ H Q I hq170=>by
 refine `e;let#[r,en,e1,kk]:=hq170
 unfold Y0 at e1;let#[B,b1,b2,env]:=`aK;let#[Ca,fa,fd,Fo,hC,cl,a1,hb,a5]:=C.ex;cases eb:`gh with
 | none=>rw[eb] at e1;cases e1
 | some bm =>
 rw[eb,`h] at e1;split at e1
 rotate_left
 ·cases e1
 rename_i hfl;let#[d0,hi,Z]:=`mJ;cases e2:`cO with
 | none=>rw[e2] at e1;cases e1
 | some ds =>
 rw[e2,`h] at e1;cases e3:f `gw ds with
 | none=>rw[e3] at e1;cases e1
 | some q =>
 rw[e3] at e1;cases e1;let#[a,O,hB,ro]:=`ij;let#[h1,h2]:=Z _ _ _ _ ro;let#[x,ns,as,sos,C',dx,fs,a7,w,a2,Y,a6]:=`aOE;have a3:C'=Ca:=`aOF
 subst a3;let#[c1,c2]:=`OR;refine `b;refine(Xn0 (pl:=pl) (E:=E0) `OS cl a1 Fo `kO hb `X p30 (ey0 `bs) hst hpl ht) `i s σ H Q I #[`bt,O,a,`a9,`OT,a,dx,fs,rfl,`DJ w.hd a2,a6,a,`a9,c1,?_];rw[c2];refine#[ds,env,e2,`am'];show spB X.K 0 f (`bt::`abQ) H1 _ _;rw[`dh];refine#[B,ds,vs,a,`gw,q.2,q.1,`ae_,hB,rfl,`cN,r1,`aNJ,e3,λv H' hh a4 rv=>?_];have U:`On:=`aNK;have J:`Ox:=`ok hi O U (h2 H' B q.2 a4);exact `aNL
theorem zr0(i:Nat){pl:`i!}{k:Nat}{f:`aF}(C:`aOC)(hr:`wH)(hk:k<=n)(hN:`kL:=by rfl)(hv:`wA:=by first|exact `aU|exact `cD|exact `cE)(hd:`rR:=by decide)(hcd:`wB:=by decide)
  (ht:`aOG=(do
   let ov ← `Dz
   `oI
   let (f,`f?) ← `rH
   `OJ):=by rfl) :
  PX X `VH (Y0 i c F v6 f):=.mk λH₀ B₀ δ pins s σ H Q I hq171=>by
 refine `e;let#[r,en,e1,kk]:=hq171
 unfold Y0 at e1;let#[B,b1,b2,env]:=`aK;let#[Ca,fa,fd,Fo,hC,cl,Z,hb,a4]:=C.ex;cases eb:`gh with
 | none=>rw[eb] at e1;cases e1
 | some bm =>
 rw[eb,`h] at e1;split at e1
 rotate_left
 ·cases e1
 rename_i hfl;let#[d0,hi,Y]:=`mJ;rw[`aOH,`h] at e1;cases e3:f `gw [] with
 | none=>rw[e3] at e1;cases e1
 | some q =>
 rw[e3] at e1;cases e1;let#[a,O,hB,ro]:=`ij;let#[h1,h2]:=`aNI;let#[x,ns,as,sos,C',dx,fs,a6,w,a1,U,a5]:=p90 hfl h1 a4;have a2:C'=Ca:=by rw[hC] at U;cases U;rfl
 subst a2;let#[c1,c2]:=`OR;refine `b;refine(Rq0 (pl:=pl) (E:=E0) `OS cl Z Fo `kO hb `X p30 ht) `i s σ H Q I #[`bt,O,a,`a9,`OT,a,dx,fs,rfl,`DJ w.hd a1,a5,a,`a9,c1,?_];rw[c2];show spB X.K 0 f `d4 H _ _;refine#[B,[],[],a,`gw,q.2,q.1,`r9,hB,rfl,`cN,`fS,h1,e3,λv H' hh a3 rv=>?_];have J:`Ox:=`ok hi O hh (h2 H' B q.2 a3);exact `aOI
universe zz
def Env.unset{σ:St}{δ:Ds}(e:`a')(i:Nat)(o:`dq):Env K H B `Oe `aOJ:=by
 refine#[`oS `lE i `hD,`iF,`Ud];refine `e;rcases `hh with⟨_,z,_⟩|⟨n1,h1⟩
 ·cases z
 rcases `kR with⟨_,z,_⟩|⟨n2,h2⟩
 ·cases z
 rw[`o2] at h3;rw[`Dd] at h4;refine `b;exact `ML
def sh0(i:Nat)(n:D)(δ:Ds):Ds:=match `gh with
 | `VI=>`aX i (.ow (mk (`y (`b1::(ns++[n])))))
 | _=>δ
structure PartAt(K:`A)(H₀:Hp)(B₀:BS)(H:Hp)(σ:St)(δ:Ds)(i j:Nat)(dp:D):Prop where
 en:`ck
 ex:∃B a ns as sos v,`CR/\`CS/\`a'/\`r8/\`aa'/\RpN K H B as dp v
def Vl0{δ:Ds}{mk:`kM}(h:`aOK)(ms:`n):dpN i (`aX i (.ow (mk (`y (`b1::ms)))))=`a ms:=by
 have hl:i<`lT:=by
  cases q:`cb with
  | none=>rw[q] at h;cases h
  | some s=>exact(`ds q).1
 unfold dpN;rw[`v2];unfold y60 at h;split at h
 ·cases h
 ·cases h
 ·cases h;rfl
 ·cases h;rfl
 ·cases h
open T in
def Vc0{δ:Ds}(h:`Ib):∃x mk,`aOK:=by
 unfold dpN at h;cases eb:`gh with
 | none=>rw[eb] at h;cases h
 | some bm =>
  rw[eb,`h] at h;let#[b,mk]:=bm;split at h
  ·rename_i x ns' hb
   cases h;have hb:b=_:=hb;subst hb;exact#[x,mk,rfl]
  ·cases h
def NodeOk.ext{L:`f}(g:`eJ){n:D}(hdx:∀C dx fs,so=`lk->dx≠L)(h:`MF):`hB K H' B' `lR n so:=by
 have l:∀(k:Nat) a,`Tt->`lR[k]?=`jJ:=λk a e=>by rw[`ga (`ds e).1];exact e
 unfold NodeOk at h ⊢;split at h
 ·let#[xs,e,r]:=h;exact#[xs,e,`afg]
 ·let#[xs,e,z,r]:=h;exact#[xs,e,z,`afg]
 ·refine `e;let#[C,dx,ns,xs,e,f,z,c,q,r]:=h
  refine `b;exact#[C,dx,ns,xs,e,f,z,c,λw=>(`ep w).elim q λw=>hdx _ _ _ e (N4.mp w),`afg]
 ·exact `mn
def EnvS.unset{σ:St}{δ:Ds}(e:`ck)(i:Nat)(o:`dq):`cj K `O `L H `Oe `aOJ:=by
 let#[B,b1,b2,env]:=e.ex;refine#[e.same,#[B,b1,b2,env.unset i o],`Ue,e.b0];refine `e;rcases `hh with⟨_,z,_⟩|⟨n1,h1⟩
 ·cases z
 rw[`o2] at h2;refine `b;exact e.fr j ds a h1 h2
section
variable{lp:Pos}{gk:GE}
def V80{x1}(i j:Nat)(nd:`ek)(hk:`aOL)(hi:`o3:=by rfl)(hy:`ie:=by first|exact `aU|exact `fp)
  (hs:`b! `afh `w=(`p,`aY ke `w)::`aOM:=by rfl) (hs2:`aOM=(`p,`aY (`VJ) `w)::`hE:=by rfl)
  (hsw:`gH (`lJ `afh x1 tp) `yK `jA `w=`ff:=by rfl)
  (hf:`ig:=by first|exact `bQ|exact `b?|assumption) :
  PS X (`hy `ns (`lJ `afh x1 tp) pos) `aON:=by
 intro pins s σ H D I #[`O,`L,δ,dk,ns,en,e1,c8,e2,c3,kk];refine `e;let#[B,b1,b2,env]:=`aK;let#[a,as,sos,at']:=`zG e2;have jl:j<`pz:=by
  let#[m,hn,hl]:=`K?;have h1:=`Fj;have:=`c0;lia
 refine `b;refine Y00 nd hi hy (K9 (U9 (bc0 (R8 (hk.go B δ) (R8 (a80 zt0) zt0 hs2) hs)))) hsw hf `i s σ H D I #[dk,env,e1,λv1 H1 s1 r1=>#[`cN,λL hL=>#[`UX,λt ht=>?_]]];have hH:`abA:=at'.w.at';have U:H L=`d:=`lG hL;obtain⟨H2,a1⟩:∃H2,H2=`aOO:=`ad;rw[← a1] at ht ⊢;have s2:`Mg:=by rw[a1];exact Z5 hL
 have d1:`Dq:=`aHS ht;obtain⟨H3,a8⟩:∃H3,H3=upd H2 t (`y `VO):=`ad;rw[← a8];have s3:`aOP:=by rw[a8];exact Z5 ht
 have a3:`dw H H3:=`o4;have b3:H2 L=`a `gY:=by rw[a1,m8]
 have e5:H3 L=`a `gY:=s3 _ _ b3;have e3:H3 t=`aOQ:=by rw[a8,m8]
 have c2:∀b∈as,`aa_:=λb hb z=>by
  rcases `aOR with q|q
  ·rw[q,hH] at z;cases z
  ·rw[q.2] at z;cases z
 have La:L∉as:=λz=>c2 L z U
 have ta:`N9:=λz=>c2 t z d1
 have aL:a≠L:=`aOS
 have c4:=`qv a3;have J:`aOT=(`VQ).length:=`aOU
 have a4:`aOV:=by
  rw[`Nb];refine`aOW;rw[`OU] at z;exact `aOX
 have a2:`aOY:=`aOZ
 have e4:∀(k:Nat) c so,`lR[k]?=`eo->`Id[k]?=`tX->`aO_∨(`OV/\c=L/\so=`pV):=λk c so q1 q2=>by
  by_cases hk':k<`hC
  ·rw[`OW] at q1
   rw[`aO0] at q2;exact `t `Dg
  ·have hl1:=`afi
   rw[`Z] at hl1;have e8:`OV:=`aO1
   subst e8;rw[`r',`kS] at q1;rw[`zH,`r',`kS] at q2;exact `aO2
 have Z:∀(k:Nat) C dx fs,`Id[k]?=`nb->k=0:=λk C dx fs e=>by
  by_cases hk':`OB
  ·rw[`OW] at e
   exact `aO3
  ·rw[`Ou] at e
   cases q:k - `GB with
   | zero=>rw[q] at e;cases e
   | succ n=>rw[q] at e;cases e
 have cl:`iK `Ii a `afj:=rt0 a2 a4 J (λk c so q1 q2=>by
  refine `e;rcases e4 k c so q1 q2 with⟨q1,q2⟩|⟨_,rfl,rfl⟩
  ·refine `b;exact c4.w.opAt q1 q2
  ·refine `b;rw[xw0 La];exact e5) Z
 refine#[a,`a9,c4.w.openOk,a,_,cl,kk _ _ ?_];obtain⟨Hc,Y⟩:∃Hc,Hc=`gg `Ii a `afj:=`ad;rw[← Y];refine `e;have ca:Hc a=`a (`nu `afj):=by rw[Y];unfold closed;rw[`bc]
 have b0:∀b∈`lQ,`aO4:=λb hb n=>by
  rw[Y];unfold closed;let#[so,q]:=vw0 J hb a4;rw[`al n,q]
 have O:`aO5:=λb hb=>by
  rw[Y];unfold closed;rw[`al (show ¬b=a from λz=>hb (by rw[z];exact D0 a2)),yk0 hb,`aO6]
 have but:`aO7:=#[λb u n z=>by
  by_cases hb:`OX
  ·rcases `OY with q|q
   ·rcases `VS with w|w
    ·exact `N w n
    ·rw[`afk,← w.2,z]
   ·rw[`DK,U] at z;cases z
  ·rw[O b hb];exact a3 _ _ z,λb u xs n z=>by
  by_cases hb:`OX
  ·rw[`afk] at z;cases z
  ·rw[O b hb] at z;exact a3.nf _ _ _ z]
 have gr:`aO8:=`aO9;have e7:¬B L:=`DL U;have hw:RpW X.K Hc B (`Ie) a `lR `Id:=by
  refine#[a2,a4,ca,`iv,J,`iE ?_ (`aq #[[],rfl,`afl] `X),Z]
  ·by_cases n:b=a
   ·exact `t n
   ·refine `s #[?_,`afk]
    rcases `OY with q|q
    ·exact`aO'
    ·rw[`DK];exact e7
  ·refine `aO!
   intro z;refine `e;subst e;have e6:=`aO?;subst e6;obtain⟨_,all⟩:(`Ob)/\∀p∈`a9,`aeQ:=`bg a _ hH;have hm:`aPa:=by
    refine `aPb;rw[`aPc];exact#[`t1,q2]
   let#[_,w,_]:=`aPd;rw[z,U] at w;cases w
 let#[x,mk,a5]:=Vc0 e2;let#[d0,a6,d3]:=w50 a5;let#[a',c1,hB,ro]:=`tF a6;rw[`gi] at c1;cases c1;have d2:`apl=`aPe:=`aPf
 have a7:Env X.K Hc B σ (`aPe):=`ok a6 `gi but ((d3 _ _ _ _ ro).2 _ _ _ `aPg);have e9:=`tZ b1 b2 a6 `gi but a7;refine `b;rw[d2];have c5:=Vl0 a5 (`Ie);refine#[EnvS.unset e9 j _,B,a,`Ie,`lQ,`VQ,`s',b1,b2,a7.unset j _,#[?_,hB,?_,hw],E70 jl,?_]
 ·rw[`aPh];exact `gi
 ·unfold dpN at c5 ⊢
  rw[`aPh];exact c5
 ·rw[yv0]
  have f0:Hc t=`aOQ:=by
   rw[O t (λz=>(`ep z).elim ta λz=>by
    rw[`e9,b3] at ht;cases ht)]
   exact e3
  refine `s #[?_,t,`VO,rfl,#[`DL d1,f0],?_]
  ·cases dk<;>rfl
  ·rw[J4]
   refine#[v1,[`t0],rfl,mk0 ?_ (s60 c8 r1),?_]
   ·cases dk<;>first|rfl|(cases c8)
   ·rw[J4]
    refine#[`t0,[],rfl,?_,`afl];unfold O5;rw[yv0];have e0:`fg=`hC:=`aPi
    exact `t #[`fg,L,wn0 _,by rw[e0,`r',`kS];rfl,rfl]
universe zz
def r00(i:Nat)(go:GE)(dp:D)(δ:Ds):`aL Ds:=`wE λd=>`fY λns=>`DC λk=>match `iL with
 | `kV=>if `ge<`R then `a (`e8 i k `OZ δ) else `d
 | _=>`d
section
variable{o2:`I}{lp:Pos}{gk go2:GE}
open T in
def ia0(i j:Nat)(ho:`DD)(hN:`o3:=by rfl)(hv:`wA:=by first|exact `aU|exact `cD|exact `cE)(hd:`rR:=by decide)(hcd:`wB:=by decide)
  (hbase:`aOc:=by rfl)
  (hfew:((`d0 `ca (`aPj)).all `G0&&`G1
  &&`B ((`ns:`bA).length+`y5+`y6<30))=`c:=by rfl)
  (hline:`fO:=by rfl) (hs:`aPj=(`p,`aY `Go `w)::`hE:=by rfl) (hplain:`mB:=by rfl)
  (hsw:`gH `aPk `d `jA `w=`ff:=by rfl) :
  PS X (`Fs `aPk pos) (λD σ H=>∃H₀ B₀ δ dp δ',`afm/\r00 i go dp δ=`p0/\`afn):=by
 intro pins s σ H De I #[`O,`L,δ,dp,δ',pt,e1,kk];let#[en,B,a,ns,as,sos,v,b1,b2,env,at',hj,rv]:=pt;unfold r00 at e1;cases e2:`qy with
 | none=>rw[e2] at e1;cases e1
 | some d =>
 rw[e2,`h,`wD,`h] at e1;cases e6:`nQ with
 | none=>rw[e6] at e1;cases e1
 | some k =>
 rw[e6,`h] at e1;split at e1
 rotate_left
 ·cases e1
 rename_i es hnode;split at e1
 rotate_left
 ·cases e1
 rename_i hz;cases e1;refine ru0 (K9 (rl0 Q2 B50 B60 po0 `OF (R8 (R0 (i:=j) hN hv hd hcd) zt0 hs) `e3 `ja `gr hs `kH)) hsw `i s σ H De I `OG;have J:=`il;let#[c,so,rfl,f1,f2,f4]:=`OH;let#[xs,rfl,rx]:=`o6;refine#[a,`a9,`lO,`VB,v,hj,c,xs,v,rfl,rfl,`H3,by rw[← `OE];exact hz,?_];have nk:`hB X.K H1 B as `OZ (`o `zL):=#[_,rfl,`r7 (`iE `H5 (`aq (`nL s1) `X))];let#[p1,p2,p3]:=J.w.put `t2 f1 f2 nk `OI;refine#[a,_,p1,kk _ ?_];rw[show (`V4 `zL)=(`VP `zL).ho from rfl,p2];let#[d0,d',Z,q1,O]:=(`jV).setN J p3;let#[x,mk,Y]:=Vc0 `wD;have U:dpN i (DL.setN i k `OZ δ)=`a (`Vy k `OZ):=by
  unfold DL.setN;rw[Y];exact Vl0 Y _
 rw[q1] at U ⊢;exact#[`zd s1 b1 b2 Z `gi O,B,a,_,as,_,v,b1,b2,O,#[`gi,`t2,U,p3],hj,(`nL s1).mono (`za `t2) `GA]
def qh0(i j:Nat)(gk ga gb:GE):GSB:=fun δ=>`Op λdk=>`fY λns=>if `VN then
 (`aPl).bind fun δ2=>(`aPm).map fun δ3=>.nx δ3 else `d
theorem bx0{st1 st2 st3:`a1}{rest:`b5}{G:GSB}{ga gb:GE}(i j:Nat)(hij:`Ia)
  (h1:PS X st1 `aON)
  (h2:PS X st2 (λD σ H=>∃H₀ B₀ δ dp δ',`afm/\r00 i ga dp δ=`p0/\`afn))
  (h3:PS X st3 (λD σ H=>∃H₀ B₀ δ dp δ',`afm/\r00 i gb dp δ=`p0/\`afn))
  (h:`j2 X `a3 G):`j2 X (st1::st2::st3::`a3) (o5 (qh0 i j gk ga gb) G):=.mk λH₀ B₀ δ pins s σ H D I hq172=>by
 refine `e;let#[r,en,e,k]:=hq172
 unfold o5 qh0 at e;cases e1:`HP with
 | none=>rw[e1] at e;cases e
 | some dk =>
 rw[e1,`h] at e;cases e2:`dQ with
 | none=>rw[e2] at e;cases e
 | some ns =>
 rw[e2,`h] at e
 by_cases hf:`VN
 rotate_left
 ·rw[`Nt] at e;cases e
 rw[`wg] at e;cases e3:`aPl with
 | none=>rw[e3] at e;cases e
 | some δ2 =>
 rw[e3,`h] at e;cases e4:`aPm with
 | none=>rw[e4] at e;cases e
 | some δ3 =>
 rw[e4] at e;refine `b;refine T7 h1 (T7 h2 (T7 h3 (h.go `O `L δ3))) `i s σ H D I #[`O,`L,δ,dk,ns,en,e1,hf,e2,hij,fun σ1 H1 p1=>#[`O,`L,_,_,δ2,p1,e3,λH2 p2=>#[`O,`L,δ2,_,δ3,p2,e4,λH3 p3=>#[r,p3.en,e,k]]]]
universe zz
universe DL
namespace L2
open Spec PyProof.Rows
theorem U30(h:`gp):PE X e (fun σ H Q=>∃a sub,`aMU/\te σ `aMV Q):=λpins s σ H Q I #[a,sub,o,q]=>h `i s σ _ Q (I.opened o) q
universe L2
namespace DL
open Spec PyProof.Rows L2
mutual
def tr:`cA
 | `ch=>`r!
 | `b_=>`p
 | `oX=>`p
 | `oY=>`p
 | _=>`c
def trs:`C0
 | []=>`c
 | `aB=>tr d&&`r!
end
section
mutual
theorem Hu0(g:`aPn):∀{d:D} {v:V},`kW->`aB8
 | `x,_,_,h=>by rw[V6] at h ⊢;exact h
 | `bN,_,_,h=>by rw[Z9] at h ⊢;exact h
 | `co,_,_,h=>by rw[j6] at h ⊢;exact h
 | `bq,_,_,h=>by rw[X5] at h ⊢;exact h
 | `ch,_,n,h=>by
  unfold tr at n;rw[U7] at h ⊢;let#[a,xs,e,q,r]:=h;exact#[a,xs,e,`aPo,kh0 g n r]
 | `ci,_,n,h=>by unfold tr at n;cases n
 | `jf,_,n,h=>by unfold tr at n;cases n
 | `oQ,_,n,h=>by unfold tr at n;cases n
theorem kh0(g:`aPn):∀{ds:`n} {xs:`S},`r!=`c->`abr
 | [],_,_,h=>by rw[m9] at h ⊢;exact h
 | `aB,_,n,h=>by
  unfold trs at n;rw[`aI] at n;rw[o8] at h ⊢;let#[x,r,e,h1,h2]:=h;exact#[x,r,e,Hu0 g n.1 h1,kh0 g n.2 h2]
end
universe zz
def uf0(ns:`n):`yM
 | `y [k,`y r]=>(yq0 r).bind λn=>match ns[n]? with
  | `kV=>if `cv k=`c/\trs es=`c/\vo0 es=`c then `a (`y [k,`jX]) else `d
  | _=>`d
 | _=>`d
def ba0{d:D}(h:`o1):`kU:=by cases d<;>first|rfl|(cases h)
theorem RpW.off_tup(w:`fT){t:`f}(h:H t=`hr):`N9:=λz=>by
 rcases w.own t z with q|q
 ·rw[q,w.at'] at h;cases h
 ·rw[q.2] at h;cases h
open T in
def RpW.part(w:`fT){d:D}(r:`jh)(h:`afo=`a d'):Rp K `t_ `ww d' v:=by
 unfold uf0 at h;split at h
 rotate_left
 ·cases h
 rename_i k rr;cases er:yq0 rr with
 | none=>rw[er] at h;cases h
 | some n =>
 rw[er,`h] at h;split at h
 rotate_left
 ·cases h
 rename_i es hn;split at h
 rotate_left
 ·cases h
 rename_i hq;cases h;let#[h1,h2,h3]:=hq;rw[yv0] at r;rcases r with⟨k',c,e,_⟩|⟨_,t,xs,rfl,q,rs⟩
 ·exfalso
  cases k<;>cases e
 rw[J4] at rs;let#[vk,r1,rfl,rk,rs]:=rs;rw[J4] at rs;let#[vc,r2,rfl,rc,rs]:=rs;rw[xj0] at rs;subst rs;rw[yv0,er] at rc;rcases rc with⟨k',c,e,hc,rfl⟩|⟨e,_⟩
 rotate_left
 ·cases e
 cases e;let#[so,J,nk]:=`aOa;let#[ys,rfl,ry]:=wr0 nk;have gt:∀b xs,`p9->`E?->¬(λ_:`f=>`b') b/\`aNX=`hr:=λb xs _ z=>#[`xY,by rw[xw0 (w.off_tup z)];exact z]
 rw[U7];refine#[t,_,rfl,gt t _ q.1 q.2,?_];rw[o8];refine#[vk,_,rfl,s60 h1 (Zc0 (ba0 h1) rk),?_];rw[o8];refine#[`vp,[],rfl,?_,`fS];rw[X6];exact#[c,ys,rfl,`t #[`xY,`t (`DJ hc J)],kh0 gt h2 (op0 h3 ry)]
def Env.blank{σ:St}(h:`pz=n):Env K H `ww σ (`aBD):=by
 subst h;refine#[?_,λa z=>`d',`aGx]
 ·induction σ with
  | nil=>exact `X
  | cons o σ ih=>exact `aq `lE ih
 ·rw[`rI] at h1
  split at h1<;>cases h1
def cw0(i j:Nat)(g g2:GE):GSB:=fun δ=>`cB λd=>`fY λns=>(`afo).bind λd'=>(`aPp).bind λr=>match r with
 | `jX=>if `OP then `a (.rt `H2 δ) else `d
 | _=>`d
section
variable{e2:`I}{g g2:GE}
open T in
theorem Ul0(i j:Nat)(nd:`ek)(he:`OD)(h2:PDF X e2 g2)(hi:`o3:=by rfl)(hy:`ie:=by first|exact `aU|exact `fp)
  (hsw:`gH e `yK `jA `w=`ff:=by rfl)
  (hf:`ig:=by first|exact `bQ|exact `b?|assumption) :
  `j2 X [`hy `ns e pos,`Sm (`a e2) `nJ] (cw0 i j g g2):=.mk λH₀ B₀ δ pins s σ H D I hq173=>by
 let#[r,en,e1,kk]:=hq173
 unfold cw0 at e1;let#[B,b1,b2,env]:=`aK;cases q1:`av with
 | none=>rw[q1] at e1;cases e1
 | some d =>
 rw[q1,`h] at e1;cases q2:`dQ with
 | none=>rw[q2] at e1;cases e1
 | some ns =>
 rw[q2,`h] at e1;cases q3:`afo with
 | none=>rw[q3] at e1;cases e1
 | some d' =>
 rw[q3,`h] at e1;cases q4:`aPp with
 | none=>rw[q4] at e1;cases e1
 | some rr =>
 rw[q4,`h] at e1;split at e1
 rotate_left
 ·cases e1
 rename_i es;split at e1
 rotate_left
 ·cases e1
 rename_i hfl;cases e1;let#[a,as,sos,at']:=`zG q2;refine T7 (Y00 nd hi hy (he.go B δ) hsw hf) (T7 (o50 (K9 (U30 (h2.go `ww `apt)))) sg0) `i s σ H D I `aPq;have J:=`il;refine#[a,`a9,`lO,`jX,?_,q4,`aPr]
 ·exact(`aPs).set j (J.w.part r1 q3)
 ·let#[c1,c2]:=`afd s2
  refine#[a,`a9,c1,kk _ σ _ ?_];have O:p∉as:=λz=>by
   let#[so,l]:=vw0 J.w.len z J.w.nd;unfold opened at hp;rw[l] at hp;cases hp
  have U:`_2:=by rw[xw0 O] at hp;exact hp
  have sm:=`jN c2;refine `aPt;let#[xs,o1,rx]:=ro;rw[X6];refine#[p,xs,rfl,`t #[`DL (`lG U),`t ?_],`aPu];unfold closed;rw[`al (λz=>O `aPv),yk0 O];exact o1
universe zz
universe DL
namespace DL
open Spec PyProof.Rows L2
def partsOf(ns:`n):`Mt
 | []=>`p_
 | `mF=>(uf0 ns p).bind λd=>(`DM).map (d::·)
def ot0(i:Nat)(go:GE)(n:Nat)(caps:`m)(f:`a8)(ge:GE):GX:=fun δ=>`wE λd=>`fY λns=>`DC λk=>match `iL with
 | `a (`o ps)=>(`DM).bind λitems=>(`aPw).bind λr=>match r with
  | `o rs=>if trs rs=`c then `a (`y rs,δ) else `d
  | _=>`d
 | _=>`d
theorem RpW.parts(w:`fT):∀{ps items:`n} {xs:`S},`jK K H B as ps xs->`DM=`Gv->Rps K `t_ `ww `ba xs
 | [],_,_,r,h=>by
  rw[xj0] at r;cases h;rw[m9];exact r
 | `mF,_,_,r,h=>by
  refine `e;rw[J4] at r;let#[x,xs,rfl,r1,r2]:=r;unfold partsOf at h;cases e1:uf0 ns p with
  | none=>rw[e1] at h;cases h
  | some d =>
  rw[e1,`h] at h;cases e2:`DM with
  | none=>rw[e2] at h;cases h
  | some ds =>
  rw[e2] at h;cases h;refine `b;rw[o8];exact#[x,xs,rfl,w.part r1 e1,w.parts r2 e2]
def Po0(q:`yR)(rs:Rps K H B `ba xs):ItD K B (Itl K a) `ba H:=by
 refine`TJ
 ·have:`vR:=`GP
  exact`abZ
 ·let#[e3,y]:=y
  let#[x',e4,r']:=`ab_;have:=`ab0;rw[e4] at this;cases `E;subst e3;exact`ab1
 ·exact`ab2
section
variable{p lpos:Pos}
open T in
theorem Qv0(i:Nat){sc scope:`cz}{elt iter:`I}{N N':`j}{n:Nat}{caps:`m}{idx:`m}{f:`a8}{ge:GE}
  (hm:`bz `dk=`d) (hbt:`aPx) (ok:`o0) (hidx:∀j∈idx,j<n) (hi:PN X i `jC go)
  (hg:`ii) (he:`oW)
  (hc:`bx:=by rfl) (hsc:`fP:=by rfl) (hN:`rU:=by rfl) (hs:`eG:=by intro _;rfl) (hgl:Gl X `dk := by rfl)
  (hst:`b! [`afp] `w=(`p,`aY (`afp) `w)::`hE:=by rfl) (hpl:`jk:=by rfl) :
  PX X (`aV (`bh `dk p) [`afp] [] pos) (ot0 i go n `cM f ge):=.mk λH₀ B₀ δ pins s σ H Q I hq174=>by
 let#[r,en,e1,kk]:=hq174
 unfold ot0 at e1;let#[B,b1,b2,env]:=`aK;cases q1:`qy with
 | none=>rw[q1] at e1;cases e1
 | some d =>
 rw[q1,`h] at e1;cases q2:`dQ with
 | none=>rw[q2] at e1;cases e1
 | some ns =>
 rw[q2,`h] at e1;cases q3:`nQ with
 | none=>rw[q3] at e1;cases e1
 | some k =>
 rw[q3,`h] at e1;split at e1
 rotate_left
 ·cases e1
 rename_i ps hn;cases q4:`DM with
 | none=>rw[q4] at e1;cases e1
 | some items =>
 rw[q4,`h] at e1;cases q5:`aPw with
 | none=>rw[q5] at e1;cases e1
 | some rr =>
 rw[q5,`h] at e1;split at e1
 rotate_left
 ·cases e1
 rename_i rs;split at e1
 rotate_left
 ·cases e1
 rename_i htr;cases e1;let#[a,as,sos,at']:=`zG q2;refine K9 (pk0 z30 hgl hm hbt (R8 (fj0 hc hsc `rV (Xp0 (U9 (hi.go B δ))) (g:=`p8) (tt:=`afq) (te:=`M2)
  `v9
  `afr
  `M3 hs) zt0 hst) `r `r hst hpl) `i s σ H Q I `aPq
 have J:=`il;let#[c,so,rfl,f1,f2,f4]:=`apf r1 q3 hn;let#[xs,rfl,rx]:=`o6;have sq:SqL' X.K (`aPy) `ww c xs:=`aOz;refine#[a,`a9,`lO,c,rfl,#[xs,sq.to],?_];have Z:=pg0 (K:=X.K) (B:=`HR) (δ:=`VV) (σ:=σ) (H:=`aPy) (n:=n) (caps:=`cM) (gi:=`apu) (idx:=idx) (f:=f) (gt:=noT) (ge:=ge) `fV
  (Q:=λv H'=>Pb0 σ H' λxs H2=>`azX (v::xs) H2 `aNP) #[`o rs,`aPs,q5,`aPr]
 ·let#[Y,_,e',fk]:=Z
  cases e';exact fk (Itl X.K c) _ `tw (Po0 sq (J.w.parts rx q4))
 ·let#[zs,o1,rz]:=ro
  refine#[p,zs,rfl,`t #[`t (`t o1),λl hl=>?_]];obtain⟨H3,O⟩:∃H3,H3=upd H2 l (`y zs):=`ad;rw[← O];have s3:`aOP:=by rw[O];exact Z5 hl
  let#[c1,c2]:=`afd `A8;have sm:=`jN c2;refine#[a,`a9,c1,kk _ _ (`aPt)];have U:∀b xs,`aPz->`OC:=λb xs z m=>by
   let#[so,l]:=vw0 J.w.len m J.w.nd;have:`hL H1 `ev b=`HU:=by unfold opened;rw[l]
   rw[`A8 _ _ `E] at z;exact `aeP so xs (A4 z)
  have gt:∀b xs,`aPz->`p9/\`aPA:=λb xs z=>by
   have hb:=U b xs z;have e:`aPA:=by
    unfold closed;rw[`al (λz=>hb `aPv),yk0 hb];exact z
   exact#[λw=>((`iC sm).bad b w).nt xs e,e]
  rw[U7];exact#[l,zs,rfl,gt l zs (by rw[O,m8]),kh0 (λb xs _ z=>gt b xs (s3 _ _ z)) htr rz]
universe zz
def y20(f:`a8)(gx:GX)(jb:Nat)(δ0:Ds):`n->D->`aL (`n×D)
 | [],b=>`a ([],b)
 | `aB,b=>(f d (δ0.set jb (.ow b))).bind fun δ1=>(gx δ1).bind λr=>match r.2[jb]? with
  | `a `VX=>(y20 f gx jb δ0 ds b').map λq=>(r.1::q.1,q.2)
  | _=>`d
def v70(n:Nat)(caps:`m)(i jb:Nat)(gi:GA)(f:`a8)(gx:GX):GX:=fun δ=>`r6 λb=>`v_ λitems=>if `rQ then
 (y20 f gx jb `iA `ba b.1).bind λq=>if isL q.2=`p then `a (`o q.1,`aX i (.ow (b.2 q.2))) else `d else `d
def Env.comp_own{σ:St}{δ:Ds}(en:`a')(no:`aDU){jb:Nat}{b:D}(hs:σ[jb]?=`yV)(hb:B a)(r:RpL K H B b a):Env K H B σ (`aX jb (.ow b)):=by
 refine#[`T! (i:=jb) `Hb hs `Vd,`M_,λi j a' ds es h1 h2 _ _=>?_];refine `e;rcases `hh with⟨q1,_,_⟩|⟨_,z⟩
 ·rcases `kR with⟨q2,_,_⟩|⟨_,z⟩
  ·refine `b;exact q1.symm.trans q2
  ·refine `b;exact `aPB
 ·refine `b;exact `aPB
def P70{σ:St}{k:Nat}(hcap:`wI)(hs:`BG):`aPC=`mZ:=by
 unfold G3;rw[`aA?,`vN,`aBa,`cp,hcap];show `a ((`Fd).join)=_;rw[hs];rfl
def teX(K:`A)(gx:GX):TE:=fun σ H Q=>∃H₀ B₀ δ,tX K `O `L δ gx σ H Q
open T in
def gf0{K:`A}{H₀:Hp}{B₀:BS}{δ:Ds}{σ:St}{H:Hp}{Q:VK}{k:Nat}{gi:GA}{f:`a8}{gx:GX}(hcap:`wI)(hidx:∀j∈idx,j<n)
  (h:tX K `O `L δ `VZ σ H Q) :
  cr0 n `cM (fun σ H R=>∃B δ,tDI K B δ gi σ H R) `aDY (fun σ H Q=>∃B δ,tDT K B δ noT σ H Q) (teX K gx) σ H Q:=by
 let#[r,en,e1,kk]:=h;let#[B,b1,b2,env]:=`aK;unfold v70 at e1;cases eb:`gh with
 | none=>rw[eb] at e1;cases e1
 | some bm =>
 rw[eb,`h] at e1;cases e2:`to with
 | none=>rw[e2] at e1;cases e1
 | some items =>
 rw[e2,`h] at e1;split at e1
 rotate_left
 ·cases e1
 rename_i hsz;cases e3:y20 f gx `t4 `iA `ba `gw with
 | none=>rw[e3] at e1;cases e1
 | some q =>
 rw[e3,`h] at e1;split at e1
 rotate_left
 ·cases e1
 rename_i hq;cases e1;let#[d0,b0,Y]:=`mJ;let#[a,a1,hB,ro]:=`tF b0;refine#[B,δ,`ba,env,e2,`aDZ];have Z:=`jV;have f0:RpG K H1 B `gw a:=RpG.same s1 (`aPD).1;have e0:¬B L:=Z.free hL;have a7:a≠L:=λz=>e0 (z▸hB)
 obtain⟨Bp,U⟩:∃Bp:BS,Bp=λx=>B x∨x=L:=`ad
 have c4:Bp L:=by rw[U];exact `b?
 have O:∀x,B x->Bp x:=λx z=>by rw[U];exact `gc
 have d1:∀x,Bp x->B x∨x=L:=λx z=>by rw[U] at z;exact z
 have gr:∀{H2:Hp},`aPE->`aD0:=λ{H2} h2 x o nb hx=>#[λz=>(d1 x z).elim nb (V5 hx hL),h2 x o (λz=>nb (z▸hB)) hx]
 have a6:`aPC=`yV:=P70 hcap a1;have d3:n+k∉idx:=λz=>by have:=`fV _ z;lia
 have f1:n+k<(`Gt).length:=by
  rw[← `qx (env.comp n `cM).all];exact(`ds a6).1
 have bu:But a H1 (`aOO):=#[λx o _ e=>by rw[`aPF];exact e,λx o xs _ e=>by
  by_cases z:x=L
  ·rw[z,m8] at e;cases e
  ·rw[`oT] at e;exact e]
 refine#[λj m ys H2=>m=`cP - j/\j<=`cP/\`aD1/\`aPE/\`er<=j/\∃pre rest b',q.1=pre++`a3/\`aD2/\RpL K H2 Bp b' a/\y20 f gx `t4 `iA (`jS j) b'=`a (`a3,q.2),
  #[_,rfl,`cN,m8,bu,`ho,[],q.1,`gw,rfl,`fS,(`acJ `aPG (gr bu) f0).toL,e3],?_]
 rintro j m ys H2 ⟨rfl,g3,hD,s2,f9,pre,rest,b',ho,rp,rb,ec⟩;have a4:∀x,Bp x->NB (H2 x):=λx z=>by
  by_cases xa:x=a
  ·rw[xa];exact rb.live
  rcases d1 x z with z|z
  ·exact(Z.bad x z).keep λo h=>s2 x o xa h
  ·rw[z];exact NB.of hD (λ_ _ z=>by cases z) (λ_ z=>by cases z)
 have f8:Env K H2 Bp `fn `aPH :=
  Env.comp_own #[Pd.impG (gr s2) `aD3 (Z.comp n `cM).all,a4,`ab7] (λ_ _ z=>us0 z) a6 (O a hB) rb
 by_cases hlt:j<`cP
 ·refine `s #[it.go j H2 `afs hlt,`aD4]
  let#[sm,dx,c5,rx]:=`TP j H2 x H3 `afs y hlt;have s3:But a H1 H3:=#[λx o n e=>sm _ _ (s2 x o n e),λx o xs n e=>s2.nf x o xs n (sm.nf x o xs e)];have f2:`aD5:=rx Bp (gr s3) a4;have e8:=f8.same sm;have f6:=sm _ _ hD;have f4:=rp.same sm;have c3:`jS j=dx::`jS `mc:=by
   rw[`MX];congr 1;rw[`MY] at c5;exact A4 c5
  rw[c3] at ec;unfold y20 at ec;cases e4:f dx `aPH with
  | none=>rw[e4] at ec;cases ec
  | some δ1 =>
  rw[e4,`h] at ec;cases e5:gx δ1 with
  | none=>rw[e5] at ec;cases ec
  | some r5 =>
  rw[e5,`h] at ec;split at ec
  rotate_left
  ·cases ec
  rename_i b2' ho5;cases e6:y20 f gx `t4 `iA (`jS `mc) b2' with
  | none=>rw[e6] at ec;cases ec
  | some q6 =>
  rw[e6,`id] at ec;have a3:r5.1::q6.1=`a3:=(`O_).1;have a2:q6.2=q.2:=(`O_).2;refine#[Bp,dx,_,δ1,f2,e8,e4,fun σ4 w en4=>#[#[w.len,λj' v z=>?_],?_]]
  ·by_cases hj:j'∈idx
   ·rw[Y40 (`fV j' hj)] at z;cases z
   ·rw[(`yZ j' hj).1];exact z
  have h4:σ4[n+k]?=`yV:=by rw[(`aPI).1];exact a6
  refine#[Bp,δ1,`c,en4,rfl,`aD6];show if `c=`c then _ else _
  rw[`bc];have a8:=`aD7;refine#[λx=>if x=a then `d else H5 x,λx=>Bp x/\x≠a,δ1,r5,#[#[λx o e=>?_,λx o xs e=>?_],#[Bp,`aeX,λx z=>?_,a8],λi' ds a' h1 h2=>?_,λx z=>?_],e5,λv H6 ev=>?_]
  ·by_cases z:x=a
   ·simp only[z,`eY] at e;cases e
   ·simp only[z,`cS] at e;exact e
  ·by_cases z:x=a
   ·exfalso
    let#[a5,c8,_,f7]:=a8.at (i:=n+k) (d:=b') (by rw[(`aPI).2];exact E70 f1);rw[h4] at c8;cases c8;rw[z] at e;exact f7.plain o xs e
   ·simp only[z,`cS];exact e
  ·by_cases z':x=a
   ·exact `s (by simp only[z',`eY])
   ·exact `t #[z,z']
  ·have f3:i'∉idx:=λz=>w.own i' z ds h1
   rw[(`yZ i' f3).2] at h1;rcases `hh with⟨q1,_,_⟩|⟨_,z⟩
   ·rw[← q1,h4] at h2
    cases h2;simp only[`eY]
   ·exact(us0 z).elim
  ·simp only[z.2,`cS]
   exact a8.bad x z.1
  let#[B',c1,c2,e7,rv]:=`gv;let#[a',d2,e9,rl]:=e7.at ho5;rw[h4] at d2;cases d2;have less:∀x,Bp x->B' x:=λx z=>by
   by_cases q:x=a
   ·rw[q];exact e9
   ·exact `wz
  have bt:But a H5 H6:=#[λx o z e=>`H_ x o `ao8,λx o xs z e=>by have:=ev.same.nf x o xs e;simpa only [z,x6] using `E];have f5:`aD8:=bt L _ (A9 a7) (s5 _ _ f6);have g6:Gr H6 `anh B' Bp:=λx o nb hx=>#[λz=>nb (less x z),by rw[m5 (λz=>nb (by rw[z];exact less L c4))];exact hx]
  have g5:Gr H5 H6 Bp Bp:=`HO (O a hB) bt;have g7:`aD9:=λx o nb hx=>#[nb,by rw[m5 (λz=>nb (by rw[z];exact c4))];exact hx]
  refine#[f5,`J,`cP - `mc,`J,rfl,hlt,m8,#[λx o n e=>?_,λx o xs n e=>?_],`Fz,pre++[r5.1],q6.1,b2',by rw[ho,← a3];simp,?_,?_,by rw[e6,← a2]]
  ·rw[`aPF]
   exact bt _ _ n (s5 _ _ (s3 _ _ n e))
  ·by_cases z:x=L
   ·rw[z,m8] at e;cases e
   ·rw[`oT] at e
    exact s3.nf _ _ _ n (s5.nf _ _ _ (bt.nf _ _ _ n e))
  ·exact `qm (((f4.same s5).mono g5).mono g7) (`H0 g6)
  ·exact RpL.mono `aPG g6 rl
 ·have e:j=`cP:=`J
  subst e;refine `t #[`TQ _ H2 `afs `bj,?_];rw[`v7] at ec;have a3:`aD':=(`O_).1;have a2:b'=q.2:=(`O_).2;subst a3;subst a2;rw[`dh] at ho;have hh:But a H H2:=#[λx o n e=>s2 x o n (s1 x o e),λx o xs n e=>`GT x o xs (s2.nf x o xs n e)];have b3:Env K H2 B σ `apa:=`ok b0 a1 hh ((`aPD).2 H2 B q.2 ((rb.toO hq).toG.less O));refine kk (`t0) H2 (`gS (`tZ b1 b2 b0 a1 hh b3) b1 b2 b3 ?_);rw[X6];exact#[L,ys,rfl,`t #[e0,`t hD],by rw[ho];exact rp.mono (`iG O)]
theorem O90(i k:Nat){sc scope:`cz}{elt iter:`I}{N':`j}{n:Nat}{caps:`m}{gi:GA}{idx:`m}{f:`a8}{gx:GX}
  (hcap:`wI) (hc:`bx) (hsc:`fP) (ok:`oO) (hidx:∀j∈idx,j<n) (hi:`hg)
  (hg:`ii) (he:`O0)
  (hs:`eG:=by intro _;rfl) :
  `aPJ:=.mk λH₀ B₀ δ =>
 (fj0 hc hsc ok (wi:=`aPK) (g:=`p8) (tt:=`afq) (te:=`aPL)
  `aPM
  `v9
  `afr
  `aPN hs).imp fun σ H Q h=>gf0 hcap `fV h
def jv0(j:Nat)(gx:GX):GS:=fun δ=>`wb λr=>.nx (r.2.set j (.sh r.1))
theorem Zv0(i k j:Nat){y:Str}{py spos:Pos}{sc scope:`cz}{elt iter:`I}{N':`j}{n:Nat}{caps:`m}{gi:GA}{idx:`m}{f:`a8}{gx:GX}
  (hcap:`wI) (hN:`ek) (hc:`bx) (hsc:`fP) (ok:`oO) (hidx:∀j∈idx,j<n) (hi:`hg)
  (hg:`ii) (he:`O0)
  (hiN:`o3:=by rfl) (hy:`ie:=by first|exact `aU|exact `fp)
  (hsw:`aPO:=by rfl)
  (hs:`eG:=by intro _;rfl)
  (hf:`ig:=by first|exact `bQ|exact `b?|assumption) :
  `aPP:=.mk λH₀ B₀ δ pins s σ H D I hq175=>by
 let#[r,en,e1,kk]:=hq175
 unfold jv0 at e1;cases e2:v70 n `cM i `t4 gi f gx δ with
 | none=>rw[e2] at e1;cases e1
 | some q =>
  rw[e2] at e1;cases e1;refine ow0 (i:=j) hN hiN hy hc hsc ok (wi:=`aPK) (g:=`p8) (tt:=`afq) (te:=`aPL)
   `aPM
   `v9
   `afr
   `aPN hsw hs hf `i s σ H D I (gf0 hcap `fV `aft)
  let#[B,c1,c2,env,rv]:=`gv;exact kk _ H' (ev.s.wr c1 c2 (`GG H') Z40 (env.set j rv))
def j80(gx:GX):GS:=fun δ=>`wb λr=>.rt r.1
theorem au0(h:`mE):PSD X `rE (j80 gx):=.mk λH₀ B₀ δ pins s σ H D I hq176=>by
 let#[r,en,e1,k]:=hq176
 unfold j80 at e1;cases e2:`ey with
 | none=>rw[e2] at e1;cases e1
 | some q =>
  rw[e2] at e1;cases e1;refine o50 `ik `i s σ H D I `aft;let#[B,c1,c2,env,rv]:=`gv;exact k v H' `H_ (`H0 (`iG c1))
def dgO(i:Nat)(gk:GE):GE:=fun δ=>`r6 λb=>match b.1 with
 | `CF=>`Op λdk=>`aMK λq=>`acj
 | _=>`d
section
variable{a:`I}{p:Pos}{g ga gb:GE}
open T in
theorem vt0(i:Nat)(hu:`kQ)(hb:`dE)(hN:`b0:=by rfl)(hv:`dB:=by first|exact `aU|exact `cD|exact `cE)(hd:`aQ:=by decide)(hcd:`dC:=by decide)
  (hs:Uh0 b:=by exact `mx):PD X (`lg `ez b pos) (dgO i gb):=.mk λB δ=>(W70 hu `lH `fU hs).imp fun σ H Q hq177=>by
 let#[d,en,h,k]:=hq177
 unfold dgO at h;cases eb:`gh with
 | none=>rw[eb] at h;cases h
 | some bm =>
 rw[eb,`h] at h;let#[d0,Y,J]:=`mJ;let#[a,U,hB,ro]:=en.at Y;have ro:=(J X.K H B a ro).1;split at h
 rotate_left
 ·cases h
 rename_i ks ds hbm;rw[hbm] at ro;let#[xs,hx,hl,rr]:=ro;cases e2:`et with
 | none=>rw[e2] at h;cases h
 | some y =>
 rw[e2,`h] at h;cases e3:xg0 y with
 | none=>rw[e3] at h;cases h
 | some q =>
 rw[e3,`h] at h;refine#[_,U,y,en,e2,`yY];let#[v,O,rv]:=(wf0 (rr.same s2)).1 d h;have:=pm0 e3 r2;subst this;exact#[a,v,rfl,by rw[← O];exact DGet.k (s2 _ _ hx),k v H2 s2 rv]
def Qh0{d:D}(h:`o1)(r:`cR):`To:=by
 cases d<;>simp[`cv] at h
 ·rw[V6] at r ⊢;exact r
 ·rw[Z9] at r ⊢;exact r
 ·rw[j6] at r ⊢;exact r
 ·rw[X5] at r ⊢;exact r
def b80(ga:GE)(gx:GX):GX:=fun δ=>`vX λd=>if `o1 then `wb λr=>(`y [d,r.1],r.2) else `d
def EnvV.new{σ:St}{δ:Ds}{d:D}{v':V}(ev:`De)(s:`bb)(r:∀B:BS,`oU->`cR->Rp K H' B d' v'):EnvV K `O `L H' σ δ d' v':=by
 let#[B,c1,c2,env,rv]:=`gv;exact#[`aPQ s,#[B,c1,c2,`iC s,r B `r9 rv],ev.fr,ev.b0]
theorem Jt0{x1}(ha:`cW)(h:`mE)(hs:`b! [a,e] `w=`FC::`T2:=by rfl)(hs2:`fW:=by rfl):PX X (`lJ [a,e] x1 pos) (b80 ga gx):=.mk λH₀ B₀ δ pins s σ H Q I hq178=>by
 refine `e;let#[r,en,e1,k]:=hq178
 unfold b80 at e1;let#[B,b1,b2,env]:=`aK;cases e2:`de with
 | none=>rw[e2] at e1;cases e1
 | some d =>
 rw[e2,`h] at e1;split at e1
 rotate_left
 ·cases e1
 rename_i hfl;cases e3:`ey with
 | none=>rw[e3] at e1;cases e1
 | some q =>
 rw[e3] at e1;cases e1;refine `b;refine bc0 (R8 `bs (R8 `ik zt0 hs2) hs) `i s σ H Q I #[d,env,e2,λv1 H1 s1 r1=>#[q,`afu,e3,λv2 H2 ev=>#[`aPR,λp hp=>k _ _ (ev.new `fr λB' hB rv=>?_)]]];rw[U7];refine#[p,[v1,v2],rfl,#[λz=>hB p z hp,m8],?_];rw[o8];refine#[v1,[v2],rfl,Qh0 hfl r1,?_];rw[o8];exact#[v2,[],rfl,`nL `fr,`fS]
def be0(f:`T)(gx:GX):GX:=fun δ=>`C_ λr=>(f [r.1]).map `afv
theorem Sn0{T:`cd}{f:`T}(hc:`aag)(hf:`MO)(hm:`oA)(hv:`aah)(ha:`mE)(hg:`c!:=by rfl)
  (hn:`k? := by decide) (hdb:`aQ:=by decide) (he:`fW:=by rfl) (hpl:`jk:=by rfl) :
  PX X `aHT (be0 f gx):=.mk λH₀ B₀ δ=>(pk0 hc hg hm hv (R8 `r4 zt0 he) hn hdb he hpl).imp fun σ H Q hq179=>by
 refine `e;let#[q,en,e1,k]:=hq179
 unfold be0 at e1;cases e2:`ey with
 | none=>rw[e2] at e1;cases e1
 | some r2 =>
 rw[e2,`h] at e1;cases e3:f [r2.1] with
 | none=>rw[e3] at e1;cases e1
 | some d =>
 rw[e3] at e1;cases e1;refine `b;refine#[r2,en,e2,`as9];let#[B,c1,c2,env,rv]:=`gv;exact hf H1 B [v] [r2.1] d Q `r9 (by rw[o8];exact#[v,[],rfl,rv,`fS]) e3 λv' H2 s2 r'=>k v' H2 #[`aPQ s2,#[B,c1,c2,`iC s2,r'],ev.fr,ev.b0]
universe zz
theorem eq0:∀(kvs acc:`gW),((acc++kvs).map `bK).Nodup->sq0 acc kvs=acc++kvs
 | [],acc,_=>by rw[`dh];rfl
 | p::r,acc,h=>by
  have hn:`aPS=acc++[p]:=by
   unfold putK;rw[`al];rw[`afw];rintro⟨q,hq,e⟩;have e:=A80 e;rw[`aZ,`ab,`Nb] at h;exact h.2.2 q.1 (S4 hq) p.1 B0 e
  show sq0 (`aPS) r=_;rw[hn,eq0 r (acc++[p]) (by rw[`bB];exact h),`bB];rfl
abbrev GP:=Ds->`aL (`O1)
def Uf0:GP:=`aBx
def ul0(gk gv:GE)(gP:GP):GP:=fun δ=>`Op λk=>`wF λv=>(`DN).map λps=>`FK::ps
def RpP(K:`A)(H:Hp)(B:BS)(ps:`O1)(vs:`lD):Prop:=Rps K H B (`g3) (`j3 `bK)/\Rps K H B (`hY) (`V_)
structure PDP(X:Cx)(pos:Pos)(keys:`Da)(vals:`bA)(gP:GP):Prop where
 mk::go:∀δ,∃trs,PPs X pos `lV `qC trs/\∀B σ H Q,(∃ps,`T1/\`DN=`a ps/\∀vs H',`bb->RpP X.K H' B ps vs->`ZY)->`aFX
section
variable{keys:`Da}{vals:`bA}{gk gv:GE}{gP:GP}
theorem L60:PDP X pos [] [] Uf0:=.mk fun δ=>#[[],Mn0,λB σ H Q hq180=>by
 let#[ps,en,e,k]:=hq180
 cases e;exact k [] H `dO #[`aPT,`aPT]]
theorem jy0(hk:`aOL)(hv:PD X ve gv)(hr:`aPU):PDP X pos (`a ke::`lV) (ve::`qC) (ul0 gk gv gP):=.mk fun δ=>by
 let#[trs,h1,h2]:=hr.go δ;refine #[_,Of0 (tk:=fun σ H Q=>∃B,tD X.K B δ gk σ H Q) (tv:=fun σ H Q=>∃B,tD X.K B δ gv σ H Q) (λpins s σ H Q I #[B,h]=>hk B δ `i s σ H Q I h) (λpins s σ H Q I #[B,h]=>hv B δ `i s σ H Q I h) h1,λB σ H Q hq181=>?_];refine `e;let#[ps,en,e,k]:=hq181;unfold ul0 at e;cases e1:`HP with
 | none=>rw[e1] at e;cases e
 | some a =>
 rw[e1,`h] at e;cases e2:`zF with
 | none=>rw[e2] at e;cases e
 | some b =>
 rw[e2,`h] at e;cases e3:`DN with
 | none=>rw[e3] at e;cases e
 | some qs =>
 rw[e3] at e;cases e;refine `b;refine#[B,a,en,e1,λv1 H1 s1 r1=>#[B,b,`gP,e2,λv2 H2 s2 r2=>h2 B _ _ _ #[qs,`aPV,e3,λvs H3 s3 rr=>k _ H3 (`o4) `Mm]]]
 ·rw[`ab,`ab,o8]
  exact#[v1,_,rfl,`GJ `A8,rr.1]
 ·rw[`ab,`ab,o8]
  exact#[v2,_,rfl,`aK6,rr.2]
theorem Z00:∀{ks:`gd} {vs:`lD},`j3 `bK=`G'->vs=`aPW `acI
 | [],[],_=>rfl
 | [],`dD,h=>by cases h
 | `dD,[],h=>by cases h
 | `kP,v::vs,h=>by
  rw[`ab,`ab] at h;have h1:=(T0 h).1;have h2:=(T0 h).2;rw[`ab,`dX,`ab,← Z00 h2,← h1]
def i90(gP:GP):GE:=fun δ=>(`DN).bind λps=>(qy0 (`g3)).bind λks=>if ks.Nodup/\`gN<=15 then `a (`cQ `Gx (`hY)) else `d
theorem Tb0(h:`aPU)(hall:`aF_:=by rfl)(hl:`Nl=vals.length:=by rfl)(h0:`lV≠[]:=by exact λz=>nomatch z)(h15:`Nl<=15:=by decide) :
  PDF X (.Dict `lV `qC pos) (i90 gP):=.mk λB δ pins s σ H Q I hq182=>by
 refine `e;let#[d,en,e,k]:=hq182
 unfold i90 at e;cases e1:`DN with
 | none=>rw[e1] at e;cases e
 | some ps =>
 rw[e1,`h] at e;cases e2:qy0 (`g3) with
 | none=>rw[e2] at e;cases e
 | some ks =>
 rw[e2,`h] at e;split at e
 rotate_left
 ·cases e
 rename_i hnd;cases e;let#[trs,h1,h2]:=h.go δ;refine `b;refine Ki0 h1 hall hl h0 h15 `i s σ H Q I λp hp=>h2 `tz _ _ _ #[ps,en.fresh hp,e1,λvs H' s' rr=>#[s' _ _ m8,`Ig,?_,?_,?_]]
 ·exact Z00 (jz0 e2 rr.1)
 ·rw[`gT]
  have:=hnd.2;lia
 ·have J:`gN=(`V_).length:=by
   have:=C8 `Ae (jz0 e2 rr.1)
   simpa using this.symm
  have hm:sq0 [] (`Ig)=`Ig:=by
   rw[eq0 _ [] (by
    rw[`gu];have:`aPW `bK=ks:=List.map_fst_zip `k;rw[`E];exact hnd.1)]
   rfl
  rw[hm];refine k p _ hp #[λc o q=>?_,λc o xs q=>?_] #[`j3 (λv:V×V=>v.2),m8,J,?_]
  ·have hc:c≠p:=V5 q hp
   rw[m5 hc];exact s' c o (by rw[m5 hc];exact q)
  ·by_cases hc:c=p
   ·rw[hc,m8] at q;cases q
   ·rw[m5 hc] at q
    have:=s'.nf c o xs q
    rwa [m5 hc] at this
  ·exact rr.2.mono (`za `Ck)
universe zz
theorem K90(i k:Nat){sc scope:`cz}{elt iter:`I}{N N':`j}{n:Nat}{caps:`m}{gi:GA}{idx:`m}{f:`a8}{gx:GX}
  (hcap:`wI) (ok:`o0) (hidx:∀j∈idx,j<n) (hi:`hg)
  (hg:`ii) (he:`O0)
  (hc:`bx:=by rfl) (hsc:`fP:=by rfl) (hN:`rU:=by rfl) (hs:`eG:=by intro _;rfl) :
  `aPJ:=O90 i k hcap hc hsc `rV `fV hi hg he hs
theorem Qe0(i k j:Nat){y:Str}{py spos:Pos}{sc scope:`cz}{elt iter:`I}{N N':`j}{n:Nat}{caps:`m}{gi:GA}{idx:`m}{f:`a8}{gx:GX}
  (hcap:`wI) (nd:`ek) (ok:`o0) (hidx:∀j∈idx,j<n) (hi:`hg)
  (hg:`ii) (he:`O0)
  (hc:`bx:=by rfl) (hsc:`fP:=by rfl) (hN:`rU:=by rfl)
  (hiN:`o3:=by rfl) (hy:`ie:=by first|exact `aU|exact `fp)
  (hsw:`aPO:=by rfl)
  (hs:`eG:=by intro _;rfl)
  (hf:`ig:=by first|exact `bQ|exact `b?|assumption) :
  `aPP:=Zv0 i k j hcap nd hc hsc `rV `fV hi hg he hiN hy hsw hs hf
def ng0(f:`a8)(G:GSB):`n->Ds->`mI
 | [],δ=>`yN
 | `aB,δ=>`aBA fun δ1=>match G δ1 with
  | `Tk=>ng0 f G ds δ2
  | r=>r
def ae0(gi:GA)(f:`a8)(G:GSB):GSB:=fun δ=>`v_ λitems=>ng0 f G `ba δ
open Classical in
theorem Mq0{body:`b5}{pos:Pos}{G:GSB}(hp:`BV)(hc:`bx)(hi:`hg)(hg:`CT)(hb:`j2 X `d1 G)
  (hs:`eG:=by intro _;rfl):PSB X `_C (ae0 gi f G):=.mk λH₀ B₀ δ pins s σ H D I hq183=>by
 let#[r,en,e1,k]:=hq183
 unfold ae0 at e1;let#[B,b1,b2,env]:=`aK;cases e2:`to with
 | none=>rw[e2] at e1;cases e1
 | some items =>
  rw[e2] at e1;simp only[`h] at e1;have b3:`aC':=`aC!
  have a8:PSs X `d1 (λD σ H=>∃H₀ B₀ δ,tDB X.K `O `L δ G D σ H):=λpins s σ H D I #[`O,`L,δ,h]=>`zD `O `L δ `i s σ H D I h
  refine `aDb;obtain⟨Hh,U⟩:∃Hh:Hp,`aDc:=`ad
  have a1:`aDd:=`aDe
  have Y:`aDf:=`aDg
  have a3:`aDh:=`aDi
  have a4:`aDj:=#[λb o h=>by
   by_cases z:`y_
   ·rw[`aDk] at h;cases h
   ·rw[U] at h
    have h':`aDl:=h;rw[`mz] at h';exact h',λb o xs h=>by
   by_cases z:`y_
   ·have h0:=`aDm
    rw[`aDn] at h0;cases h0
   ·rw[U]
    show (`GR)=_;rw[`mz];exact h]
  have hS:`aDo:=#[λb o h=>by
   have h1:=`aDp
   by_cases z:B b
   ·rcases b2 b z with q|q
    ·rw[a3 b q];exact h1
    ·rw[h] at q;cases q
   ·rw[a1 b z];exact h1,`aDq]
  have Z:=`jV;have start:`aDr:=by
   refine`aDs
   ·by_cases q:`nC
    ·exact `mj
    ·exact `aDt
   ·have hn:=`aDu
    have nb:¬`nC:=`aDv
    let#[o,e3,a',e4,hB,_]:=`aDw;rw[h2] at e3;cases e3;cases e4;exact Y a hB nb
   ·rw[a3 a z]
    exact `aDx
  refine#[λi m σ H=>m=`cP - i/\`ab4/\∃δi,`aDy/\ng0 f G (`jS i) δi=`ew,`aDz,?_];rintro i m σi Hi ⟨rfl,c3,δi,O,ei⟩;have gr:`aDA:=`aDB
  by_cases hlt:`CV
  ·refine `s #[`aDC,fun σ' H'=>∃δn,`aDD/\ng0 f G (`y0) δn=`ew,`aDE,`aDF]
   let#[sm,d,hd,rd]:=`aDG;let#[B',c1,c2,env0]:=O.ex;have a6:`aDH:=rd B' (λb o n h=>by
    have h':Hh b=`ap:=`TN
    refine`aDI;rcases c2 b z with q|q
    ·exact `aDJ
    ·rw[h'] at q;cases q) env0.bad
   have a5:=`aDK
   replace O:=O.grow sm
   have a2:`aDL:=by
    rw[`MX];congr 1;rw[`MY] at hd;exact A4 hd
   rw[a2] at ei;unfold ng0 at ei;cases e3:f d δi with
   | none=>rw[e3] at ei;cases ei
   | some δ2 =>
    rw[e3] at ei;simp only[`h] at ei;refine`aDM;have a7:`aDN:=`aDO;cases e4:G δ2 with
    | none=>rw[e4] at ei;cases ei
    | some rb =>
     rw[e4] at ei;refine`aDP;cases rb with
     | nx δn=>exact `ab5
     | rt d' δn =>
      cases ei;exact λv σ' H' ev=>k v σ' H' #[`ab6 `H_,by
       let#[Bx,x1,x2,ex,rx]:=`gv;exact(`aPX).ex.elim λBy hy=>#[Bx,x1,λa z=>(x2 a z).imp id λq=>hS.free q,ex,rx],(`aPX).fr,`jR]
  ·have e:i=`cP:=`J
   subst e;refine `aDQ;rw[`v7] at ei;cases ei;exact `aDR
abbrev GTX:=Ds->`aL (`M×Ds)
def tTX(K:`A)(H₀:Hp)(B₀:BS)(δ:Ds)(gt:GTX):TT:=fun σ H Q=>∃r,`ck/\`eu=`ew/\∀H',`cj K `O `L H' σ r.2->Q r.1 H'
structure PTX(X:Cx)(e:`I)(gt:GTX):Prop where
 mk::go:∀H₀ B₀ δ,PT X e `aPY
structure PWX(X:Cx)(e:`I)(gt:GTX):Prop where
 mk::go:∀H₀ B₀ δ,PW X e `aPY
def liftT(gt:GB):GTX:=fun δ=>`aPZ λb=>(b,δ)
def W0(gx:GX):GTX:=fun δ=>`C_ λr=>match r.1 with
 | `dK=>`a (b,r.2)
 | _=>`d
def zz0(gt:GTX):GTX:=fun δ=>`aPZ λr=>(!r.1,r.2)
def Vi0(gt gu:GTX):GTX:=fun δ=>`tm λr=>if `V0 then gu r.2 else `a (`p,r.2)
def orT(gt gu:GTX):GTX:=fun δ=>`tm λr=>if `V0 then `a (`c,r.2) else gu r.2
def ifX(gt:GTX)(Ga Gb:GSB):GSB:=`afx
def bu0(ga:GE)(gx:GX)(f:`bn):GX:=fun δ=>`vX λda=>if `aP_ then `C_ λr=>(f da r.1).map `afv else `d
section
variable{a c:`I}{rest:`bA}{as bs:`b5}{gt gu:GTX}{gb:GB}{ga:GE}
theorem Ze0(h:PTD X e gb):PTX X e (liftT gb):=.mk λH₀ B₀ δ pins s σ H Q I hq184=>by
 refine `e;let#[r,en,e1,k]:=hq184
 let#[B,b1,b2,env]:=`aK;unfold liftT at e1;cases e2:`et with
 | none=>rw[e2] at e1;cases e1
 | some t =>
  rw[e2] at e1;cases e1;refine `b;exact h B δ `i s σ H Q I #[t,env,e2,λH' s'=>k H' (`tv s')]
open T in
theorem sa0(h:`mE)(he:`Z3:=by intro _;rfl):PTX X e (W0 gx):=.mk λH₀ B₀ δ pins s σ H Q I hq185=>by
 let#[r,en,e1,k]:=hq185
 unfold W0 at e1;cases e2:`ey with
 | none=>rw[e2] at e1;cases e1
 | some q =>
  rw[e2,`h] at e1;split at e1
  rotate_left
  ·cases e1
  rename_i t hq;cases e1;refine T90 `ik he `i s σ H Q I `aft;let#[B,c1,c2,env,rv]:=`gv;rw[hq,Z9] at rv;exact#[t,rv,k H' ev.s]
theorem ol0(h:`DO):PTX X `BS (zz0 gt):=.mk λH₀ B₀ δ pins s σ H Q I hq186=>by
 let#[r,en,e1,k]:=hq186
 unfold zz0 at e1;cases e2:`eu with
 | none=>rw[e2] at e1;cases e1
 | some q =>
  rw[e2] at e1;cases e1;exact Ut0 `ik `i s σ H Q I #[q,en,e2,k]
theorem Pp0(h:`DO):PWX X `Z4 gt:=.mk λH₀ B₀ δ=>Xy0 `ik
theorem kf0(h:`DO):PWX X `Z5 gt:=.mk λH₀ B₀ δ=>Sp0 `ik
theorem Ms0(ha:`DO)(hb:PWX X `vu gu):PWX X `vv (Vi0 gt gu):=.mk λH₀ B₀ δ wh pins s σ H Q I hq187=>by
 let#[r,en,e1,k]:=hq187
 unfold Vi0 at e1;cases e2:`eu with
 | none=>rw[e2] at e1;cases e1
 | some q =>
  rw[e2,`h] at e1;refine Sw0 `r4 `Ih wh `i s σ H Q I `V1;cases hq:q.1 with
  | true=>rw[hq,`bc] at e1;exact`o8
  | false=>rw[hq,`cU] at e1;cases e1;exact k H' J
theorem gk0(ha:`DO)(hb:PWX X `BQ gu):PWX X `BR (orT gt gu):=.mk λH₀ B₀ δ wh pins s σ H Q I hq188=>by
 let#[r,en,e1,k]:=hq188
 unfold orT at e1;cases e2:`eu with
 | none=>rw[e2] at e1;cases e1
 | some q =>
  rw[e2,`h] at e1;refine N50 `r4 `Ih wh `i s σ H Q I `V1;cases hq:q.1 with
  | true=>rw[hq,`bc] at e1;cases e1;exact k H' J
  | false=>rw[hq,`cU] at e1;exact`o8
theorem PWX.pt(h:PWX X e gt):PTX X e gt:=.mk λH₀ B₀ δ=>L2.PW.pt `ik
theorem og0(hc:`afy)(ha:`aM6)(hb:`aM7):PSB X `CU (ifX gt Ga Gb):=.mk λH₀ B₀ δ pins s σ H D I hq189=>by
 let#[r,en,e1,k]:=hq189
 unfold ifX at e1;cases e2:`eu with
 | none=>rw[e2] at e1;cases e1
 | some q =>
  rw[e2,`h] at e1;refine `afz;cases hq:q.1 with
  | true=>rw[hq,`bc] at e1;exact`o8
  | false=>rw[hq,`cU] at e1;exact`o8
open T in
theorem Os0{op:`hb}{rr:R2}{f:`bn}(ho:`afA)(hf:`afB)(ha:`cW)(hb:PX X b gx)(hm:`kA:=by first|exact `v4|with_unfolding_all rfl):PTX X `mm (W0 (bu0 ga gx f)):=.mk λH₀ B₀ δ pins s σ H Q I hq190=>by
 let#[r,en,e1,k]:=hq190
 let#[B,b1,b2,env]:=`aK;unfold W0 bu0 at e1;cases e2:`de with
 | none=>rw[e2] at e1;cases e1
 | some da =>
 rw[e2,`h] at e1
 by_cases hfl:`aP_
 rotate_left
 ·rw[`al hfl] at e1;cases e1
 rw[`V hfl] at e1;cases e3:`ey with
 | none=>rw[e3] at e1;cases e1
 | some q =>
 rw[e3,`h] at e1;cases e4:f da q.1 with
 | none=>rw[e4] at e1;cases e1
 | some d =>
 rw[e4,`id,`h] at e1;split at e1
 rotate_left
 ·cases e1
 rename_i t hd;have hd:d=.bl t:=hd;subst hd;cases e1;refine k20 ho `wC `aM8 hm `i s σ H Q I #[da,env,e2,λx H1 s1 r1=>#[q,`afu,e3,λy H2 ev=>?_]];let#[B',c1,c2,J,rv]:=`gv;refine hf H2 B' x y da q.1 _ _ J.bad (s60 hfl r1) rv e4 `ad?
 rw[Z9] at r3;exact#[t,r3,k H3 (`as' s3)]
universe zz
universe DL
namespace L2
open Spec PyProof.Rows
section
variable{sub:`mh}
def CloseOk.other(c:`mG){b:`f}{u:`rz}(q:H b=u)(n:`aMW):`aP0=u:=by
 have nl:`aMX:=`aMY
 unfold closed;have hb:`hJ:=λz=>by
  cases l:`tW with
  | none=>have:=`Os;rw[l] at this;cases `E
  | some so=>exact `aMZ
 rw[`ic];cases l:`j1 with
 | none=>exact q
 | some so=>exact `aM_
universe zz
def FnOk.closing{P:`ao}{w:`Q}{k:Nat}{f:`f}(F:`W P w K mg `l CX0 k f fd ps sp) :
  `W P w K mg `l CX0 k f fd ps (λvs H Q E=>∃a sub,`mG/\sp vs `mH Q E):=by
 refine #[λvs H Q E #[a,sub,c,q]=>`FR vs _ Q E q,λA outer s H args us vs Q E hr e hb hv hq191=>?_];let#[a,sub,c,q]:=hq191;have no:∀b,`c_->`aP0=`d:=λb z=>`O2 z λso z=>nomatch z
 refine L9 (`vK A `b2 s `mH `he us vs Q E hr #[`_6,e.mod,λb o z=>#[(`aP1).1,no b (`aP1).2],e.bsz,e.funs,λb z=>no b (e.frf b z),e.hok.closed `Os c.at' c.ins,e.bare] hb hv q) `vL
 refine `e;cases r with
 | error er=>refine `b;exact hq
 | ok fl =>
  cases fl with
  | ret u =>
   let#[v,H',h1,h2,un,h3,h4,h5]:=hq;refine `b;exact#[v,H',h1,h2,#[λb o e1 e2=>un.keep b o e1 (no b e2),λb o e1 e2=>un.slot b o e1 (no b e2),λb o e1 e2=>un.free b o e1 (no b e2),un.there,λb xs e1=>un.tups b xs (`O2 e1 `aM0),λb o u e1=>un.frzs b o u (`O2 e1 `aM1),λb ps e1=>un.tbls b ps (`O2 e1 `aM2)],h3,h4,h5]
  | next=>refine `b;exact hq
  | brk=>refine `b;exact hq
  | cont=>refine `b;exact hq
universe L2
namespace DL
open Spec PyProof.Rows L2
def adopt{H3:Hp}{σ:St}{δ:Ds}{L:`f}{es:`n}{xs:`S}(en:`ck)(b1:`ly)(b2:`lz)(env:`a')(at':`r8)
  (hdx:∀C dx fs,`aff->`aP2) (s13:`dw H H3) (hLH:H L=`d) (hL3:H3 L=`F!) (hfl:`OP) (rx:Rps K H3 B es xs) :
  `aP3/\∃Hc,`aP4/\`cj K `O `L Hc σ `O3/\Env K Hc B σ `O3 /\
   AtN K Hc B σ `O3 i a `V3 `lR `zI/\RpN K Hc B `lR (`VK) (`t0):=by
 have hH:`abA:=at'.w.at';have c2:∀b∈as,`aa_:=λb hb z=>by
  rcases `aOR with q|q
  ·rw[q,hH] at z;cases z
  ·rw[q.2] at z;cases z
 have La:L∉as:=λz=>c2 L z hLH
 have aL:a≠L:=`aOS
 have c5:=`qv s13;have J:`aOT=(`apw).length:=`aOU
 have Z:`aOV:=by
  rw[`Nb];refine`aOW;rw[`OU] at z;exact `aOX
 have a1:`aOY:=`aOZ
 have c4:∀(k:Nat) c so,`lR[k]?=`eo->`zI[k]?=`tX->`aO_∨(`OV/\c=L/\`aby):=λk c so q1 q2=>by
  by_cases hk':k<`hC
  ·rw[`OW] at q1
   rw[`aO0] at q2;exact `t `Dg
  ·have hl1:=`afi
   rw[`Z] at hl1;have b3:`OV:=`aO1
   subst b3;rw[`r',`kS] at q1;rw[`zH,`r',`kS] at q2;exact `aO2
 have U:∀(k:Nat) C dx fs,`zI[k]?=`nb->k=0:=λk C dx fs e=>by
  by_cases hk':`OB
  ·rw[`OW] at e
   exact `aO3
  ·rw[`Ou] at e
   cases q:k - `GB with
   | zero=>rw[q] at e;cases e
   | succ n=>rw[q] at e;cases e
 have cl:`aP3:=rt0 a1 Z J (λk c so q1 q2=>by
  refine `e;rcases c4 k c so q1 q2 with⟨q1,q2⟩|⟨_,rfl,rfl⟩
  ·refine `b;exact c5.w.opAt q1 q2
  ·refine `b;rw[xw0 La];exact hL3) U
 obtain⟨Hc,O⟩:∃Hc,`aP4:=`ad;refine#[cl,Hc,O,?_];refine `e;have ca:Hc a=`a (`nu `V2):=`aP5
 have a2:∀b∈`lQ,`aO4:=λb hb n=>by
  rw[O];unfold closed;let#[so,q]:=vw0 J hb Z;rw[`al n,q]
 have a4:`aO5:=λb hb=>by
  rw[O];unfold closed;rw[`al (show ¬b=a from λz=>hb (by rw[z];exact D0 a1)),yk0 hb,`aO6]
 have but:`aO7:=#[λb u n z=>by
  by_cases hb:`OX
  ·rcases `OY with q|q
   ·rcases `VS with w|w
    ·exact `N w n
    ·rw[`afC,← w.2,z]
   ·rw[`DK,hLH] at z;cases z
  ·rw[a4 b hb];exact s13 _ _ z,λb u xs n z=>by
  by_cases hb:`OX
  ·rw[`afC] at z;cases z
  ·rw[a4 b hb] at z;exact s13.nf _ _ _ z]
 have gr:`aO8:=`aO9;have c8:¬B L:=`DL hLH;have hw:RpW K Hc B `V3 a `lR `zI:=by
  refine#[a1,Z,ca,`iv,J,`iE ?_ (`aq #[xs,rfl,nw0 (ri0 hfl) (`aPu)] `X),U]
  ·by_cases n:b=a
   ·exact `t n
   ·refine `s #[?_,`afC]
    rcases `OY with q|q
    ·exact`aO'
    ·rw[`DK];exact c8
  ·refine `aO!
   intro z;subst e;have c1:=`aO?;subst c1;exact hdx C dx fs q2 (z▸hLH)
 let#[x,mk,a5]:=Vc0 `wD;let#[d0,a3,b0]:=w50 a5;let#[a',a6,hB,ro]:=`tF a3;rw[`gi] at a6;cases a6;have a8:`apx=`aP6:=`aPf
 have Y:Env K Hc B σ (`aP6):=`ok a3 `gi but ((b0 _ _ _ _ ro).2 _ _ _ `aPg);have c3:=`tZ b1 b2 a3 `gi but Y;refine `b;rw[a8];refine#[c3,Y,#[`gi,hB,Vl0 a5 _,hw],?_];unfold O5;rw[yv0];have a7:`fg=`hC:=`aPi
 exact `t #[`fg,L,wn0 _,by rw[a7,`r',`kS];rfl,rfl]
def cv0(f:Str)(fs:`n):`M:=fs.all λn=>match n with
 | `b1=>`B (x≠f)
 | _=>`c
def fe0(i:Nat)(c f:Str)(gv:GE):GS:=fun δ=>`wF λdv=>`fY λns=>match ns with
 | `OL=>if c'=c/\`cv dv=`c/\`aP7 then `a (.nx (`e8 i 0 (`y [`iM,`aP8,`o (ds++[dv])]) δ)) else `d
 | _=>`d
def ls0(i:Nat)(c f:Str)(g:GE):GS:=fun δ=>`cB λd=>`fY λns=>match d,ns with
 | `jX,`OL=>if c'=c/\`OP/\`aP7 then `a (.nx (`e8 i 0 (`y [`iM,`aP8,`o (ds++[`VK])]) `O3)) else `d
 | _,_=>`d
theorem em0{f:Str}(h:cv0 f `H!=`c):f∉nm:=λz=>by
 unfold cv0 at h;rw[`h7] at h;have:=h (`u f) (S4 z);simp at this
theorem jp0{f:Str}:∀{nm:`j} {xs:`S},`dz=`ay->f∉nm->`aP9
 | [],[],_,_=>rfl
 | [],`dD,h,_=>by cases h
 | `dD,[],h,_=>by cases h
 | n::nm,`mr,h,hn=>by
  rw[`eL] at hn;have ih:`aP9:=jp0 `hZ λz=>hn (`s z)
  show (if n=f then _ else (n,x)::`apy)=_;rw[`al (λz=>hn (`t `pY)),ih];rfl
def Ik0{σ:St}{s:`v}(I:`C)(w:RpW X.K H B ns a as sos){C:`f}{fs:`h8}(h:`aff):`aP2:=by
 obtain⟨_,all⟩:(`Ob)/\∀p∈`a9,`aeQ:=`bg a _ w.at';have hm:`aPa:=by
  refine `aPb;rw[`aPc];exact#[w.hd,h]
 let#[_,w,_]:=`aPd;rw[w];exact λz=>nomatch z
section
variable{gv g:GE}{f:Str}
open T in
theorem n60(i:Nat)(hv:`ae')(hc:`DE)(hf:`DF:=by decide)(hN:`b0:=by rfl)(hvis:`dB:=by first|exact `aU|exact `cD|exact `cE)(hd:`aQ:=by decide)(hcd:`dC:=by decide)
  (hs:`ae!:=by rfl):PSD X `ae? (fe0 i c f gv):=.mk λH₀ B₀ δ pins s σ H De I hq192=>by
 let#[r,en,e1,kk]:=hq192
 unfold fe0 at e1;let#[B,b1,b2,env]:=`aK;cases e2:`zF with
 | none=>rw[e2] at e1;cases e1
 | some dv =>
 rw[e2,`h] at e1;cases e3:`dQ with
 | none=>rw[e3] at e1;cases e1
 | some ns =>
 rw[e3,`h] at e1;split at e1
 rotate_left
 ·cases e1
 rename_i c' fs ds rest;split at e1
 rotate_left
 ·cases e1
 rename_i hq;let#[a2,hn,a3,O]:=hq;subst a2;cases e1;let#[a,as,sos,at']:=`OM;refine `aOo;have J:=`il;let#[so,Y,nk]:=`afa;let#[C,U,nm,xs,rfl,rfl,hl,hC,a1,rx]:=`DH;let#[q1,q2]:=`DG;refine`aOp
 ·rw[`gT,← hl,`ql]
  rw[`P] at O;exact O
 ·rw[jp0 hl (em0 a3)]
  let#[Z,z1,z2]:=`wG b1 b2 env s1 at' `H8 Y (n':=`y [`iM,`aP',`o (ds++[dv])]) (so':=`hq C U (`yU (`zK) (xs++[v1]))) #[C,U,`zK,xs++[v1],rfl,`aP!,`aP?,hC,a1,`r7 (`iE `H5 (`aq (mk0 (ba0 hn) r1) `X))] `ON (d:=`x) (v:=`x) `jW;exact`afb
open T in
theorem p10(i:Nat)(hv:PDF X `fi g)(hc:`DE)(hf:`DF:=by decide)(hN:`b0:=by rfl)(hvis:`dB:=by first|exact `aU|exact `cD|exact `cE)(hd:`aQ:=by decide)(hcd:`dC:=by decide)
  (hs:`ae!:=by rfl):PSD X `ae? (ls0 i c f g):=.mk λH₀ B₀ δ pins s σ H De I hq193=>by
 let#[r,en,e1,kk]:=hq193
 unfold ls0 at e1;let#[B,b1,b2,env]:=`aK;cases e2:`av with
 | none=>rw[e2] at e1;cases e1
 | some d =>
 rw[e2,`h] at e1;cases e3:`dQ with
 | none=>rw[e3] at e1;cases e1
 | some ns =>
 rw[e3,`h] at e1;split at e1
 rotate_left
 ·cases e1
 rename_i es c' fs ds rest;split at e1
 rotate_left
 ·cases e1
 rename_i hq;let#[a4,hn,a6,O]:=hq;subst a4;cases e1;let#[a,as,sos,at']:=`OM;refine rr0 (Z30 `VD (K9 (U9 `VE)) hs) `i s σ H De I #[a,`jX,env,e2,λp H1 hp s1 ro=>?_];let#[ys,o1,ry]:=ro;let#[cl,Hc,a2,a5,Z,J,rn]:=adopt (es:=es) en b1 b2 env at' (λC dx fs h=>Ik0 I at'.w h) s1 hp o1 hn (wh0 hn ry);refine#[a,`a9,(`il).w.openOk,a,_,cl,?_];rw[← a2];let#[so,Y,nk]:=`afa;let#[C,U,nm,xs,rfl,rfl,hl,hC,a3,rx]:=`DH;let#[q1,q2]:=`DG;refine#[`bt,`gi,a,_,`lO,a,C,U,_,rfl,`api,q1,`H9,?_,?_]
 ·rw[`gT,← hl,`ql]
  rw[`P] at O;exact O
 ·rw[jp0 hl (em0 a6)]
  let#[a1,z1,z2]:=a5.setN b1 b2 Z `tw J `H8 Y (n':=`y [`iM,`aP',`o (ds++[O5 (`c8 [`iM,`DI,`ci]::`a3).length])]) (so':=`hq C U (`yU (`zK) (xs++[`gL]))) #[C,U,`zK,xs++[`gL],rfl,`aP!,`aP?,hC,a3,`r7 (`iE `H5 (`aq rn `X))] `ON (d:=`x) (v:=`x) `jW;exact#[a1,z1,`apj]
universe zz
def Uj0(c:Str):D:=`y [`t6,`aQa]
def nc0(j:Nat)(c:Str)(f:`aF):GS:=fun δ=>match f (Uj0 c) [] with
 | `a (`x,`zE)=>`a (.nx (`aX j `aNE))
 | _=>`d
section
variable{p:Pos}
open T in
theorem R10(j:Nat){k:Nat}{C:`f}{f:`aF}(nd:`ek)(M:Mk X.K C fa)(F:`W `aR X.w X.K `bz `cH CX0 k fa fd ps (spB X.K 0 f))(hb:`aCS)(hC:`HK)(hr:`wH)(hk:k+1<=n)(hm:`bz c=`xR)(hg:Gl X c:=by rfl)
  (hi:`o3:=by rfl) (hy:`ie:=by first|exact `aU|exact `fp) (hdb:`aQb:=by decide)
  (hf:`ig:=by first|exact `bQ|exact `b?|assumption) {spos:Pos} (hsw':`aQc:=by rfl) :
  `aQd:=.mk λH₀ B₀ δ pins s σ H De I hq194=>by
 let#[r,en,e1,kk]:=hq194
 unfold nc0 at e1;let#[B,b1,b2,env]:=`aK;split at e1
 rotate_left
 ·cases e1
 rename_i xx ns hq;cases e1;refine Y00 nd hi hy (Qj0 (E:=E0) M F.closing `kO hg hm hb `X p30 hdb) hsw' hf `i s σ H De I λx dx hx Y a1=>?_
 obtain⟨H1,J⟩:∃H1,H1=`ayo:=`ad;rw[← J];have a2:H1 x=`a `SK:=by rw[J,m8]
 have cl:`iK H1 x `afD:=rt0 rfl (`VR) rfl (λk c so e1 e2=>by
  match k with
  | 0=>cases e1;cases e2;exact a2
  | k+1=>simp at e1) (λk C dx fs e=>by
  match k with
  | 0=>rfl
  | k+1=>simp at e)
 obtain⟨Hc,O⟩:∃Hc,Hc=`gg H1 x `afD:=`ad;refine#[x,_,cl,?_];rw[← O];have cx:Hc x=`a (`nu `afD):=`aP5
 have U:∀b,`vj->Hc b=H1 b:=λb hb=>by
  rw[O];unfold closed;rw[`ic,yk0 (by rw[`aFk];exact hb)]
 have sm:`dw H Hc:=#[λb o z=>by
  have n1:`vj:=V5 z hx;rw[U b n1,J,m5 n1,m5 (V5 z Y)];exact z,λb o xs z=>by
  by_cases n1:b=x
  ·rw[n1,cx] at z;cases z
  rw[U b n1,J,m5 n1] at z
  by_cases n2:b=dx
  ·rw[n2,m8] at z;cases z
  rw[m5 n2] at z;exact z]
 have a3:¬B x:=`DL hx;have w:RpW X.K Hc (`aQe) [`aQa] x [x] `apA:=by
  refine#[rfl,`VR,cx,λb hb=>`t (N4.mp hb),rfl,`aq #[C,dx,[],[],rfl,rfl,rfl,hC,λz=>a1 (N4.mp z),`afl] `X,λk C dx fs e=>by
   match k with
   | 0=>rfl
   | k+1=>simp at e]
 refine#[`aQe,[],[],x,Uj0 c,`y (`u xx::ns),`x,`Ha,`b?,rfl,`cN,`fS,#["",_,rfl,_,_,w],hq,λv H' but rg rv=>#[by rw[V6] at rv;exact rv,kk _ _ ?_]]
 ·rcases z with z|z
  ·exact(`r9 b z).same sm
  ·rw[z];exact .of cx (λ_ _ q=>nomatch q) λ_ q=>nomatch q
 ·have Z:`bb:=#[λb o z=>but b o (V5 z hx) (sm b o z),λb o xs z=>by
   by_cases n1:b=x
   ·rw[n1] at z;exact `N z (rg.plain o xs)
   ·exact sm.nf b o xs (but.nf b o xs n1 z)]
  exact en.takeL b1 b2 env j hx Z rg.toL
universe zz
def Wu0(K:`A)(C:`f)(F:`j):`M:=`axK&&W.hasDictIn K C&&`al_&&(match `alZ with
 | `a (`a (`bo s))=>s == `RS
 | _=>`p)&&F.all (λf=>match `al4 with
 | `b8=>`c
 | _=>`p)&&`al0&&`_?
open T in
def K4{C:`f}(h:`aQf):`qz/\(∀f∈F,`vE)/\`_T/\`_?=`c:=by
 unfold Wu0 at h;simp only[`aI] at h;let#[#[#[#[#[#[h1,h2],h3],h4],h5],h6],h7]:=h;refine#[#[h1,h2,h3,?_],λf hf=>?_,h6,h7]
 ·split at h4
  ·rename_i s e
   rw[e,`vP h4]
  ·cases h4
 ·have:=`DP h5 f hf
  split at this
  ·rename_i e;exact e
  ·cases `E
theorem Le0{C:`f}(a:`jM)(h:`aQf):ClsN K c F:=#[λC' e=>by
 rw[a] at e;cases e;exact#[(K4 h).1,(K4 h).2.1]]
structure FnI(P:`ao)(w:`Q)(K:`A)(mg:`a2)(base:`D)(c:Str)(k:Nat)(ps:`j)(f:`aF):Prop where
 ex:∃C fa fd,`aOA/\`jM/\Mk K C fa/\`y8/\`at_
section
variable{p:Pos}
def et0(j:Nat){k:Nat}{f:`aF}(nd:`ek)(M:FnI `aR X.w X.K `bz `cH c k ps f)(hr:`wH)(hk:k+1<=n)(hg:Gl X c:=by rfl)
  (hi:`o3:=by rfl) (hy:`ie:=by first|exact `aU|exact `fp) (hdb:`aQb:=by decide) {spos:Pos}
  (hsw:`aQc:=by rfl)
  (hf:`ig:=by first|exact `bQ|exact `b?|assumption) :
  `aQd:=by
 refine `e;let#[C,fa,fd,F,hC,mk,hb,hm]:=M.ex;refine `b;exact R10 j nd mk F hb hC hr hk hm hg hi hy hdb (hf:=hf) (hsw':=hsw)
universe zz
universe DL
namespace ZipL
open Spec PyProof.Rows
section
variable{w:`Q}{s:`v}{R:`mf}{TI TO lo S:`f}{xs:`aJ}
def L20(hh:`gq)(D:`jn)(hlo:`Dn)(st:`UL)(hn:`r0)(L:`N1)(hT:`Dk)(hI:`N4)(c0:Nat)(res:`G)
  (gS:`dm S=`aH2)
  (hR:∀h' tk acc c as,`adY->`adR->`wq->`adS->`aJe) :
  `q `ag `bU (`zg `t5 `gU res)
   `Bv `Bw s:=by
 have Y:S≠z:=C6 L.z;let#[f0,hI]:=hI;unfold Builtin.List.listExtendWith;refine A1 (L7 hT ?_);have h1:`wm `t5 `gU=`p:=by simp[`wm,Y]
 have h2:`aJw:=`aa
 have h3:`aJx:=`aa
 simp only[h1,h2,h3,`Br,`oM,`cS];refine A1 (x4 hI ?_);refine `UG;unfold Builtin.List.listLengthHint;refine A1 (E5 hT gh0 ?_);show `aJy;refine A1 (E5 hT ku0 ?_);refine `iq;show `q _ `bU (`aJz>>=λ_=>`aJA `t5>>=λ_ =>
  `ya `aJf) _ _ _
 refine `aJB;refine `mW;show `q _ `bU (`r_ S (`Hr `af)>>=λ_=>`r_ S `UN) _ _ _;refine A1 (N3 gS rfl ?_);have J:=D5 `N5 gS rfl;refine N3 J rfl ?_;have U:=D5 `N6 J rfl;have oth:∀b o,b≠S->`fb->((`qs S `N5).update S `N6).get? b=`ap :=
  λb o hb e=>`zh (`zh e)
 have O:lo<S:=`adU;exact A2 #[`adV,N90 (s:=s) (lo:=lo) (h₁:=`ar) hh D L hlo hn _ hR _ 0 _ `bf _ ⟨⟩ [] rfl `rN (st.keep L oth) (λb o hb e=>oth b o (B4 (E8 hb O)) e) U rfl rfl `aJC]
def Q50(hh:`gq)(D:`jn)(hlo:`Dn)(st:`UL)(hn:`r0)(L:`N1)(hI:`N4)
  (gS:`dm S=`NO)
  (hR:∀h' tk acc c as,`adY->`adR->`wq->`adS->`UJ->R (.ok (`eR `af)) `qq) :
  `q `ag `bU (`aH7 #[[`z S,`qn],[]])
   `Bv `Bw s:=by
 show `q _ `bU (do let old ← `aH8 `t5;`aH9 `t5 `NP;`aH';`aQg) _ _ s;have Z:S≠z:=C6 L.z;have Y:lo<S:=`adU;let#[f0,hI]:=hI;refine A1 (by
  unfold Builtin.List.listItems;refine A1 (i8 gS rfl (A2 (by
   show `q _ `bU (`r_ S `NP>>=λ_=>`aH?>>=λ_=>`aQg) _ _ s;have g2:=D5 `Ij gS rfl;have oth:∀b o,b≠S->`fb->(`aQh).get? b=`ap:=`adv
   have J:=oth z _ (A9 Z) hI;refine A1 (N3 gS rfl (A1 (`aIa (L20 (s:={ s with heap:=`aQh }) (lo:=lo) (xs:=xs) (ys:=ys) hh D hlo (st.keep L oth) hn L `aai #[f0,J] _ `af g2 λh' tk acc c as hk U hl hG O=>?_))));exact hR h' tk acc c as (λb o hb e=>hk b o hb (oth b o (B4 (E8 hb Y)) e)) U hl hG O))))
universe zz
section
variable{w:`Q}{s:`v}{xs:`aJ}
def P40{Q:`aj}(hh:`gq)(hl1:`wn)(hl2:`wo)(hn:`r0)
  (h:∀(h':`D) (tk c:Nat) (as:`aS) (t:`f),`adx->`wq->(∀a∈as,`BH/\t<a)->`mv->`U<=t ->
   `aJF->`gB t=`a { cls:=`en,dict:=`d,data:=`b7 `Ht c,slots:=⟨⟩ }->`aJG) :
  `q `ag A `aJH `aIe E s:=by
 have a1:l1<`U:=`aJI
 have a2:l2<`U:=`aJJ
 refine `ad0 hl1 hl2 λh1 hz hTI Z a7 a8 a6 hk=>?_
 have Y:`aJK:=`aJL
 have O:`aJM:=`aJN
 have H:`aJO:=λk hk=>by rw[a6];exact Dy0 hk _
 have D:=`aoq (n:=`U) a1 a2;have L:ZLow (`U+4) (`U+2) (`U+3) `U `iy l1 l2 `tN:=`aJR;refine B70 (Q₁:=λob s1=>ob=`z `tN/\s1=`aQi) Dh0 (Di0 _) Dj0 `aIc λob s1 a5=>?_
 let#[rfl,rfl]:=a5;have gC:`aQj `tN=`NO:=`f0;have pu:∀b o,`YV->`aQj b=`ap:=`s0
 have st:ZSt h1 (`U+4) (`U+2) (`U+3) `U `iy l1 l2 `tN xs ys 0:=#[`t #[rfl,hz,_,_,Z],hTI,a7,a8,Y,O];refine#[`aId,Dl0 _ _,Q50 (s:=`aQi) (lo:=`U) (xs:=xs) (ys:=ys) (`NQ) D `aJQ (st.keep L λb o _ e=>pu b o e) hn L #[_,pu _ _ hz] gC λh' tk a3 c as a4 J hl hG U=>`KM];have e:a3=`Ht:=by rw[← U]
 rw[e] at J;refine h h' tk c as `tN (λb o q=>a4 b o `US (pu b o (hk b o q))) hl (λa ha=>#[?_,`adX]) (hG.rise.imp λh=>B4 h) (K0 `tO) (λj a hj=>`aJm) J;exact K0 (E8 `tO (`adX))
universe zz
universe ZipL
namespace DL
open Spec PyProof.Rows L2
def G50(K:`A):`ni:=λvs H Q=>∃q1 q2 xs ys,`aKf/\`aKg/\`aKh /\
 ∀(t:`f) (as:`aS),`Dp->`mv->`N9->`Dq->`aKi->Q `lo (v00 H ((t,`o `zo)::`ad2))
def c80(hc:`bx:=by rfl):i30 X `zf `tM (G50 X.K):=by
 intro pins s σ H vs us Q I r h;refine `e;let#[q1,q2,xs,ys,rfl,h1,h2,k]:=h;cases r with
 | cons r1 r =>
  cases r with
  | cons r2 r =>
   cases r;obtain rfl:=r1;obtain rfl:=r2;let#[us1,v1,p1,z1]:=`dt h1;let#[us2,v2,p2,z2]:=`dt h2;have l1:=`ac';have l2:=`ac!;refine `b;refine ZipL.P40 `hc `ji `oZ (`acT) λh' tk c as t hk hl ha U ht hp gt=>?_
   rw[`bM,`bM] at hl;have O:`Dp:=`aKj
   refine#[`s',_,Inv.laidM (t':=tk) I hk λp J=>?_,rfl,`aKk];rcases `cf J with rfl|J
   ·refine#[ht,_,`s #[rfl,?_,`qp,c,mu0 as,gt]]
    rw[`P,hl];lia
   ·refine `e;let#[j,#[x,y],e1,e2,e3]:=ms0 J
    let#[u,w,f1,f2,f3]:=`aKl;have hz:=x5.mp e2;let#[u',g1,g2]:=`aKm;let#[w',g3,g4]:=`aKn;have eu:u'=u:=by
     have:`aKo:=`aKp
     rw[f1] at this;exact`N'
    have ew:w'=w:=by
     have:`aKq:=`aKr
     rw[f2] at this;exact`N'
    subst eu;subst ew;refine `b;exact#[`aKs,_,`t #[e3,`wr,[u',w'],`aKt,`aKu]]
def cp0:`T
 | `ado=>`a (`o `adp)
 | _=>`d
section
variable{f:`I}{p:Pos}
open T in
theorem R70(hm1:`adA)(hm2:`ad9)(hv1:`adz)(hv2:`ad7)(ha:PDA X `tE gA)(hc:`bx:=by rfl)(hg1:`adB := by rfl)(hg2:`ad8 := by rfl)
  (e1:`b! [`afE] `w=(`p,`aY (`afE) `w)::`hE:=by rfl) (h1:`jk:=by rfl)
  (he:`anC=`pI::`aQk:=by rfl) (hpl:(`d0 `nJ (`aQk)).any `bK=`p:=by rfl) :
  PDF X (`aV `an8 [`afE] [] pos) (oA gA cp0):=.mk λB δ=>(d70 (c80 hc) hg1 hg2 hm1 hm2 hv1 hv2 `bs `r `r `r `r e1 h1 he hpl).imp fun σ H Q hq195=>by
 let#[d,en,h,k]:=hq195
 unfold oA at h;cases e3:`cO with
 | none=>rw[e3] at h;cases h
 | some ds =>
  rw[e3] at h;simp only[`h] at h;unfold cp0 at h;split at h<;>try cases h
  rename_i as bs;refine#[_,en,e3,λvs H1 s1 r=>?_];rw[o8] at r;let#[x,t,rfl,r1,r]:=r;rw[o8] at r;let#[y,t,rfl,r2,r]:=r;rw[m9] at r;subst r;rw[X6] at r1 r2;let#[q1,us,rfl,Y,t1]:=r1;let#[q2,ws,rfl,O,t2]:=r2;refine#[q1,q2,us,ws,rfl,Y.to,O.to,λL as' hl U hL hf fa=>?_];have J:(`aQl)=L::as':=`aKy
  have hN:(`aQl).Nodup:=by rw[J];exact `Ic #[hL,U]
  have fr:∀p∈(`Ik),H1 p.1=`d:=λp hp=>by
   have:p.1∈L::as':=`aKz
   rcases `cf `E with e|e
   ·rw[e];exact hf
   ·exact fa _ e
  have sm:`dw H1 (v00 H1 (`Ik)):=#[λb u e=>by
   rw[q90 λp hp z=>by rw[← z,`ad3] at e;cases e];exact e,`aKA]
  have g:Gr H1 (v00 H1 (`Ik)) B (`aD_):=λb u n e=>#[λz=>`d' n (λz=>by rw[z,hf] at e;cases e),sm _ _ e]
  refine k L _ (`lG hf) (`jN sm) #[`apC,`aKB,?_];refine le0 (t1.mono g) (t2.mono g) hl λp hp=>#[`aKC,`jT]
  have pin:p.1∈as':=by rw[← p60 hl];exact S4 hp
  rcases z with z|z
  ·exact `M_ _ z (`lG (fa _ pin))
  ·exact hL (z▸pin)
universe zz
universe DL
namespace L2
open Spec PyProof.Rows
def Hk0(K:`A):`ib:=λx vs H Q=>∃(p:`f) (ys:`_) (z:Int) (j:Nat),`L_/\vs=`Ju/\SqL K H p (`O4)/\`aMk
theorem dc0:∀{ys:`_} {us:`K},`bJ (`O4) us->∀(m:Nat) (y:Int),`Oi->∃t,us[m]?=`a (`g y t)
 | [],_,`X,m,y,h=>by cases h
 | `Oj,_,`mg,0,y,h=>by
  cases h;let#[tk,rfl]:=r;exact`aeD
 | `Oj,_,`mg,m+1,y,h=>by
  let#[tk,e]:=dc0 t m y `hZ;exact`aMh
theorem ip0:∀ys:`_,(`O4).all un0=`c
 | []=>rfl
 | `CY=>by
  rw[`ab,`mu,ip0 ys];rfl
def L90:MtR X "list.index" (Hk0 X.K):=by
 intro pins s σ H x vs v us Q I rx rv h;refine `e;let#[p,ys,z,j,rfl,rfl,hq,hj,U,q]:=h;cases rx;let#[u,rfl,ru]:=`Ma;let#[its,r,pl,hz]:=`hd;let#[o,n,h1,h2,h3]:=id pl;have a1:`nk=`er:=`aMl
 have a2:j<`er:=`aeF;have at_:∀m (hm:m<`hF),∃y t,`Oi/\`aMm=`g y t:=λm hm=>by
  have J:`Ok:=`aMn
  let#[t,e]:=dc0 r m ys[m] (C4 J);refine`aMo;have:`aMp:=`aeG;rw[`E] at e;have e':=`oz
  simpa using e'
 let#[c0,dd,dt,sl]:=o;obtain rfl:c0=`en := h2;obtain⟨rfl,rfl⟩:dd=`d/\dt=`RX:=h3;let#[t,rfl]:=ru;have O:∀(y:Int) (tk:Tok),`aQm=`c↔y=z:=λy tk=>by
  show (eqV (`g y) `j4)=`c↔_;simp[eqV]
 have Y:`cw<`Ul:=by
  have h5:`L8:=by rw[`P] at hz;exact hz
  have h6:`R<`ft:=`aa
  lia
 refine `b;refine L5 (T := `eS) `aQn (show `nh `dv `eS from `aMs) F.entry_list_index (F.args_list_index_2 _ _) (SeqAt.list_indexAt p `bv n `d sl (`g z t) (eqU `j4) j `tV Y ?_ ?_) #[h1,λy hy=>uq0 (x:=`iN) `Co rfl r (ip0 ys) y `aMt,`aMu]
 ·let#[y,tk,e1,e2]:=`aMv
  rw[e2,O];rw[hj] at e1;cases e1;rfl
 ·intro m hm Z
  let#[y,tk,e1,e2]:=at_ m hm;rw[e2];cases hb:`aQm with
  | false=>rfl
  | true=>exact `N `aMw (U m Z)
universe L2
namespace DL
open Spec PyProof.Rows L2
def sm0:`n->`aL (`_)
 | []=>`p_
 | `bi::ds=>(`DQ).map (i::·)
 | _=>`d
def V30:`wl
 | `ci,`Ju=>(`DQ).bind λys=>`aMx
 | _,_=>`d
open T in
def Pd0:∀{ds:`n} {ys:`_} {xs:`S},`DQ=`a ys->`bp->xs=`O4:=by
 intro ds
 induction ds with
 | nil =>
  intro ys xs h r;rw[m9] at r;subst r;simp only[sm0] at h;cases h;rfl
 | cons d ds ih =>
  intro ys xs h r;rw[o8] at r;let#[x,r',rfl,r1,r2]:=r;cases d<;>simp only[sm0] at h<;>try cases h
  rename_i s;cases e1:`DQ with
  | none=>rw[e1] at h;cases h
  | some zs =>
   rw[e1] at h;cases h;rw[j6] at r1;subst r1;rw[ih e1 r2];rfl
open T in
theorem Ke0(ho:`ace)(ha:`CZ)(hbase:`fh o `Ol `w `nm=`hw:=by rfl)
  (hfew:(`o_
  &&`M')=`c:=by rfl)
  (hline:`fO:=by rfl) (hs:`fW:=by rfl) (hplain:`mB:=by rfl) :
  PD X (`aV (`cI o `Ol `eV) [e] [] `ca) (sl0 g gA V30):=.mk λB δ =>
 (rl0 F.plainAttrs_list `aQn F.type_list_index L90 (ho B δ) `bs `e3 `ja `gr hs `kH).imp fun σ H Q hq196=>by
  let#[d,en,h,k]:=hq196
  unfold sl0 at h;cases e1:`av with
  | none=>rw[e1] at h;cases h
  | some x =>
   cases e2:`cO with
   | none=>rw[e1,e2] at h;cases h
   | some es =>
    rw[e1,e2] at h;simp only[`h] at h;unfold V30 at h;split at h
    ·rename_i ds z
     cases e3:`DQ with
     | none=>rw[e3] at h;cases h
     | some ys =>
      rw[e3,`h] at h;cases e4:`aMB with
      | none=>rw[e4] at h;cases h
      | some j =>
       rw[e4] at h;cases h;refine`acf;rw[X6] at r1;let#[p,xs,rfl,hq,rx]:=r1;obtain rfl:=Pd0 e3 rx;refine#[`t #[rfl,_,`mA],_,`gP,e2,`G2];rw[o8] at r2;let#[y,rr,rfl,r3,r4]:=r2;rw[m9] at r4;subst r4;rw[j6] at r3;subst r3;let#[hj,h1,h2]:=E50.mp e4;refine#[p,ys,z,j,rfl,rfl,(hq.mono `M0).to,?_,`aMC,k _ _ `nK `tt]
       ·rw[`aeH,`aeI h1]
       ·have J:`Ok:=`J
        rw[`iD J] at he;exact `aMD
    ·cases h
def atC(ys:`j):`yM
 | `bi=>`aQo `gk
 | _=>`d
section
variable{a0 ix:`I}{gi gb:GE}{gA:GA}{posg p pg p5 rp:Pos}
def Pk0(ys:`j)(i:Int):`T0 `y4 i=`aQo `y3:=by
 unfold L2.atI;rw[`P];cases L2.ixN `er i with
 | none=>rfl
 | some j=>simp
open T in
theorem H70{ys:`j}(hK:`aMy)(hb:`dE)(hg:`c!:=by rfl)(hd:`aQ:=by decide)(hs:`Cg:=by exact `mx) :
  PD X (`lg `HM b pos) (unG (atC ys) gb):=.mk λB δ=>by
 let#[p,o,its,n,hm,hk,hc,U,J,O,hv]:=hK;refine (Vz0 bo0 `aMA `fU hs).imp fun σ H Q hq197=>?_;let#[d,en,h,k]:=hq197
 unfold unG at h;cases e2:`et with
 | none=>rw[e2] at h;cases h
 | some dk =>
  rw[e2,`h] at h;unfold atC at h;split at h
  ·rename_i i
   cases e3:`apD with
   | none=>rw[e3] at h;cases h
   | some y =>
    rw[e3] at h;cases h;refine#[_,en,e2,`y7];rw[j6] at r1;subst r1;exact#[p,`TX,i,`p7,rfl,rfl,`s #[o,its,n,hk,hc,J,O,hv],by rw[Pk0,e3];rfl,k _ H1 s1 `GI]
  ·cases h
universe zz
def zv0{α:Type}(xs:`aT)(lo hi st:`a5):`aT:=(`afF (`afG).1 (`afG).2.1 (`afG).2.2).filterMap `apE
theorem bb0(r:`bp):∀l:`m,Rps K H B (`Il (ds[·]?)) (`afH)
 | []=>by rw[`aQp,`aQp,m9]
 | i::l=>by
  have ih:=bb0 r l;cases e:ds[i]? with
  | none =>
   have e2:`UI:=r8.mpr (by rw[`cJ];exact r8.mp e);rw[`O5 e,`O5 e2];exact ih
  | some d =>
   let#[x,ex,rx]:=`rJ e;rw[`DR e,`DR ex,o8];exact#[_,_,rfl,rx,ih]
theorem d40(r:`dW):∀l:`m,`bJ (`afH) (`Il (us[·]?))
 | []=>`X
 | i::l=>by
  have ih:=d40 r l;cases e:`RW with
  | none =>
   rw[`O5 e,`O5 (r.none_of e)];exact ih
  | some d =>
   let#[u,eu,ru]:=`rJ e;rw[`DR e,`DR eu];exact `aq ru ih
section
variable{hi st:`jU}{tl th ts:TO}
def Hr0(K:`A)(te:TE)(tl th ts:TO):TE:=fun σ H Q=>te σ H λx H1=>tl σ H1 λl H2=>th σ H2 λu H3=>ts σ H3 λc H4=>∃a xs,`c?/\SqL K H4 a xs/\c≠`n'/\∀p,H4 p=`d->Q `dv (upd H4 p (`aQq))
def Mf0(he:`gp)(hl:`azf)(hu:`azg)(hst:PO X st ts)(hsub:`aQr:=by intros;with_unfolding_all rfl):PE X `aQs (Hr0 X.K te tl th ts):=by
 intro pins s σ H Q I h;refine `LT (thn `h9 λv s1 hq198=>?_);let#[x,H1,I1,r1,q1]:=hq198;refine `azh (thn `azi λvl s2 hq199=>?_);let#[l,H2,I2,pl,q2]:=hq199;refine thn `azj λvu s3 hq200=>?_;let#[u,H3,I3,pu,q3]:=hq200;refine thn (hst `i s3 σ H3 _ I3 q3) λvc s4 hq201=>?_;refine `e;let#[c,H4,I4,pc,a,xs,ex,hx,hc,q]:=hq201;subst ex;cases r1;have I5:Inv X `i σ H4 `aQt:=I4.kept (t':=s4.toks) `ST
 let#[its,r,ht,hz]:=I5.list hx;have O:=`cJ;have hg:`q `am X.A (`ng `c2 (`aQu)) `fj `aH `aQt:=by
  refine Cl0 ht.isList `azk pl pu pc hc ?_ `aax;refine#[`z _,_,I5.laid (t':=s4.toks) (o:=`aQq) `Cd `bj ?_,rfl,q _ (I5.hok.fresh `bj)];have hp:slicePick `bv l u c=(`O6).toArray:=by
   unfold slicePick zv0;simp
  have U:(`O6).length<=`nk:=by
   have:=slicePick_size_le `bv l u c;rw[hp] at this
   simpa using `E
  have J:`bJ `V5 (`O6):=by
   unfold zv0;rw[O];exact d40 r _
  exact#[by rw[`asI];lia,`O6,0,J,by rw[hp];exact `f0]
 refine `b;exact `aao (ops:=[`bt,`aQu]) `azN `aaw hg (hsub _ _)
def cn0(g:GE)(gl gh gs:`Cz):GE:=fun δ=>`cB λd=>`acs λlo=>`act λhi=>(gs δ).bind λc=>match d with
 | `c1=>if c≠`n' then `a (`o (zv0 xs lo hi c)) else `d
 | _=>`d
open T in
theorem X20{g:GE}{gs:`Cz}(he:`cC)(hl:`adi)(hh:`adj)(hs:PDO X st gs)(hsub:`aQr:=by intros;with_unfolding_all rfl) :
  PD X `aQs (cn0 g gl gh gs):=.mk λB δ=>(Mf0 `NJ (hl B δ) (hh B δ) (hs B δ) hsub).imp fun σ H Q hq202=>by
 let#[d,en,h,k]:=hq202
 unfold cn0 at h;cases e1:`av with
 | none=>rw[e1] at h;cases h
 | some x =>
  rw[e1,`h] at h;cases e2:`y' with
  | none=>rw[e2] at h;cases h
  | some l =>
   rw[e2,`h] at h;cases e3:`y! with
   | none=>rw[e3] at h;cases h
   | some u =>
    rw[e3,`h] at h;cases e4:gs δ with
    | none=>rw[e4] at h;cases h
    | some c =>
     rw[e4,`h] at h;split at h
     ·rename_i xs
      split at h
      ·rename_i hc
       cases h;refine#[_,en,e1,λv H1 s1 r1=>#[l,`gP,`anY,λH2 s2=>#[u,`aPV,`anZ,λH3 s3=>#[c,`fq (`o4),(by first|exact e4|rfl),λH4 s4=>?_]]]];have r4:=(`adk).same s4;rw[X6] at r4;let#[a,ys,rfl,hq,rr]:=r4;have J:=(`o4).trans s4;refine#[a,ys,rfl,`mA,hc,λp hp=>k _ _ (J.trans `fr) ?_];rw[X6];refine#[p,_,rfl,`t #[(`fq J).free hp,`abN],?_];have:Rps X.K H4 B `V5 (zv0 ys l u c):=by
        unfold zv0;rw[`GZ];exact bb0 rr _
       exact this.same `fr
      ·cases h
     ·cases h
universe zz
universe DL
namespace Bt
open DL W
section
def zi0:GS:=(v8 (ifD `aQv
 (v8 `aQw
 t7)
 t7)
 (v8 `O7
 t7))
def xu0:`j:=`u!
def Y9:`T:=`aQx
def vq0:GS:=(v8 (Z7 `bV (gc (`u `aQy)))
 (v8 (Z7 `j6 `r?)
 (v8 (th0 (u00 (z7 `nT v6)) `iO
 (v8 `aQz
 t7))
 (v8 (Z7 `qH (o2 `O8 `V8 m7))
 (v8 (N8 6 `nU)
 (v8 (th0 (u00 `eB) (gN 7)
 (v8 `aQA
 (v8 `aQB
 (v8 (ifD `O9
 (v8 `aQC
 t7)
 (v8 (ifD `afI
 (v8 `aQD
 t7)
 (v8 `aQE
 t7))
 t7))
 t7))))
 (v8 (m30 6)
 t7)))))))
def ql0:`j:=[`Ys, `on, `aQF, `aQG, "_law_j", `aQH, `aQI, `qD, `aQJ]
def yh0:`T:=mkN 2 ql0 vq0
def wx0:GS:=(v8 (ifD `aQK
 (v8 (V0 (o2 (o2 (o2 `an (o2 (o2 `ec `aQL U6) `a6 z70) m7) `aQL z70) `a6 d8))
 t7)
 t7)
 (v8 (ifD `O9
 (v8 (V0 (o2 (o2 `O8 (gc (`g 300)) m7) (gc (`g 150)) z70))
 t7)
 t7)
 (v8 (ifD `afI
 (v8 (V0 (o2 (o2 `O8 (gc (`g 40001)) m7) (gc (`g 20000)) z70))
 t7)
 t7)
 (v8 (V0 (o2 (o2 (o2 `O8 (o2 (o2 `ec `aQM U6) `a6 z70) m7) `aQM z70) `a6 d8))
 t7))))
def sy0:`j:=`DS
def zy0:`T:=mkF 2 sy0 wx0
def ub0:GSB:=(o5 (j9 (Z7 `zO (dgO 0 `l1)))
 (o5 (j9 (G6 (Z8 `ap6) (putL 0 `l1)))
 (o5 (j9 (Z7 `bV (dgO 0 `ap')))
 (o5 (ifB `aQN
 (o5 `aQO
 `H)
 `H)
 (o5 `aQP
 `H)))))
def pp0:`j:=`aQQ
def S8:`aF:=mkB 1 pp0 0 ub0
def vm0:GSB:=(o5 `afJ
 (o5 (ifB `aQR
 (o5 (V3 (Z8 `iP))
 `H)
 `H)
 (o5 (ifB (ob (o2 `Ir `g0 ltD))
 (o5 (V3 (Z8 (oA (z7 (o2 `ac `nT d7) (z7 `apX v6)) zy0)))
 `H)
 `H)
 (o5 (V3 (Z8 (y00 (z7 `l1 (z7 (o2 (o2 `ac `nT d7) (dgO 0 `We) m7) v6)))))
 `H))))
def td0:`j:=`aQS
def Q8:`aF:=mkB 1 td0 0 vm0
def uj0:GSB:=(o5 (j9 (Z7 `bV (gc (`u `afK))))
 (o5 (j9 (G6 `apS `j6))
 (o5 (V3 (Z8 (nv0 `r? (z7 (T4 1 [2,3] (u00 `eB) `bP noT (o2 `ac (o2 (o2 `aQT (o2 `an `an U6) d8) (`aQU) m7) ixD)) v6))))
 `H)))
def sj0:`j:=[`lY, `Iv, `aQF, `qF]
def y80:`aF:=mkB 2 sj0 0 uj0
def wy0:GSB:=(o5 `afJ
 (o5 `aQV
 (o5 (j9 (ifD `O'
 (v8 `O!
 t7)
 t7))
 (o5 (ifB `aQW
 (o5 (V3 (b80 `zW (T6 0 (z7 (o2 `zQ (gc (`g 21)) m7) v6) y80)))
 `H)
 `H)
 (o5 `aQX
 (o5 (ifB `afL
 (o5 (V3 (Z8 (y00 (z7 `t! (z7 (oA `t' yw0) v6)))))
 `H)
 `H)
 (o5 `aQY
 (o5 `aQZ
 (o5 `aQ_
 (o5 (ifB `aQ0
 (o5 (V3 (Z8 (y00 (z7 `Wq (z7 (gv 6) v6)))))
 `H)
 `H)
 (o5 (V3 (Z8 (y00 (z7 `Wh (z7 (o2 `gj (o2 (o2 `ac (gc (`g 300)) d7) `Wb m7) ixD) (z7 (gv 6) v6))))))
 `H)))))))))))
def xn0:`j:=`aQ1
def N6:`aF:=mkB 1 xn0 0 wy0
def t00:GS:=(v8 (Z7 `bV (oA `Iy Y9))
 (v8 (N8 3 (i90 `aQ2))
 (v8 (G6 (Z8 (o2 `a6 (o2 `az `nT m7) d8)) `aQ3)
 (v8 (ifD (ob (dgO 3 `V!))
 (v8 (G6 (Z8 (o2 `a6 (o2 (o2 `az `apM d7) `Iq m7) d8)) `aQ3)
 t7)
 t7)
 (v8 (G6 (Z8 (oA (z7 (o2 (o2 `az (gc (`g 11)) d7) (o2 (o2 `Ip (gc (`g 30)) mz0) `apN d8) m7) (z7 (o2 `aQ4 `aQ5 ixD) v6)) yh0)) (`zU 3 `ap2))
 (v8 (j80 (be0 yw0 (v70 1 [3] 3 1 (u00 (z7 (dgO 3 `We) v6)) `bP `afM)))
 t7))))))
def rm0:`j:=`aQ6
def G8:`T:=mkF 2 rm0 t00
universe zz
universe Bt
namespace Rk
open DL W
open Bt (zi0 Y9 vq0 yh0 ub0 S8 wx0 zy0 vm0 Q8 uj0 y80 wy0 N6 t00 G8)
section
def xu0:`j:=`u!
def ql0:`j:=[`Ys, `on, `Yt, `aQG, "_law_j", `aQH, `aQI, `qD, `aQJ]
def pp0:`j:=`aQQ
def sy0:`j:=`DS
def td0:`j:=`aQS
def sj0:`j:=[`lY, `Iv, `Yt, `qF]
def xn0:`j:=`aQ1
def rm0:`j:=`aQ6
abbrev u9:`j:=[`qO, `j8, `uc, `qM, `ub, `l2, `hQ, `nV]
def gm0:GS:=(v8 (ifD `t?
 (v8 (V0 (y00 (z7 `l1 (z7 (sl0 `ac `zY V30) v6))))
 t7)
 t7)
 (v8 (V0 `an)
 t7))
def h90:`j:=`wJ
def t20:`T:=mkF 2 h90 gm0
def ma0:GS:=(v8 (ifD `o9
 (v8 `o'
 t7)
 t7)
 (v8 (ifD `DT
 (v8 `O?
 t7)
 t7)
 (v8 (Q7 (T4 2 [] `sa `Wc noT `ac))
 t7)))
def rb0:`j:=`Kw
def Q9:`T:=mkN 1 rb0 ma0
def pb0:GS:=(v8 `wK
 (v8 `aQ7
 (v8 (S6 `aQ8
 (v8 `aQ9
 (v8 (ifD `aQ'
 (v8 `aQ!
 (v8 `aQ?
 (v8 `aRa
 t7)))
 t7)
 t7)) 100000)
 (v8 `wL
 t7))))
def tm0:`j:=[`Ku, `Wf, "_law_waiting", `V', "_law_ends"]
def xh0:`T:=mkN 1 tm0 pb0
def ln0:GS:=(v8 (Z7 `zO (oA `lW xh0))
 (v8 (N8 2 `nU)
 (v8 (th0 (uo0 `ac) `j6
 (v8 `aRb
 (v8 `aRc
 (v8 (ifD `aRd
 (v8 `aRe
 t7)
 (v8 (ifD `aRf
 (v8 `aRg
 (v8 `aRh
 t7))
 t7)
 t7))
 (v8 `aRi
 t7)))))
 (v8 (V0 (ji0 (oA `eb yw0)))
 t7))))
def ti0:`j:=[`Ku, `Wf, "_law_found", `V', `aqc, `Wd, "_law_fields"]
def vg0:`T:=mkF 1 ti0 ln0
def w90:GS:=(v8 (ifD `o9
 (v8 `o'
 t7)
 t7)
 (v8 (ifD `DT
 (v8 `O?
 t7)
 t7)
 (v8 `wK
 (v8 (ifD `afN
 (v8 `afO
 t7)
 t7)
 (v8 (th0 `sa `bV
 (v8 `Pa
 t7))
 (v8 `wL
 t7))))))
def wc0:`j:=`afP
def K6:`T:=`afQ
def n80:GS:=(v8 `aRj
 t7)
def tz0:`j:=`km
def zg0:`T:=`aRk
def s90:GS:=(v8 (ifD `afR
 (v8 `afS
 t7)
 t7)
 (v8 `afT
 t7))
def sf0:`j:=`g!
def vk0:`T:=`afU
def t50:GS:=(v8 (ifD `aRl
 (v8 `O7
 t7)
 t7)
 (v8 (ifD `t?
 (v8 `aRm
 t7)
 t7)
 (v8 `aRn
 t7)))
def uz0:`j:=`km
def zo0:`T:=`aRo
def ya0:GS:=(v8 `afV
 (v8 `afW
 (v8 (S6 `Pb
 (v8 `Pc
 (v8 `Pd
 t7)) 100000)
 (v8 `afX
 t7))))
def yb0:`j:=`afY
def V8:`T:=`afZ
def w70:GS:=(v8 `af_
 t7)
def yj0:`j:=`u8
def P0:`T:=`af0
def t90:GS:=(v8 (ifD `aRp
 (v8 `aRq
 t7)
 t7)
 (v8 `aRr
 t7))
def t30:`j:=`DU
def wb0:`T:=`aRs
def yu0:GS:=(v8 `af1
 t7)
def yt0:`j:=`di
def z40:`T:=`af2
def w60:GS:=(v8 (ifD `o9
 (v8 `af3
 t7)
 t7)
 (v8 `o'
 t7))
def wd0:`j:=`di
def zs0:`T:=`af4
def ta0:GS:=(v8 (ifD `af5
 (v8 `aRt
 t7)
 t7)
 (v8 (ifD `aRu
 (v8 `aRv
 (v8 `aRw
 t7))
 t7)
 (v8 `aRx
 t7)))
def tj0:`j:=`aRy
def zm0:`T:=`aRz
def ih0:GS:=(v8 `wK
 (v8 `aRA
 (v8 `aRB
 (v8 `aRC
 (v8 (S6 `af6
 (v8 `af7
 (v8 `af8
 (v8 (ifD `af9
 (v8 `af'
 t7)
 (v8 (ifD `af!
 (v8 `af?
 (v8 `aga
 t7))
 t7)
 t7))
 t7))) 100000)
 (v8 `wL
 t7))))))
def g90:`j:=`aRD
def qk0:`T:=`aRE
def rf0:GSB:=(o5 (j9 (fe0 0 `F `qO `bk))
 (o5 (j9 (ls0 0 `F `j8 `nU))
 (o5 (j9 (ls0 0 `F `uc `nU))
 (o5 (j9 (ls0 0 `F `qM `nU))
 (o5 (j9 (ls0 0 `F `ub (U5 (z7 `agb v6))))
 (o5 (j9 (fe0 0 `F `l2 `bk))
 (o5 (j9 (fe0 0 `F `hQ `bk))
 (o5 (j9 (fe0 0 `F `nV `r?))
 `H))))))))
def rg0:`j:=`aP
def z00:`aF:=mkB 1 rg0 0 rf0
def ve0:GSB:=(o5 (j9 (S6 `aRF
 (v8 `Wp
 (v8 (popS 0 `iQ)
 t7)) 100000))
 `H)
def su0:`j:=`aP
def J5:`aF:=mkB 1 su0 0 ve0
def ur0:GSB:=(o5 (V3 (Z8 (orG (o2 `qK `ID eqD) (o2 (o2 `ac `j9 U6) `aRG leD))))
 `H)
def qv0:`j:=`wM
def ze0:`aF:=mkB 2 qv0 0 ur0
def re0:GSB:=(o5 (ifB (ob `aRH)
 (o5 (j9 (j8 (qf0 0 `aRI `ac)))
 `H)
 `H)
 (o5 `aRJ
 (o5 `aRK
 `H)))
def m60:`j:=`ve
def W7:`aF:=mkB 2 m60 0 re0
def j00:GS:=(v8 (ifD `agc
 (v8 (V0 `aqI)
 t7)
 t7)
 (v8 (V0 `apI)
 t7))
def kz0:`j:=`Pe
def ug0:`T:=mkF 1 kz0 j00
def oa0:GS:=(v8 (ifD `agc
 (v8 (V0 (o2 (U5 (z7 (gc (`u `nX)) v6)) `ac mulL))
 t7)
 t7)
 (v8 (ifD `aRL
 (v8 (V0 (o2 (U5 `aqL) `ac mulL))
 t7)
 t7)
 (v8 (ifD `aRM
 (v8 (V0 `aRN)
 t7)
 t7)
 (v8 (V0 (o2 (U5 (z7 (gc (`u "class")) v6)) `aRN d8))
 t7))))
def o30:`j:=`Pf
def u10:`T:=mkF 2 o30 oa0
def v20:GSB:=(o5 (ifB (yr0 (ob `aRO) (ob `aRP))
 (o5 `e'
 `H)
 `H)
 (o5 (j9 (j8 (Y0 0 `F u9 `aRQ W7)))
 (o5 (qh0 0 3 `ac `qL `iQ)
 (o5 (j9 (j8 (qf0 0 `j' `aqH)))
 (o5 (j9 (j8 (Z50 0 `j' (oA (z7 (oA `Wl u10) v6) tw0))))
 (o5 `sb
 `H))))))
def tr0:`j:=[`c9, `z0, `Wr, `zZ]
def za0:`aF:=mkB 3 tr0 0 v20
def ik0:GS:=(v8 (ifD (ob `aRR)
 (v8 (V0 (o2 (unG U4 (o2 `an `ec d7)) `a6 z70))
 t7)
 t7)
 (v8 (V0 (o2 `an `ec d7))
 t7))
def g50:`j:=`g!
def rh0:`T:=mkF 1 g50 ik0
def ym0:GSB:=(o5 (j9 (Z7 `bV `zQ))
 (o5 (ifB (ob (o2 `zR `gZ eqD))
 (o5 (V3 (Y0 0 `F u9 (z7 (unG (atC `IB) (o2 `az `g0 m7)) (z7 (o2 `az `g0 d7) v6)) za0))
 `H)
 `H)
 (o5 (ifB (ob (o2 `qK `agb eqD))
 (o5 `e'
 `H)
 `H)
 (o5 (ifB `afL
 (o5 (j9 (j8 (Y0 0 `F u9 (z7 (oA `eb rh0) v6) W7)))
 `H)
 (o5 (ifB (uk0 `aQ0 (ob (o2 `az `IE ltD)))
 (o5 (j9 (j8 (Y0 0 `F u9 (z7 (y00 (z7 `l1 (z7 (o2 (o2 `IE `a6 z70) `az z70) v6))) v6) W7)))
 `H)
 (o5 (ifB (ob (o2 `ac `bk eqD))
 (o5 (j9 (j8 (Y0 0 `F u9 (z7 `iP v6) W7)))
 `H)
 (o5 `e'
 `H))
 `H))
 `H))
 (o5 `sb
 `H)))))
def tq0:`j:=[`c9, `z_, "rest"]
def R4:`aF:=mkB 2 tq0 0 ym0
def y40:GSB:=(o5 (j9 (Z7 `bV (o2 (o2 (plN `aRS) `j9 U6) (o2 `ac `j9 m7) d8)))
 (o5 (ifB (ob (o2 `ac `j9 ltD))
 (o5 (V3 (Y0 0 `F u9 `eb R4))
 `H)
 `H)
 (o5 (ifX (orT (liftT `agd) (zz0 `aRT))
 (o5 `e'
 `H)
 `H)
 (o5 (j9 (u20 0 `F `l2 `az))
 (o5 `sb
 `H)))))
def te0:`j:=[`c9, `qN, `z_]
def Q6:`aF:=mkB 2 te0 0 y40
def dm0:GS:=(v8 (Z7 `j6 `a6)
 (v8 (th0 (u00 (z7 (o2 `ac `t9 z70) v6)) `iO
 (v8 `aRU
 t7))
 (v8 (V0 (o2 (oA (z7 (T4 1 [1,2] (uo0 `an) `bP (`aRV) `an) v6) T8) `g_ ltD))
 t7)))
def lh0:`j:=[`qM, `hQ, `Yq, "most", "place"]
def yx0:`T:=mkF 3 lh0 dm0
def ex0:GS:=(v8 (th0 (j40 `ac) `bV
 (v8 (ifD `aRW
 (v8 `aRX
 t7)
 t7)
 t7))
 (v8 (V0 `iP)
 t7))
def d60:`j:=[`qN, `Wk, `nX]
def vh0:`T:=mkF 2 d60 ex0
def zu0:GSB:=(o5 `aRY
 (o5 (ifB `aRZ
 (o5 `e'
 `H)
 `H)
 (o5 `aR_
 (o5 (ifB (ob `aR0)
 (o5 (j9 (j8 `aR1))
 (o5 (j9 (j8 (Y0 0 `F u9 `aqV W7)))
 (o5 (j9 (u20 0 `F `hQ `bk))
 (o5 (j9 (u20 0 `F `nV `r?))
 `H))))
 `H)
 (o5 `sb
 `H)))))
def uv0:`j:=`aR2
def R7:`aF:=mkB 2 uv0 0 zu0
def l70:GS:=(v8 (V0 (oA (z7 (cn0 `an (`hN `bk) yo0 `aR3) (z7 (cn0 `an `age yo0 `aR3) v6)) V40))
 t7)
def mj0:`j:=`Pg
def vf0:`T:=mkF 1 mj0 l70
def j20:GS:=(v8 (ifD `agc
 (v8 (V0 (y00 (z7 `zW (z7 (nv0 `r? `eB) v6))))
 t7)
 t7)
 (v8 (ifD `aRL
 (v8 (V0 (y00 (z7 `t! (z7 (oA `eB yw0) v6))))
 t7)
 t7)
 (v8 (ifD `aRM
 (v8 (V0 (y00 (z7 `Wq (z7 (oA `eB vf0) v6))))
 t7)
 t7)
 (v8 (V0 (y00 (z7 `Wh (z7 `aqW (z7 (oA (z7 (xi0 `ac `age yo0) v6) vf0) v6)))))
 t7))))
def ky0:`j:=`Kz
def O2:`T:=mkF 2 ky0 j20
def lg0:GS:=(v8 (ifD (yr0 `o9 `DT)
 (v8 `o'
 t7)
 t7)
 (v8 (Q7 (T4 1 [] `sa `bP noT `j7))
 t7))
def K5:`j:=`di
def vl0:`T:=mkN 1 K5 lg0
def yp0:GSB:=(cw0 0 1 `Wo (oA `aR4 vl0))
def tp0:`j:=[`c9, `zZ]
def M9:`aF:=mkB 1 tp0 0 yp0
def y30:GSB:=(o5 (ifB (ob (o2 `ac `Wv geD))
 (o5 `e'
 `H)
 `H)
 (o5 (j9 (Z7 `bV (plN (J2 0 `nW (o2 (o2 `Wv `a6 z70) `ac z70)))))
 (o5 (ifX (Vi0 (liftT `aR5) (W0 `aR6))
 (o5 `e'
 `H)
 `H)
 (o5 `aR7
 (o5 `sb
 `H)))))
def v90:`j:=[`c9, `atA, `ua]
def O7:`aF:=mkB 2 v90 0 y30
def K8:GSB:=(o5 (ifB (ob (o2 (o2 `ac `ec m7) `bk eqD))
 (o5 (V3 (Y0 0 `F u9 (z7 (o2 `ac `ec d7) v6) O7))
 `H)
 `H)
 (o5 (j9 (Z7 `bV (o2 `ac `ec d7)))
 (o5 (ifB (yr0 `agd (yr0 (ob `aR8) (ob `aR9)))
 (o5 `e'
 `H)
 `H)
 (o5 (ifB (yn0 (ob (fnN 0 `nW (z7 `az (z7 `r? v6)) yx0)))
 (o5 `e'
 `H)
 `H)
 (o5 (j9 (u20 0 `F `hQ `az))
 (o5 `sb
 `H))))))
def wt0:`j:=[`c9, `qN, `hQ]
def T3:`aF:=mkB 2 wt0 0 K8
def v30:GSB:=(o5 (j9 (Z7 `bV (oA (z7 `ac (z7 (gc (`aR')) v6)) vh0)))
 (o5 (ifB `aqU
 (o5 `e'
 `H)
 `H)
 (o5 `aR7
 (o5 `sb
 `H))))
def to0:`j:=`aR2
def M8:`aF:=mkB 2 to0 0 v30
def tv0:GSB:=(o5 (V3 (Z8 (o2 `aqF `bk eqD)))
 `H)
def o20:`j:=`aP
def W8:`aF:=mkB 1 o20 0 tv0
def y90:GSB:=(o5 (ifX `A1
 (o5 `e'
 `H)
 `H)
 (o5 `aR!
 (o5 (ifB (yr0 (ob (o2 `az `agb eqD)) (ob (o2 `az `ID eqD)))
 (o5 (V3 (Y0 0 `F u9 `eB Q6))
 `H)
 `H)
 (o5 (ifB (ob (o2 `az (gc (`u `nX)) eqD))
 (o5 (V3 (Y0 0 `F u9 `eB M8))
 `H)
 `H)
 (o5 (ifB (ob `aR?)
 (o5 (V3 (Y0 0 `F u9 `eB R7))
 `H)
 `H)
 (o5 (V3 (Y0 0 `F u9 `eB T3))
 `H))))))
def o90:`j:=[`c9, `qN, "want"]
def U8:`aF:=mkB 2 o90 0 y90
def h80:GS:=(v8 (V0 (pu0 (z80 isInt `an) (Qz0 (z80 `A9 `an))))
 t7)
def gb0:`j:=`o!
def vy0:`T:=mkF 1 gb0 h80
def dh0:GS:=(v8 (V0 (pu0 `agf `aSa))
 t7)
def er0:`j:=`o!
def vu0:`T:=mkF 1 er0 dh0
def sz0:GSB:=(o5 (ae0 (uo0 `ac) `bV
 (o5 (ifX (orT (liftT `agg) `aSb)
 (o5 `agh
 `H)
 `H)
 (o5 `aSc
 (o5 `aSd
 `H))))
 `H)
def m70:`j:=[`c9, "some", "thing"]
def z20:`aF:=mkB 2 m70 0 sz0
def ye0:GSB:=(o5 (ifX (zz0 `A1)
 (o5 `agh
 `H)
 `H)
 (o5 `aSe
 `H))
def vv0:`j:=`aP
def Q0:`aF:=mkB 1 vv0 0 ye0
universe zz
universe Rk
namespace W
open DL
def hasAll(x s:Str):`M:=x.cps.toList.all λc=>`B (c∈`hV)
def nameS:Str := `z1
def cq0:Str := `z2
def isName(x:Str):`M:=(`B (`agi<=8)&&hasAll x nameS)&&`B (0<`agi)
def isWord(x:Str):`M:=`B (`agi<=20)&&hasAll x cq0
def marks(x:D)(m:Str):`M:=match x with
 | `p7=>`B (y=m)
 | _=>`p
def e90:`cA
 | `x=>`c
 | `co=>`c
 | `y [x,`bi]=>marks x `c5&&`agj
 | _=>`p
inductive Pt where
 | text (w:Str)|row (vs:`n)|table (ps:`cr)|rcd (c:Str) (ps:`cr)
def pr(p:`z3):D:=`y `aSf
def Pt.d:Pt->D
 | `sc=>`y [`lZ,`u w]
 | `o?=>`y [`zS,`y vs]
 | `mK=>`y [`l_,`I3]
 | `DV=>`y [`l0,`lw,`I3]
def Pt.vals:`agk
 | `Ph=>[]
 | `o?=>vs
 | `mK=>`hY
 | `agl=>`hY
def Pt.pnames:Pt->`j
 | `Ph=>[]
 | .row _=>[]
 | `mK=>`g3
 | `agl=>`g3
def Pt.cls:Pt->`j
 | `nY c _=>[c]
 | _=>[]
def Pt.all(p:Pt):`j:=p.pnames++p.cls
def lk:D->`a5
 | `y [_,`bi]=>`qB
 | _=>`d
structure PsOk(ps:`cr):Prop where
 len:`aD<=12
 names:∀p∈ps,`qV p.1=`c
 vals:∀p∈ps,e90 p.2=`c
 nd:(`g3).Nodup
def Pt.Ok:Pt->Prop
 | `sc=>`aSg
 | `o?=>`cK<=12/\∀v∈vs,`agm
 | `mK=>`agn
 | `DV=>`qV c=`c/\`agn
def Um0{n:Str}(h:`qV n=`c):`uD<=8:=by
 unfold isName at h;simp only[`aI,`rY] at h;lia
def Pt.few(p:Pt):Prop:=`A2<=`R
def Sh0{v:D}(h:`agm):`s7∨(∃i,`CE)∨∃i,v=`aSh/\`hA:=by
 cases v with
 | non=>exact `bQ
 | int i=>exact `s (`t #[i,rfl])
 | tup xs =>
  match xs,h with
  | [x,`bi],h =>
   simp only[e90,`aI,`rY] at h;cases x<;>simp[marks] at h
   exact `s (`s #[i,by rw[h.1],h.2])
 | _=>cases h
def O8:Str := `aQy
def cg(i:Int):Nat:=`Pi `fm 0
def fd0(i:Int)(h0:`hA)(h1:i<36):ixD (`ug) `f6=`a (`u #[⟨cg i⟩]):=by
 have hl:O8.cps.toList.length=36:=`aG
 have hz:O8.length<=`R:=`aG
 have:=t40 (xs:=O8.cps.toList) (i:=i) h0 (by rw[hl];lia) 0;simp only[ixD,`V hz,`E,`id];rfl
def bv0(i:Int)(h0:`hA)(h1:i<36):cg i∈`II:=by
 have h:∀n:Nat,n<36->`Pi n 0∈`II:=`aG
 exact h `fm `k
def bg0(i j:Int)(h0:`hA)(h1:i<36)(h2:0<=j)(h3:j<36)(e:cg i=cg j):i=j:=by
 have h:∀n:Nat,n<36->∀m:Nat,m<36->`Pi n 0=`Pi m 0->n=m:=`aG
 have:=h `fm `k `ix `k e;lia
def strOf(l:`m):Str:=#[l.toArray]
def Sf0(l:`m)(h1:0<`bW)(h2:`bW<=8)(h3:∀c∈l,`DW):`qV `z8=`c:=by
 unfold isName hasAll;have e:`aSi:=`aSj
 have e2:`aSk:=`aSl
 rw[e,e2];simp only[`aI,`rY,`h7];exact#[`aSm,`J]
def Su0{l m:`m}(h:`z6=`aE m):l=m:=by
 unfold strOf at h;injection h with h
 simpa using C8 `alA h
universe W
namespace W
open DL StrLaws Builtin.Str
def wo0(l:`m):`aSk:=`aSl
def zq0(l:`m):`aSi:=`aSj
def ph0(sep:`m):`kX->`m
 | []=>[]
 | [p]=>p
 | p::q::r=>`aSn
universe W
namespace Rm
open DL W PySem.StrLaws
inductive Want where
 | root|value|sign|name|cls|fin
 deriving DecidableEq
variable{ws:`aSo}
structure RS where
 count:Nat
 begun:`ago
 un:`m
 names:`kX
 wait:`be
 digits:Int
 length:Nat
 spelled:`m
variable{S' S1:Rm.RS}
def start:RS:=#[0,[],[],[],[`uz],0,0,[]]
def Q4:`m:=(`bF 10).map (48+·)++(`bF 26).map (97+·)
def sw0:`m:=32::Q4
def RS.hold(S:RS)(d:D):RS:={ S with begun:=(match `cx with|[]=>`dT|k::_=>`sd),wait:=`mL,digits:=0 }
def wanted:Nat->Nat->`be
 | 0,n=>`aW n `kc
 | 1,n=>`aW n `d?
 | 2,n=>`agp
 | _,n=>`mT::`agp
def link(k:Nat):D:=`y `aSp
def ut0(n:Int):Int:=if n%2=1 then -(n/2) - 1 else n/2
def left(names:`kX)(len:Nat)(pre:`m):`M:=`B ((`Xq λn=>`B (`uD=len)&&`Jh).length<36 ^ (len - `fC))
def pairsOf:`n->`O1
 | `F'=>`agq
 | _=>[]
def M7(p:`hR):`n:=match p.1 with
 | 2=>`aSq `bK
 | 3=>`aSr `bK
 | _=>[]
def W6(l:`m):D:=`uj
def Vu0:`be->`m->`be×`m
 | `cm::w,_::u=>Vu0 w u
 | w,u=>(w,u)
def RS.ends(S:RS):RS:={ S with wait:=(`aSs).1,un:=(`aSs).2 }
def codes:`n->`m
 | `b1::r=>`aMg++`Jm r
 | _=>[]
def made(p:`hR):D:=match p.1 with
 | 0=>`y [`lZ,W6 (`Jm p.2)]
 | 1=>`y [`zS,`y p.2]
 | 2=>`y [`l_,`y (`aSq `ra)]
 | _=>`y [`l0,p.2.headD `x,`y (`aSr `ra)]
universe Rm
variable{ws:`aSo}{S' S1:Rm.RS}
namespace Bt
open DL W
theorem V1{G:GSB}{b:D}{r:D}(hl:`kT)(h:∀p,∃δ',G `lL=`a `aeU/\`r5):`aeY:=it0 hl λp=>`t (h p)
def o9{G1 G2:GSB}{δ:Ds}{r:`mI}(h:`abn)(k:`oP=r):`aSt=r:=by unfold o5;rw[h];exact k
def Z6{G1 G2:GSB}{δ:Ds}{d:D}(h:`fo=`agr):`aSt=`agr:=by unfold o5;rw[h]
def Y4{δ:Ds}(h:`aeV):j9 G δ=`d6:=by unfold j9;rw[h]
def zh0{g:GB}{δ:Ds}(h:`av=`e6):`aSu=Ga δ:=`aSv
def O3{g:GB}{δ:Ds}(h:`av=`bC):`aSu=`yP:=`aSv
def V7{δ:Ds}{d:D}(h:`Pj):V3 gx δ=`agr:=by unfold V3;rw[h];rfl
def R6{g:GE}{δ:Ds}{d:D}(h:`ih):Z8 g δ=`a (d,δ):=by unfold Z8;rw[h];rfl
def bk(k:Int)(cs:`_)(sm:`M)(m:Int)(pool:`j):D:=`cQ (`t [`ags,`agt,`agu,`s `V?,`s "pool"]) [`j_,`n_,`se,`g m,`uk]
def w80{ga gb:GE}{δ:Ds}{i j:Int}(h1:`de=`IJ)(h2:`et=`a `z9)(h:0<j):o2 ga gb m7 δ=`abi:=by
 rw[o6 h1 h2];show (if 0<j then _ else _)=_;rw[`cV]
def ue0(i j:Int)(h:`alO):`aSw:=by simp only[U6];rw[`V (`Mj)]
def Zb0{cs:`_}{g:GE}{δ:Ds}{i:Int}(s0 s1:Sl)(hδ:δ=[s0,s1,`IK])(h:`aSx)(h0:`hA)(h1:i<`j!):∃c:Int,o2 `az g ixD δ=`agv:=by
 refine#[cs[i.toNat]'`k,?_];have e:gv 2 δ=`aSy:=by rw[hδ];rfl
 rw[o6 e h];show atI (`aSz) i=_;rw[t40 h0 (by rw[`P];exact h1) `x];have:`fm<`j!:=`J
 simp[`bD,`E]
def gr0(k:Int)(h0:`jo)(hk:`agw)(cs:`_)(hc:`sf)(sm:`M)(m:Int)(pool:`j):`aSA:=by
 have pos:0<`j!:=`OO hc;have J:∀(z:Int),(∀p:`f,∀δ:Ds,δ=`DX->(o5 (ifB `aQN (o5 `aQO `H) `H)
   (o5 `aQP `H)) δ=`a (.rt `j4 δ))->0<=z->`aSA:=λz h hz=>by
  refine#[z,hz,V1 rfl λp=>#[`DX,?_,rfl]];refine o9 (δ':=[`DY,`ud,.un]) `agx ?_;refine o9 (δ':=[`qQ,`ud,.un]) `agx ?_;refine o9 (δ':=`DX) `agx ?_;exact h p _ rfl
 have len:∀(s0:Sl),oA `eb T8 `DZ=`a (`g `Pk):=λs0=>by
  show `a (`a7 ((`aSz).length:Int))=_;rw[`P]
 have cond:∀s0:Sl,ob `apL `DZ=`a (`B (k<`Pk)):=λs0=>by
  unfold ob;rw[o6 (x:=`j_) rfl (len s0)];rfl
 by_cases hlt:k<`Pk
 ·have ex:∃c:Int,∀s0:Sl,o2 `az `ac ixD `DZ=`agv:=by
   let#[c,hc]:=Zb0 (cs:=cs) (g:=gv 1) (δ:=`aSB) _ _ rfl rfl h0 hlt;exact#[c,λs0=>hc]
  let#[c,hc]:=ex;refine J (c%(10 ^ 64+57)) `aSC `aSD;subst hδ;refine `uf;rw[zh0 (by rw[cond,`bG hlt])];refine Z6 (V7 (R6 (w80 (hc _) ?_ `r)));kernel_rfl
 ·obtain⟨c,hc⟩:∃c:Int,∀s0:Sl,o2 `az `apO ixD `DZ=`agv:=by
   have em:∀s0:Sl,o2 `ac `t9 m7 `DZ=`a (`g (k%`Pk)):=λs0=>w80 rfl (len s0) `k
   let#[c,hc]:=Zb0 (cs:=cs) (δ:=`aSB) _ _ rfl (em .un) (`agy) (`aSE);refine#[c,λs0=>?_];rw[o6 (x:=`n_) rfl (em .un)] at hc;rw[o6 (x:=`n_) rfl (em s0)];exact hc
  refine J ((`agz+7)*48271%2147483647) `aSC `aSD;subst hδ;refine o9 (δ':=`DX) (by rw[O3 (by rw[cond,`b9 hlt])];rfl) ?_;refine Z6 (V7 (R6 (w80 ((o6 (x:=`g (`agz+7)) (y:=`apR) ?_ rfl).trans (ue0 _ 48271 `r)) rfl `r)));have e3:o2 `apQ `ac U6 `DX=`a (`aSF):=by
   rw[o6 (x:=`g (3*k)) (y:=`j_) (`aSG (ue0 3 k `k)) rfl];exact `Pl
  exact(o6 (x:=`g `agz) (y:=`g 7) ((o6 (x:=`g (`aq3)) (y:=`aSF) (w80 (hc _) rfl `r) e3).trans rfl) rfl).trans rfl
universe Bt
namespace Pn
open DL W
def put:Pt->`n->Pt
 | `sc,_=>`sc
 | .row _,vs=>`o?
 | `mK,vs=>`z4 (`XF)
 | `DV,vs=>`nY c (`XF)
universe Pn
namespace Gw
open DL W
def zi0:GS:=(v8 (ifD `aQv
 (v8 `aQw
 t7)
 t7)
 (v8 `O7
 t7))
def xu0:`j:=`u!
def Y9:`T:=`aQx
universe Gw
namespace Gw
open DL W StrLaws
def pl0(i j:Int)(h:`alN):`aSw:=by simp only[U6];rw[`V (`LL)]
def Nv0(i j:Int)(h:0<j):m7 `f6 `z9=`abi:=by simp only[m7,ii];rw[`cV]
def J40(i j:Int)(h:`Lv):d7 `f6 `z9=`aBH:=by simp only[d7,ii];rw[`cV]
def qb0{g:GE}{δ:Ds}{l:`n}{d:D}(h1:`aSH)(h2:`ih)(h3:`bW<`R):j8 (z60 i g) δ=`a (.nx (`aX i (.ow (`o `JP)))):=by
 unfold j8 z60;rw[h1,h2];simp only[`h];rw[`ac0];rfl
def Xx0(ns:`_)(k:Int)(h0:`jo):∃z,`aSI=`agA:=by
 by_cases h:k<`fg
 ·have J:`fu<`fg:=`J
  refine#[ns[k.toNat],`wN];rw[O4 (by
   show `aSJ;rw[`bG `agB])]
  refine `q5;show atI `agC k=_;rw[t40 h0 `agB `x];simp[`bD,J]
 ·refine#[0,U3 rfl (t8 (δ':=[`fA,`ud]) ?_ rfl)]
  rw[X7 (by
   show `aSJ;rw[`b9 `agB])]
  rfl
def Jm0(l:`m)(k:Int)(h0:`jo)(h1:k<=`bW):`anp `z8 `d (`eW)=`aE (`D_ `fu):=by
 show sliceText _ _ _=_;rw[sliceText_to #[h0,by rw[wo0];exact h1],wo0];simp[`aE]
def Gr0(a b:`m):`aSK:=by
 show (#[_]:Str)=#[_];simp[`aE]
def gd0(a b:`m)(h:`aSL):d8 (`u (`aE a)) (`u (`aE b))=`a (`u (`aE `z')):=by
 simp only[d8];rw[`V (by rw[zq0,zq0];exact h),Gr0]
universe Gw
namespace Gw
open DL W
structure Vk(v:D)(m:Int):Prop where
 ok:`agm
 bd:∀i,`CE->`alM<`Pm
 lk:∀k,lk v=`eW->k<m
structure Gd(p:Pt)(m:Int)(nm:`j):Prop where
 ok:p.Ok
 vk:∀v∈`kl,`Pn
 nms:∀s∈`wO,s∈nm
def R50(l:`m)(h2:`bW<=20)(h3:∀c∈l,`agD):isWord `z8=`c:=by
 unfold isWord hasAll;rw[zq0,wo0];simp only[`aI,`rY,`h7];exact`aSm
def sb0(xs:`n)(x:D):atI (`abs) `qt=`dn:=by
 unfold atI ixN;rw[`cU,`V `aSM];rw[show ((-1:Int)+((`abs).length:Int)).toNat=`ay by rw[`Z];simp only[`Y,`fy];lia];simp
universe Gw
namespace Bt
open DL W
def Y6{g:GE}{δ:Ds}{b:`M}(h:`aSN):`aSO:=`aSP
def To0(c:Int)(sm:`M):∃n:Int,n.natAbs<`Pm/\zy0 [`g c,`se]=`U9:=by
 cases sm with
 | true=>exact#[c%(2*10 ^ 12 - 1) - 10 ^ 12+1,`J,U3 rfl (Z3 (by rw[`D0];exact `Po))]
 | false =>
  have s0:∀(Ga G:GS) (r:`yL),G `D1=r->v8 (ifD `aQK Ga t7) G `D1=r:=λGa G r h=>t8 `pa h
  have e0:∀j:Int,ob `aSQ `D1=`a (`B (c%3=j)):=`agE
  by_cases h0:c%3=0
  ·exact#[c/3%300 - 150,`J,U3 rfl (s0 _ _ _ (Z3 (by rw[O4 (by rw[e0,`bG h0])];exact `Po)))]
  ·have s1:∀(Ga G:GS) (r:`yL),G `D1=r->v8 (ifD `O9 Ga t7) G `D1=r:=λGa G r h=>t8 (by rw[X7 (by rw[e0,`b9 h0])];rfl) h
   by_cases h1:c%3=1
   ·exact#[c/3%40001 - 20000,`J,U3 rfl (s0 _ _ _ (s1 _ _ _ (Z3 (by rw[O4 (by rw[e0,`Pp])];exact `Po))))]
   ·exact#[c/3%(2*`Pm - 1) - `Pm+1,`J,U3 rfl (s0 _ _ _ (s1 _ _ _ (t8 (by rw[X7 (by rw[e0,`b9 h1])];rfl) (`Po))))]
def t80{gA:GA}{f:`aF}{δ:Ds}{p:`f}{b r:D}(h:`cb=`aeZ)(hA:`kN)(hf:`aeS):`agF=`a (r,`aX i (`HX)):=by
 unfold T6;rw[h];show (`gX λds=>`aSR λr=>(r.1,`aX i (.ow (`y [`Dy,r.2]))))=_;rw[hA];show `aSR _=_;rw[hf];rfl
def ez0{gA:GA}{f:`aF}{δ:Ds}{ks:KS}{vs:`n}{r:D}(h:`cb=`aND)(hA:`kN)(hf:`aq6=`Vm):`agF=`a (r,`aX i `VX):=by
 unfold T6;rw[h];show (`gX λds=>`aSS λr=>(r.1,`aX i (.ow r.2)))=_;rw[hA];show `aSS _=_;rw[hf];rfl
def ic0{ft:`a8}{δ δ1 δ2:Ds}{d:D}(h:`ey=`a (d,δ1))(k:ft d δ1=`a δ2):G6 gx ft δ=`Tk:=by
 unfold G6;rw[h];show (ft d δ1).map _=_;rw[k];rfl
open Gw (Vk)
def Md0(i:Int):e90 (`aSh)=`agj:=by
 show (`aST&&`agj)=_;rw[show `aST=`c from `aG];rfl
def Qi0(k:Int)(h0:`jo)(hk:`agw)(cs:`_)(hc:`sf)(sm:`M)(m:Int)(hm:1<=m)(pool:`j):∃v,`Pn/\Q8 `iS []=`a (v,`qP):=by
 let#[z,hz,hn]:=`aSU;have call:∀p:`f,j9 `apT (Q5 td0 0 p `iS [])=`a (.nx `kY):=λp =>
  `aSV
 have c8:∀(p:`f) (j:Int),ob (o2 `Ir `IM eqD) `kY=`a (`B (z%8=j)):=`aSW
 have l8:∀(p:`f) (j:Int),ob (o2 `Ir `IM ltD) `kY=`a (`B (z%8<j)):=`aSW
 by_cases q0:z%8=0
 ·refine#[`x,#[rfl,`aSX,λk e=>by cases e],V1 rfl λp=>#[`kY,o9 `agG `kZ,rfl]]
  rw[zh0 (by rw[c8,`agH])];exact `uA
 have s1:∀(p:`f) (Ga G:GSB) (r:`mI),G `kY=r->o5 (ifB `aQR Ga `H) G `kY=r:=λp Ga G r h =>
  o9 (δ':=`kY) (by rw[O3 (by rw[c8,`agI])];rfl) h
 by_cases q4:z%8<4
 ·let#[n,J,O]:=To0 (z/8) sm
  refine#[`d7,#[rfl,(λi e=>by cases e;exact J),λk e=>by cases e],V1 rfl λp=>#[`kY,o9 `agG (s1 p _ _ _ `kZ),rfl]];rw[zh0 (by rw[l8,`bG q4])];refine `Pq;rw[d9 (ds:=[`g (z/8),`se]) (`ae rfl (`ae `g2 rfl))];exact O
 ·refine#[`y [`lX,`g (z/8%m)],#[by rw[Md0];exact P1 (`agy),`aSX,λk e=>by cases e;exact `aSE],V1 rfl λp=>#[`kY,o9 `agG (s1 p _ _ _ (o9 (δ':=`kY) ?_ ?_)),rfl]]
  ·rw[O3 (by rw[l8,`b9 q4])]
   rfl
  ·refine Z6 (V7 (R6 (xa0 (`ae rfl (`ae (w80 (i:=z/8) (j:=m) rfl `g2 `k) rfl)) (`aPR))))
theorem Xe0(cs:`_)(hc:`sf)(sm:`M)(m:Int)(hm:1<=m)(pool:`j):∀(items:`n) (k:Int),`jo->k+`cP<1000000 ->
  ∃vs:`n,`cK=`cP/\(∀v∈vs,Gw.Vk v m)/\y20 `bP `Wa 1 `qX `ba `iS=`a (vs,bk (k+`cP) cs sm m `aM)
 | [],k,_,_=>#[[],rfl,`agJ,by rw[show k+(([]:`n).length:Int)=k by simp];rfl]
 | `aB,k,h0,hk=>by
  simp only[`Y] at hk;let#[v,hv,e]:=Qi0 k h0 `k cs hc sm m hm `aM;let#[vs,hl,J,ih]:=Xe0 cs hc sm m hm `aM ds `f! `k `k;refine#[v::vs,`agK,`kK,?_]
  ·rcases `rM with rfl|hx
   ·exact hv
   ·exact J x hx
  ·have c:T6 1 v6 Q8 `WF=`a (v,[`gb,.ow (`qP)]):=`aSY
   unfold y20;rw[`aSZ,`h,c];show ((y20 `bP `Wa 1 `qX ds (`qP)).map λq=>(v::q.1,q.2))=_;rw[ih,show k+1+`aHY=k+(`Mu:Int) by simp only[`Y];lia];rfl
universe Bt
namespace Bt
open DL W StrLaws
def T70(a b:`m):`aSK:=by
 show (#[a.toArray++b.toArray]:Str)=#[(a++b).toArray];rw[List.append_toArray]
def Qg0(sep:`m):∀parts:`kX,`amU (`Pr) (`aq7 `aE)=`aS_:=by
 intro parts;unfold Txt.join;rw[StrLaws.glued_eq_join]
 induction `qR with
 | nil=>rfl
 | cons p r ih =>
  cases r with
  | nil=>rfl
  | cons q r =>
   show `aE p++`Pr++PySem.Str.join (`Pr) ((q::r).map `aE)=`aE (`aSn);rw[ih,T70,T70]
def Zs0{g:GE}{δ:Ds}{S:`Hx}(sep:`m)(parts:`kX)(B:Nat)(hS:S=`Pr)(hg:`av=`a (`aS0))(hB:∀p∈`qR,`aS1)(hz:parts.length*(B+`amT)<=16777216) :
  nv0 (gc (`u S)) `Hj δ=`a (`u (`aS_)):=by
 have J:∀l:`kX,(∀p∈l,`aS1)->((`dx `aE).map `amS).sum<=`bW*B:=by
  intro l
  induction l with
  | nil=>intro _;simp
  | cons p l ih =>
   intro h;have:=ih `aJU
   have:=h p B0;rw[`ab,`ab,List.sum_cons,`Y,zq0,Nat.add_mul];lia
 have e1:=strs_map `aE `qR;rw[Kp0 (x:=`u S) (ds:=[`aS0]) rfl (`ae hg rfl)];simp only[cu0];rw[e1,`h,`V,hS,Qg0];have:=J `qR hB;rw[hS,zq0,`P];rw[Nat.mul_add] at hz;lia
theorem l60:∀l:`m,`aS2=l
 | []=>rfl
 | [c]=>rfl
 | c::d::r=>by
  show[c]++[]++ph0 [] ((d::r).map `IN)=_;rw[l60 (d::r)];rfl
def signs:`m:=(`afK : Str).cps.toList
def Lz0(k:Int)(h0:`jo)(hk:`agw)(cs:`_)(hc:`sf)(sm:`M)(m:Int)(pool:`j)(n:Nat)(hn:n<=20):∃l:`m,`bW=n/\(∀c∈l,c∈`je)/\y80 `iS [`jG]=`a (`uj,`qP):=by
 let#[z,hz,he]:=`aSU;obtain⟨S,hS⟩:∃S:Str,S = `afK := `ad;have U:`aS3=`je:=`aS4
 have O:signs.length=37:=`aG
 let at':`hk:=λj=>`aS5 (`IO%37).toNat 0
 have J:∀j,at' j∈`je:=λj=>by
  have a1:=`aS6;have a2:=`aS7;show `aS5 _ 0∈`je;rw[`bD,`apc];exact d5 _
 refine#[`agL,`a4,`Bq,V1 rfl λp=>#[`agM,?_,rfl]]
 ·let#[j,_,rfl]:=`d9 hc
  exact J j
 ·refine o9 (δ':=[`DY,`cc,`WH,.un]) (Y4 (`aS4)) ?_
  refine o9 (δ':=`agM) (Y4 (ic0 (t80 (p:=p) (b:=`WA) rfl rfl he) rfl)) ?_;refine `Pq;have hp:`agL=ph0 [] ((`agL).map `IN):=(l60 _).symm;rw[hp];refine Zs0 [] _ 1 rfl ?_ `aS8 `oE;have hr:u00 `eB `agM=`a (`D2):=rw0 rfl `k `k;refine(xv0 hr (by rw[s00];exact C0 (show _<=20 by lia) `r) (Qa0 (λj=>`u (`aE [at' j])) λj hj=>#[`Ps,rfl,rfl,?_])).trans ?_
  ·have d1:o2 `az `apW d7 `Ps=`a (`g (z/(`cw+1))):=by
    show (if `g4<`cw+1/\`cw+1<1073741824 then `a (`a7 (z/(`cw+1))) else `d)=_;rw[`D3]
   have d2:o2 `an `an U6 `Ps=`a (`aS9):=`aSG (`Pl);have d0:o2 `aQT (o2 `an `an U6) d8 `Ps=`a (`g `IO):=(o6 d1 d2).trans rfl;have d3:=w80 (gb:=`aQU) d0 rfl `aq8;have a1:=`aS6;have a2:=`aS7;rw[o6 (x:=`u S) rfl d3];show (if `gm<=`R then (atI `aS3 _).map _ else `d)=_;rw[`V (by rw[hS];decide +kernel),U,t40 a1 (by rw[O];exact a2) 0];rfl
  ·rw[`cy,`b6,`b6]
   rfl
universe Bt
namespace Bt
def Zo0:(∀d∈`agN,∀s∈`agN,d=0∨s=0∨d*s%13≠0)/\∀d∈`agN,∀s∈`bF 53,d=0∨s=0∨d*s%53≠0:=`aG
def ek0(p:Nat)(hp:`aS')(a:Int)(s:Nat)(h1:1<=s)(h2:s<p)(i d:Nat)(hd:d<13)(h:`aS!=`aq9%`qT):d=0:=by
 have e:(p:Int) ∣ ((d*s:Nat):Int):=by
  have:=Int.emod_emod_of_dvd `WI (Int.dvd_refl `qT);have h':(`aS?)%`qT=0:=by
   rw[Int.sub_emod,h,Int.sub_self];rfl
  have e2:`aS?=((d*s:Nat):Int):=by
   rw[Int.natCast_add,Int.add_mul,`ac_];lia
  rw[e2] at h';exact Int.dvd_of_emod_eq_zero h'
 have e3:d*s%p=0:=Nat.mod_eq_zero_of_dvd (Int.natCast_dvd_natCast.mp e);rcases hp with rfl|rfl
 ·rcases Zo0.1 d `aTa s `aTb with z|z|z
  ·exact z
  ·lia
  ·exact `aTc
 ·rcases Zo0.2 d `aTa s `aTb with z|z|z
  ·exact z
  ·lia
  ·exact `aTc
def unlike(p:Nat)(hp:`aS')(a:Int)(s:Nat)(h1:1<=s)(h2:s<p)(i j:Nat)(hi:i<13)(hj:j<13)(h:`aS!=(a+`cw*`qS)%`qT):i=j:=by
 rcases `aJh i j with q|q
 ·have:=ek0 p hp a s h1 h2 i (j - i) `k (by rw[show i+(j - i)=j by lia];exact h)
  lia
 ·have:=ek0 p hp a s h1 h2 j (i - j) `k (by rw[show j+(i - j)=i by lia];exact h.symm)
  lia
universe Bt
namespace Bt
open DL W
def NB1:GS:=(v8 `aQz
 t7)
def NB2:GS:=(v8 `aQA
 (v8 `aQB
 (v8 (ifD `O9
 (v8 `aQC
 t7)
 (v8 (ifD `afI
 (v8 `aQD
 t7)
 (v8 `aQE
 t7))
 t7))
 t7)))
def code(N:Int)(k:Nat):`m:=[`WJ,`aTd]
def nmF(N:Int)(w:`m)(a k:Nat):`m:=if N%3=0 then `aTe else if N%3=1 then `aTf else `agO
structure PoolB(n:Nat)(nm:`j):Prop where
 len:`dz=n
 names:∀s∈nm,`agP
 nd:nm.Nodup
def q40{g:GE}{gl gh:GO}{δ:Ds}{d:D}{l h:`a5}(h1:`ih)(h2:`y'=`a l)(h3:`y!=`a h):xi0 g gl gh δ=slA d l h:=by
 unfold xi0;rw[h1,`h,h2,`h,h3,`h]
def an0{g:GE}{δ:Ds}{i:Int}(h:`aSx):`hN g δ=`a (`qB):=by
 unfold someO;rw[h];rfl
def U80(w:`m)(i:Int)(h0:`hA)(h1:i<=`eC)(hl:`eC<=100):slA `IS `d (`qB)=`a (`u (`aE (`IQ `fm))):=by
 have z:`hl:=`aa
 simp only[slA];rw[`V (by rw[zq0];lia),Gw.Jm0 _ _ h0 h1]
def Jy0(N:Int)(w:`m)(hw:`Pt)(a:Nat)(ha:a<7)(k:Nat)(hk:k<100)(names:`j)(hl:`aTg)(s1 s4 s8:Sl) :
  NB2 [`eZ,s1,`ka,`n1,s4,`qW,`WK,`n2,s8]=`a (.nx [`eZ,s1,`ka,`n1,s4,`qW,.ow (`o ((`kJ++[`ara]).map `u)),`n2,`WL]):=by
 have z:`hl:=`aa
 have cl:(`qU).length=2:=rfl;refine t8 (δ':=[`eZ,s1,`ka,`n1,s4,`qW,`WK,`n2,.sh (`agQ)]) (U0 (d:=`agQ) (by
  rw[o6 (x:=`ug) (y:=`g ((N+`eX)%36)) rfl rfl];exact `agR)) ?_
 refine t8 (δ':=`Ad) (U0 (d:=`ui) (by
  rw[o6 (x:=`agQ) (y:=`u (`aE [`aTd])) rfl (by
   rw[o6 (x:=`ug) (y:=`g `aq') rfl rfl];exact `agR)]
  exact `agS)) ?_
 have app:∀(g:GE) (l:`m),g `Ad=`aTh ->
   v8 (j8 (z60 6 g)) t7 `Ad=`a (.nx [`eZ,s1,`ka,`n1,s4,`qW,.ow (`o ((`kJ++[`z6]).map `u)),`n2,`WL]):=λg l h=>by
  refine t8 (`sg (l:=`Ac `u) (d:=`uj) rfl h `lM) ?_;rw[`aZ];rfl
 refine `Pu;have c3:∀j:Int,ob `aSQ `Ad=`a (`B (N%3=j)):=`agE
 by_cases q0:N%3=0
 ·rw[O4 (by rw[c3,`agH]),show `uh=`aTe by unfold nmF;rw[`V q0]]
  refine `agT;rw[o6 (x:=`u (`aE (`IQ a))) (y:=`ui) (by
   show slA `IS `d (`a `GC)=_;rw[`aTi,`cy]) rfl]
  exact `aTj
 ·rw[X7 (by rw[c3,`agI])]
  refine `Pu
  by_cases q1:N%3=1
  ·rw[O4 (by rw[c3,`bG q1]),show `uh=`aTf by unfold nmF;rw[`al q0,`V q1]]
   refine `agT;rw[o6 (x:=`u (`aE (`aq!))) (y:=`ui) (by
    show slA `IS `d (`a (`eX%7))=_;rw[`aTi,show (`eX%7).toNat=k%7 by lia]) rfl]
   exact `aTj
  ·rw[X7 (by rw[c3,`b9 q1]),show `uh=`agO by unfold nmF;rw[`al q0,`al q1]]
   refine `agT
   by_cases q3:35<k
   ·have e:`aTk=`a (`t8):=by
     rw[o6 (x:=`ea) (y:=`ea) rfl (by
      rw[d9 (ds:=[`c4]) (`ae (by
       show `aTl;rw[`mM]) rfl)]
      rfl)]
     rfl
    rw[q40 (d:=`ui) (l:=`d) (h:=`a 2) rfl rfl (an0 e)];rw[`V q3];exact U80 _ 2 `k `Pv `Pv
   ·have e:`aTk=`a (`ea):=by
     rw[o6 (x:=`ea) (y:=`fz) rfl (by
      rw[d9 (ds:=[`jz]) (`ae (by
       show `aTl;rw[`ee]) rfl)]
      rfl)]
     rfl
    rw[q40 (d:=`ui) (l:=`d) (h:=`a 1) rfl rfl (an0 e)];rw[`al q3];exact U80 _ 1 `k `Pv `Pv
def code_inj(N:Int)(i j:Nat)(hi:i<72)(hj:j<72)(e:code N i=code N j):i=j:=by
 unfold code at e;injection e with e1 e2
 injection e2 with e2 _
 have e1:=bg0 _ _ `k `k `k `k e1;have e2:=bg0 _ _ `k `k `k `k e2;lia
theorem j70(N:Int)(k:Nat):∀c∈`qU,`DW:=λc hc=>by
 unfold code at hc;rcases `cf hc with rfl|hc
 ·exact `agU
 ·rw[`fv hc];exact `agU
theorem s50(N:Int)(k:Nat):(`qU).length=2:=rfl
def Me0(N:Int)(w:`m)(hw:`Pt)(a:Nat)(ha:a<7)(k:Nat):0<`aTm/\`aTm<=8:=by
 unfold nmF;split
 ·rw[`Z,`dg,s50];lia
 ·split
  ·rw[`Z,`dg,s50];lia
  ·rw[`dg,s50];split<;>lia
theorem Mw0(N:Int)(w:`m)(hm:∀c∈w,`DW)(a k:Nat):∀c∈`uh,`DW:=λc hc=>by
 unfold nmF at hc;split at hc
 ·rcases `ep hc with q|q
  ·exact `aTn
  ·exact `aTo
 ·split at hc
  ·rcases `ep hc with q|q
   ·exact `aTn
   ·exact `aTo
  ·exact j70 N k c (Bd0 hc)
def Lu0(N:Int)(w:`m)(hw:`Pt)(a:Nat)(ha:a<7)(i j:Nat)(hi:i<53)(hj:j<53)(e:nmF N w a i=nmF N w a j):i=j:=by
 unfold nmF at e;split at e
 ·exact code_inj N i j `k `k (List.append_cancel_left e)
 ·split at e
  ·have:=`aTp
   simp only[`Z,`dg,s50] at this;have e2:=(List.append_inj e (by rw[`dg,`dg];lia)).2;exact code_inj N i j `k `k e2
  ·have hl:=`aTp
   rw[`dg,`dg,s50,s50] at hl;have h1:∀k,(`agO)[0]?=`a (`WJ):=λk=>by
    rw[List.getElem?_take,`V (`agV)];rfl
   have e0:=h1 i;rw[e,h1 j] at e0;have e0:=A4 e0;have e0:=bg0 _ _ `k `k `k `k e0
   by_cases q1:35<i<;>by_cases q2:35<j<;>simp only[q1,q2,`eY,`cS] at hl<;>lia
def Qn0(N:Int)(n:Nat)(hn:n<=53):∃nm,yh0 [`IR,`jG]=`a (`DI)/\PoolB n nm:=by
 refine `e;have z:`hl:=`aa
 let#[δ',l1,w,s4,rfl,hw,hm]:=up0 (f:=gN 4) (G:=NB1) (λi δ=>∃(w:`m) (s4:Sl),δ=[`eZ,`cc,`ka,`n1,s4,.un,.un,.un,.un]/\`eC=i/\∀x∈w,x∈`II) (zf0 0 8) 0
  [`eZ,`cc,`ka,.sh (`aTq),.un,.un,.un,.un,.un] (by
   rintro j d δ hj ⟨w,s4,rfl,hl,hx⟩;let#[J,rfl]:=fv0 hj;have J:j<8:=J;obtain⟨q,hq⟩:∃q:Int,q=N/`agW%36:=`ad;have jj:0<=`Ab/\`Ab<=49:=by
    have:j=0∨j=1∨j=2∨j=3∨j=4∨j=5∨j=6∨j=7:=`J
    rcases `E with rfl|rfl|rfl|rfl|rfl|rfl|rfl|rfl<;>decide
   refine#[_,[`eZ,`cc,`ka,.sh (`aTr),`j?,.un,.un,.un,.un],rfl,?_,w++[cg q],_,rfl,`agK,λx O=>?_]
   ·refine t8 (U0 (d:=`aTr) ?_) rfl
    rw[o6 (x:=`aq?) (y:=`u (`aE [cg q])) rfl (by
     rw[o6 (x:=`ug) (y:=`g q) rfl (by
      rw[o6 (x:=`g (N/`agW)) (y:=`In) (by
       rw[o6 (x:=`IR) (y:=`g `agW) rfl (by
        rw[o6 (x:=`aS9) (y:=`qE) (by rw[o6 (x:=`fx) (y:=`fx) rfl rfl];exact `Pl) rfl];rfl)]
       exact Gw.J40 _ _ `k) rfl]
      rw[hq];exact Gw.Nv0 _ _ `r)]
     exact `agR)]
    exact `agS
   ·rcases `ep O with q'|q'
    ·exact hx x q'
    ·rw[`fv q'];exact `agU) #[[],_,rfl,rfl,λx hx=>by cases hx]
 have hw:`Pt:=hw;obtain⟨a,ha⟩:∃a:Nat,`GC=N/3%7:=#[(N/3%7).toNat,`J];let#[Y,m1,s7,s8,rfl]:=up0 (f:=gN 7) (G:=NB2) (λi δ=>∃(s7 s8:Sl),δ=[`eZ,`cc,`ka,`n1,s4,`qW,.ow (`o (((`bF i).map `agX).map `u)),s7,s8]) (`D2) 0
  `aTs (by
   rintro j d δ hj ⟨s7,s8,rfl⟩;let#[J,rfl]:=fv0 hj;rw[`cy] at J;refine#[_,_,rfl,Jy0 N w hw a `k j `k ((`bF (0+j)).map `agX) `oE _ _ _,`j?,.sh (`u (`aE (code N j))),?_];rw[`fG,`agY,`aZ,`aZ,`aZ];rfl) #[_,_,rfl]
 rw[s00,`cy,`fG] at m1;refine `b;refine#[`WG `agX,Q3 rfl (t8 (U0 (d:=`ug) rfl) (t8 (U0 (d:=`aTq) rfl) (t8 (ua0 (items:=zf0 0 8) rfl l1) (t8 (U0 (d:=`IT) (by rw[ha];rfl)) (t8 (δ':=`aTs) rfl (t8 (ua0 (items:=`D2) `aTt m1) `uM)))))),?_,`aTu,?_]
 ·simp
 ·let#[k,hk,rfl]:=`agZ
  let#[h1,h2]:=Me0 N w hw a `k k;exact Sf0 _ h1 h2 (Mw0 N w hm a k)
 ·refine `Xr (`Ji (Be0 ?_ (E90 (n:=n))))
  intro i j hi hj U e;have hi:=`Af hi;have hj:=`wP;exact U (Lu0 N w hw a `k i j `k `k (Su0 e))
universe Bt
namespace Bt
open DL W
open Gw (Gd Vk)
def Qy0:∀c∈`je,`agD:=`aG
def M00(z:Int)(sm:`M):∃n:Nat,n<=12/\∀(p:`f) (k:Int) (cs:`_) (m:Int) (pool:`j),
  j9 (ifD `O'
 (v8 `O!
 t7)
 t7) [`DY,`c',`IV,.un,.un,.un,.un]=`a (.nx [`DY,`c',`cc,.un,.un,.un,.un]):=by
 cases sm with
 | true =>
  refine#[`aTv,`J,`aTw];rw[`rc,show ((`aTv:Nat):Int)=z/4%4 by lia];rfl
 | false =>
  have ix:∀(s0:Sl) (t:Nat) (r:Int),`Pw=`wQ->([`IW,`IW,z/4%13]:`_)[t]?=`ew->`aTx:=λs0 t r ht hr=>by
   have hl:t<3:=by
    have:=(`ds hr).1
    simpa using `E
   rw[o6 (x:=`o (`aTy `g)) (y:=`g `wQ) `ue (by rw[← ht];rfl)];show atI (`aTy `a7) `wQ=_;rw[t40 `k `oE `x,`cy,`bD,`cp,hr];rfl
  have J:∀r:Int,(∀s0:Sl,`aTx)->0<=r->r<=12->∃n:Nat,n<=12/\∀(p:`f) (k:Int) (cs:`_) (m:Int) (pool:`j),
   j9 (ifD `O'
 (v8 `O!
 t7)
 t7) [`aTz,`c',`IV,.un,.un,.un,.un]=`a (.nx [`aTz,`c',`cc,.un,.un,.un,.un]):=λr h h0 h1=>by
   refine#[r.toNat,`J,`aTw];rw[`k_,show ((r.toNat:Nat):Int)=r by lia];exact t8 (U0 (h _)) rfl
  have:`Pw=0∨`Pw=1∨`Pw=2:=`J
  rcases `E with q|q|q
  ·exact J _ (λs0=>ix s0 0 _ q rfl) `k `k
  ·exact J _ (λs0=>ix s0 1 _ q rfl) `k `k
  ·exact J _ (λs0=>ix s0 2 _ q rfl) `k `k
def Kg0{δ:Ds}{p:`f}{k:Int}{cs:`_}{sm:`M}{m:Int}{vs:`n}{gi:GA}{f:`aF}{k':Int}(h0:δ[0]?=`a (`DY))(hi:`Mw)(hl:`rQ)
  (hc:`aTA) (j:Nat) :
  jv0 j (v70 1 [0] 0 1 gi `bP `WM) δ=`a (.nx ((`aX 0 `aTB).set j (`ul))):=by
 unfold jv0 v70;rw[h0];show `fB _ (`v_ _)=_;rw[hi,`h,`my];have e:zl0 1 [0] δ=`qX:=by
  show`D4++[lz0 δ[0]?]=_;rw[h0];rfl
 rw[e];show `fB _ ((`WN).bind _)=_;rw[hc];rfl
def Lt0{ga:GE}{δ:Ds}{d r:D}(h:`de=`bw)(hf:`o1)(hx:`ey=`ag_):b80 ga gx δ=`a (`y [d,r],δ'):=by
 unfold b80;rw[h,`h,`wg,hx];rfl
def k80{np:Nat}(hp:`aTC)(i:Int)(h0:`hA)(h1:i<np):ixD (`DI) `f6=`a (`u (`ag0))/\`ag0∈nm:=by
 have hl:=hp.len;have J:`fm<`dz:=`J
 refine`Mm
 ·show atI (`H' `gk) i=_
  rw[t40 h0 `lM `x];simp[`bD,J]
 ·rw[show `ag0=nm[i.toNat] by simp[`bD,J]]
  exact d5 J
def getD_inj{np:Nat}(hp:`aTC)(hi:i<np)(hj:j<np)(e:`aTD=`aTE):i=j:=by
 have hl:=hp.len;have h1:i<`dz:=`J
 have h2:j<`dz:=`J
 rw[show `aTD=nm[i] by simp[`bD,h1],show `aTE=nm[j] by simp[`bD,h2]] at e;exact(Af0 hp.nd).mp e
def O70{np:Nat}(hnp:`Px)(P:`ag1)(z:Int)(st:Nat)(h1:1<=st)(h2:st<np)(m:Int)(vs:`n)(hl:`cK<=12)(hv:∀v∈vs,`Pn):∃ps:`cr,`agn/\(∀p∈ps,p.1∈`aM)/\`hY=vs /\
  ∀(s0 s2 s6:Sl),oA `ap3 yw0 [s0,`c',s2,`ul,`Aj,`I2,s6]=`a (`I3):=by
 have z1:`hl:=`aa
 have U:=P.len;obtain⟨ix,Y⟩:∃ix:`hk,ix=λ(j:Nat)=>(`aTF).toNat:=`ad
 have O:∀j,`ag2=`aTF:=λj=>by
  rw[Y];have:=G0 (`IY) `aTG;show (((_:Int).toNat:Nat):Int)=_;lia
 have J:∀j,ix j<np:=λj=>by
  have:=U2 (`IY) (show `g4<np by lia);have:=O j;lia
 refine#[`aTH,#[by simp;exact hl,`gf,`gf,?_],`gf,?_,λs0 s2 s6=>?_]
 ·let#[j,hj,rfl]:=`D5
  exact P.names _ (`ag3).2
 ·let#[j,hj,rfl]:=`D5
  have hj:=`wP;refine(hv _ ?_).ok;rw[show `Ai=vs[j] by simp[`bD,hj]];exact d5 hj
 ·rw[`b6]
  refine `Xr (`Ji (Be0 ?_ (E90 (n:=`cK))));intro i j hi hj Z e;have hi:=`Af hi;have hj:=`wP;have e:=getD_inj P (J i) (J j) e;have e:((ix i:Nat):Int)=`ag2:=`ag4
  rw[O,O] at e;exact Z (unlike np hnp (`WQ) st h1 h2 i j `k `k e)
 ·let#[j,hj,rfl]:=`D5
  exact(`ag3).2
 ·rw[`b6]
  refine A70 `ax λi h1 h2=>?_
  have hi:i<`cK:=`sI
  simp[`bD,hi]
 ·rw[d9 (ds:=[`o ((`aTH).map pr)]) (`ae (xv0 (items:=p70 vs) (by
   show `e_ (`a [`eD vs]) Zu0=_;rfl) (by unfold p70;rw[`P,`k0];lia) (by
   rw[vb0 (λd=>match d with|`y [`f',v]=>pr (`IZ (ix `ix) "",v)|_=>`x) (λd hd=>by
    unfold p70 at hd;let#[j,hj,rfl]:=`db;have hj:=`wP;refine#[[`j?,.sh (`Ai),`c',`Aj,`I2],rfl,rfl,?_];refine xa0 (`ae (d:=`u (`arb)) ?_ (`ae (d:=`Ai) rfl rfl)) `I5;rw[o6 (x:=`uk) (y:=`g `ag2) rfl (by
     rw[O];refine w80 (i:=`IY) (j:=`n4) ?_ ?_ `k
     ·rw[o6 (x:=`g (`WQ)) (y:=`g (`cw*`IX)) rfl (by rw[o6 (x:=`fx) (y:=`WP) rfl rfl];exact `Pl)]
      rfl
     ·show `ag5
      rw[`P,U])]
    exact(`ag3).1)]
   unfold p70;rw[`b6,`b6];refine C8 `a (k7 `abV);show pr (`IZ (ix (`cw).toNat) "",`Ai)=_;rw[`cy];rfl)) rfl)]
  rfl
def Kf0(k:Int)(h0:`jo)(hk:k<900000)(cs:`_)(hc:`sf)(sm:`M)(m:Int)(hm:1<=m)(np:Nat)(hnp:`Px)(pool:`j)(P:`ag1):`aTI:=by
 refine `e;have z1:`hl:=`aa
 have Y:=P.len;let#[z,hz,hn]:=gr0 k h0 `k cs hc sm m `aM;let#[n,c1,b1]:=M00 z sm;have fin:∀(q:Pt) (k':Int),k<=k'->`arc->Gd q m `aM->(∀p:`f,∃δ',wy0 `aTJ=`a (.rt q.d δ')/\δ'[0]?=`a `aTB)->`aTI:=λq k' a1 a2 a3 a4=>#[q,k',a1,a2,a3,V1 rfl a4]
 have head:∀(p:`f) (G:GSB) (r:`mI),G `ag6=r->(o5 `afJ
 (o5 `aQV
 (o5 (j9 (ifD `O'
 (v8 `O!
 t7)
 t7)) G))) `aTJ=r:=λp G r h=>by
  refine o9 (δ':=[`qQ,`c',.un,.un,.un,.un,.un]) (`aSV) ?_;refine o9 (δ':=[`qQ,`c',`IV,.un,.un,.un,.un]) `D6 ?_;exact o9 (b1 p _ _ _ _) h
 have c4:∀(s0 s2 s3 s4 s5 s6:Sl) (j:Int),ob `aTK [s0,`c',s2,s3,s4,s5,s6]=`a (`B (z%4=j)):=λ_ _ _ _ _ _ j=>`Aa
 by_cases q0:z%4=0
 ·let#[l,hl,b2,hw]:=Lz0 `f! `k `k cs hc sm m `aM `ag7 `k
  refine `b;refine fin (.text `z8) (k+1+1) `k `k #[Gw.R50 l `k λc hc=>Qy0 c (b2 c hc),`agJ,λs hs=>by cases hs] λp=>#[[.ow (z9 p (bk (k+1+1) cs sm m `aM)),`c',`cc,.un,.un,.un,.un],head p _ _ `kZ,rfl]
  rw[zh0 (by rw[c4,`agH])];refine Z6 (V7 (Lt0 (d:=`lZ) rfl rfl (t80 (p:=p) (b:=`qP) (ds:=[`g (`ag7:Int)]) rfl (`ae (by
   show `a (`a7 (`WR))=_;rw[show ((`ag7:Nat):Int)=`WR by lia]) rfl) hw)))
 let#[vs,a7,hv,Z]:=Xe0 cs hc sm m hm `aM (`D2) `f! `k (`Py);have rl:(`D2).length=n:=`Py
 rw[rl] at a7 Z;have J:∀(p:`f) (Ga G:GSB) (r:`mI),G `Pz=r->o5 (ifB `aQW Ga `H) (o5 `aQX G) `ag6=r:=λp Ga G r h=>by
  refine o9 (δ':=`ag6) (by rw[O3 (by rw[c4,`agI])];rfl) ?_;exact o9 (Y4 (Kg0 (p:=p) rfl `aTt (by rw[rl];lia) Z 3)) h
 by_cases q1:z%4=1
 ·refine `b;refine fin (`o?) `I_ `k `k #[#[`J,λv h=>(hv v h).ok],hv,λs hs=>by cases hs] λp=>#[`Pz,head p _ _ (J p _ _ _ `kZ),rfl]
  rw[zh0 (by rw[c4,`bG q1])];exact `uA
 obtain⟨st,b3⟩:∃st:Nat,`IX=1+`ag8:=#[(1+`ag8).toNat,by have:=`aTL;lia];have a6:1<=st/\st<np:=by
  have a1:=`aTL;have a2:=U2 (z/156) (show `g4<`I1 by lia);lia
 let#[ps,pk,pin,a8,b0]:=O70 hnp P z st a6.1 a6.2 m vs `k hv;have O:∀(p:`f) (Ga G:GSB) (r:`mI),G `PA=r->(o5 (ifB `afL Ga `H)
 (o5 `aQY
 (o5 `aQZ
 (o5 `aQ_ G)))) `Pz=r:=λp Ga G r h=>by
  refine o9 (δ':=`Pz) (by rw[O3 (by rw[c4,`b9 q1])];rfl) ?_;refine o9 (δ':=[`I0,`c',`cc,`ul,`Aj,.un,.un]) (Y4 (U0 (d:=`uk) `g2)) ?_;refine o9 (δ':=[`I0,`c',`cc,`ul,`Aj,`I2,.un]) (Y4 (U0 (d:=`WP) ?_)) ?_
  ·rw[o6 (x:=`ea) (y:=`g (`ag8)) rfl (w80 (i:=z/156) (j:=`I1) rfl (by
    rw[o6 (x:=`ag9) (y:=`ea) (by
     show `ag5;rw[`P,Y]) rfl]
    rfl) `k),b3]
   rfl
  ·exact o9 (Y4 (U0 (b0 _ _ _))) h
 have U:∀v∈`hY,`Pn:=λv h=>hv v (a8▸h)
 have a5:∀s∈`g3,`sh:=λs h=>by
  let#[p,hp,rfl]:=`d9 h;exact pin p hp
 by_cases q2:z%4=2
 ·refine `b;refine fin (`mK) `I_ `k `k #[pk,U,λs hs=>a5 s (by simpa [Pt.all,Pt.cls,Pt.pnames] using hs)] λp=>#[`PA,head p _ _ (J p _ _ _ (O p _ _ _ `kZ)),rfl]
  rw[zh0 (by rw[c4,`bG q2])];exact Z6 (V7 (R6 `ag'))
 ·have i0:=G0 (`I6) `aTG
  have i1:=U2 (`I6) (show `g4<`n4 by lia);let#[e1,e2]:=k80 P (`WS) i0 i1;refine `b;refine fin (`nY `aTM ps) `I_ `k `k #[#[P.names _ e2,pk],U,`aTu] λp=>#[`PA,head p _ _ (J p _ _ _ (O p _ _ _ (o9 (δ':=`PA) (by rw[O3 (by rw[c4,`b9 q2])];rfl) (`Pq)))),rfl]
  ·rcases `ep hs with q|q
   ·exact a5 s q
   ·rw[`DK];exact e2
  ·refine xa0 (`ae rfl (`ae (d:=`u `aTM) ?_ `g5)) `aTN
   rw[o6 (x:=`uk) (y:=`g (`WS)) rfl (w80 (i:=`I6) (j:=`n4) rfl (by
    show `ag5;rw[`P,Y]) `k)]
   exact e1
theorem aw0(cs:`_)(hc:`sf)(sm:`M)(m:Int)(hm:1<=m)(np:Nat)(hnp:`Px)(pool:`j)(P:`ag1):∀(items:`n) (k:Int),`jo->k+14*`cP<900000 ->
  ∃(ps:`aA) (k':Int),`aD=`cP/\(∀p∈ps,`ard)/\y20 `bP `afM 1 `qX `ba `iS=`a (`I7,`Ag)
 | [],k,_,_=>#[[],k,rfl,`agJ,rfl]
 | `aB,k,h0,hk=>by
  refine `e;simp only[`Y] at hk;let#[p,k1,a1,a2,hp,e]:=Kf0 k h0 `k cs hc sm m hm np hnp `aM P;let#[ps,k2,hl,J,ih]:=aw0 cs hc sm m hm np hnp `aM P ds k1 `k `k;refine `b;refine#[`mF,k2,`agK,`kK,?_]
  ·rcases `rM with rfl|hx
   ·exact hp
   ·exact J x hx
  ·have c:T6 1 v6 N6 `WF=`a (p.d,[`gb,.ow `aTO]):=`aSY
   unfold y20;rw[`aSZ,`h,c];show ((y20 `bP `afM 1 `qX ds `aTO).map λq=>(p.d::q.1,q.2))=_;rw[ih];rfl
def Za0(xs:`n)(k:Nat):`hH xs (`a `eX) `d=`u6 k:=by
 unfold cutD sIx;simp only[];rw[`PB,`cy]
 by_cases q:k<=`ay
 ·rw[`ag! q,`atn (by rw[`g9];exact `ho)]
 ·rw[`aTP,`PC `bj,`PC `k,`ag?]
def comp_own{δ:Ds}{k:Int}{cs:`_}{sm:`M}{m:Int}{vs:`n}{gi:GA}{f:`aF}{k':Int}(h0:`cb=`a (`WE))(hi:`Mw)(hl:`rQ)
  (hc:`aTA) :
  v70 1 [i] i 1 gi `bP `WM δ=`a (`Ah,`aX i (.ow (`Ag))):=by
 unfold v70;rw[h0];show (`v_ _)=_;rw[hi,`h,`my];have e:zl0 1 [i] δ=`qX:=by
  show`D4++[lz0 `cb]=_;rw[h0];rfl
 rw[e];show ((`WN).bind _)=_;rw[hc];rfl
def Kb0{δ:Ds}{d:D}(h:`Pj):j80 gx δ=`tA:=by unfold j80;rw[h];rfl
def Lk0{f:`T}{δ:Ds}{d r:D}(h:`Pj)(hf:f [d]=`ew):be0 f gx δ=`ag_:=by
 unfold be0;rw[h,`h];show (f [d]).map _=_;rw[hf];rfl
def bk3(cs:`_)(sm:`M):D:=`cQ (`t [`ags,`agt,`agu]) [`fz,`n_,`se]
def bk4(cs:`_)(sm:`M)(m:Int):D:=`cQ (`t [`ags,`agt,`agu,`s `V?]) [`fz,`n_,`se,`g m]
def io0(ns:`_)(hl:`fg<=1000)(s:Nat)(hs:s<=1000):∃(ps:`aA) (pool:`j),1<=`aD/\`aha/\`ahb<=53/\(∀p∈ps,`aTQ)/\G8 `ahc=`a (`aTR):=by
 refine `e;have z1:(5000:Nat)<=`R:=`aa
 obtain⟨f,hf⟩:∃z,Y9 `ahc=`agA:=Gw.Xx0 ns `qS `k;obtain⟨cs,Z⟩:∃cs,cs=`aTS++[f]:=`ad;have cne:`sf:=by rw[Z];simp
 obtain⟨sm,a2⟩:∃sm:`M,sm=`B (f/8%8=3):=`ad;obtain⟨np,a3,a1⟩:∃np:Nat,(`Px)/\∀δ:Ds,`aTT->o2 `aQ4 `aQ5 ixD δ=`a (`ag9):=by
  have ix:∀δ:Ds,`aTT->o2 `ap? `ec m7 δ=`a (`g (f/5%2)):=fun δ h=>w80 (i:=f/5) (j:=2) (by rw[o6 h rfl];rfl) rfl `r
  have:f/5%2=0∨f/5%2=1:=`J
  rcases `E with q|q
  ·exact#[13,`bQ,fun δ h=>by rw[o6 (x:=`aTU) (y:=`fz) rfl `aTV];rfl]
  ·exact#[53,`b?,fun δ h=>by rw[o6 (x:=`aTU) (y:=`ea) rfl `aTV];rfl]
 let#[pool,J,P]:=Qn0 (f/11%(`ahd)) np `k;obtain⟨m,U,a5⟩:∃m:Nat,`nf=(`aTW)/\1<=m/\m<=60:=#[(`aTW).toNat,`agV,`agV];let#[ps,k',Y,a4,O]:=aw0 cs cne sm `nf `k np a3 `aM P (`aTX) 0 `k (`Py);have rl:(`aTX).length=m:=`Py
 rw[rl] at Y;refine `b;refine#[ps,`aM,`J,`J,by have:=P.len;lia,λp hp=>by rw[Y];exact a4 p hp,U3 rfl ?_];refine t8 (δ':=`D7) (U0 (d:=`g f) (by rw[d9 (ds:=`ahc) rfl];exact hf)) ?_;refine t8 (δ':=[`fA,`Ak,`Al,.ow `aTY]) ?_ ?_
 ·have e1:o2 `ap7 `ap8 d8 `D7=`aSy:=by
   rw[o6 (x:=`o ((`aTS).map `g)) (y:=`o [`g f]) (by
    rw[q40 (d:=`hS) (l:=`aTZ) (h:=`d) rfl rfl rfl];show `a (`eD (`hH `agC (`aTZ) `d))=_;rw[Za0,`aT_]) rfl]
   simp only[d8];rw[`V (by rw[`P,`g9];simp only[`Y,`fy];lia),Z,`aZ];rfl
  have e2:o2 `ap9 `gZ eqD `D7=`a (`se):=by rw[a2];rfl
  have e3:i90 `aQ2 `D7=`a `aTY:=by
   unfold i90;rw[show ul0 `l1 `bk `ap! `D7=`a [(`lX,`fz),(`apK,`n_),(`apV,`se)] from by
    unfold ul0;rw[e1,e2];rfl]
   kernel_rfl
  unfold N8;rw[e3];rfl
 refine t8 (δ':=[`fA,`Ak,`Al,.ow (bk4 cs sm (1+f%8))]) `g2 ?_;refine t8 (δ':=`aT0) ?_ ?_
 ·cases sm with
  | true =>
   rw[U,`bc,`k_];kernel_rfl
  | false =>
   rw[U,`cU,`rc];rfl
 refine t8 (δ':=[`fA,`Ak,`Al,.ow (bk 0 cs sm `nf `aM)]) ?_ `n0
 ·refine ic0 (d:=`uk) (δ1:=`aT0) (R6 ?_) `g2
  rw[d9 (ds:=[`g (f/11%(`ahd)),`ag9]) (`ae (w80 (i:=f/11) (j:=`ahd) rfl `g2 `r) (`ae (a1 _ rfl) rfl))];exact J
 ·exact Kb0 (Lk0 (d:=`o (`I7)) (comp_own (k:=0) rfl (rw0 (`ae (d:=`g `nf) `g2 rfl) `k `k) (by rw[rl];lia) O) rfl)
universe Bt
namespace Rk
open DL W Rm
open Bt (V1 o9 Z6 Y4 zh0 O3 V7 R6 Y6)
def kindS:Nat->Str
 | 0 => `Is
 | 1 => `It
 | 2 => `Iu
 | _ => `zT
def b8:`bX->Str
 | `uz => `Wn
 | `d? => `Iz
 | `kc => `nX
 | `nZ => `ua
 | `mT => "class"
 | `cm => "end"
def W5(S:RS)(k:Nat):D:=`y [`u (`q2 `aT1),`Xy]
def inst(S:RS):D:=`y [`u `F,`o [`u `qO,`u `j8,`u `uc,`u `qM,`u `ub,`u `l2,`u `hQ,`u `nV],
 `o [`WX,O5 1,O5 2,O5 3,O5 4,`WY,`I9,`up]]
def nodes(S:RS):`n:=`gx::`D8::`ahe::`Av::`W8::`q0 λp=>`o p.2
def R(S:RS):D:=`y (`t6::`Ap)
theorem Wj0:z00 (Uj0 `F) []=`a (`x,R `du) :=
 it0 rfl λp=>`s #[rfl,[.ow (z9 p (R `du))],`cl,rfl]
section
variable(p:`f)(S:RS)(δ:Ds)
theorem y50:dpN 0 `aN=`a `As:=rfl
def W50:j4 0 `F `qO `ed `aN=`aT2:=`cl
def Wc0:j4 0 `F `j8 `ed `aN=`aT3:=`cl
def p80:j4 0 `F `uc `ed `aN=`aT4:=`cl
def ke0:j4 0 `F `qM `ed `aN=`a (O5 3):=`cl
def sv0:j4 0 `F `ub `ed `aN=`a (O5 4):=`cl
def Oj0:j4 0 `F `l2 `ed `aN=`aT5:=`cl
def Pe0:j4 0 `F `hQ `ed `aN=`aT6:=`cl
def Te0:j4 0 `F `nV `ed `aN=`aT7:=`cl
def kq0:zc0 0 `j' `aN=`a (`ahf):=by
 unfold zc0;rw[sv0,`h,y50];show `a (`a7 (`ahg:Int))=_;rw[`P,`iU]
def qz0:zc0 0 `qL `aN=`a (`PD):=by
 unfold zc0;rw[Wc0,`h,y50];show `a (`a7 ((`un).length:Int))=_;rw[`P,`k0]
def j10:zc0 0 `iQ `aN=`a (`A?):=by
 unfold zc0;rw[p80,`h,y50];show `a (`a7 ((`n5).length:Int))=_;rw[`P,`iU]
def lq0:zc0 0 `nW `aN=`a (`PE):=by
 unfold zc0;rw[ke0,`h,y50];show `a (`a7 (`aT8:Int))=_;rw[`P]
universe zz
theorem s30(S:RS):W8 `bd []=`a (.bl `aT9,R S):=V1 rfl λp=>#[`b4,show tv0 `b4=_ from Z6 (V7 (R6 (by
 rw[o6 (x:=`ahf) (y:=`fz) (kq0 p S []) rfl];show `a (`a0 (`B (`WZ=0)))=_;congr 2
 by_cases h:`l3
 ·rw[`iV,`bG (`aMf)]
 ·rw[`i8,`b9 (λz=>h (Eb0 `k))]))),rfl]
def xm0(k:Nat):u40 (O5 k)=`eW:=by
 unfold O5 u40;exact wn0 k
def na0{es:`n}{k:Nat}{z:Int}(h:`iL=`kV):k90 ns (O5 k) `j4=atI es z:=by
 unfold k90 O5;simp only[wn0,h]
def item_tup{z:Int}(h:`jL=`d):k90 ns `tl `j4=atI ds z:=by
 unfold k90;simp only[h]
structure Ok(S:RS):Prop where
 un:∀k∈`cx,`wR
 few:`pb
 held:∀p∈`dT,p.2.length<=1000
 wait:`hT<=100000
 names:`ahh
def tu0(p:`f)(S S':RS)(δ:Ds)(k:Nat)(n:D)(h:`ahi k n=`Ao S'):`e8 0 k n `aN=`q9::δ:=by
 show Sl.ow (`y [`g `qT,`y (`t6::`ahi k n)])::δ=_;rw[h];rfl
def Vd0{S:RS}(h:∀k:Nat,(S'.begun.getD k `qY).1=`aT1):W5 S'=W5 S:=by
 funext k
 unfold W5;rw[h]
def put(S:RS)(k:Nat)(d:D):RS:={ S with begun:=`sd }
def Pz0(S:RS)(k:Nat)(d:D)(j:Nat):((`W2).begun.getD j `qY).1=(`are j `qY).1:=by
 show ((`sd).getD j `qY).1=_;rw[`bD,`bD,`mN];cases `dT[j]? with
 | none=>rfl
 | some a =>
  by_cases q:k=j
  ·simp[q]
  ·simp[q]
def Tj0(S:RS)(k:Nat)(d:D)(q:`hR)(hk:`ke):`ahi (k+5) `arp=`Ao `us:=by
 show `gx::`D8::`ahe::`Av::`W8::`aT'=_;have e1:`aT'=(`sd).map `aro:=by
  apply Ec0;intro i;rw[`cp,`mN,List.getElem?_set,`cp,`P]
  by_cases z:k=i
  ·subst z
   have hl:=(`ds hk).1;rw[`bc,`my,hk];simp
  ·rw[`mz]
   simp[z]
 rw[e1,← Vd0 (Pz0 S k d)];show _=inst `us::`o ((`bF (`sd).length).map (W5 `us))::_;rw[`si];rfl
def Hm0(p:`f)(S:RS)(δ:Ds)(k:Nat)(u:`m)(h:`hW):J2 0 `Wo `a6 `aN=`a (`Xy):=by
 have e1:J2 0 `iQ `g1 `aN=`a (`AE):=by
  unfold J2;rw[p80,`h,`aT!,`h,y50,`h];rw[`aT?];rw[h,`e4,`aZ];exact `PF
 unfold J2 at e1 ⊢;rw[e1,`h,show gc (`ea) (`q1::δ)=`a (`ea) from rfl,`h,y50,`h];unfold W5;rw[item_tup rfl];rfl
theorem T20{G:GSB}{b:D}(hl:`kT)(h:∀p,∃δ',G `lL=`d6/\`r5):`Vs=`a (`x,b'):=it0 hl λp=>`s #[rfl,h p]
def ww0(S:RS):RS:={ S with wait:=`mL }
def X70(S:RS):RS:={ S with digits:=0 }
def Kd0(S:RS)(d:D):`iT=X70 (ww0 (match `cx with|[]=>S|k::_=>`W2)):=by
 refine `e;let#[c,b,u,n,w,dg,l,sp]:=S;refine `b;cases u<;>rfl
def ar0(p:`f)(S:RS)(δ:Ds)(h:`im):popS 0 `j' `aN=`a (.nx (.ow (z9 p (R `wS))::δ)):=by
 unfold popS;rw[sv0,`h,y50,`h,xm0,`h];show (if (`uq)=[] then `d else `a (`sj (`e8 0 4 (`o (`uq).dropLast) _)))=_;rw[`al `hZ,tu0 p S `wS];cases e:`dR with
 | nil=>exact `N e h
 | cons w ws =>
  show `gx::`D8::`ahe::`Av::`o ((`ut).reverse.map `qZ).dropLast::`q0 _=inst `wS::`o (`arg (W5 `wS))::`o (`arh (W5 `wS))::`Av::`o (S.wait.tail.reverse.map `qZ)::`q0 _;rw[e,`e4,`aZ,`D9,`PG];rfl
def h70(p:`f)(S:RS)(δ:Ds)(g:GE)(z:Int)(hg:`wT=`agA):u20 0 `F `l2 g `aN=`a (.nx (.ow (z9 p (R { S with digits:=z }))::δ)):=by
 unfold u20;rw[hg,`h];kernel_rfl
def O10(p:`f)(S:RS)(δ:Ds)(k:Nat)(u:`m)(h:`hW)(hk:`wR)(g:GE)(d:D)(hg:`wT=`bw)(hn:`kU)(hl:∀q∈`dT,`JS<=1000) :
  j8 (qf0 0 `aRI g) `aN=`a (.nx (`aUa::δ)):=by
 have z:`sk:=`aa
 have e:`W3=`a S.begun[k]:=C4 hk;have hq:=hl _ (d5 hk);unfold j8 qf0;rw[Hm0 p S δ k u h,`h,hg,`h,y50,`h,xm0,`h];have e2:`arP=`a (`o S.begun[k].2):=by
  show `ahj;rw[`cp,e];rfl
 rw[e2];show `fB _ (if `kU/\S.begun[k].2.length<`R then _ else `d)=_;rw[`V #[hn,`J],tu0 p S `us δ _ _ (Tj0 S k d _ e)];rfl
def o60(S:RS)(ok:`fZ)(hw:`im)(d:D)(hn:`kU):W7 `bd [d]=`a (`x,R (`iT)):=by
 refine T20 rfl λp=>#[[`arz,`gb],?_,rfl]
 show re0 `ahk=_;have c0:ob `aRH `ahk=`a (`B (0<`hU)):=by
  refine `cs;rw[o6 (x:=`A?) (y:=`fz) (j10 p S _) rfl];show `a (`a0 (`B (`g4<`W_)))=_;congr 2;exact `pc
 have rest:∀S1:RS,`wU=`dR->o5 `aRJ (o5 `aRK `H) [`arB,`gb]=`a (.nx [.ow (z9 p (R (X70 (ww0 S1)))),`gb]):=λS1 h1=>by
  refine o9 (Y4 (ar0 p S1 [`gb] (by rw[h1];exact hw))) (o9 (Y4 (h70 p (ww0 S1) [`gb] `bk 0 rfl)) rfl)
 rw[Kd0];cases hu:`cx with
 | nil =>
  refine o9 (δ':=`ahk) ?_ (`a3 S rfl);rw[O3 `aUb];rfl
 | cons k u =>
  refine o9 (δ':=[`aUa,`gb]) ?_ (`a3 `us rfl);rw[zh0 `aUb];exact o9 (Y4 (O10 p S [`gb] k u hu (`aUc) `ac d rfl hn `XS)) rfl
def jt0{a b:`bX}:b8 a=b8 b↔a=b:=by
 constructor
 ·intro h
  cases a<;>cases b<;>first|rfl|exact `N h `cZ
 ·rintro rfl;rfl
def lf0(p:`f)(S:RS)(δ:Ds)(w:`bX)(ws:`be)(h:`dF):plN (J2 0 `j' `g1) `aN=`ahl:=by
 unfold plN J2;rw[sv0,`h,`aT!,`h,y50,`h,na0 (es:=`uq) rfl,h,`e4,`aZ];have:atI (ws.reverse.map (`qZ)++[w].map `qZ) `qt=`ahl:=`PF;rw[`E];rfl
def e30(p:`f)(S:RS)(δ:Ds)(w:`bX)(ws:`be)(h:`dF)(v:`bX):ob (o2 `qK `aUd eqD) `aN=`aUe:=by
 refine `cs;rw[o6 (x:=`An) (y:=`arr) (lf0 p S δ w ws h) rfl];show `aUf;congr 2;exact `ahm
def Ku0(p:`f)(S:RS)(δ:Ds)(k:Nat)(u:`m)(h:`hW):popS 0 `iQ `aN=`a (.nx (.ow (z9 p (R `aUg))::δ)):=by
 unfold popS;rw[p80,`h,y50,`h,xm0,`h];show (if (`n5)=[] then `d else `a (`sj (`e8 0 2 (`aUh) _)))=_;rw[`al (by rw[h];simp),tu0 p S `aUg];show `gx::`D8::`aUh::_=`gx::`D8::`o (u.reverse.map `Am)::_;rw[h,`e4,`aZ,`D9,`PG]
def ET:GB:=`aRF
def EB:GS:=(v8 `Wp
 (v8 (popS 0 `iQ)
 t7))
def G60(p:`f)(S:RS):ET `b4=`a (`B (S.wait.head?=`a `cm)):=by
 have c0:ob `aqG `b4=`a (`B (0<`hT)):=by
  refine `cs;rw[o6 (x:=`ahf) (y:=`fz) (kq0 p S _) rfl];show `a (`a0 (`B (`g4<`WZ)))=_;congr 2;exact `pc
 unfold ET uk0;rw[c0];cases h:`dR with
 | nil=>rfl
 | cons w ws =>
  show ob _ _=_;rw[show ("end" : Str)=b8 `cm from rfl,e30 p S [] w ws h `cm];simp
theorem d80(p:`f):∀(w:`be) (S:RS) (n:Nat),`dR=w->`eC<n->w.count `cm<=`hU->S6 ET EB n `b4=`a (.nx `aUi)
 | w,S,0,_,h,_=>`N h `aUj
 | w,S,n+1,hw,hn,hc=>by
  unfold S6;rw[G60];cases w with
  | nil =>
   have e:`l5=S:=by
    refine `e;let#[c,b,u,nm,w,dg,l,sp]:=S;have:w=[]:=hw;subst this;refine `b;rfl
   rw[hw,e];rfl
  | cons v ws =>
   rw[hw]
   by_cases hv:v=`cm
   ·subst hv
    rw[show `B ((`X2).head?=`a `W6)=`c from rfl];cases hu:`cx with
    | nil =>
     rw[hu,`aUk] at hc;simp at hc
    | cons k u =>
     have hb:EB `b4=`a (.nx [.ow (z9 p (R `ahn))]) :=
      t8 (ar0 p S [] (`aho)) (t8 (Ku0 p `wS [] k u hu) rfl)
     simp only[hb];have ih:=d80 p ws `ahn n (by show `mL=ws;rw[hw];rfl) (by simp at hn;lia) (by
      rw[hu,`aUk] at hc;show _<=`ahp;simp at hc;exact hc)
     rw[ih];have e:(`ahn:RS).ends=`l5:=by
      refine `e;let#[c,b,u',nm,w,dg,l,sp]:=S;have h1:w=`i1:=hw;have h2:u'=k::u:=hu;subst h1 h2;refine `b;rfl
     rw[e]
   ·have e:`l5=S:=by
     refine `e;let#[c,b,u,nm,w,dg,l,sp]:=S;have:w=v::ws:=hw;subst this;refine `b;cases v<;>first|rfl|exact `aUl
    rw[`b9 `aaj,e]
theorem b50(S:RS)(hl:`wV)(hc:`mO):J5 `bd []=`a (`x,R `l5) :=
 T20 rfl λp=>#[`aUi,show ve0 `b4=_ from o9 (Y4 (d80 p `dR S 100000 rfl hl hc)) rfl,rfl]
def J0{f:`aF}{gA:GA}{p:`f}{S:RS}{δ:Ds}{r:D}(hA:gA `aN=`p1)(hf:`aUm):Y0 0 `F u9 gA f `aN=`a (r,`q9::δ):=by
 have h:`uu:=`cl
 unfold Y0;show `ahq;rw[`cV,hA,`h];show `ahr;rw[hf];rfl
def va0(S:RS)(kd:Nat):RS:={ S with begun:=`I!,un:=`aUn }
theorem g40(S:RS)(kd:Nat):∀k,`wR->W5 `pd k=`AE:=λk hk=>by
 unfold W5;show `c8 [`u (`q2 (`aUo k `qY).1),_]=_;rw[`bD,`ga hk,← `bD]
def Ur0(S:RS)(kd:Nat):W5 `pd `dS=`PH:=by
 unfold W5;show `c8 [`u (`q2 (`aUo `dS `qY).1),_]=_;rw[`bD,`r',`kS];rfl
def Yp0(S:RS)(kd:Nat)(hu:∀k∈`cx,`wR):`Ao `pd=`gx::`o (`un++[`PH])::`o (`n5++[`PH])::`aUp:=by
 show `gx::`o ((`bF (`I!).length).map (W5 `pd))::`o ((`aUn).reverse.map (W5 `pd))::`b_::`b_::(`I!).map (`art)=_;rw[`Z,`c7,`agY,`aZ,`D9,`e4,`aZ,`D9,`aZ,Ur0,
  `aUq (g:=W5 S) (λk hk=>g40 S kd k (`Af hk)),`aUq (g:=W5 S) (l:=S.un.reverse) (λk hk=>g40 S kd k (hu k (List.mem_reverse.mp hk)))]
 rfl
def Px0(p:`f)(S:RS)(kd:Nat)(s2 s3:Sl)(hu:∀k∈`cx,`wR)(h1:`dS<=1000)(h2:`PI) :
  qh0 0 3 `ac `qL `iQ `ahs=`a (.nx [.ow (z9 p (R `pd)),`uv,s2,.un]):=by
 refine `e;have z:`sk:=`aa
 obtain⟨dp,O⟩:∃dp:D,dp=`PH:=`ad;have U:(`Ap).length=`dS+5:=by
  show (`W4).length+5=_;rw[`P]
 obtain⟨L,hL⟩:∃L:`n->`n->`n,L=λb u=>`gx::`o b::`o u::`aUp:=`ad
 obtain⟨N0,J⟩:∃N0:`n->`n->D,N0=λb u=>`y (`t6::L b u):=`ad
 have dN:∀(b u:`n) (δ:Ds),dpN 0 `D'=`a (L b u):=λb u δ=>`aht
 have a0:(sh0 0 `gY `ahs).set 3 .un=[.ow (z9 p (N0 (`un) (`n5))),`uv,s2,.un]:=by rw[J,hL];rfl
 have fb:∀(b u:`n) (δ:Ds),j4 0 `F `j8 `ed `D'=`aT3:=`aUr
 have fu:∀(b u:`n) (δ:Ds),j4 0 `F `uc `ed `D'=`aT4:=`aUr
 have a1:∀(b u:`n) (δ:Ds),`IL<`R->r00 0 `qL dp `D'=`a (.ow (z9 p (N0 (b++`qA) u))::δ):=λb u δ hb=>by
  unfold r00;rw[fb,`h,dN,`h,xm0,`h,hL];show (if `IL<`R then `a (`e8 0 1 (`o (b++`qA)) _) else `d)=_;rw[`jc,J,hL];rfl
 have a2:∀(b u:`n) (δ:Ds),`ahp<`R->r00 0 `iQ dp `D'=`a (.ow (z9 p (N0 b (u++`qA)))::δ):=λb u δ hb=>by
  unfold r00;rw[fu,`h,dN,`h,xm0,`h,hL];show (if `ahp<`R then `a (`e8 0 2 (`o (u++`qA)) _) else `d)=_;rw[`jc,J,hL];rfl
 refine `b;unfold qh0;rw[show gv 1 `ahs=`a (`n7) from rfl,`h,y50,`h,`V (show `cv (`gk (`q2 kd))=`c from rfl),U,← O,a0,a1 _ _ _ (by rw[`P,`k0];lia),`h,a2 _ _ _ (`aUs)];have e:N0 (`un++`qA) (`n5++`qA)=R `pd:=by
  rw[J,hL,O];show `c8 _=`y (`t6::`Ao `pd);rw[Yp0 S kd hu]
 rw[e];rfl
def wd(w:`be):`n:=w.map `arl
theorem Ty0(w:`be):∀n:Nat,(`aW n (`uw)).flatten=`aUt
 | 0=>rfl
 | n+1=>by
  rw[`eI,`kI,Ty0 w n,`eI,`kI];unfold wd;rw[`aZ]
theorem fi0(w:`bX):∀n:Nat,(`aW n [w]).flatten=`aW n w
 | 0=>rfl
 | n+1=>by rw[`eI,`kI,fi0 w n,`eI];rfl
def im0(w:`be)(hw:w≠[])(hl:`eC<=2)(n:Nat)(hn:n<=100):mulL (`o (`uw)) `IP=`a (`o (`aUt)):=by
 show (if `uw≠[]/\0<=`dM/\`dM<`ft/\`ahu*`aUu<=`Vf then `a (`eD (`aW `aUu (`uw)).flatten) else `d)=_;have h1:`uw≠[]:=by unfold wd;simpa using hw
 have h2:`ahu<=2:=by unfold wd;rw[`P];exact hl
 have h3:`ahu*n<=2*100:=Nat.mul_le_mul h2 hn;rw[`V #[h1,`J,`J,by rw[`cy];lia],`cy,Ty0]
def Ti0(kd:Nat)(hk:`pe)(n:Nat)(hn:n<=100):u10 `ahv=`a (`aUv):=by
 have z:`hl:=`aa
 have c:∀(a b:Str),ob `aUw [.sh (`hK),`cc]=`aUx:=`aUy
 match kd,hk with
 | 0,_ =>
  refine `wN;show ifD _ _ _ [.sh (`lZ),`cc]=_;rw[`wW];refine `q5;rw[o6 (x:=`o (wd [`kc])) (y:=`jG) rfl rfl,im0 [`kc] `ax `ax n hn,fi0];rfl
 | 1,_ =>
  refine U3 rfl (t8 (δ':=`aUz) (by show ifD _ _ _ `aUz=_;rw[`q4];rfl) `n0);rw[`wW];refine `q5;rw[o6 (x:=`o (wd [`d?])) (y:=`jG) rfl rfl,im0 [`d?] `ax `ax n hn,fi0];rfl
 | 2,_ =>
  refine U3 rfl (t8 (δ':=`ahw) (by show ifD _ _ _ `ahw=_;rw[`q4];rfl) (t8 (δ':=`ahw) `wX `n0));rw[`wW];refine `q5;rw[`aUA,`aUB];rfl
 | 3,_ =>
  refine U3 rfl (t8 (δ':=`PJ) (by show ifD _ _ _ `PJ=_;rw[`q4];rfl) (t8 (δ':=`PJ) `wX (t8 (δ':=`PJ) `wX `q')));rw[o6 (x:=`o (wd [`mT])) (y:=`o (wd `agp)) rfl (by
   rw[`aUA];exact `aUB)]
  simp only[d8];have hl:`ahx=n*2:=`a4
  rw[`V (by unfold wd;rw[`P,`P,hl];simp;lia)];rfl
def Lv0(kd:Nat)(hk:`pe):ug0 [`n7]=`a (`aUC):=by
 match kd,hk with
 | 0,_=>kernel_rfl
 | 1,_=>kernel_rfl
 | 2,_=>kernel_rfl
 | 3,_=>kernel_rfl
def await(S:RS)(w:`be):RS:={ S with wait:=w++`dR }
def Qx0(p:`f)(S:RS)(δ:Ds)(w:`bX)(hl:`wV):j8 (qf0 0 `j' (gc `Au)) `aN=`a (.nx (.ow (z9 p (R `aUD))::δ)):=by
 have z:`aUE:=`aa
 unfold j8 qf0;rw[sv0,`h,show gc `Au (`q1::δ)=`ahl from rfl,`h,y50,`h,xm0,`h];show `fB _ (if nrf `Au=`c/\`ahg<`R then `a (D.non,`e8 0 4 (`aUF) _) else `d)=_;rw[`V #[rfl,`aUs],tu0 p S `aUD]
 ·rfl
 ·show `gx::`b_::`b_::`b_::`aUF::_=`gx::`b_::`b_::`b_::`o ((w::`dR).reverse.map `qZ)::_
  rw[`e4,`aZ];rfl
def N10(p:`f)(S:RS)(δ:Ds)(g:GE)(ws:`be)(hg:`wT=`a (`o `W'))(hl:`hT+`vO<100000):j8 (Z50 0 `j' g) `aN=`a (.nx (.ow (z9 p (R `aUG))::δ)):=by
 have z:`aUE:=`aa
 have hf:∀ws:`be,`aUH:=λws=>by
  refine ri0 ?_;unfold flats wd;rw[`h7];intro d hd;rw[List.mem_reverse] at hd;let#[w,_,rfl]:=`db;rfl
 unfold j8 Z50;rw[sv0,`h,hg,`h,y50,`h,xm0,`h];show `fB _ (if `aUH/\`ahg+(wd ws).reverse.length<=`R then `a (D.non,`e8 0 4 (`aUI) _) else `d)=_;rw[`V #[hf ws,by unfold wd;rw[`P,`iU,`iU,`P];lia],tu0 p S `aUG]
 ·rfl
 ·show `gx::`b_::`b_::`b_::`aUI::_=`gx::`b_::`b_::`b_::`o ((ws++`dR).reverse.map `qZ)::_
  rw[`ahy,`aZ];unfold wd;rw[← `ahz];rfl
def jk0(k:Nat):nrf (`q6 k)=`c:=by
 unfold link nrf;rw[`aI];refine#[?_,rfl];show (yq0 `aSp).isNone=`c;show (if `aLR = "@" then `a (`eX).toNat else `d).isNone=`c;rw[`aH6];rfl
def jj0(S:RS)(d:D):(`iT).begun.length=`dS:=by
 unfold RS.hold;cases `cx with
 | nil=>rfl
 | cons k u=>exact `si ..
theorem e00(S:RS)(d:D):(`iT).un=`cx:=rfl
theorem vc0(S:RS)(d:D):(`iT).wait=`mL:=rfl
def rq0(S:RS)(kd:Nat)(n:Nat):RS:=`I? `aUJ (`q3)
def or0(kd n:Nat)(hn:n<=20):(`q3).length<=50:=by
 have hl:`ahx=n*2:=`a4
 match kd with
 | 0=>show `aUK;rw[`vN];lia
 | 1=>show `aUK;rw[`vN];lia
 | 2=>show `ahx<=_;rw[hl];lia
 | k+3=>show (Want.cls::`aUL).length<=_;rw[`Y,hl];lia
def dx0(S:RS)(ok:`fZ)(hw:`im)(hl:`ahA)(hul:`PI)(kd:Nat)(hk:`pe)(n:Nat)(h1:`ahB)(h2:`ahC):za0 `bd `ahv=`aUM:=by
 have O:n<=20:=`aUN
 refine V1 rfl λp=>#[[`aUO,`uv,`cc,.un],?_,rfl]
 show v20 `D!=_;have c1:ob `aRO `D!=`bC:=by
  refine `cs;rw[o6 (x:=`jG) (y:=`aUC) rfl (by rw[d9 (ds:=[`n7]) rfl];exact Lv0 kd hk)];show `a (`a0 (`B ((if kd=0 then (20:Int) else 12)<`dM)))=_;rw[`b9 (by split at h1<;>split<;>lia)]
 have c2:ob `aRP `D!=`bC:=by
  refine `cs;rw[o6 (x:=`PD) (y:=`V9) `PK rfl];show `a (`a0 (`B (`q_=60)))=_;rw[`ee]
 refine o9 (δ':=`D!) (by
  rw[O3 (by unfold yr0;rw[c1];exact c2)];rfl) ?_
 have hh:W7 `bd [`W!]=`a (`x,R `Ja):=o60 S ok hw _ (jk0 _);have ca:Y0 0 `F u9 `aRQ W7 `D!=`a (`x,`aUP) :=
  J0 (`ae (xa0 (`ae rfl (`ae `PK rfl)) `wr) rfl) hh
 refine o9 (δ':=`aUP) (Y4 (by unfold j8;rw[ca];rfl)) ?_;have J:=`aUQ;have few:=`JQ;refine o9 (Px0 p `Ja kd (`cc) .un (λk U=>by rw[J];exact `At k U) `k hul) ?_;have tl:`aUR<=10000:=by
  rw[vc0,`AV];lia
 refine o9 (Y4 (Qx0 p `arx _ `cm (by show `aUR<_;lia))) ?_;refine o9 (Y4 (N10 p `aUJ _ _ (`q3) (by
  rw[d9 (ds:=[`aUv]) (`ae (by
   rw[d9 (ds:=`ahv) rfl];exact Ti0 kd hk n `k) rfl)]
  rfl) (by
  have:=or0 kd n O;show (`W6::(`Aw).wait).length+_<_;rw[`Y];lia))) ?_
 exact `uA
def Yc0(n:Int):rh0 [`d7]=`a (`g (ut0 n)):=by
 have c:ob `aRR [`uy]=`a (`B (n%2=1)):=`Aa
 by_cases h:n%2=1
 ·refine `wN
  show `aUS;rw[`aUT];unfold ut0;rw[`cV];exact `PL
 ·refine U3 rfl (t8 (δ':=[`uy]) (by show `aUS;rw[X7 (by rw[c,`i8])];rfl) ?_)
  unfold ut0;rw[`ej];exact `PL
def Ph0(q:Nat)(hq:q<4):atC `IB (`g (q:Int))=`a (`u (`q2 q)):=by
 match q,hq with
 | 0,_=>kernel_rfl
 | 1,_=>kernel_rfl
 | 2,_=>kernel_rfl
 | 3,_=>kernel_rfl
def Rd0(S:RS)(ok:`fZ)(hw:`im)(hl:`ahA)(hul:`PI)(kd:Nat)(hk:`pe)(n:Nat)(h1:`ahB)(h2:`ahC):R4 `bd [`g `aUU]=`aUM:=by
 obtain⟨N,hN⟩:∃N:Int,N=`aUU:=`ad;rw[← hN];refine V1 rfl λp=>#[[`aUO,`eZ,`Ax],?_,rfl]
 show `aUV;refine o9 (δ':=`sl) `D6 `kZ;rw[zh0 (by
  refine `cs;show `a (`a0 (`B (N%4=3)))=_;rw[`mM])]
 refine Z6 (V7 (J0 (`ae (d:=`n7) ?_ (`ae (d:=`jG) ?_ rfl)) (dx0 S ok hw hl hul kd hk n h1 h2)))
 ·show atC _ (`g (N/4%4))=_
  rw[show N/4%4=((kd:Nat):Int) by lia];exact Ph0 kd hk
 ·show `a (`a7 (N/4/4))=_
  rw[show N/4/4=`dM by lia]
def U00(S:RS)(ok:`fZ)(ws:`be)(hw:`ahD)(N:Int)(d:D)(hn:`kU)
  (h:N%4=1/\d=`g (ut0 (N/4))∨N%4=2/\N/4<`q_/\0<=N/\d=`aUW∨N=0/\`p!):R4 `bd [`IR]=`a (`c4,R (`iT)):=by
 have J:`im:=`aho
 refine V1 rfl λp=>#[`PM,?_,rfl]
 show `aUV;have cm:∀j:Int,ob `aTK `sl=`a (`B (N%4=j)):=`agE
 refine o9 (δ':=`sl) `D6 ?_;refine o9 (δ':=`sl) (by rw[`ahE];rfl) ?_;refine o9 (δ':=`sl) (by
  rw[O3 (by rw[`PN,e30 p S _ `d? ws hw `uz];rfl)];rfl) ?_
 have hold:∀(gA:GA),gA `sl=`a [d]->o5 (j9 (j8 (Y0 0 `F u9 gA W7))) `H `sl=`a (.nx `PM):=λgA hA=>by
  refine o9 (Y4 (δ':=`PM) ?_) rfl;unfold j8;rw[J0 hA (o60 S ok J d hn)];rfl
 refine o9 (δ':=`PM) ?_ `pf;refine `e;rcases h with⟨h1,rfl⟩|⟨h1,h2,h3,rfl⟩|⟨h1,rfl⟩
 ·refine `b;rw[zh0 (by rw[cm,`Pp])]
  exact hold _ (`ae (by rw[d9 (ds:=[`Jb]) rfl];exact Yc0 _) rfl)
 ·refine `b;rw[`ahE]
  refine o9 (δ':=[.ow (z9 p (R (`l4 (`aUW)))),`eZ,`Ax]) ?_ rfl;rw[zh0 (by
   unfold uk0;rw[cm,`Pp,`h,`bc];refine `cs;rw[o6 (x:=`Jb) (y:=`PD) rfl `PK];show `a (`a0 (`B (N/4<`q_)))=_;rw[`bG h2])]
  refine hold _ (`ae (xa0 (`ae rfl (`ae (d:=`g ((`ary:Nat):Int)) ?_ rfl)) `wr) rfl);rw[o6 (x:=`g (`q_ - 1)) (y:=`Jb) (by rw[o6 (x:=`PD) (y:=`ea) `PK rfl];rfl) rfl];show `a (`a7 (`q_ - 1 - N/4))=_;congr 2;lia
 ·refine `b;rw[`ahE]
  refine `aUX;rw[O3 (by
   unfold uk0;rw[cm,`ee];rfl)]
  refine `aUX;rw[zh0 (by
   refine `cs;show `a (`a0 (`B (N=0)))=_;rw[`Pp])]
  exact hold _ `g5
def Gh0{ga gb:GE}{δ:Ds}(h:`de=`i5):`aUY=`i5:=`aUZ
def Gi0{ga gb:GE}{δ:Ds}(h:`de=`vY):`aUY=`et:=`aUZ
def Uc0(S:RS)(w:`bX)(ws:`be)(hw:`dF)(n:Int):ze0 `bd [`d7]=`a (.bl (`B (`iY∨`aU_)),R S):=by
 refine V1 rfl λp=>#[`PO,?_,rfl]
 show ur0 `PO=_;refine `Pq;have c1:o2 `qK `ID eqD `PO=`a (.bl (`B (`iY))):=by
  rw[o6 (x:=`An) (y:=`u (`Xe)) `aU0 rfl];show `a (`a0 (`B (b8 w=`Xe)))=_;congr 2;exact `ahm
 have c2:o2 (o2 `ac `j9 U6) `aRG leD `PO=`a (.bl (`B (`aU_))):=by
  rw[o6 (x:=`g (n*128)) (y:=`g 323) (by rw[o6 (x:=`d7) (y:=`Wj) rfl rfl];exact `Xb) `g2];rfl
 by_cases hv:`iY
 ·rw[Gh0 (by rw[c1,`bG hv]),`bG (Or.inl hv)]
 ·rw[Gi0 (by rw[c1,`b9 hv]),c2]
  congr 2;exact `I' #[`s,λz=>z.resolve_left hv]
def d50(p:`f)(S:RS)(δ:Ds):plN `aRS `aN=`aT5:=by
 unfold plN;rw[Oj0];rfl
def Pm0(S:RS)(w:`bX)(ws:`be)(hw:`dF)(b:Int)(hb:128<=b)(h0:`PP≠0)(hg:`iY∨(`PP)*128<=323):`arA=`a (`c4,R { S with digits:=`PP }):=by
 obtain⟨n,hn⟩:∃n,n=`PP:=`ad;rw[← hn] at h0 hg ⊢;refine V1 rfl λp=>#[[.ow (z9 p (R { S with digits:=n })),`ef,`uy],?_,rfl]
 show y40 `iX=_;refine o9 (δ':=`q8) (Y4 (U0 (d:=`d7) (by
  rw[o6 (x:=`aU1) (y:=`g (b%128)) `aU2 rfl,hn];rfl))) ?_
 refine o9 (δ':=`q8) (by
  rw[O3 (by
   refine `cs;show `aU3;rw[`ee])]
  rfl) ?_
 refine o9 (δ':=`q8) ?_ ?_
 ·have t1:`PQ `agd `q8=`aU4:=by
   unfold DL.liftT;rw[show ob `Ws `q8=`bC from Y6 (by
    show `a (`a0 (`B (n=0)))=_;rw[`b9 h0])]
   rfl
  have t2:zz0 `aRT `q8=`aU4:=by
   unfold zz0 W0;rw[J0 `g5 (Uc0 S w ws hw n),`bG hg];rfl
  unfold ifX orT;rw[t1,`h];show `aU5;rw[`cU,t2];rfl
 ·refine o9 (Y4 (h70 p S _ `az n rfl)) `pf
def Tx0(S S':RS)(b:Int)(hb:0<=b/\b<128)(r:D)(h:R4 `bd [`PR]=`n6):`aU6:=by
 refine V1 rfl λp=>#[[`q9,`ef,.sh (`PR)],?_,rfl]
 show y40 `iX=_;refine o9 (δ':=[`bY,`ef,.sh (`PR)]) (Y4 (U0 (d:=`PR) (by
  rw[o6 (x:=`aU1) (y:=`iW) `aU2 (by
   show `a (`a7 (b%128))=_;rw[Int.emod_eq_of_lt hb.1 hb.2])]
  rfl))) `kZ
 rw[zh0 (by
  refine `cs;show `aU3;rw[`bG hb.2])]
 exact `D?
def mn0(S:RS)(w:`bX)(ws:`be)(hw:`dF)(b:Int)(p:`f)(G:GSB)(r:`mI)(h:G `PS=r) :
  o5 (ifX `A1 (o5 `e' `H) `H) (o5 `aR! G) `iX=r:=by
 refine o9 (δ':=`iX) ?_ (o9 (Y4 (U0 `aU0)) h);have t:`aU7=`a (`p,`iX):=by
  unfold W0;rw[`wY,hw];rfl
 unfold ifX;rw[t];rfl
def sr0(w v:`bX)(s0 s1:Sl):ob (o2 `az `aUd eqD) [s0,s1,`Xc]=`aUe:=by
 refine `cs;show `aUf;congr 2;exact `ahm
def mi0(S S':RS)(w:`bX)(ws:`be)(hw:`dF)(hv:`Ea)(b:Int)(r:D)(h:`aU6):`ahF:=by
 refine `aU8
 show `PT;refine mn0 S w ws hw b p _ _ `kZ;rw[zh0 (by
  unfold yr0;rw[`PN,`ahG,sr0,sr0];rcases hv with rfl|rfl<;>rfl)]
 exact `D?
def Y70(S S':RS)(ws:`be)(hw:`dR=`kc::ws)(b:Int)(r:D)(h:M8 `bd `n8=`n6):`ahF:=by
 refine V1 rfl λp=>#[[`q9,`ef,`aU9],?_,rfl]
 show `PT;refine mn0 S `kc ws hw b p _ _ (o9 (δ':=[`bY,`ef,`aU9]) ?_ `kZ)
 ·rw[O3 (by
   unfold yr0;rw[`PN,`ahG,sr0,sr0];rfl)]
  rfl
 ·rw[zh0 (by rw[`aU',sr0];rfl)]
  exact `D?
def lm0(p:`f)(S:RS)(δ:Ds):plN `aqR `aN=`aT6:=by
 unfold plN;rw[Pe0];rfl
def Nw0(p:`f)(S:RS)(δ:Ds):ob `aR? `aN=`a (`B (0<`gm)):=by
 refine `cs;rw[o6 (x:=`I9) (y:=`fz) `ahH rfl];show `a (`a0 (`B (`g4<`WU)))=_;congr 2;exact `pc
def sn0(S S':RS)(w:`bX)(ws:`be)(hw:`dF)(hv:`Eb)(b:Int)(r:D)
  (h:0<`gm/\R7 `bd `n8=`n6∨`PU/\T3 `bd `n8=`n6):`ahF:=by
 refine `aU8
 show `PT;refine mn0 S w ws hw b p _ _ (o9 (δ':=`PS) ?_ (o9 (δ':=`PS) ?_ ?_))
 ·rw[O3 (by
   unfold yr0;rw[`PN,`ahG,sr0,sr0];rcases hv with rfl|rfl<;>rfl)]
  rfl
 ·rw[O3 (by rw[`aU',sr0];rcases hv with rfl|rfl<;>rfl)]
  rfl
 ·rcases h with⟨h0,h⟩|⟨h0,h⟩
  ·refine `uf
   rw[zh0 (by rw[Nw0,`bG h0])];exact `D?
  ·refine o9 (δ':=`PS) ?_ (`D?)
   rw[O3 (by rw[Nw0,h0];rfl)];rfl
def Nx0(b:Int)(h:`PV):vu0 `n8=`i5:=by
 have w:vy0 `n8=`i5:=rfl;refine `Ec;show pu0 `agf `aSa [`ef]=_;unfold pu0;rw[show ob `agf [`ef]=`e6 from Y6 w,`h,`bc];have e1:leD `Im `q7=`i5:=by show `a (`a0 (`B (0<=b)))=_;rw[`bG h.1]
 have e2:leD `q7 `IG=`i5:=by show `a (`a0 (`B (`Jc)))=_;rw[`bG h.2]
 unfold pv0;simp only[show gc `Im [`ef]=`a `Im from rfl,show gv 0 [`l! `q7]=`a `q7 from rfl,show gc `IG [`l! `q7]=`a `IG from rfl,`h,e1,e2];rfl
def next(S:RS):RS:=(`PW:RS).ends
def Th(S:RS):Prop:=∀q∈`dT,`ahI
inductive Runs:RS->`_->RS->Prop
 | nil (S:RS):`br S [] S
 | cons {S S1 S':RS} {b:Int} {r:`_} (hb:`PV) (ht:`ahJ) (hl:`ahK) (hc:`PX) (hr:`br (next S1) r S') (th:Th S1) (hk:`Xf=`g6:=by first|rfl|(subst_vars;rfl)):`br S (b::r) S'
def Runs.app{S S2:RS}{r:`_}(h:`br S l S1)(h':`br S1 r S2):`br S (l++r) S2:=by
 induction h with
 | nil=>exact h'
 | cons hb ht hl hc _ th hk ih=>exact `aq hb ht hl hc (ih h') th hk
def S70(p:`f)(S:RS)(δ:Ds):ay0 0 `F `qO `a6 `aN=`a (.nx (.ow (z9 p (R `PW))::δ)):=`cl
def GBy:GSB:=(o5 (ifX (orT (`PQ `agg) `aSb)
 (o5 `agh
 `H)
 `H)
 (o5 `aSc
 (o5 `aSd
 `H)))
def ee0(p:`f)(S S1:RS)(b:Int)(s1:Sl)(hb:`PV)(ht:`ahJ)(hl:`ahK)(hc:`PX) :
  GBy `wZ=`a (.nx `aU!):=by
 refine o9 (δ':=`aU?) ?_ (o9 (Y4 (S70 p S1 _)) (o9 (Y4 (δ':=`aU!) ?_) rfl))
 ·have t1:`PQ `agg `wZ=`a (`p,`wZ):=by
   unfold DL.liftT yn0;rw[show ob `aqX `wZ=`e6 from Y6 (by rw[d9 (ds:=`n8) rfl];exact Nx0 b hb)];rfl
  have t2:zz0 `aqY `wZ=`a (`p,`aU?):=by
   unfold zz0 W0;rw[J0 `g5 ht];rfl
  unfold ifX orT;rw[t1,`h];show `aU5;rw[`cU,t2];rfl
 ·unfold j8
  rw[J0 (S:=`aVa) (ds:=[]) rfl (b50 `aVa hl hc)];rfl
open T in
def Rg0(p:`f)(s1:Sl){S:RS}(h:`PY):∀s2,∃s2',ng0 `bV GBy `Xg `aVb=`a (.nx [`q9,s1,s2']):=by
 induction h with
 | nil S=>exact λs2=>`aVc
 | cons hb ht hl hc _ _ _ ih =>
  rename_i S S1 S' b r _ _ _;intro s2;let#[s2',e]:=ih (`ef);refine#[s2',?_];rw[`ab];unfold ng0;rw[show gN 2 `q7 `aVb=`a `wZ from rfl,`h,ee0 p S S1 b s1 hb ht hl hc];exact e
def Xw0{S:RS}(h:`PY):z20 `bd [`Xh]=`a (`x,R S'):=by
 refine it0 rfl λp=>`s `KM
 let#[J,e]:=Rg0 p (`l6) h .un;refine#[`aVd,?_,rfl];show sz0 `aVe=_;refine o9 (δ':=`aVd) ?_ rfl;show ae0 (uo0 `ac) `bV GBy _=_;unfold ae0;rw[show uo0 `ac `aVe=`aVf from rfl,`h];exact e
def SB:GS:=(v8 (ifD `aRW
 (v8 `aRX
 t7)
 t7)
 t7)
theorem d20(b:Nat)(s1:Sl):∀(l:`m) (s2:Sl),(b∈l->`aVg=`a (.rt (`Jf)))/\(b∉l->∃s2',`aVg=`a (.nx [`g7,s1,s2']))
 | [],s2=>#[(λh=>by cases h),λ_=>`aVc]
 | c::l,s2=>by
  let#[i1,i2]:=d20 b s1 l (`Xj);have cc:ob `aqP `Ed=`a (`B (c=b)):=by
   refine `cs;rw[o6 (x:=`Je) (y:=`iZ) rfl rfl];show `a (`a0 (`B (`uC=`n9)))=_;congr 2;exact `pc
  by_cases h:c=b
  ·subst h
   refine#[`adC,λn=>`N B0 n];rw[`ab];unfold y70;have e:`aVh=`a (.rt (`Xi)):=by
    refine Z3 ?_;rw[O4 (by rw[cc,`Bb])];exact `PL
   show (match `aVh with|`d6=>`PZ|`Mq=>`PZ|`Mr=>`d6|r=>r)=_;rw[e]
  ·have e:SB `Ed=`a (.nx `Ed):=by
    refine `Pu;rw[X7 (by rw[cc,`i8])];rfl
   have st:y70 `bV SB ((c::l).map `arD) `arE=y70 `bV SB `Jd `Ed:=by
    rw[`ab]
    conv=>lhs;unfold y70
    show (match SB `Ed with|`d6=>`PZ|`Mq=>`PZ|`Mr=>`d6|r=>r)=_;rw[e]
   rw[st];exact#[λhm=>i1 ((`P_).resolve_left (λz=>h `pY)),λhn=>i2 λz=>hn (A7 _ z)]
def ho0(b:Nat)(s:Str)(l:`m)(hs:`hV=l)(hl:`bW<=100):vh0 [`iZ,`eg]=`a (if b∈l then `Jf else `x):=by
 have it:∀δ:Ds,j40 `ac (`g7::`oa::δ)=`a `Jd:=fun δ=>by
  show `a (`je s)=_;unfold signs;rw[hs];rfl
 let#[i1,i2]:=d20 b (`oa) l .un
 by_cases h:b∈l
 ·rw[`cV]
  exact U3 rfl (Z3 (ua0 (it _) (i1 h)))
 ·rw[`ej]
  let#[J,e]:=i2 h;exact U3 rfl (t8 (ua0 (it _) e) (`PL))
def Rv0:(`z2 : Str).cps.toList=sw0:=`aG
def Sd0:(`z1 : Str).cps.toList=Q4:=`aG
def ce0(S:RS)(ok:`fZ)(hw:`im)(b:Nat)(hb:b∈sw0):M8 `bd [`iZ]=`a (`c4,R (`Jg)):=by
 refine V1 rfl λp=>#[`aVi,?_,rfl]
 show v30 `w_=_;refine o9 (δ':=`w0) (Y4 (U0 (by
  rw[d9 (ds:=[`iZ,`aR']) rfl,ho0 b _ _ Rv0 `r,`jc]))) ?_
 refine o9 (δ':=`w0) (by rw[O3 `g2];rfl) ?_;refine o9 (Y4 (δ':=`aVi) ?_) `pf;unfold j8;rw[J0 `g5 (o60 S ok hw (W6 [b]) rfl)];rfl
universe Rk
namespace Rk
open DL W Rm StrLaws
open Bt (V1 o9 Z6 Y4 zh0 O3 V7 R6 Y6)
def starts_pre(a b:`m):`Us (`aE a) (`aE b)=`ahL:=by
 unfold Txt.startswith;rw[subAt_eq,wo0,wo0,zq0,zq0,`fG,`aVj]
 by_cases h:b <+: a
 ·rw[List.isPrefixOf_iff_prefix.mpr h]
  have:=h.length_le;rw[`bG `E,List.prefix_iff_eq_take.mp h];simp
 ·have hf:`ahL=`p:=by
   cases q:`ahL with
   | false=>rfl
   | true=>exact `N (Ee0.mp q) h
  rw[hf,Bool.and_eq_false_iff]
  by_cases hl:`IL<=`WC
  ·right
   rw[beq_eq_false_iff_ne];intro z;exact h (z▸List.take_prefix _ _)
  ·left
   exact P3 hl
def P80{d:D}{δ δ1 δ2:Ds}(h1:`aBR)(h2:`aBS):y70 f G `kd δ=y70 f G ds δ2:=by
 conv=>lhs;unfold y70
 rw[h1,`h,h2]
def LB:GS:=(v8 `aRU
 t7)
theorem es0(s0 s1 s2:Sl):∀(k:Nat) (m:Nat) (s4:Sl),∃s4',y70 `iO LB ((`zy m k).map λ(j:Nat)=>`a7 `cw) [s0,s1,s2,.sh (`Xk),s4]=`a (.nx [s0,s1,s2,.sh (`g ((36 ^ (m+k):Nat):Int)),s4'])
 | 0,m,s4=>#[s4,rfl]
 | k+1,m,s4=>by
  let#[s4',e]:=es0 s0 s1 s2 k (m+1) (`Xl);refine#[s4',?_];rw[`aeE,`ab];have J:oA `Wt T8 `ahM=`a (`In):=`cl
  have hb:LB `ahM=`a (.nx [s0,s1,s2,.sh (`aVk),`Xl]):=by
   refine t8 (U0 (d:=`aVk) ?_) rfl;rw[o6 (x:=`Xk) (y:=`In) rfl J,`Xb,`P0];simp
  rw[P80 (δ1:=`ahM) rfl hb,show m+`f!=m+1+k by lia];exact e
def U90(names:`kX)(hn:`aTg)(hl:∀n∈`kJ,`mP)(L:Nat)(pre:`m)(hp:`fC<=L)(hL:L<=100):yx0 [`arG,`q!,`AA]=`a (.bl (`uF `kJ L pre)):=by
 have z:`hl:=`aa
 let#[U,e]:=es0 (`ahN) (`q?) (`AB) (`Xo) 0 .un;rw[`fG] at e;refine U3 rfl (t8 (δ':=[`ahN,`q?,`AB,.sh (`g ((36 ^ 0:Nat):Int)),.un]) rfl (t8 (δ':=[`ahN,`q?,`AB,.sh (`aVl),U]) (ua0 (items:=zf0 0 (`ahO)) (rw0 (`ae (d:=`g (`ahO)) ?_ rfl) `k `k) ?_) `q'))
 ·rw[o6 (x:=`q!) (y:=`g `arI) rfl (by
   rw[d9 (ds:=[`AA]) rfl];show (if `aVm<=`R then `a (`a7 (`aVm:Int)) else `d)=_;rw[zq0,`D3])]
  rfl
 ·rw[← e]
  unfold zf0;rw[show (`ahO - 0).toNat=`Xo by lia,`aVn];congr 1;refine `aVo
  rw[`NL]
 ·have c:=qe0 (f:=gN 0) (gt:=`aRV) (ge:=gv 0) (δ:=[.un,`q?,`AB]) (`aVp) (`Ow) (items:=`Xm) (λd hd=>by
   let#[n,O,rfl]:=`db;have Y:=hl n O;refine#[`ahP,rfl,?_,`i0];show uk0 _ _ _=`a (`B ((`uo).cps.toList.length=L)&&`Wz (`uo).cps.toList);rw[wo0];unfold uk0;have t1:ob `aqN `ahP=`a (`ahQ):=by
    refine `cs;rw[o6 (x:=`g `aVq) (y:=`q!) (by
     rw[d9 (ds:=[`WV]) rfl];show (if `aVr<=`R then `a (`a7 (`aVr:Int)) else `d)=_;rw[zq0,`D3]) rfl]
    show `a (`a0 (`B (`aVq=`uE)))=_;congr 2;exact `pc
   have t2:ob `aqO `ahP=`a (`Jh):=by
    refine `cs;show `a (`a0 (`Us (`uo) (`Xn)))=_;rw[starts_pre]
   rw[t1,`h,t2];cases `ahQ<;>rfl)
  obtain⟨F,hF⟩:∃F:`n,F=((`aVs).filter `aVp):=`ad;have J:`arJ=(`Xq λn=>`ahQ&&`Jh).length:=by
   rw[hF,List.filter_map,`P];congr 1
  rw[o6 (x:=`g `aVt) (y:=`aVl) (by
   rw[d9 (ds:=[`o F]) (`ae (xv0 (items:=`Xm) rfl `lM (by rw[hF];refine c.trans ?_;rw[List.map_id'])) rfl)];rfl) rfl]
  show `a (`a0 (`B (`aVt<`arH)))=_;unfold left;congr 2;rw[J];exact `pc
universe Rk
namespace Rk
open DL W Rm
theorem sub_len'[`Ee]:∀{l m:`aT},`aVu
 | [],_,_,_=>`cN
 | a::l,m,hn,h=>by
  rw[`ad1] at hn;have ha:=h a B0;have ih:=`P1 (l:=l) (m:=m.erase a) hn.2 λb hb=>by
   have J:`hJ:=λz=>hn.1 (z▸hb)
   exact(List.mem_erase_of_ne J).mpr (h b (`K8))
  rw[List.length_erase_of_mem ha] at ih;have:=List.length_pos_of_mem ha;rw[`Y];lia
def words(A:`m):Nat->`kX
 | 0=>[[]]
 | k+1=>A.flatMap λc=>`aVv
theorem db0(A:`m):∀k,(`Xp).length=`aVw
 | 0=>rfl
 | k+1=>by
  unfold words;rw[List.length_flatMap];have:(A.map λc=>(`aVv).length)=A.map λ_=>`aVw:=k7 λc _=>by rw[`P,db0 A k]
  rw[`E,List.map_const',List.sum_replicate_nat,`P0,`Df]
theorem lp0(A:`m):∀(k:Nat) (w:`m),`eC=k->(∀c∈w,c∈A)->w∈`Xp
 | 0,w,h,_=>by rw[List.eq_nil_of_length_eq_zero h];exact B0
 | k+1,[],h,_=>by cases h
 | k+1,c::w,h,hA=>l7.mpr #[c,hA c B0,`AJ #[w,lp0 A k w `hZ λx hx=>hA x `pU,rfl]]
def Wr0:Q4.length=36:=`aa
def ev0(names:`kX)(hnd:names.Nodup)(hA:∀n∈`kJ,∀c∈n,`pg)(w:`m)(hw:∀c∈w,`pg)(hn:w∉`kJ)(pre:`m)(hp:pre <+: w):`uF `kJ `eC pre=`c:=by
 unfold left;refine P1 ?_;have O:((`ahR).map (·.drop `fC)).length<=(words Q4 (`eC - `fC)).length:=by
  refine `P1 ?_ λa ha=>?_
  ·refine `aVx
   have nd:(`ahR).Nodup:=`Ic #[λz=>hn (`BD z).1,hnd.filter _];refine Be0 ?_ (d6.mp nd);intro a b ha hb J e;have pf:∀x∈(`ahR),pre <+: x:=λx hx=>by
    rcases `rM with rfl|hx
    ·exact hp
    ·have:=(`BD hx).2
     rw[`aI] at this;exact Ee0.mp this.2
   let#[a',rfl]:=pf a ha;let#[b',rfl]:=pf b hb;simp only[`Ef] at e;exact J (`ag4)
  ·let#[x,hx,rfl]:=`d9 ha
   rcases `rM with rfl|hx
   ·exact lp0 _ _ _ (by rw[`g9]) λc hc=>hw c (Bf0 hc)
   ·let#[h1,h2]:=`BD hx
    rw[`aI,`rY] at h2;exact lp0 _ _ _ (by rw[`g9,h2.1]) λc hc=>hA x h1 c (Bf0 hc)
 rw[db0,Wr0,`P,`Y] at O;lia
universe Rk
namespace Rk
open DL W Rm
open Bt (V1 o9 Z6 Y4 zh0 O3 V7 R6 Y6)
def Wm0(names:`kX):`iI (`aVs)=`c:=by
 unfold flats;rw[`h7];intro d hd;let#[n,_,rfl]:=`db;rfl
def Xl0(p:`f)(S:RS)(δ:Ds)(gA:GA)(L:Nat)(pre:`m)(hA:gA `aN=`a `aVy)(hn:`AW)(hl:∀n∈`b3,`mP)(hp:`fC<=L)(hL:L<=100) :
  ob (fnN 0 `nW gA yx0) `aN=`a (`uF `b3 L pre):=by
 refine `cs;unfold fnN;rw[ke0,`h,hA,`h,y50,`h,O00 (xm0 3)];show (if `iI (`Ar)=`c/\`iI `aVy=`c then (yx0 [`o (`Ar),`q!,`AA]).bind (`aOw) else `d)=_;rw[`V #[Wm0 _,rfl],U90 `b3 hn hl L pre hp hL];rfl
def hh0(p:`f)(S:RS)(δ:Ds)(g:GE)(n:Nat)(hg:`wT=`a `IP):u20 0 `F `hQ g `aN=`a (.nx (.ow (z9 p (R { S with length:=n }))::δ)):=by
 unfold u20;rw[hg,`h];kernel_rfl
def kp0(p:`f)(S:RS)(δ:Ds)(g:GE)(l:`m)(hg:`wT=`aTh):u20 0 `F `nV g `aN=`a (.nx (.ow (z9 p (R { S with spelled:=l }))::δ)):=by
 unfold u20;rw[hg,`h];kernel_rfl
def Vw0(S:RS)(hn:`ahS)(hl:∀n∈`b3,`mP)(L:Nat)(h1:1<=L)(h8:L<=8)(hleft:`uF `b3 L []=`c):T3 `bd [`g `aVz]=`a (`c4,`aVA):=by
 obtain⟨b,hb⟩:∃b:Int,b=`aVz:=`ad;have J:b/2=`uE:=`J
 rw[← hb];refine V1 rfl λp=>#[[.ow (z9 p (`aVA)),`ef,`q?],?_,rfl]
 show K8 `iX=_;refine o9 (δ':=`iX) (by
  rw[O3 (by
   refine `cs;show `a (`a0 (`B (b%2=0)))=_;rw[`ee])]
  rfl) ?_
 refine o9 (δ':=`w1) (Y4 (U0 (d:=`q!) (by
  show `a (`a7 (b/2))=_;rw[J]))) ?_
 refine o9 (δ':=`w1) (by
  rw[O3 (by
   have t1:ob `Ws `w1=`bC:=Y6 (by
    show `a (`a0 (`B (`uE=0)))=_;rw[`ee])
   have t2:ob `aR8 `w1=`bC:=Y6 (by
    show `a (`a0 (`B ((8:Int)<`uE)))=_;rw[`ee])
   have t3:ob `aR9 `w1=`bC:=Y6 (by
    rw[o6 (x:=`PE) (y:=`V9) `ahT rfl];show `a (`a0 (`B (`Aq=60)))=_;rw[`ee])
   unfold yr0;rw[t1,`h,`cU,t2,`h,`cU,t3])]
  rfl) ?_
 refine o9 (δ':=`w1) (by
  rw[O3 (by
   unfold yn0;rw[Xl0 p S _ _ L [] `I4 `k hl `rN `k,hleft];rfl)]
  rfl) ?_
 exact o9 (Y4 (hh0 p S _ `az L rfl)) `pf
def rk0(p:`f)(S:RS)(δ:Ds):plN `aqS `aN=`aT7:=by
 unfold plN;rw[Te0];rfl
def Rx0(p:`f)(S:RS)(δ:Ds)(hl:`ahh):j8 `aR1 `aN=`a (.nx (.ow (z9 p (R `aVB))::δ)):=by
 have z:`sk:=`aa
 unfold j8 qf0;rw[ke0,`h,rk0,`h,y50,`h,xm0,`h];show `fB _ (if nrf (`up)=`c/\`aT8<`R then `a (D.non,`e8 0 3 (`aVC) _) else `d)=_;rw[`V #[rfl,`ao9],tu0 p S `aVB]
 ·rfl
 ·show `gx::`b_::`b_::`aVC::_=`gx::`b_::`b_::`o ((`arL).map `W0)::_
  rw[`aZ];rfl
def iw0(S:RS)(b:Nat)(hb:`P2)(hn:`AW)(hl:∀n∈`b3,`mP)(hs:`uH<`gm)(hL:`ahU)(hleft:`ahV)(p:`f)(G:GSB)(r:`mI)
  (h:G `ahW=r) :
  (o5 `aRY
 (o5 (ifB `aRZ
 (o5 `e'
 `H)
 `H)
 (o5 `aR_ G))) `w_=r:=by
 have z:`sk:=`aa
 have sp:o2 `IF `az d8 `w0=`a (`u (`aE `uG)):=by
  rw[o6 (x:=`up) (y:=`Jf) `aVD rfl];exact `agS
 refine o9 (δ':=`w0) (Y4 (U0 (by
  rw[d9 (ds:=[`iZ,`aqM]) rfl,ho0 b _ _ Sd0 `r,`jc]))) ?_
 refine o9 (δ':=`w0) (by
  rw[O3 (by
   unfold yr0;rw[show ob `aqQ `w0=`bC from `cl,`h,`cU];unfold yn0;rw[Xl0 p S _ _ `gm `uG (`ae `ahH (`ae sp rfl)) hn hl (`Do) `k,hleft];rfl)]
  rfl) ?_
 exact o9 (Y4 (kp0 p S _ _ `uG sp)) h
def Rn0(p:`f)(S:RS)(δ:Ds)(hs:`uH<=8):ob `aR0 `aN=`a (`B (`uH=`gm)):=by
 have z:`sk:=`aa
 refine `cs;rw[o6 (x:=`g `aVE) (y:=`I9) (by
  rw[d9 (ds:=[`up]) (`ae `aVD rfl)];show (if `aVF<=`R then `a (`a7 (`aVF:Int)) else `d)=_;rw[zq0,`D3]) `ahH]
 show `a (`a0 (`B (`aVE=`WU)))=_;congr 2;exact `pc
def S40(S:RS)(b:Nat)(hb:`P2)(hn:`AW)(hl:∀n∈`b3,`mP)(hs:`uH+1<`gm)(hL:`ahU)(hleft:`ahV) :
  `aVG=`a (`c4,R `Xs):=by
 refine V1 rfl λp=>#[`ahW,?_,rfl]
 show zu0 `w_=_;refine iw0 S b hb hn hl `k hL hleft p _ _ (o9 (δ':=`ahW) ?_ `pf);rw[O3 (by
  rw[Rn0 p `Xs _ (by show `aVH<=8;rw[`Z,`c7];lia),`b9];show ¬`aVH=`gm;rw[`Z,`c7];lia)]
 rfl
def named(S:RS)(w:`m):RS:={ (({ S with names:=`Xt }:RS).hold (W6 w)) with length:=0,spelled:=[] }
def Vk0(S:RS)(ok:`fZ)(hw:`im)(b:Nat)(hb:`P2)(hn:`AW)(hl:∀n∈`b3,`mP)(hs:`uH+1=`gm)(hL:`ahU)(hleft:`ahV) :
  `aVG=`a (`c4,R (`uI S `uG)):=by
 obtain⟨w,J⟩:∃w,w=`Jj:=`ad;have wl:`eC=`gm:=by rw[J,`Z,`c7];exact hs
 refine V1 rfl λp=>#[`aVI,?_,rfl]
 show zu0 `w_=_;refine iw0 S b hb hn hl `k hL hleft p _ _ (o9 (δ':=`aVI) ?_ `pf);rw[← J];rw[zh0 (by
  rw[Rn0 p `aVJ _ (by show `eC<=8;lia),`bG];exact wl)]
 refine o9 (Y4 (Rx0 p `aVJ _ (by show `ahh;lia))) ?_;have O:Ok `Eg:=#[`At,`JQ,`XS,ok.wait,by show (`Xt).length<=1000;rw[`Z,`c7];lia];refine o9 (Y4 (δ':=[.ow (z9 p (R ((`Eg:RS).hold (W6 w)))),`g7,`Az]) ?_) ?_
 ·unfold j8
  rw[J0 (S:=`Eg) (`ae (rk0 p `Eg _) rfl) (o60 `Eg O hw (W6 w) rfl)];rfl
 ·refine o9 (Y4 (hh0 p _ _ `bk 0 rfl)) (o9 (Y4 (kp0 p _ _ `r? [] rfl)) ?_)
  rfl
universe Rk
namespace Rk
open DL W Rm StrLaws
open Bt (V1 o9 Z6 Y4 zh0 O3 V7 R6 Y6)
def X90:(∀n∈`bF 40,`afF (`ahX).1 (`ahX).2.1 (`ahX).2.2=(`bF (`io/2)).map (2*·)) /\
  ∀n∈`bF 40,`afF (`ahY).1 (`ahY).2.1 (`ahY).2.2=(`bF (n/2)).map (2*·+1):=`aG
theorem ed0(xs:`aT)(d:α):∀l:`m,(∀i∈l,`vR)->`afH=`dx (`Mx · d)
 | [],_=>rfl
 | i::l,h=>by
  have hi:=h i B0;rw[`DR `TL,ed0 xs d l λj hj=>h j (A7 _ hj),`ab];simp[`bD,hi]
theorem nf0:∀xs:`n,`AC=(`bF (`ay/2)).map λj=>(`Mx (2*j) `x,`Mx (2*j+1) `x)
 | []=>rfl
 | [a]=>by unfold pairsOf;simp
 | `F'=>by
  show `agq=_;rw[nf0 r,`Y,`Y,show (`cJ+1+1)/2=`cJ/2+1 by lia,`aHb,`ab,`b6];rfl
def Qq0(xs:`n)(h:`ay<40):`aVK=`AC:=by
 unfold zv0;rw[X90.1 _ (`gl h),X90.2 _ (`gl h),ed0 xs `x _ (λi hi=>by
  let#[j,hj,rfl]:=`d9 hi;have:=`wP;show 2*j<_;lia),ed0 xs `x _ (λi hi=>by
  let#[j,hj,rfl]:=`d9 hi;have:=`wP;show 2*j+1<_;lia),nf0]
 refine A70 `oE λj h1 h2=>?_
 simp
def m90(xs:`n)(h:`ay<40):vf0 [`c1]=`a `aVL:=by
 refine `Ec;rw[d9 (ds:=[`o (`arM),`o `arN]) `I4];show `a (`c8 ((`aVK).map `Ur))=_;rw[Qq0 xs h]
def Fits(kd:Nat)(held:`n):Prop:=`aVM<=30/\(kd=0->∀d∈`dU,`aVN)/\(kd=3->`dU≠[])
theorem ox0:∀l:`m,`ahZ=l
 | []=>rfl
 | c::l=>by
  show (`aE [c]).cps.toList++`ahZ=_;rw[ox0 l,wo0];rfl
def l20(kd:Nat)(hk:`pe)(held:`n)(h:Fits kd `dU):O2 [`n7,`Xu]=`a (`g8 `ah_):=by
 have z:`sk:=`aa
 let#[hl,h0,h3]:=h;have c:∀(a b:Str),ob `aUw [.sh (`hK),`Xv]=`aUx:=`aUy
 match kd,hk,h0,h3 with
 | 0,_,h0,_ =>
  obtain⟨l,rfl⟩:∃l:`m,`aVO:=by
   have:∀held:`n,(∀d∈`dU,`aVN)->∃l:`m,`aVO:=by
    intro held
    induction `dU with
    | nil=>exact λ_=>#[[],rfl]
    | cons d ds ih =>
     intro hd;let#[c,rfl]:=`ah0;let#[l,rfl]:=ih `ah1
     exact#[c::l,rfl]
   exact `E `dU (h0 rfl)
  refine `wN;show ifD _ _ _ [.sh (`lZ),.sh (`o (`AD))]=_;rw[`wW];refine Z3 (T9 (xa0 (`ae rfl (`ae (d:=`uj) ?_ rfl)) `I5)) |>.trans ?_
  ·have hp:l=`aS2:=(Bt.l60 l).symm
   rw[`P] at hl
   conv=>rhs;rw[hp]
   refine Bt.Zs0 [] (`dx `IN) 1 rfl ?_ `aS8 `oE;show `a (`eD (`AD))=_;rw[`b6];rfl
  ·show `a (Res.rt (`c8 [`lZ,`uj]))=`a (Res.rt (`c8 [`lZ,W6 (`ahZ)]))
   rw[ox0];rfl
 | 1,_,_,_ =>
  refine U3 rfl (t8 (δ':=`aVP) (by show ifD _ _ _ `aVP=_;rw[`q4];rfl) `n0);rw[`wW];exact Z3 (T9 `ag')
 | 2,_,_,_ =>
  refine U3 rfl (t8 (δ':=`ah2) (by show ifD _ _ _ `ah2=_;rw[`q4];rfl) (t8 (δ':=`ah2) `wX `n0));rw[`wW];exact Z3 (T9 (xa0 (`ae rfl (`ae (by rw[d9 (ds:=[`Xu]) rfl];exact m90 `dU `k) rfl)) `I5))
 | 3,_,_,h3 =>
  cases `dU with
  | nil=>exact `N rfl (h3 rfl)
  | cons d ds =>
   refine U3 rfl (t8 (δ':=`P3) (by show ifD _ _ _ `P3=_;rw[`q4];rfl) (t8 (δ':=`P3) `wX (t8 (δ':=`P3) `wX `q')));refine xa0 (`ae rfl (`ae (d:=d) (by
    show atI `kd 0=_;rw[t40 `r (`l9) `x];rfl) (`ae (d:=`y ((`iR ds).map `ra)) ?_ rfl))) `aTN
   rw[d9 (ds:=`CA) (`ae (by
    rw[Bt.q40 (d:=`o `kd) (l:=`P4) (h:=`d) rfl rfl rfl];show `a (`eD (`hH `kd (`P4) `d))=_;rw[Bt.Za0];rfl) rfl)]
   exact m90 ds `as0
def ks0(xs:`n):(`AC).length<=`ay:=by
 rw[nf0,`P,`k0];lia
def dp0(X:D)(ps:`O1)(hX:`asX=`a (`y (`aVQ)))(hl:`aD<=1000):T4 1 [] `sa `bP noT `j7 [.sh X]=`a (`o (`g3)):=by
 have z:`sk:=`aa
 refine xv0 (items:=`aVQ) ?_ `lM ?_
 ·show `aVR
  rw[`aVS,hX];rfl
 ·rw[vb0 `aVT (λd hd=>by
   let#[q,_,rfl]:=`db;exact#[[.sh (`aq_)],rfl,rfl,rfl]),`b6]
  rfl
def c60(kd:Nat)(hk:`pe)(held:`n)(h:`aVM<=1000):vl0 [`g8 `ah_]=`a (`o (M7 `ah_)):=by
 match kd,hk with
 | 0,_ =>
  refine `w2;rw[O4 (by unfold yr0;rw[show ob `zX (S7 K5 [`g8 (0,`dU)])=`e6 from `cl];rfl)];exact `P5
 | 1,_ =>
  refine `w2;rw[O4 (by unfold yr0;rw[show ob `zX `aVU=`bC from `cl,show ob `Ix `aVU=`e6 from `cl];rfl)];exact `P5
 | 2,_ =>
  refine Q3 rfl (t8 (δ':=[.sh (`ah3)]) (by
   rw[X7 (by unfold yr0;rw[show ob `zX (S7 K5 [`ah3])=`bC from `cl,show ob `Ix (S7 K5 [`ah3])=`bC from `cl];rfl)];rfl) `ph)
  exact dp0 _ (`iR `dU) (`W5 [`l_] _) (C0 (ks0 _) h)
 | 3,_ =>
  refine Q3 rfl (t8 (δ':=[.sh (`ah4)]) (by
   rw[X7 (by unfold yr0;rw[show ob `zX (S7 K5 [`ah4])=`bC from `cl,show ob `Ix (S7 K5 [`ah4])=`bC from `cl];rfl)];rfl) `ph)
  exact dp0 _ (`aVV) (`W5 [`l0,held.headD `x] _) (C0 (ks0 _) `ato)
structure Held(q:`hR):Prop where
 kd:q.1<4
 fits:`aVW
 tr:`ahI
 nr:`aVX
 fl:`iI (M7 q)=`c
def Sg0(S:RS)(k:Nat)(q:`hR)(hq:`ke)(h:`Jp):`aVY:=by
 have e2:`aVZ:=by
  show `ahj;rw[`cp,hq];rfl
 have e1:`aV_:=by
  unfold W5;rw[`bD,hq];rfl
 rw[e1];unfold uf0 O5;simp only[wn0,`h,e2];rw[`V #[rfl,h.tr,h.nr]]
def dt0(S:RS)(k:Nat)(u:`m)(hu:`hW)(q:`hR)(hq:`ke)(h:`Jp):M9 `bd []=`a (`XA,R S):=by
 refine V1 rfl λp=>#[`ah5,?_,rfl]
 show yp0 `ah5=_;have e1:J2 0 `iQ `g1 `ah5=`a (`AE):=by
  unfold J2;rw[p80,`h,show unG U4 `a6 [`q1,.un]=`a (`ur) from rfl,`h,y50,`h];rw[`aT?];rw[hu,`e4,`aZ];exact `PF
 unfold yp0 cw0;rw[e1,`h,y50,`h,Sg0 S k q hq h,`h];have e3:oA `aR4 vl0 ((`aW ([`q1,`tx]:Ds).length `tx).set 1 (`ah6))=`a (`XA):=by
  rw[d9 (ds:=[`g8 q]) (`ae (by
   rw[`aV0];exact l20 q.1 h.kd q.2 h.fits) rfl)]
  exact c60 q.1 h.kd q.2 (by have:=h.fits.1;lia)
 rw[e3,`h];simp only[];rw[`V h.fl]
def Og0(p:`f)(S:RS)(δ:Ds)(g:GE)(i:Nat)(nm:`m)(hg:`wT=`aV1)(hn:`b3[i]?=`a nm):plN (J2 0 `nW g) `aN=`a `n!:=by
 unfold plN J2;rw[ke0,`h,hg,`h,y50,`h,na0 (es:=`Ar) rfl];have hi:=(`ds hn).1;rw[`aV2,`cy,`bD,`cp,hn];rfl
def Oh0(S:RS)(ok:`fZ)(w:`bX)(ws:`be)(hw:`dF)(b:Nat)(hb:b<`kb)(nm:`m)(hnm:`ah7)
  (hin:`ah8):O7 `bd [`iZ]=`aV3:=by
 refine V1 rfl λp=>#[`aV4,?_,rfl]
 show y30 `w_=_;refine o9 (δ':=`w_) (by
  rw[O3 (by
   refine `cs;rw[o6 (x:=`iZ) (y:=`PE) rfl `ahT];show `a (`a0 (`B (`Aq<=`n9)))=_;rw[`ee])]
  rfl) ?_
 refine o9 (δ':=`w3) (Y4 (U0 (Og0 p S _ _ (`arQ) nm (by
  rw[o6 (x:=`g (`Aq - 1)) (y:=`iZ) (by rw[o6 (x:=`PE) (y:=`ea) `ahT rfl];rfl) rfl];show `a (`a7 (`Aq - 1 - `n9))=_;congr 2;lia) hnm))) ?_
 refine o9 (δ':=`w3) ?_ ?_
 ·have t1:`PQ `aR5 `w3=`a (`B (`uB),`w3):=by
   unfold DL.liftT;rw[show (`ua : Str)=b8 `nZ from rfl,e30 p S _ w ws hw `nZ];rfl
  unfold ifX Vi0;rw[t1,`h]
  by_cases hwn:`uB
  ·refine `e;let#[k,u,q,hu,hq,hh,O]:=hin hwn
   have t2:W0 `aR6 `w3=`a (`p,`w3):=by
    unfold W0 bu0;rw[show gv 2 [`q1,`g7,`Xz]=`a `n! from rfl,`h,`V (show `aV5 from rfl),J0 (ds:=[]) rfl (dt0 S k u hu q hq hh),`h];have e:`aV6=`vY:=by
     show (if `aV5/\(M7 q).all `cv=`c then `a (`a0 (xor `p (`aV7))) else `d)=_;rw[`V #[rfl,hh.fl]];congr 2;rw[`wi];cases ha:`aV7 with
     | false=>rfl
     | true =>
      exfalso;let#[y,hy,he]:=List.any_eq_true.mp ha;have J:`cv y=`c:=`DP hh.fl y hy;cases y with
      | str t =>
       have:t=`aE nm:=P7.mp he;rw[`E] at hy;exact O hy
      | non=>cases he
      | bl _=>cases he
      | int _=>cases he
      | tup _=>cases J
      | lst _=>cases J
      | dct _ _=>cases J
      | fn _ _=>cases J
    show `e_ (`fB _ (`aV6)) _=_;rw[e];rfl
   refine `b;rw[`bG hwn];show `e_ (if `c=`c then W0 _ _ else _) _=_;rw[`bc,t2];rfl
  ·rw[`b9 hwn]
   rfl
 ·refine o9 (Y4 (δ':=`aV4) ?_) `pf
  unfold j8;rw[J0 `g5 (o60 S ok (`aho) `n! rfl)];rfl
def Zm0(S:RS)(ok:`fZ)(w:`bX)(ws:`be)(hw:`dF)(b:Nat)(hb:b<`kb)(nm:`m)(hnm:`ah7)
  (hin:`ah8):T3 `bd [`g `ah9]=`aV3:=by
 obtain⟨c,hc⟩:∃c:Int,c=`ah9:=`ad;rw[← hc];refine V1 rfl λp=>#[[`arR,`WD,.un],?_,rfl]
 show K8 [`bY,`WD,.un]=_;refine `uf;rw[zh0 (by
  refine `cs;show `a (`a0 (`B (c%2=0)))=_;rw[`mM])]
 refine Z6 (V7 (J0 (`ae (d:=`iZ) ?_ rfl) (Oh0 S ok w ws hw b hb nm hnm hin)));show `a (`a7 (c/2))=_;congr 2;lia
universe Rk
namespace Bw
open DL W
def ya0:GS:=(v8 `afV
 (v8 `afW
 (v8 (S6 `Pb
 (v8 `Pc
 (v8 `Pd
 t7)) 100000)
 (v8 `afX
 t7))))
def yb0:`j:=`afY
def V8:`T:=`afZ
def s90:GS:=(v8 (ifD `afR
 (v8 `afS
 t7)
 t7)
 (v8 `afT
 t7))
def sf0:`j:=`g!
def vk0:`T:=`afU
def w70:GS:=(v8 `af_
 t7)
def yj0:`j:=`u8
def P0:`T:=`af0
def yu0:GS:=(v8 `af1
 t7)
def yt0:`j:=`di
def z40:`T:=`af2
def w60:GS:=(v8 (ifD `o9
 (v8 `af3
 t7)
 t7)
 (v8 `o'
 t7))
def wd0:`j:=`di
def zs0:`T:=`af4
def w90:GS:=(v8 (ifD `o9
 (v8 `o'
 t7)
 t7)
 (v8 (ifD `DT
 (v8 `O?
 t7)
 t7)
 (v8 `wK
 (v8 (ifD `afN
 (v8 `afO
 t7)
 t7)
 (v8 (th0 `sa `bV
 (v8 `Pa
 t7))
 (v8 `wL
 t7))))))
def wc0:`j:=`afP
def K6:`T:=`afQ
universe Bw
namespace Bw
open DL W
def fw0{g:GE}{δ:Ds}{b:`M}(h:`aSN):`aSO:=`aSP
def dgf:Nat->Nat->`_
 | 0,_=>[]
 | f+1,r=>`aV8
def dg(r:Nat):`_:=dgf r r
theorem T30:∀(f g r:Nat),r<=f->r<=g->dgf f r=dgf g r
 | 0,0,_,_,_=>rfl
 | 0,g+1,r,h,_=>by
  have:r=0:=`aV9;subst this;rfl
 | f+1,0,r,_,h=>by
  have:r=0:=`aV9;subst this;rfl
 | f+1,g+1,r,h1,h2=>by
  show (`aV8)=if r=0 then [] else `hX::dgf g `n?
  by_cases z:r=0
  ·rw[`V z,`V z]
  ·rw[`mz,`mz,T30 f g `n? `k `k]
theorem Jk0:dg 0=[]:=rfl
def Ih0(r:Nat)(h:r≠0):dg r=`hX::dg `n?:=by
 obtain⟨n,rfl⟩:∃n,r=n+1:=#[r - 1,`J];show (if n+1=0 then [] else ((128+`io%128:Nat):Int)::dgf n (`io/128))=_;rw[`ej,T30 n (`io/128) (`io/128) `k `bj];rfl
def hi(r:Nat):`_:=(dg r).reverse
def Wp0:hi 0=[]:=by unfold hi;rw[Jk0];rfl
def I20(r:Nat)(h:r≠0):hi r=hi `n?++[`hX]:=by unfold hi;rw[Ih0 r h,`e4]
def bs(n:Nat):`_:=hi `P6++[`Eh]
def Ib0:∀(m r:Nat),r<`Js->(hi r).length<=m:=by
 intro m
 induction m with
 | zero =>
  intro r h;have h2:r=0:=by
   simp at h;exact h
  subst h2;rw[Wp0];exact `ho
 | succ m ih =>
  intro r h
  by_cases h0:r=0
  ·subst h0;rw[Wp0];exact `cN
  ·rw[I20 r h0,`Z]
   have:`aV':=`P0 2 m;have:=ih `n? `k;simp only[`Y,`fy];lia
def Tv0(n:Nat)(h:`Ei):`aV!:=by
 unfold bs;rw[`Z];have:=Ib0 2600 `P6 (`aV?);simp only[`Y,`fy];lia
def WT:GB:=`Pb
def WB:GS:=(v8 `Pc
 (v8 `Pd
 t7))
def wt(a b:Sl)(r:Nat):WT [a,b,`arS]=`a (`B (0<r)):=by
 show `a (`B (`g4<`kf))=_
 by_cases h:0<r
 ·rw[`iV,`mM]
 ·rw[`i8,`ee]
theorem wh(a:Sl):∀(m r:Nat) (o:`_) (f:Nat),r<`Js->m<f->`ah'+m<`R ->
  ∃s,S6 WT WB f `aWa=`a (.nx [a,.ow (`o ((o++dg r).map `g)),s])
 | m,r,o,0,_,hf,_=>`N hf `aUj
 | m,r,o,f+1,hr,hf,hl=>by
  by_cases h0:r=0
  ·subst h0
   unfold S6;rw[wt,Jk0,`dh];exact`ad
  ·cases m with
   | zero=>simp at hr;lia
   | succ m =>
    have hb:WB `aWa=`a (.nx [a,.ow (`o ((o++[`hX]).map `g)),.sh (`g `P7)]):=by
     have e1:(128:Int)+`kf%128=`hX:=`J
     have e2:`kf/128=`P7:=`J
     refine t8 (`sg (l:=o.map `g) (d:=`g (128+`kf%128)) rfl rfl `lM) ?_;rw[`aZ,← e1,← e2];rfl
    have h2:r/128<`Js:=by
     have:`aV':=`P0 2 m;lia
    let#[s,e]:=wh a m `n? (o++[`hX]) f h2 `k `aSM;refine#[s,?_];unfold S6;rw[wt,`mM];simp only[hb];rw[e,Ih0 r h0,`bB];rfl
def pn0(n:Nat)(h:`Ei):`aWb:=by
 have z:`P8:=`aa
 have h2:`Jr<`Jt:=`aV?;let#[s,e]:=wh (`cc) 2600 `P6 [`Eh] 100000 h2 `r (by show 1+2600<_;lia);refine Q3 rfl ?_;have e1:`dM%128=`Eh:=`J
 have e2:`dM/128=`aWc:=`J
 refine t8 (δ':=[`cc,.ow (`o [`g `Eh]),.un]) (by rw[← e1];rfl) ?_;refine t8 (U0 (d:=`g `aWc) (by rw[← e2];rfl)) ?_;refine t8 e `ph;show `a (`eD (((`Eh::dg `P6).map `a7).reverse))=_;rw[← `ahz,`e4];rfl
inductive Vb:`ah!
 | non:Vb `x
 | lk (j:Nat) (h:j<1000):Vb `oc
 | int (z:Int) (h:`ah?):Vb `j4
def fold(z:Int):Nat:=if z<0 then (-2*z - 1).toNat else (2*z).toNat
def fold_lt(z:Int)(h:`ah?):`AH<2 ^ 2502:=by
 unfold fold;have e:`aWd=4*`XC:=`aG
 generalize (2:Nat) ^ 250=w at h e;split<;>lia
def ml0(z:Int):`aWe:=by
 by_cases h:z<0
 ·refine `wN
  rw[O4 (by show `aWf;rw[`iV])];refine `q5;rw[o6 (x:=`g (-2*z)) (y:=`ea) (by rw[o6 (x:=`g (-2)) (y:=`iN) rfl rfl];exact `pi) rfl];have:`aWg=-2*z - 1:=by unfold fold;rw[`cV];lia
  rw[`E];rfl
 ·refine U3 rfl (t8 (δ':=[`c']) (by rw[X7 (by show `aWf;rw[`i8])];rfl) `q')
  rw[o6 (x:=`t8) (y:=`iN) rfl rfl,`pi];have:`aWg=2*z:=by unfold fold;rw[`ej];lia
  rw[`E]
def sg(s:Str):`_:=s.cps.toList.map λ(c:Nat)=>`uC
def ad0(s:Str):(sg s).length=`uJ:=by unfold sg;rw[`P];rfl
def Qb0(s:Str):zk0 `bP noT `aqo [.un] (`je s)=`a `arW:=by
 unfold signs;rw[vb0 (λd=>match d with|`b1=>`g ((x.cps.toList.headD 0:Nat):Int)|_=>`x) (λd hd=>by
  let#[c,hc,rfl]:=`db;exact#[[.sh (`tp)],rfl,rfl,rfl])]
 unfold sg;rw[`b6,`b6];rfl
theorem b20(s:Str)(h:`aia):`aWh :=
 Q3 rfl (V9 (K1 (xv0 (items:=`je s) rfl (by unfold signs;rw[`P];exact h) (Qb0 s))))
def Ne0(a b:`_)(h:`aSL):ra0 (`o (a.map `g)) (`o (b.map `g))=`a (`o ((a++b).map `g)):=by
 simp only[ra0];rw[`V (by rw[`P,`P];exact h),`aZ]
def Jz0{g:GE}{δ:Ds}{e:`_}(h1:`qc=`aVf)(h2:`av=`a (`o (e.map `g)))(h3:`aWi):`aWj=`a (.nx (`aX i (.ow (`o ((l++e).map `g))))):=by
 unfold j8 v40;rw[h1,h2];simp only[`h];rw[`V (by rw[`P,`P];exact h3),`aZ];rfl
def Na0{g:GE}{δ:Ds}{l e:`n}(h1:`aSH)(h2:`av=`a (`o e))(h3:`aWi):`aWj=`a (.nx (`aX i (.ow (`o (l++e))))):=by
 unfold j8 v40;rw[h1,h2];simp only[`h];rw[`ac0];rfl
def Ib(d:D):Prop:=`aWk∨Vb d
theorem small(h:n<=100000000):`Ei:=M1 h `cZ
def dk0{g:GE}{δ:Ds}{s:Str}(h:`av=`a `gn)(hs:`aia):`aHX=`a (`aWl):=by
 rw[d9 (ds:=`Jv) `aHZ];simp only[T8];rw[`V hs]
def cnt:Pt->Nat
 | `sc=>`eC
 | `o?=>`cK
 | `mK=>`aD
 | `agl=>`aD
def kn:Pt->Nat
 | `Ph=>0
 | .row _=>1
 | `z4 _=>2
 | `nY _ _=>3
def two(p:`z3):`n:=`aSf
def its:`agk
 | `Ph=>[]
 | `o?=>vs
 | `mK=>`i_
 | `DV=>`lw::`i_
def tx:Pt->`_
 | `sc=>sg w
 | _=>[]
structure Gp(p:Pt):Prop where
 cnt:`pj
 len:`aib<=50
 it:∀d∈`fD,Ib d
def H60{p:Pt}(h:Gp p):(tx p).length<=20:=by
 cases p with
 | text w=>show (sg w).length<=20;rw[ad0];exact h.cnt
 | _=>exact `cN
def N40(p:Pt):`fE<=3:=by cases p<;>simp[kn]
def Lb0{p:Pt}(h:`pj)(δ:Ds):oA `aqr T8 (`P9::δ)=`a (`g `aic):=by
 have z:`w4:=`aa
 cases p with
 | text w =>
  have h:`eC<=20:=h;exact dk0 rfl `k
 | row vs=>rfl
 | table ps =>
  show `aWm;rw[`P];rfl
 | rcd c ps =>
  show `aWm;rw[`P];rfl
def Fp0(p:Pt)(δ:Ds):oA `aqs `aqt (`P9::δ)=`a (`aWn):=by
 cases p<;>kernel_rfl
def Gt0(a b:Nat):4*`GC+`n9=((4*a+b:Nat):Int):=`J
def Vy0{p:Pt}(h:`pj):`aWo:=by
 refine `Ec
 change o2 _ _ _ [`P9]=_
 rw[o6 (x:=`g (4*`aic)) (y:=`aWn) (by
  rw[o6 (x:=`zP) (y:=`g `aic) rfl (Lb0 h _)];exact `pi) (Fp0 p _),← Gt0]
 rfl
def Wo0{p:Pt}(h:`pj):`aWp:=by
 have z:`w4:=`aa
 cases p with
 | text w =>
  have h:`eC<=20:=h;refine `w2;rw[`k_];refine `Jo;rw[d9 (ds:=[`u w]) rfl];exact b20 w `k
 | row vs=>exact Q3 rfl (t8 (δ':=[`P']) `gy `uM)
 | table ps=>exact Q3 rfl (t8 (δ':=[`Jz]) `gy `uM)
 | rcd c ps=>exact Q3 rfl (t8 (δ':=[`AI]) `gy `uM)
def HB:GS:=(v8 `Pa
 t7)
theorem yd0:∀ps:`cr,`aWq
 | []=>rfl
 | `mF=>by rw[`Ej,`Z,yd0 ps,`Y];show 2+_=_;lia
def P10{ps:`cr}{p:`z3}(h:`aKe):`aWr++two p=(`XE `mc).flatMap two:=by
 rw[`aWs,h,List.flatMap_append];simp
def do0(a:Sl)(pre:`n)(ps:`cr)(hl:`fC+2*`aD<=`R)(s:Sl):∃s',y70 `bV HB (`z5) `aWt=`a (.nx [a,.ow (`o (pre++`i_)),s']):=by
 let#[δ',l1,l2]:=up0 (f:=gN 2) (G:=HB) (λi δ=>∃s,δ=[a,.ow (`o (pre++(`XE i).flatMap two)),s]) (`z5) 0 `aWt (by
  rintro j d δ hj ⟨s,rfl⟩;rw[`cp] at hj;cases hp:ps[j]? with
  | none=>rw[hp] at hj;cases hj
  | some p =>
   rw[hp] at hj;cases hj;have J:=(`ds hp).1;rw[`fG];refine#[_,_,rfl,t8 (Na0 (l:=pre++`aWr) (e:=two p) rfl rfl (by
    rw[`Z,yd0,`dg];show _+2<=_;lia)) rfl,.sh (pr p),?_]
   rw[`bB,P10 hp];rfl) #[s,`a4]
 let#[s',rfl]:=l2;refine#[s',?_];rw[l1,`fG,`P,`aWu]
def Wt0{p:Pt}(h:Gp p):`aWv:=by
 have z:`w4:=`aa
 have hc:=h.cnt;cases p with
 | text w=>kernel_rfl
 | row vs =>
  refine Q3 rfl (t8 (δ':=[`P',.un,.un]) `gy `Jn);rw[`k_];rfl
 | table ps =>
  have hc:`P!:=hc;let#[s',e]:=do0 (`Jz) [] ps (by simp only[`fy];lia) .un;refine Q3 rfl (t8 (δ':=`aWw) `gy (t8 (δ':=`aWw) `gy (t8 (δ':=`aWx) rfl (t8 (δ':=`aWx) `gy `aWy))))
 | rcd c ps =>
  have hc:`P!:=hc;let#[s',e]:=do0 (`AI) [`lw] ps `IU .un;refine Q3 rfl (t8 (δ':=`aWz) `gy (t8 (δ':=`aWz) `gy (t8 (δ':=[`AI,`n3,.un]) rfl (t8 (δ':=[`AI,.ow (`o [`lw]),.un]) (by rw[`k_];rfl) `aWy))))
structure Gq(p:Pt):Prop where
 cnt:`pj
 vals:∀v∈`kl,`kk
 names:∀s∈`wO,`rb
 few:`A2<=12
theorem X30{ps:`cr}(h1:∀v∈`hY,`kk)(h2:∀s∈`g3,`rb):∀d∈ps,`aWA:=λd hd=>#[h2 _ `aWB,h1 _ `aWB]
theorem T50{ps:`cr}(h:∀d∈ps,`aWA):∀d∈`i_,Ib d:=λd hd=>by
 refine `e;let#[p,hp,hm]:=l7.mp hd;let#[q1,q2]:=h p hp;unfold two at hm;rcases `P_ with rfl|hm
 ·refine `b;exact `t #[_,rfl,q1]
 ·refine `b;rw[`aid];exact `s q2
def Gq.gp{p:Pt}(h:Gq p):Gp p:=by
 let#[h1,h2,h3]:=h;cases p with
 | text w=>exact#[h1,`cN,λd hd=>by cases hd]
 | row vs=>exact#[h1,by have:`cK<=20:=h1;show `cK<=50;lia,λd hd=>`s (h2 d hd)]
 | table ps =>
  have hp:=`aWC
  exact#[h1,by have:`P!:=h1;show `Jy<=50;rw[yd0];lia,T50 hp]
 | rcd c ps =>
  have hp:=`aWC
  refine#[h1,by have:`P!:=h1;show `aie<=50;rw[`Y,yd0];lia,`w5];rcases `pk with rfl|hd
  ·exact `t #[_,rfl,h3 c (E1 _ (`P?))]
  ·exact T50 hp d hd
def web(ps:`aA):D:=`aTR
def Lk(m:Nat)(v:D):Prop:=∀j:Nat,v=`AG->j<m
theorem Nd0{m:Nat}(h:i<m):Lk m `JO:=λj e=>by
 injection e with e
 injection e with _ e
 injection e with e _
 injection e with e
 lia
universe Bw
namespace K22
open DL W
theorem sub_len:∀{l m:`m},`aVu
 | [],m,_,_=>`cN
 | a::l,m,h,hs=>by
  let#[h1,h2]:=E6.mp h;let#[m1,m2,rfl]:=List.append_of_mem (hs a B0);have:=`aif (m:=m1++m2) h2 λb hb=>by
   have:=hs b (`K8);rcases `ep `E with q|q
   ·exact B5.mpr (`mj)
   ·rcases `cf q with rfl|q
    ·exact `N hb h1
    ·exact B5.mpr (`s q)
  simp only[`Z,`Y] at this ⊢;lia
def nd(l:`m):`n:=`dx λ(i:Nat)=>`a7 `s!
def tgs(vs:`n):`m:=vs.filterMap λv=>match v with|`Ek=>`a `ix|_=>`d
def t70(a b:`m):nd `z'=nd a++nd b:=by unfold nd;rw[`aZ]
def I40(a:`m):(nd a).reverse=nd a.reverse:=by unfold nd;rw[`ahz]
def u60(a:`m):(nd a).length=`WC:=by simp[nd]
def Iu0(o:`m)(x:Nat):((nd o).any λy=>eqF y `Yj)=`B (x∈o):=by
 unfold nd;rw[List.any_map,`vB,`afw,`rY];constructor
 ·rintro⟨y,hy,e⟩
  have e:`B ((y:Int)=`rd)=`c:=e;have e:=A80 e;have:y=x:=`J
  subst this;exact hy
 ·intro h
  exact#[x,h,show `B (`rd=`rd)=`c from P1 rfl]
def Pl0(o:`m):((nd o).all λd=>`cv d)=`c:=by
 unfold nd;rw[`ac9,`h7];exact `mx
def Gu0(o:`m)(x:Nat):wv0 `c `Yj (`o (nd o))=`a (.bl (`B (x∉o))):=by
 simp only[wv0];rw[`V #[rfl,Pl0 o],Iu0];congr 2
 by_cases h:x∈o<;>simp[h]
def lkv(f:`hk):`kM
 | `Ek=>`y [`lX,`g (f `ix:Int)]
 | v=>v
def rel(f:`hk)(p:Pt):Pt:=`w6 p (`AR (lkv f))
theorem Rz0{vs:`n}(h:`c8 `arT∈vs):j∈tgs vs:=r9.mpr #[_,h,by simp only[`cy]]
def O40(p:Pt)(vs:`n)(h:`cK=`A2):(`w6 p vs).vals=vs:=by
 cases p with
 | text w=>exact(Eb0 h).symm
 | row us=>rfl
 | table ps =>
  show `aWD;refine Ei0 ?_;have h':`aWE:=h;simp only[`P] at h' ⊢;lia
 | rcd c ps =>
  show `aWD;refine Ei0 ?_;have h':`aWE:=h;simp only[`P] at h' ⊢;lia
universe K22
namespace Km
open DL W K22
def ya0:GS:=(v8 `afV
 (v8 `afW
 (v8 (S6 `Pb
 (v8 `Pc
 (v8 `Pd
 t7)) 100000)
 (v8 `afX
 t7))))
def yb0:`j:=`afY
def V8:`T:=`afZ
def s90:GS:=(v8 (ifD `afR
 (v8 `afS
 t7)
 t7)
 (v8 `afT
 t7))
def sf0:`j:=`g!
def vk0:`T:=`afU
def n80:GS:=(v8 `aRj
 t7)
def tz0:`j:=`km
def zg0:`T:=`aRk
def w70:GS:=(v8 `af_
 t7)
def yj0:`j:=`u8
def P0:`T:=`af0
def t90:GS:=(v8 (ifD `aRp
 (v8 `aRq
 t7)
 t7)
 (v8 `aRr
 t7))
def t30:`j:=`DU
def wb0:`T:=`aRs
def yu0:GS:=(v8 `af1
 t7)
def yt0:`j:=`di
def z40:`T:=`af2
def w60:GS:=(v8 (ifD `o9
 (v8 `af3
 t7)
 t7)
 (v8 `o'
 t7))
def wd0:`j:=`di
def zs0:`T:=`af4
def t50:GS:=(v8 (ifD `aRl
 (v8 `O7
 t7)
 t7)
 (v8 (ifD `t?
 (v8 `aRm
 t7)
 t7)
 (v8 `aRn
 t7)))
def uz0:`j:=`km
def zo0:`T:=`aRo
def ta0:GS:=(v8 (ifD `af5
 (v8 `aRt
 t7)
 t7)
 (v8 (ifD `aRu
 (v8 `aRv
 (v8 `aRw
 t7))
 t7)
 (v8 `aRx
 t7)))
def tj0:`j:=`aRy
def zm0:`T:=`aRz
def w90:GS:=(v8 (ifD `o9
 (v8 `o'
 t7)
 t7)
 (v8 (ifD `DT
 (v8 `O?
 t7)
 t7)
 (v8 `wK
 (v8 (ifD `afN
 (v8 `afO
 t7)
 t7)
 (v8 (th0 `sa `bV
 (v8 `Pa
 t7))
 (v8 `wL
 t7))))))
def wc0:`j:=`afP
def K6:`T:=`afQ
def ih0:GS:=(v8 `wK
 (v8 `aRA
 (v8 `aRB
 (v8 `aRC
 (v8 (S6 `af6
 (v8 `af7
 (v8 `af8
 (v8 (ifD `af9
 (v8 `af'
 t7)
 (v8 (ifD `af!
 (v8 `af?
 (v8 `aga
 t7))
 t7)
 t7))
 t7))) 100000)
 (v8 `wL
 t7))))))
def g90:`j:=`aRD
def qk0:`T:=`aRE
universe Km
namespace Km
open DL W K22
open Bw (bs sg cnt kn its tx fold Vb Gp Gq)
def pd(ks:`gd):D:=`cQ `Gx `aig
def ix{α:Type}[`Ee]:`aT->α->Nat
 | [],_=>0
 | b::l,a=>if b=a then 0 else `Qa+1
theorem n70[`Ee]:∀{l:`aT} {a:α},a∈l->`Qa<`bW
 | [],_,h=>by cases h
 | b::l,a,h=>by
  unfold ix;rw[`Y]
  by_cases e:b=a
  ·rw[`fX];lia
  ·have:=n70 (l:=l) (a:=a) `Qb
   rw[`eK];lia
theorem Nb0[`Ee]:∀{l:`aT} {a:α},a∈l->l[`Qa]?=`jJ
 | [],_,h=>by cases h
 | b::l,a,h=>by
  unfold ix
  by_cases e:b=a
  ·rw[`fX,e];rfl
  ·rw[`eK,`aNd]
   exact Nb0 `Qb
theorem ak0:∀(ks:`gd) (s:Nat) (k:J3),`Qc->u30 ks (nd (`zy s `gN)) k=`a (`g ((s+`Qd:Nat):Int))
 | [],s,k,h=>by cases h
 | a::ks,s,k,h=>by
  rw[`Y,`aeE];show (if a=k then `a (`a7 `qS) else u30 ks (nd (`zy (s+1) `gN)) k)=_;unfold ix
  by_cases e:a=k
  ·rw[`fX,`fX]
   rfl
  ·have hk:`Qc:=`ar4
   rw[`eK,`eK,ak0 ks (s+1) k hk,show s+1+`Qd=s+(`Qd+1) by lia]
def Y50{ks:`gd}{k:J3}(h:`Qc):u30 ks `aig k=`a (`g (`Qd:Int)):=by
 rw[`aVn,ak0 ks 0 k h,`fG]
def kk0(ks:`gd)(k:J3):`y9=`c↔`Qc:=by
 unfold yi0;rw[`afw];constructor
 ·rintro⟨x,hx,e⟩
  rw[← `aeI e];exact hx
 ·intro h
  exact#[k,h,P1 rfl]
def cz0{ks:`gd}{k:J3}(h:k∉ks):`y9=`p:=by
 cases e:`y9 with
 | false=>rfl
 | true=>exact `N ((kk0 ks k).mp e) h
def S90{ks:`gd}{k:J3}(h:k∉ks):(`cQ `aNM (xr0 ks `aig k (`g (`gN:Int))):D)=pd (ks++[k]):=by
 unfold xq0 xr0 pd;rw[cz0 h,`jm,`jm,`Z,`c7,`agY,t70];rfl
theorem idx_map[`Ee][`G4 β](f:α->β)(a:α):∀l:`aT,(∀b∈l,f b=f a->b=a)->ix (`dx f) (f a)=`Qa
 | [],_=>rfl
 | b::l,h=>by
  rw[`ab];unfold ix
  by_cases e:b=a
  ·rw[`fX,`V (`ag4)]
  ·rw[`eK,`al (λz=>e (h b B0 z)),`aih f a l λc hc=>h c (A7 _ hc)]
def kb(B:`m):`gd:=B.map `aWF
def kt(T:`j):`gd:=T.map `aWG
def kb_mem(B:`m)(j:Nat):`aWH∈kb B↔`eE:=by
 unfold kb;rw[`aWI];constructor
 ·rintro⟨k,hk,e⟩
  have:`eX=`cw:=`Qe
  have:k=j:=`J
  rw[← `E];exact hk
 ·exact λh=>#[j,h,rfl]
def qw0(T:`j)(s:Str):`XH∈kt T↔`l7:=by
 unfold kt;rw[`aWI];constructor
 ·rintro⟨k,hk,e⟩
  have:k=s:=`Qe
  rw[← `E];exact hk
 ·exact λh=>#[s,h,rfl]
theorem Ir0(B:`m)(j:Nat):ix `uP `aWH=`uQ:=`aih (`aWF) j B λb _ e=>by
 have:`n9=`cw:=`Qe
 lia
theorem Jr0(T:`j)(s:Str):ix `uN `XH=`JB:=`aih (`aWG) s T λb _ e=>`Qe
def Sz0(B:`m):`El=`bZ:=by unfold kb;rw[`P]
def kt_len(T:`j):`AM=`kg:=by unfold kt;rw[`P]
structure Wb(ps:`aA):Prop where
 len:0<`aD/\`aha
 it:∀p∈ps,Gq p
 lk:∀p∈ps,∀v∈`kl,Bw.Lk `aD v
def It(n:Nat)(d:D):Prop:=`aWk∨`p!∨(∃z:Int,d=`iN/\`ah?)∨∃j:Nat,d=`AG/\j<n
def It.of{v:D}(h:`kk)(hl:Bw.Lk n v):It n v:=by
 cases h with
 | non=>exact `s `f3
 | lk j _=>exact `s (`s (`s #[j,rfl,hl j rfl]))
 | int z hz=>exact `s (`s (`t #[z,rfl,hz]))
def hb(ps:`aA)(B:`m)(T:`j):D->`_
 | `eg=>`Qf
 | `Ek=>if `aii then bs (4*(`bZ - 1 - ix B `ix)+2) else bs (4*(4*cnt `Qg+kn `Qg)+3)++tx `Qg
 | `iN=>bs (4*`AH+1)
 | _=>bs 0
theorem pn0(n:Nat)(h:`Ei):`aWb:=Bw.pn0 n h
theorem b20(s:Str)(h:`aia):`aWh:=Bw.b20 s h
theorem Vy0{p:Pt}(h:`pj):`aWo:=Bw.Vy0 h
theorem Wo0{p:Pt}(h:`pj):`aWp:=Bw.Wo0 h
theorem Wt0{p:Pt}(h:Gp p):`aWv:=Bw.Wt0 h
theorem ml0(z:Int):`aWe:=Bw.ml0 z
theorem Uu0(ks:`gd):xt0 [pd ks]=`a (`g (`gN:Int)):=rfl
def K20(T:`j)(s:Str):vr0 `p `gn `JG=`a (.bl `aWJ):=by
 show `a (`a0 (xor `p (`aWK)))=_;rw[`wi]
 by_cases h:`l7
 ·rw[`aWL,`iV]
 ·rw[`aWM,`i8]
def Q90(B:`m)(j:Nat):vr0 `c `zz `JI=`aWN:=by
 show `a (`a0 (xor `c (yi0 `uP `Qh)))=_
 by_cases h:`eE
 ·rw[`ar9 ((`Qi).mpr h),`Qj];rfl
 ·rw[cz0 (λz=>h ((`Qi).mp z)),`iV];rfl
def P00{T:`j}{s:Str}(h:`l7):pc0 `JG `gn=`a (`aWO):=by
 show `aWP=_;rw[`aWQ,Jr0]
def Up0{B:`m}(h:`eE):pc0 `JI `zz=`a (`aWR):=by
 show u30 `uP (nd (`bF `El)) `Qh=_;rw[Y50 ((`Qi).mpr h),Ir0]
def M90(T:`j)(hT:`Qk)(s:Str)(hs:`rb)(ps:`aA)(B:`m):wb0 `aWS=`a (`o ((`aij).map `g)):=by
 have z:`P8:=`aa
 have ht:ob `aqq `Ql=`a `aWJ:=by
  unfold ob;rw[o6 (x:=`eg) (y:=`uO) rfl rfl,K20];rfl
 show _=`a (`eD ((`Qf).map `g))
 by_cases h:`l7
 ·rw[`iV] at ht
  rw[`cV];have J:=n70 h;refine `w2;show ifD _ _ _ `Ql=_;rw[O4 ht];refine `Jo;rw[d9 (ds:=[`g ((`ar6:Nat):Int)]) (`ae (by
   rw[o6 (x:=`t8) (y:=`g (`aik - 1 - `asa)) rfl (by
    rw[o6 (x:=`g (`aik - 1)) (y:=`aWO) (by
     rw[o6 (x:=`g `aik) (y:=`ea) (by rw[d9 (ds:=[`uO]) rfl,Uu0,kt_len]) rfl];rfl) (by rw[o6 (x:=`uO) (y:=`eg) rfl rfl,P00 h])]
    rfl),`pi]
   congr 2;lia) rfl)]
  exact `Qm
 ·rw[`i8] at ht
  rw[`ej];refine Q3 rfl (t8 (δ':=`Ql) (by
   show ifD _ _ _ `Ql=_;rw[X7 ht];rfl) `ph)
  have h1:=Bw.Tv0 `JC `ob;have h2:=Bw.ad0 s;rw[o6 (x:=`o ((bs `JC).map `g)) (y:=`arX) (by
   rw[d9 (ds:=[`g ((2*`uJ+1:Nat):Int)]) (`ae (by
    rw[o6 (x:=`g (2*`arY)) (y:=`ea) (by
     rw[o6 (x:=`t8) (y:=`aWl) rfl (Bw.dk0 rfl `k)];exact `pi) rfl]
    show `Qn;congr 2) rfl)]
   exact `Qm) (by rw[d9 (ds:=`Jv) rfl];exact b20 s `k)]
  exact `aWT
def ax0(B:`m)(j:Nat):zg0 `JL=`aWN:=by
 refine `Ec;unfold pu0;rw[show ob `qI (S7 tz0 `JL)=`e6 from rfl,`h,`bc];rw[o6 (x:=`fx) (y:=`kh) rfl rfl];exact Q90 B j
def kc0{d:D}(h:`Iw d=`p)(B:`m):zg0 [d,`kh]=`vY:=by
 refine `Ec;unfold pu0;rw[show ob `qI (S7 tz0 [d,`kh])=`a (`Iw d) from rfl,h];rfl
def Oi0(X:D):zo0 [`x,X]=`a (`ail):=`cl
def Pw0(z:Int)(X:D):zo0 [`iN,X]=`a (`g ((4*`AH+1:Nat):Int)):=by
 refine U3 rfl (t8 (δ':=`aWU) `pa (t8 (δ':=`aWU) `pa `q'));rw[o6 (x:=`g (4*`arU)) (y:=`ea) (by
  rw[o6 (x:=`zP) (y:=`arV) rfl (by rw[d9 (ds:=`Ju) rfl,ml0])];exact `pi) rfl]
 show `Qn;congr 2
def Se0{B:`m}(h:`eE):zo0 `JL=`a (`aWV):=by
 have J:=n70 h;refine U3 rfl (t8 (δ':=[`od,`JJ]) `pa `n0);rw[`D0];refine `q5;rw[o6 (x:=`g (4*`aWW)) (y:=`t8) (by
  rw[o6 (x:=`zP) (y:=`g `aWW) rfl (by
   rw[o6 (x:=`g (`XJ - 1)) (y:=`aWR) (by
    rw[o6 (x:=`g `XJ) (y:=`ea) (by rw[d9 (ds:=[`kh]) rfl,Uu0,Sz0]) rfl];rfl) (by rw[o6 (x:=`kh) (y:=`fx) rfl rfl,Up0 h])]
   rfl)]
  exact `pi) rfl]
 show `Qn;congr 2;lia
def M4{ps:`aA}(hj:`h3):ixD `re `zz=`a (`h_).d/\`h_∈ps:=by
 constructor
 ·show atI (`I7) `cw=_
  rw[`aV2,`cy];simp[`bD,hj]
 ·rw[`bD,`aeH]
  exact d5 hj
def i20(l:`_):`iI (`dx `a7)=`c:=by
 unfold flats;rw[`ac9,`h7];exact `mx
def W80{ps:`aA}(hw:`eM){B:`m}{T:`j}(hB:`w7)(hT:`Qk){d:D}(hd:`oh):zm0 `aWX=`a (`o ((`rf).map `g))/\(`rf).length<=2700:=by
 refine `e;have z:`P8:=`aa
 have one:∀n:Nat,`Ei->`aV!:=Bw.Tv0;rcases hd with⟨s,rfl,hs⟩|rfl|⟨x,rfl,hx⟩|⟨j,rfl,hj⟩
 ·refine `b;refine#[`w2,?_]
  ·rw[`D0]
   refine `Jo;rw[d9 (ds:=`aWS) rfl];exact M90 T hT s hs ps B
  ·show (`Qf).length<=2700
   split
   ·have:=one `ar7 `ob;lia
   ·have:=one `JC `ob
    have:=Bw.ad0 s;rw[`Z];lia
 ·refine `b;refine#[Q3 rfl (t8 (δ':=`aim) `pa (t8 (δ':=`aim) ?_ `ph)),?_]
  ·show ifD _ _ _ `aim=_
   rw[X7 (`w8 `aWY)];rfl
  ·rw[d9 (ds:=[`ail]) (`ae (by rw[`asd];exact Oi0 _) rfl)]
   exact pn0 0 `ob
  ·exact C0 (one 0 `ob) `k
 ·have hf:`aWZ<`Jt:=by
   have:=Bw.fold_lt x hx;have e:8*`aWd<`Jt:=`aG
   generalize (2:Nat) ^ 300=w at e;lia
  refine `b;refine#[Q3 rfl (t8 (δ':=`ain) `pa (t8 (δ':=`ain) ?_ `ph)),?_]
  ·show ifD _ _ _ `ain=_
   rw[X7 (`w8 `aW_)];rfl
  ·rw[d9 (ds:=[`g ((`aWZ:Nat):Int)]) (`ae (by rw[`asf];exact Pw0 x _) rfl)]
   exact pn0 _ hf
  ·exact C0 (one _ hf) `k
 ·have J:∀G:GS,ifD `af5 G t7 `Qo=`a (.nx `Qo):=λG=>`aq5
  have ht:ob `aqv `Qo=`aio:=`w8 `aW0;have O:`asj=`aW1:=by
   unfold hb;simp only[`cy]
  refine `b;rw[O];let#[w1,w2]:=M4 hj;have hq:=`pl
  by_cases h:`eE
  ·rw[`Qj] at ht
   rw[`cV];refine#[Q3 rfl (t8 (J _) (t8 (δ':=`Qo) ?_ `ph)),?_]
   ·rw[X7 ht];rfl
   ·rw[d9 (ds:=[`aWV]) (`ae (by rw[`asg];exact Se0 h) rfl)]
    exact `Qm
   ·exact C0 (one _ `ob) `k
  ·rw[`iV] at ht
   rw[`ej];generalize `h_=p at w1 w2 hq ⊢;have hc:=hq.cnt;have U:=Bw.N40 p;have h1:=one (4*(`Jw)+3) `ob;have h2:=Bw.H60 hq.gp;refine#[Q3 rfl (t8 (J _) `Jn),`ast];rw[O4 ht];refine t8 `aW2 `ph
   ·rw[`asm]
    exact w1
   ·rw[o6 (x:=`o ((bs (4*(`Jw)+3)).map `g)) (y:=`ar0) (by
     rw[d9 (ds:=[`g ((4*(`Jw)+3:Nat):Int)]) (`ae (by
      rw[o6 (x:=`g (4*`arZ)) (y:=`qE) (by
       rw[o6 (x:=`zP) (y:=`ar_) rfl (by rw[`aip];exact Vy0 hc)];exact `pi) rfl]
      show `Qn;congr 2) rfl)]
     exact `Qm) (by rw[`aip];exact Wo0 hc)]
    exact `aWT
def nB(B:`m):D->`m
 | `Ek=>if `aii then B else B++[`ix]
 | _=>B
def nT(T:`j):D->`j
 | `eg=>`aiq
 | _=>T
def nW(ps:`aA)(B:`m)(W:`n):D->`n
 | `Ek=>if `aii then W else its `Qg++W
 | _=>W
def pk(ps:`aA):Nat->`m->`j->`n->`_
 | 0,_,_,_=>[]
 | _+1,_,_,[]=>[]
 | f+1,B,T,d::W=>`rf++pk ps f (`w9) (nT T d) (`Em)
def st(ps:`aA)(o:`_)(B:`m)(T:`j)(W:`n)(s:Sl):Ds:=[`cn,`XB,`air,`XM,.ow (`o `AP),s]
def PT:GB:=`af6
def PB:GS:=(v8 `af7
 (v8 `af8
 (v8 (ifD `af9
 (v8 `af'
 t7)
 (v8 (ifD `af!
 (v8 `af?
 (v8 `aga
 t7))
 t7)
 t7))
 t7)))
def V00(ps:`aA)(o:`_)(B:`m)(T:`j)(W:`n)(s:Sl):PT `aW3=`a (`B (0<`uS)):=by
 show `a (`B (`g4<(W.reverse.length:Int)))=_;rw[`iU];congr 1
 by_cases h:0<`uS
 ·rw[`iV,`mM]
 ·rw[`i8,`ee]
def Ix0{T:`j}{s:Str}(hT:`Qk)(a b c e:Sl):j8 `aqz `ais=`a (.nx [a,b,c,.ow (pd (kt `JZ)),e,`oa]):=by
 have zs:`w4:=`aa
 have e1:jm0 3 `hO `aqy `ais=if `AM<`R then (if `aWK=`c then (`aWP).map λr=>(r,(`ais:Ds)) else `a (`aW4,[a,b,c,.ow (`cQ (`t (xq0 `uN `JF)) (xr0 `uN (nd (`bF `AM)) `JF (`aW4))),e,`oa])) else `d:=rfl
 unfold j8;rw[e1,`V (by rw[kt_len];lia)];show `fB _ _=`a (`sj [a,b,c,.ow (pd (kt (`aiq))),e,`oa])
 by_cases h:`l7
 ·rw[`V (`aWL),`aWQ,`cV]
  rfl
 ·rw[`aWM,`jm,S90 `ar!,`ej]
  show `a (`sj [a,b,c,.ow (pd (kt T++[`s s])),e,`oa])=_;unfold kt;rw[`aZ];rfl
def Kw0{B:`m}(hB:`w7)(hj:`AL)(a b c e:Sl):G6 `aqC `aqD [a,b,`air,c,e,`od]=`a (.nx [a,b,.ow (pd (kb `ki)),c,e,`od]):=by
 have zs:`w4:=`aa
 show `fB `sj (if `El<`R then `a ([a,b,.ow (`cQ (`t (xq0 `uP `Qh)) (xr0 `uP (nd (`bF `El)) `Qh (`g (`El:Int)))),c,e,`od]:Ds) else `d)=_;rw[`V (by rw[Sz0];lia),S90 (λz=>hj ((`Qi).mp z))];unfold kb;rw[`aZ];rfl
def ee0{ps:`aA}(hw:`eM){o:`_}{B:`m}{T:`j}{W:`n}{d:D}(s:Sl)(hB:`w7)(hT:`Qk)(hd:`oh)(ho:`ah'<=12000000)(hW:`uS<=10000) :
  PB `aW5=`a (.nx (st ps `ait (`w9) (nT T d) (`Em) `tj)):=by
 have zs:`aiu:=`aa
 let#[i1,i2]:=W80 hw hB hT hd;have p1:G6 (qs0 4) `qH `aW5=`a (.nx `aW6):=by
  unfold st G6 qs0;rw[`e4];show `e_ (`fB (λd'=>(d',([`cn,`XB,`air,`XM,.ow (`o (`aW7).dropLast),s]:Ds))) (`aW7).getLast?) _=_;rw[`aiv,`PG];rfl
 have p2:j8 `aqx `aW6=`a (.nx (st ps `ait B T W `tj)) :=
  Bw.Jz0 (l:=o) (e:=`rf) rfl (M60 (by rw[d9 (ds:=`aWX) rfl];exact i1) (i20 _)) `k
 refine t8 p1 (t8 p2 ?_);refine `e;rcases hd with⟨x,rfl,hs⟩|rfl|⟨x,rfl,hx⟩|⟨j,rfl,hj⟩
 ·refine `b;refine t8 (δ':=st ps (o++hb ps B T `ml) B (nT T `ml) W (.sh `ml)) ?_ rfl
  rw[`D0];exact t8 (Ix0 hT _ _ _ _) rfl
 ·refine `b;refine `aW8
  rw[`z?];refine `aW8;rw[X7 (`w8 (gt0 `aWY rfl))];rfl
 ·refine `b;refine `aW9
  rw[`z?];refine `aW9;rw[X7 (`w8 (gt0 `aW_ rfl))];rfl
 ·let#[w1,w2]:=M4 hj
  have ht:ob `aqA (`asl)=`aio :=
   `w8 (gt0 `aW0 rfl)
  have e1:`aW':=`aW!
  have e2:`aW?:=`aXa
  have e3:nT T `oc=T:=rfl;refine `b;rw[e1,e2,e3]
  by_cases h:`eE
  ·rw[`cV,`cV]
   rw[`Qj] at ht;refine `aXb;rw[`z?];refine `aXb;rw[X7 ht];rfl
  ·rw[`ej,`ej]
   rw[`iV] at ht;have hq:=`pl;generalize `h_=p at w1 w2 hq ⊢;have J:=hq.gp.len;have p4:j8 `aqE (st ps `XN `ki T W (`od))=`a (.nx (`asn)):=by
    refine(Bw.Na0 (l:=`AP) (e:=(`fD).reverse) rfl (by
     rw[d9 (ds:=[`o (`fD)]) (`ae (by
      rw[`aXc];exact Wt0 hq.gp) rfl)]
     rfl) (by rw[`iU,`iU];lia)).trans ?_
    unfold st;rw[`ahy];rfl
   refine `aXd;rw[`z?];refine `aXd;rw[O4 ht];exact t8 (Kw0 hB h _ _ _ _) (t8 p4 rfl)
universe Km
namespace Km
open DL W K22
open Bw (bs sg cnt kn its tx fold Vb Gp Gq two)
def lkd(j:Nat):D:=`AG
theorem R40{P:`ah!}(hs:`aXe){ps:`cr}(h1:∀v∈`hY,P v)(h2:∀s∈`g3,`rb):∀d∈`i_,P d:=λd hd=>by
 let#[p,hp,hm]:=l7.mp hd;unfold two at hm;rcases `P_ with rfl|hm
 ·exact hs _ (h2 _ `aXf)
 ·rw[`aid];exact h1 _ `aXf
def M20{P:`ah!}(hs:`aXe){p:Pt}(hn:∀s∈`wO,`rb)(hv:∀v∈`kl,P v):∀d∈`fD,P d:=by
 cases p with
 | text w=>intro d hd;cases hd
 | row vs=>exact hv
 | table ps=>exact R40 hs hv `aXg
 | rcd c ps =>
  intro d hd;rcases `pk with rfl|hd
  ·exact hs c (hn c (E1 _ (`P?)))
  ·exact R40 hs hv (`aXg) d hd
theorem Wb.its{ps:`aA}(hw:`eM){p:Pt}(hp:p∈ps):∀d∈`fD,`oh :=
 M20 (λs h=>`t #[s,rfl,h]) (`aso).names λv hv=>.of (`aXh v hv) (hw.lk p hp v hv)
def Pt0{ps:`aA}(hw:`eM):∀(M f:Nat) (o:`_) (B:`m) (T:`j) (W:`n) (s:Sl),`asq->M<f->M<=4000->`ah'+2700*M<=11000000->`kg+M<=20000->`sm->(∀x∈B,`sn)->(∀d∈W,`oh) ->
  (`aXi).length<=11000000/\∃B' T' s',S6 PT PB f `aW3=`a (.nx (st ps (`aXi) B' T' [] s')):=by
 intro M
 induction M with
 | zero =>
  intro f o B T W s h1 h2 _ h4 _ _ _ _;have:W=[]:=k6.mp `k;subst this;obtain⟨g,rfl⟩:∃g,f=g+1:=`aXj;rw[pk,`dh];refine`aXk;unfold S6;rw[V00,`b9 `ax]
 | succ M ih =>
  intro f o B T W s h1 h2 h3 h4 h5 hn J hW;refine `e;obtain⟨g,rfl⟩:∃g,f=g+1:=`aXj;cases W with
  | nil =>
   refine `b;rw[pk,`dh];refine`aXk;unfold S6;rw[V00,`b9 `ax]
  | cons d W =>
   rw[`Y] at h1;have hd:=hW d B0;have O:∀d∈W,`oh:=λe he=>hW e (A7 _ he)
   have a3:`bZ<=`aD:=by
    have:=`aif hn (m:=`oj) λy hy=>`gl (J y hy)
    rwa [y4] at this
   have a1:=hw.len.2;have sp:=ee0 hw s (o:=o) (B:=B) (T:=T) (W:=W) (d:=d) `k `k hd `k `k;let#[_,i2]:=W80 hw (B:=B) (T:=T) `k `k hd;have Z:(`Em).length+51*(`aD - (`w9).length)<=M/\(nT T d).length<=`kg+1/\(`w9).Nodup/\(∀x∈`w9,`sn)/\∀e∈`Em,It `aD e:=by
    refine `e;rcases hd with⟨x,rfl,hs⟩|rfl|⟨x,rfl,hx⟩|⟨j,rfl,hj⟩
    ·refine `b;refine#[`asr,?_,hn,J,O]
     show (if x∈T then T else T++[x]).length<=_;split
     ·lia
     ·rw[`Z,`c7];lia
    ·refine `b;exact`aXl
    ·refine `b;exact`aXl
    ·have e1:`aW':=`aW!
     have e2:`aW?:=`aXa
     refine `b;rw[e1,e2]
     by_cases h:`eE
     ·rw[`cV,`cV]
      exact#[`J,`XP,hn,J,O]
     ·rw[`ej,`ej]
      let#[_,w2]:=M4 hj;have a2:=(`pl).gp.len;have Y:`aXm:=y6.mpr #[hn,`a4,`aXn];have U:∀x∈`l8,`sn:=λx hx=>by
       rcases `jl with z|z
       ·exact J x z
       ·rw[`e9];exact hj
      have hl2:`aXo<=`aD:=by
       have:=`aif Y (m:=`oj) λy hy=>`gl (U y hy)
       rwa [y4] at this
      refine#[?_,`XP,Y,U,λe he=>?_]
      ·rw[`Z] at hl2 ⊢
       rw[`Z];simp only[`c7] at hl2 ⊢;lia
      ·rcases `ep he with z|z
       ·exact `uT w2 e z
       ·exact O e z
   let#[k1,k2,k3,k4,k5]:=Z;have:=ih g `ait (`w9) (nT T d) (`Em) `tj k1 `k `k `Qp `k k3 k4 k5;rw[`bB] at this;let#[q0,B',T',s',q]:=`E;refine `b;refine#[q0,B',T',s',?_];unfold S6;rw[V00,`bG (`l9)];simp only[sp];exact q
def pak(ps:`aA)(r:Nat):`_:=pk ps 100000 [] [] [lkd r]
def W30{ps:`aA}(hw:`eM):qk0 `uZ=`a (`o ((pak ps 0).map `g))/\(pak ps 0).length<=11000000:=by
 have J:=hw.len.2;let#[q0,B',T',s',q]:=Pt0 hw 3500 100000 [] [] [] `J0 .un `IU `r `r `ax `ax U1 (λx hx=>by cases hx) (λd hd=>by
  rw[`uU];exact `s (`s (`s #[0,rfl,hw.len.1])))
 rw[`gu] at q0 q;refine#[Q3 rfl ?_,q0];refine t8 (δ':=[`cn,`n3,.un,.un,.un,.un]) rfl (t8 (δ':=[`cn,`n3,`aiw,.un,.un,.un]) rfl (t8 (δ':=[`cn,`n3,`aiw,`aiw,.un,.un]) rfl (t8 (δ':=st ps [] [] [] `J0 .un) rfl `aXp)))
theorem on0(f:`kM):∀ps:`cr,`WB (`asL f)=`aXq
 | []=>rfl
 | `mF=>by
  rw[`ab,`ab,`ab,`dX,on0 f ps,`ab]
theorem q10(f:`kM)(hf:∀s,f `gn=`eg):∀ps:`cr,(`aXq).flatMap two=`asv f
 | []=>rfl
 | `mF=>by
  rw[`ab,`Ej,q10 f hf ps,`Ej,`aZ];show[`X_,f p.2]++_=[f (`u p.1),f p.2]++_;rw[hf]
def ao0(π:`hk)(p:Pt):cnt `Qq=`uK/\kn `Qq=`fE/\tx `Qq=tx p/\its `Qq=`aix/\`aXr/\(`JM).all=`wO:=by
 have hv:`aXr:=O40 p _ (by rw[`P]);cases p with
 | text w=>exact#[rfl,rfl,rfl,rfl,hv,rfl]
 | row vs=>exact#[by show (`j3 `h0).length=`cK;rw[`P],rfl,rfl,rfl,hv,rfl]
 | table ps =>
  have e:rel π (`mK)=`z4 (`JN):=C8 `XD (on0 `h0 ps);refine`aXs
  ·rw[e];show `aXt;rw[`P]
  ·rw[e];exact `aXu
  ·rw[e];show `aXv++[]=`g3++[];rw[`b6];rfl
 | rcd c ps =>
  have e:rel π (`DV)=`nY c (`JN):=C8 (`Jx c) (on0 `h0 ps);refine`aXs
  ·rw[e];show `aXt;rw[`P]
  ·rw[e]
   show `JA::_=`JA::`asK;rw[← `aXu]
  ·rw[e];show `aXv++[c]=`g3++[c];rw[`b6];rfl
def od0(π:`hk)(j:Nat):lkv π `kj=`aXw:=by unfold lkd lkv;simp only[`cy]
def Nq0(B:`m)(j:Nat):`aiy=`XO:=by unfold nB lkd;simp only[`cy]
def Ng0(ps:`aA)(B:`m)(W:`n)(j:Nat):nW ps B W `kj=`ask:=by unfold nW lkd;simp only[`cy]
def ct0(ps:`aA)(B:`m)(T:`j)(j:Nat):`En=`aW1:=by
 unfold hb lkd;simp only[`cy]
def laid(ps:`aA)(L:`m):`aA:=`asV
def Lo0{ps:`aA}(hw:`eM)(h0:`aXx)(hL:∀k∈L,k<`aD)(hc:∀k∈L,∀i∈tgs `aXy,i∈L):Wb (laid ps L):=by
 have hl:(laid ps L).length=`AU:=by unfold laid;rw[`P]
 refine#[by rw[hl];exact h0,`gf,λp hp v hv=>?_]
 ·refine `e;let#[k,hk,rfl]:=`D5
  let#[_,w2]:=M4 (hL k hk);have hq:=`pl;let#[r1,_,_,_,r5,r6]:=`aXz;refine `b;refine#[by rw[r1];exact hq.cnt,λv hv=>?_,by rw[r6];exact hq.names,by rw[r5,`P];exact hq.few];rw[r5] at hv;let#[u,hu,rfl]:=`d9 hv;have hb:=`Qr u hu;cases hb with
  | non=>exact `x
  | lk i _ =>
   rw[`aXA];exact .lk _ (by have:=`aXB;lia)
  | int z hz=>exact `g z hz
 ·refine `e;let#[k,hk,rfl]:=`D5
  let#[_,w2]:=M4 (hL k hk);let#[_,_,_,_,r5,_]:=`aXz;rw[r5] at hv;let#[u,hu,rfl]:=`d9 hv;have hb:=(`pl).vals u hu;refine `b;rw[hl];cases hb with
  | non=>exact λj e=>nomatch e
  | lk i _ =>
   rw[`aXA];exact Bw.Nd0 (`aXB)
  | int z hz=>exact λj e=>nomatch e
universe Km
namespace Rk
open DL W Rm StrLaws
open Bw (bs hi)
def q00{S:RS}{w:`bX}(hw:`dF)(hv:`k1):`l5=S:=by
 refine `e;let#[c,b,u,nm,w',dg,l,sp]:=S;have:w'=`ut:=hw;subst this;refine `b;cases w<;>first|rfl|exact `aUl
theorem fo0{S:RS}{w:`bX}(hw:`dF)(hv:`k1):next S=`PW:=q00 (S:=`PW) hw hv
theorem Runs.one{S:RS}{b:Int}(hb:`PV)(ht:`ahJ)(hl:`ahK)(hc:`PX)(th:Th S1)(hk:`Xf=`g6:=by first|rfl|(subst_vars;rfl)):`br S [b] (next S1):=`aq hb ht hl hc (`uX) th hk
def ux0{S:RS}(th:`hm){d:D}(hd:`kW):Th (`iT):=by
 cases hu:`cx with
 | nil =>
  unfold Th RS.hold;rw[hu];exact th
 | cons k u =>
  intro q hq;unfold RS.hold at hq;rw[hu] at hq;let#[i,hi]:=x3.mp hq;rw[`mN] at hi;cases e:`dT[i]? with
  | none=>rw[e] at hi;cases hi
  | some y =>
   have hy:=th y (D0 e);rw[e] at hi
   by_cases z:k=i
   ·simp[z] at hi
    rw[← hi];show trs (y.2++[d])=`c;have:∀l:`n,`aiz->trs `JP=`c:=by
     intro l
     induction l with
     | nil=>intro _;show (tr d&&`c)=`c;rw[hd];rfl
     | cons a l ih =>
      intro h;unfold trs at h;rw[`aI] at h;show `aXC;rw[h.1,ih h.2];rfl
    exact `E _ hy
   ·simp[z] at hi
    rw[← hi];exact hy
def Ll0(S:RS)(w:`bX)(ws:`be)(hw:`dF)(hv:`Ea)(hd:`w')(hl:`wV)(hc:`mO)(th:`hm):∀r:Nat,(`iY∨r*128<=323)->∃c,`br S (hi r) { S with digits:=`kf,count:=c }:=by
 intro r
 induction r using Nat.strongRecOn with
 | ind r ih =>
  intro hg
  by_cases h0:r=0
  ·subst h0
   rw[Bw.Wp0];refine`aXD;have e:({ S with digits:=`s3,count:=`g6 }:RS)=S:=by
    refine `e;let#[c,b,u,nm,w',dg,l,sp]:=S;have:dg=0:=hd;subst this;refine `b;rfl
   rw[e];exact `X S
  ·let#[c,h]:=ih `n? `k `aXE
   refine`aiA;rw[Bw.I20 r h0];refine h.app ?_;obtain⟨S1,J⟩:∃S1:RS,S1={ S with digits:=`P7,count:=c }:=`ad;have e1:S1.digits*128+`hX%128=`kf:=by
    rw[J];show `P7*128+`hX%128=`kf;lia
   have w1:`wU=`ut:=`LU
   have ht:U8 (R S1) [`g `hX]=`a (`c4,R `aiB):=by
    refine mi0 S1 _ w ws w1 hv _ _ ?_;have:=Pm0 S1 w ws w1 `hX `k (by rw[e1];lia) (by rw[e1];rcases hg with z|z;exact `gc;right;lia);rw[e1] at this;exact `E
   have:=`Eo (b:=`hX) `k ht (by rw[J];exact hl) `aXF `aXG;rw[← J];have e2:next `aiB={ S with digits:=`kf,count:=c+1 }:=(fo0 (S:=`aiB) w1 (`Ep)).trans `aXH;rw[e2] at this;exact `E
def Zn0(S:RS)(w:`bX)(ws:`be)(hw:`dF)(hv:`Ea)(hd:`w')(hl:`wV)(hc:`mO)(N:Nat)(hg:`iY∨N<=323)
  (th:`hm) (S2:RS) (hl2:S2.wait.length<100000) (hc2:S2.wait.count `cm<=S2.un.length) (th2:Th S2)
  (ht:∀c,R4 (R `w!) [`g `fF]=`a (`c4,R `Eq)):∃c,`br S (bs N) (`Eq:RS).ends:=by
 let#[c,h]:=Ll0 S w ws hw hv hd hl hc th (N/128) `aXE;refine`aiA;unfold bs;refine h.app ?_;have t:=`Eo (S:=`w!) (S1:=`Eq) (b:=`Qs) `k (mi0 `w! `Eq w ws hw hv _ _ (Tx0 `w! `Eq `Qs `k _ (by
  have e:((`w!:RS).digits*128+`Qs)=`fF:=by
   show `asw*128+`Qs=`fF;lia
  rw[e];exact ht c))) hl2 hc2 th2
 exact t
def Yb0(z:Int):ut0 ((`Qt:Nat):Int)=z:=by
 unfold ut0 Bw.fold
 by_cases h:z<0
 ·rw[`cV,`D3]
  lia
 ·rw[`ej,`PB]
  lia
def Vh0(S:RS)(ok:`fZ)(ws:`be)(hw:`ahD)(hd:`w')(hl:`Er)(hc:`mO)(th:`hm)(N:Nat)(d:D)(hn:`kU)(htr:`kW)
  (h:`fF%4=1/\d=`aXI∨`fF%4=2/\`aXJ/\0<=`fF/\d=`aXK∨`fF=0/\`p!):∃c,`br S (bs N) ({ `iT with count:=c }:RS).ends:=by
 refine Zn0 S `d? ws hw `Ck hd `k hc N `f3 th (`iT) ?_ ?_ (ux0 th htr) λc=>?_
 ·rw[vc0,`AV];lia
 ·rw[vc0,e00,hw]
  rw[hw] at hc;have:(`asH::ws).count `cm=`Es:=by rw[`so];simp
  show `Es<=_;lia
 ·have:=U00 `w! `aiC ws hw `fF d hn h
  exact `E
def T60(S:RS)(ok:`fZ)(w:`bX)(ws:`be)(hw:`dF)(hv:`Ea)(hd:`w')(hl:`hT<=9000)(hul:`PI)(hc:`mO)(th:`hm)(kd n:Nat)(hk:`pe)(h1:`ahB)(h2:`ahC):∃c,`br S (bs (`W?)) ({ `ux with count:=c }:RS).ends:=by
 have J:n<=20:=`aUN
 have Y:=or0 kd n J;have O:`aXL:=by
  rw[`aXM];intro z
  match kd,hk with
  | 0,_=>have:=`Qu;cases `E
  | 1,_=>have:=`Qu;cases `E
  | 2,_ =>
   let#[l,hl,hm]:=`Qv;rw[`Qw] at hm;simp at hm
  | 3,_ =>
   rcases `cf z with z|z
   ·cases z
   ·let#[l,hl,hm]:=`Qv
    rw[`Qw] at hm;simp at hm
 have U:`Es<=`hU:=by
  rw[hw,`so] at hc;lia
 have e1:(`ux).wait=`q3++`i1:=by
  show `q3++([`cm]++`mL)=_;rw[hw];rfl
 refine Zn0 S w ws hw hv hd `k hc _ (by rcases hv with rfl|rfl;right;split at h1<;>lia;exact `bQ) th (`ux) ?_ ?_ (λq hq=>by
  rcases `ep (show q∈(`Aw).begun++[(kd,[])] from hq) with z|z
  ·exact ux0 th rfl q z
  ·rw[`e9];rfl) λc=>?_
 ·rw[e1,`Z,`Y]
  have:`hT=`vO+1:=`aXN
  lia
 ·rw[e1,`aXO,`so,O]
  have:(`ux).un.length=`hU+1:=rfl;rw[`E];simp;lia
 ·have:=Rd0 { S with digits:=((`W?)/128:Nat),count:=c } `aiC (by show `im;rw[hw];simp) (by show `ahA;lia) hul kd hk n h1 h2
  exact `E
universe Rk
namespace Rk
open DL W Rm StrLaws
open Bw (bs hi sg)
def R90(n:Nat)(h:n<128):bs n=[`dM]:=by
 unfold bs;rw[show `Jr=0 by lia,Bw.Wp0,show n%128=n by lia];rfl
def count_tail{w:`bX}(hv:`k1):(`ut).count `cm=`Es:=by
 rw[`so];simp[hv]
def V20(S:RS)(ok:`fZ)(w:`bX)(ws:`be)(hw:`dF)(hv:`Eb)(h0:`PU)(hl:`Er)(hc:`mO)(th:`hm)(h60:`kb<=60)(b:Nat)(hb:b<`kb)(nm:`m)(hnm:`ah7)
  (hin:`ah8):∃c,`br S (bs (2*b)) ({ `Jq with count:=c }:RS).ends:=by
 have hf:`k1:=`Ep
 rw[`aXP];refine#[`Ay,?_];have:=`Eo (S:=S) (S1:=`Jq) (b:=`ah9) `k (sn0 S _ w ws hw hv _ _ (`s #[h0,Zm0 S ok w ws hw b hb nm hnm hin])) `aXQ (by
  rw[vc0,e00,hw];rw[hw,`aiD] at hc;exact hc) (`aiE)
 exact `E
def bq0(S:RS)(ok:`fZ)(w:`bX)(ws:`be)(hw:`dF)(hv:`Eb)(hl:`Er)(hc:`mO)(th:`hm)(h60:`ahS)(hln:∀n∈`b3,`mP)(nm:`m)(h8:`dz<=8)(hnd:`aXR)(hA:∀n∈`b3,∀c∈n,`pg)(hN:∀c∈nm,`pg)(hni:`aXS) :
  ∀(rest sp:`m) (c:Nat),sp++`a3=nm->`a3≠[]->∃c',`br `aXT (rest.map `JT) ({ `rg with count:=c' }:RS).ends:=by
 have hf:`k1:=`Ep
 have U:∀b∈Q4,`Jc:=`aa
 intro rest
 induction `a3 with
 | nil=>intro sp c _ h;exact `_N
 | cons b rest ih =>
  intro sp c he _;obtain⟨S1,J⟩:∃S1:RS,S1=`aXT:=`ad;rw[← J];have hb:`P2:=hN b (by rw[← he];simp);have a2:=U b hb;have Y:`aiF+(`sB+1)=`dz:=by rw[← he,`Z,`Y]
  have O:`uF `b3 `dz `Qx=`c:=ev0 `b3 hnd hA nm hN hni `Qx #[`a3,`asz];have w1:`wU=`ut:=`LU
  rw[`ab]
  by_cases hr:`a3=[]
  ·subst hr
   refine`aiA;have Z:`XT=nm:=he;have ht:=Vk0 S1 (by rw[J];exact`aiC) (by rw[w1];simp) b hb `aXU `aXV (by rw[J];show `aiF+1=`dz;simpa using Y) `aXW `aXX;have e1:`uI S1 (`asA)=`aiG:=by
    rw[J];show `uI _ `Qx=_;rw[Z];rfl
   rw[e1] at ht;have e2:(`rg).wait=`mL:=rfl;have e3:(`rg).un=`cx:=rfl;exact `Eo (S:=S1) (S1:=`aiG) (b:=`n9) `k `aXY (by show (`rg).wait.length<100000;rw[e2,`AV];lia) (by
    show (`rg).wait.count `cm<=(`rg).un.length;rw[e2,e3,hw];rw[hw,`aiD] at hc;exact hc) (ux0 (S:={ S with names:=`b3++[nm] }) th rfl)
  ·let#[c',h]:=ih `Qx (c+1) `Et hr
   refine#[c',?_];have a1:0<`sB:=`OO hr;have ht:=S40 S1 b hb `aXU `aXV (by rw[J];show `aiF+1<`dz;lia) `aXW `aXX;have e2:next `aXZ={ S with length:=`dz,spelled:=`XT,count:=c+1 }:=(fo0 (S:=`aXZ) w1 hf).trans `aXH;refine `aq `k `aXY (by rw[J];show `wV;lia) `aXF ?_ `aXG;rw[e2];exact h
def Qu0(S:RS)(ok:`fZ)(w:`bX)(ws:`be)(hw:`dF)(hv:`Eb)(h0:`PU)(hsp:`um=[])(hl:`Er)(hc:`mO)(th:`hm)(h60:`ahS)(hln:∀n∈`b3,`mP)(nm:`m)(h1:1<=`dz)(h8:`dz<=8)(hnd:`aXR)(hA:∀n∈`b3,∀c∈n,`pg)(hN:∀c∈nm,`pg)(hni:`aXS) :
  ∃c,`br S (bs (2*`dz+1)++`H' `JT) (`aiG:RS).ends:=by
 have hf:`k1:=`Ep
 let#[c,h]:=bq0 S ok w ws hw hv hl hc th h60 hln nm h8 hnd hA hN hni nm [] (`Ay) rfl (by intro z;rw[z] at h1;simp at h1);refine#[c,Runs.app ?_ h];rw[`aXP];have ht:=Vw0 S h60 hln `dz h1 h8 (ev0 `b3 hnd hA nm hN hni [] (List.nil_prefix));have:=`Eo (S:=S) (S1:=`aiH) (b:=((2*`dz+1:Nat):Int)) `k (sn0 S _ w ws hw hv _ _ (`s #[h0,ht])) (by show `wV;lia) hc th;have e2:next `aiH={ S with length:=`dz,spelled:=[],count:=`Ay }:=(fo0 (S:=`aiH) hw hf).trans (by rw[← hsp]);rw[e2] at this;exact `E
def xp0(S:RS)(k:Nat)(l:`m)(ws:`be):RS:={ S with begun:=`z7 k λp=>(p.1,p.2++`AD),wait:=ws,digits:=0 }
def modify_id(f:`w?)(hf:∀a,f a=a)(l:`aT)(k:Nat):`Qy=l:=by
 have:f=id:=funext hf;rw[`E];exact List.modify_id k l
def xy0(f g:`w?)(l:`aT)(k:Nat):(`Qy).modify k g=`asB k (λa=>g (f a)):=by
 apply Ec0;intro i;rw[`mN,`mN,`mN];cases `GD with
 | none=>rfl
 | some a =>
  by_cases q:k=i
  ·simp[q]
  ·simp[q]
def Vb0:∀(l:`m) (S:RS) (k:Nat) (u:`m) (ws:`be),`fZ->`hW->`dR=`aiI->(∀q∈`dT,`aX_)->`w'->`Er->`mO->`hm->(∀c∈l,c∈sw0)->∃c,`br `l5 (`aX0) ({ xp0 S k l ws with count:=c }:RS).ends:=by
 have U:∀b∈sw0,`Jc:=`aa
 intro l
 induction l with
 | nil =>
  intro S k u ws ok hu hw hq hd _ _ _ _;refine`aXD;have e:({ xp0 S k [] ws with count:=`g6 }:RS)=S:=by
   refine `e;let#[c,b,u',nm,w',dg,le,sp]:=S;have e1:w'=ws:=hw;have e2:dg=0:=hd;subst e1 e2;refine `b;unfold xp0;simp only[];rw[modify_id _ (`aX1)]
  rw[e];exact `uX
 | cons b l ih =>
  intro S k u ws ok hu hw hq hd hl hc th hs;have J:`dR=`kc::(`aiI):=by rw[hw,`Y,`eI];rfl
  have hb:=hs b B0;have a1:=U b hb;have ht:=ce0 S ok (by rw[J];simp) b hb;have hk:=`aUc;obtain⟨S1,O⟩:∃S1:RS,S1={ `Jg with count:=`Ay }:=`ad;have b1:`Qz=`z7 k λp=>(p.1,p.2++[W6 [b]]):=by
   rw[O];unfold RS.hold;rw[hu]
  have w1:`wU=`aiI:=by rw[O];show `mL=_;rw[J];rfl
  have u1:S1.un=k::u:=by rw[O];exact hu
  have Y:∀q∈`Qz,`aX_:=λq hm=>by
   rw[b1] at hm;let#[i,hi]:=x3.mp hm;rw[`mN] at hi;cases e:`dT[i]? with
   | none=>rw[e] at hi;cases hi
   | some q0 =>
    have:=hq q0 (D0 e);rw[`Y] at this;rw[e] at hi
    by_cases z:k=i
    ·simp[z] at hi
     rw[← hi];simp;lia
    ·simp[z] at hi
     rw[← hi];lia
  have Z:Ok S1:=#[λj hj=>by
   rw[b1,`si];rw[u1,← hu] at hj;exact `At j hj,by rw[b1,`si];exact `JQ,λq hm=>by have:=Y q hm;lia,`aX2,by rw[O];exact `asx]
  have c1:`PX:=by
   rw[w1,u1,← hu];rw[J,`JR `r] at hc;exact hc
  let#[c,h]:=ih S1 k u ws Z u1 w1 Y (by rw[O];rfl) (`aX2) c1 (by rw[O];exact `aiE) λx hx=>hs x `pU
  refine#[c,?_];have e3:({ xp0 S1 k l ws with count:=c }:RS)=`aX3:=by
   unfold xp0;rw[b1,xy0,O];simp only[`ab,`bB,`e7,`gu];rfl
  rw[e3] at h;rw[q00 J `r,`ab];have:=Runs.cons (S:=S) (S1:=`Jg) (b:=`n9) (r:=`aX0) (S':=(`aX3:RS).ends) `k (Y70 S _ _ J _ _ ht) `aXQ (by
   rw[vc0,e00,J];rw[J,`JR `r] at hc;exact hc) (by
   unfold next;rw[O] at h;exact h) (`aiE)
  exact `E
universe Rk
namespace Rk
open DL W Rm
open Bw (bs its)
open Km (hb nB nT nW pk lkd It Wb)
inductive Pk (ps:`aA):`m->`j->`n->`m->`j->`_->Prop
 | nil (B:`m) (T:`j):Pk ps B T [] B T []
 | str {B:`m} {T:`j} {s:Str} {ds:`n} {B':`m} {T':`j} {b:`_} (h:Pk ps B `JZ ds B' T' b):Pk ps B T (`eg::ds) B' T' (`aij++b)
 | val {B:`m} {T:`j} {d:D} {ds:`n} {B':`m} {T':`j} {b:`_} (hd:`aiJ) (h:`k2):Pk ps B T `kd B' T' (`rf++b)
 | old {B:`m} {T:`j} {j:Nat} {ds:`n} {B':`m} {T':`j} {b:`_} (hj:`eE) (h:`k2):Pk ps B T (`h1::ds) B' T' (`En++b)
 | new {B:`m} {T:`j} {j:Nat} {ds:`n} {B1 B':`m} {T1 T':`j} {b1 b:`_} (hj:`AL) (h1:Pk ps `ki T (`AQ) B1 T1 b1) (h2:Pk ps B1 T1 ds B' T' b):Pk ps B T (`h1::ds) B' T' (`En++(b1++b))
theorem q60{B:`m}(hn:`sm)(hj:`AL):`aXm:=y6.mpr #[hn,`a4,λa ha b hb e=>by rw[`XQ] at e;exact hj `ass]
def J50{d:D}(hd:`aiJ):`h1≠d:=by
 rcases hd with rfl|⟨z,rfl⟩<;>exact λz=>nomatch z
def e80(h:`Eu=`h1):i=j:=by
 unfold lkd at h;injection h with h
 injection h with _ h
 injection h with h _
 injection h with h
 lia
def Pk.pre{ps:`aA}{B B':`m}{T:`j}{b:`_}(h:`k2):∃N,B'=B++N:=by
 induction h with
 | nil B T=>exact`aX4
 | str _ ih=>exact ih
 | val _ _ ih=>exact ih
 | old _ _ ih=>exact ih
 | new _ _ _ i1 i2 =>
  let#[N,rfl]:=i1;let#[M,rfl]:=i2;exact#[_,by rw[`bB,`bB]]
def Pk.nodup{ps:`aA}{B B':`m}{T:`j}{b:`_}(h:`k2):`sm->B'.Nodup:=by
 induction h with
 | nil B T=>exact id
 | str _ ih=>exact ih
 | val _ _ ih=>exact ih
 | old _ _ ih=>exact ih
 | new hj _ _ i1 i2=>exact λhn=>i2 (i1 (`aiK))
open T in
def Pk.links{ps:`aA}{B B':`m}{T:`j}{b:`_}(h:`k2):(∀j,`h1∈ds->j∈B')/\∀k∈B',k∉B->∀j,`asF->j∈B':=by
 induction h with
 | nil B T=>exact#[(λj h=>by cases h),λk hk hn=>`N hk hn]
 | str _ ih=>exact#[λj hj=>ih.1 j (`aX5 λz=>nomatch z),ih.2]
 | val hd _ ih=>exact#[λj hj=>ih.1 j (`aX5 (J50 hd)),ih.2]
 | old hj h ih =>
  rename_i B T j ds B' T' b;refine#[`aX6,ih.2];rcases `cf hi with z|z
  ·rw[e80 z]
   let#[N,rfl]:=`Ev;exact D6 _ hj
  ·exact ih.1 i z
 | new hj h1 h2 i1 i2 =>
  rename_i B T j ds B1 B' T1 T' b1 b;let#[N,e1]:=h1.pre;let#[M,e2]:=h2.pre;have m1:∀x∈B1,x∈B':=λx hx=>by rw[e2];exact D6 _ hx
  have J:j∈B1:=by rw[e1];simp
  refine#[`aX6,λk hk hn i hi=>?_]
  ·rcases `cf hi with z|z
   ·rw[e80 z];exact m1 _ J
   ·exact i2.1 i z
  ·by_cases hk1:k∈B1
   ·by_cases hkj:k=j
    ·subst hkj
     exact m1 _ (i1.1 i hi)
    ·exact m1 _ (i1.2 k hk1 (λz=>by
      rcases `ep z with z|z
      ·exact hn z
      ·exact hkj (N4.mp z)) i hi)
   ·exact i2.2 k hk hk1 i hi
def if0(h:It n `kj):j<n:=by
 refine `e;rcases h with⟨s,e,_⟩|e|⟨z,e,_⟩|⟨i,e,hi⟩
 ·cases e
 ·cases e
 ·cases e
 ·refine `b;rw[e80 (j:=i) e];exact hi
def Pk.range{ps:`aA}(hw:`eM){B B':`m}{T:`j}{b:`_}(h:`k2):`xa->`QA->∀j∈B',`h3:=by
 induction h with
 | nil B T=>exact λh _=>h
 | str _ ih=>exact `aiL
 | val _ _ ih=>exact `aiL
 | old _ _ ih=>exact `aiL
 | new hj _ _ i1 i2 =>
  intro h hd;have J:=`aiM;refine i2 (i1 (`kK) λd m=>`uT `JX d m) `AX
  rcases `jl with z|z
  ·exact h x z
  ·rw[`e9];exact J
open T in
def Pk.steps{ps:`aA}(hw:`eM){B B':`m}{T:`j}{b:`_}(h:`k2):`xa->`QA->∃n,`aX7/\∀(f:Nat) (W:`n),pk ps `JW B T `XU=b++pk ps f B' T' W:=by
 induction h with
 | nil B T=>exact λ_ _=>#[0,`a4,λf W=>`aiN]
 | str _ ih =>
  intro h hd;let#[n,h1,h2]:=`JU
  refine`aiO;rw[`QB,`bB,← h2 f W];rfl
 | val hd' _ ih =>
  intro h hd;let#[n,h1,h2]:=`JU
  refine`aiO;rw[`QB,`bB,← h2 f W];rcases hd' with rfl|⟨z,rfl⟩<;>rfl
 | old hj _ ih =>
  rename_i B T j ds B' T' b _;intro h hd;let#[n,h1,h2]:=`JU
  refine`aiO;rw[`QB,`bB,← h2 f W];show `En++pk ps `JW (`aiy) T `aX8=_;rw[Km.Nq0,Km.Ng0,`mp,`mp]
 | new hj p1 p2 i1 i2 =>
  rename_i B T j ds B1 B' T1 T' b1 b;intro h hd;have J:=`aiM;have O:∀x∈`l8,`sn:=λx hx=>by
   rcases `jl with z|z
   ·exact h x z
   ·rw[`e9];exact J
  have hI:=`uT `JX;let#[n1,a1,a2]:=i1 O hI;let#[n2,c1,c2]:=i2 (p1.range hw O hI) `AX
  have U:=`aX9;refine#[`XV,by rw[`Z,`c7] at a1;rw[`Y];lia,`asD];rw[`aX',`bB,`bB,← c2 f W,← a2 `JY `XU];show `En++pk ps (n1+`JY) (`aiy) T `aX8=_;rw[Km.Nq0,Km.Ng0,`mq,`mq]
def Pk.ex{ps:`aA}(hw:`eM):∀(m:Nat) (ds:`n) (B:`m) (T:`j),`asp<=m->`sm->`xa->`QA->∃B' T' b,`k2:=by
 intro m
 induction m with
 | zero =>
  intro ds
  induction ds with
  | nil=>exact `aX!
  | cons d ds ih =>
   intro B T hm hn hB hd;refine `e;have J:∀d∈ds,`oh:=`ah1
   rcases `ah0 with⟨s,rfl,_⟩|rfl|⟨z,rfl,_⟩|⟨j,rfl,hj⟩
   ·let#[B',T',b,h]:=`aX?
    refine `b;exact`aYa
   ·let#[B',T',b,h]:=`xb
    refine `b;exact`aYb
   ·let#[B',T',b,h]:=`xb
    refine `b;exact`aYc
   ·by_cases hj':`eE
    ·let#[B',T',b,h]:=`xb
     refine `b;exact`aYd
    ·refine `b;exfalso
     have:=`u_ `aiP (m:=`oj) λy hy=>`gl (by
      rcases `ep hy with z|z
      ·exact hB y z
      ·rw[`e9];exact hj)
     rw[`k0,`Z,`c7] at this;lia
 | succ m im =>
  intro ds
  induction ds with
  | nil=>exact `aX!
  | cons d ds ih =>
   intro B T hm hn hB hd;refine `e;have J:∀d∈ds,`oh:=`ah1
   rcases `ah0 with⟨s,rfl,_⟩|rfl|⟨z,rfl,_⟩|⟨j,rfl,hj⟩
   ·let#[B',T',b,h]:=`aX?
    refine `b;exact`aYa
   ·let#[B',T',b,h]:=`xb
    refine `b;exact`aYb
   ·let#[B',T',b,h]:=`xb
    refine `b;exact`aYc
   ·by_cases hj':`eE
    ·let#[B',T',b,h]:=`xb
     refine `b;exact`aYd
    ·have O:∀x∈`l8,`sn:=λx hx=>by
      rcases `jl with z|z
      ·exact hB x z
      ·rw[`e9];exact hj
     have hI:=`uT `aiQ;let#[B1,T1,b1,h1]:=im (`AQ) `ki T (`Do) `aiP O hI;let#[N,e1]:=h1.pre;let#[B',T',b,h2]:=im ds B1 T1 (by rw[e1];simp only[`Z,`c7];lia) (h1.nodup `aiP) (h1.range hw O hI) J;refine `b;exact#[B',T',_,.new hj' h1 h2]
def Od0{ps:`aA}(hw:`eM):∃L T b1,`aiR/\`aYe/\L.Nodup/\(∀k∈L,k<`aD)/\(∀k∈L,`aYf)/\∃N,L=0::N:=by
 refine `e;have J:=`QC;have hB:∀j∈[0],`h3:=`aYg
 have hI:=`aYh;let#[L,T,b1,h]:=Pk.ex hw 60 (`J_) [0] [] `k `ax hB hI;have hn:=`aYi;have hr:=`aiS hw hB hI;let#[N,hN]:=`Ev;have hp:`aYj:=`aYk;let#[n,a1,a2]:=hp.steps hw `aYl `aYm;have hl:`aYn:=by
  have:=`u_ hn (m:=`oj) λy hy=>`gl (hr y hy)
  rwa [y4] at this
 have O:n<=100000:=by simp only[`Y,`fy] at a1;lia
 refine `b;refine#[L,T,b1,h,?_,hn,hr,λk hk j hj=>?_,N,hN]
 ·have:=a2 `AY []
  rw[`aYo,`dh] at this;show pk ps 100000 [] [] `J0=_;rw[`E];have e:pk ps `AY L T []=[]:=by
   generalize `XY=m;cases m<;>rfl
  rw[e,`dh,`dh]
 ·by_cases z:k∈[0]
  ·rw[`e9] at hj
   exact h.links.1 j hj
  ·exact h.links.2 k hk z j hj
universe Rk
namespace Rk
open DL W Rm StrLaws
open Bw (bs its two kn cnt Vb Gq)
open Km (hb nB nT nW pk lkd It Wb)
open K22 (lkv rel)
theorem mm0:∀(ps:`cr) (pre:`n) (d:D) (rest:`n),`aYp->∃ps1 q ps2,ps=ps1++q::ps2/\(pre=ps1.flatMap two/\d=`A3∨pre=ps1.flatMap two++[`A3]/\d=q.2)
 | [],pre,d,`a3,h=>by
  cases pre<;>cases h
 | q::ps,pre,d,`a3,h=>by
  have h:`J8::q.2::`i_=`AZ:=h
  match pre,h with
  | [],h =>
   injection h with h1 h2
   exact#[[],q,ps,rfl,`t #[rfl,h1.symm]]
  | [x],h =>
   injection h with h1 h2
   injection h2 with h2 h3
   exact#[[],q,ps,rfl,`s #[by rw[← h1];rfl,h2.symm]]
  | x::y::pre,h =>
   injection h with h1 h2
   injection h2 with h2 h3
   let#[ps1,q',ps2,e,hh]:=mm0 ps pre d `a3 h3;refine#[q::ps1,q',ps2,`awS,?_];subst h1 h2;rcases hh with⟨a,b⟩|⟨a,b⟩
   ·left
    exact`aYq
   ·right
    exact`aYq
def pw(n:Nat):`be:=`aUL
def e60(n:Nat):pw `io=`nZ::`d?::pw n:=by
 unfold pw;rw[`eI,`kI];rfl
def S80(n:Nat):(pw n).length=2*n:=by
 induction n with
 | zero=>rfl
 | succ n ih=>rw[e60,`Y,`Y,ih];lia
theorem oj0:∀(a b:Nat),(pw (a+b)).drop (2*a)=pw b
 | 0,b=>`aiN
 | a+1,b=>by
  rw[show a+1+b=(a+b)+1 by lia,e60,show 2*(a+1)=2*a+1+1 by lia];exact oj0 a b
def yd0(ps:`cr):`aWq:=by
 induction ps with
 | nil=>rfl
 | cons q ps ih =>
  rw[`Ej,`Z,ih,`Y];show 2+_=_;lia
theorem pd0:∀ps:`cr,`aYr=`lU λp=>(`X_,p.2)
 | []=>rfl
 | q::ps=>by
  show (`J8,q.2)::`aYr=_;rw[pd0 ps];rfl
theorem xx0:∀{l:`n},(∀d∈l,`kW)->`aiz
 | [],_=>rfl
 | d::l,h=>by
  unfold trs;rw[`QD,xx0 `vV];rfl
theorem m00:∀{l:`n},(∀d∈l,`kU)->vo0 l=`c
 | [],_=>rfl
 | d::l,h=>by
  unfold vo0;rw[`QD,m00 `vV];rfl
theorem fl0(π:`hk)(s:Str):lkv π `gn=`eg:=rfl
def hf0{d:D}(h:It n d)(π:`hk):tr `aYs=`c/\nrf `aYs=`c:=by
 refine `e;rcases h with⟨s,rfl,_⟩|rfl|⟨z,rfl,_⟩|⟨j,rfl,_⟩
 ·refine `b;exact`ln
 ·refine `b;exact`ln
 ·refine `b;exact`ln
 ·refine `b;rw[show lkv π `oc=`aXw from `QE π j]
  exact#[rfl,jk0 _]
def Ua0(p:Pt):`fE<4:=by have:=Bw.N40 p;lia
def rs0{p:Pt}(hp:p.Ok):`aib<=25:=by
 cases p with
 | text w=>exact `cN
 | row vs=>have:=hp.1;show `cK<=25;lia
 | table ps=>have:=`pm hp;show `Jy<=25;rw[yd0];lia
 | rcd c ps=>have:=`pm hp.2;show `aie<=25;rw[`Y,yd0];lia
def stage(p:Pt)(hp:p.Ok)(hq:Gq p)(hI:∀d∈`fD,It n d)(ht:`QF)(pre:`n)(d:D)(rest:`n)(h:`fD=`AZ):∃w wr,`aiT=w::wr/\((∀s,d≠`eg)->`iY) /\
  ∀s,d=`eg->w=`mT∨`uB/\∀π,Held `aYt/\`uV ∉M7 `aYt:=by
 refine `e;have a1:∀x∈pre,It n x:=λx hx=>hI x (by rw[h];exact D6 _ hx)
 have a4:`fC<=24:=by
  have:=rs0 hp;rw[h,`Z,`Y] at this;lia
 have hv:=`Qr;have hs:∀(s:Str),`uV=`eg:=λs=>rfl
 have Y:∀(v:D),`kk->∀s,v≠`eg:=λv hv s e=>by subst e;cases hv
 have a3:∀π,trs (`A_)=`c:=fun π=>xx0 λx hx=>by
  let#[y,hy,rfl]:=`C3;exact(`aYu).1
 have a2:∀π,vo0 (`A_)=`c:=fun π=>m00 λx hx=>by
  let#[y,hy,rfl]:=`C3;exact(`aYu).2
 have fl:∀ps:`cr,`iI (`lU `asG)=`c:=λps=>by
  unfold flats;rw[`h7];intro x hx;let#[y,_,rfl]:=`C3;rfl
 have U:∀(J:`cr) (π:`hk),(`iR ((J.flatMap two).map `h0)).map `bK=`aYv:=λJ π=>by
  rw[← `aiU,pd0,`b6,`b6];rfl
 have Z:∀(J O:`cr) (q:`z3),((J++q::O).map `bK).Nodup->`J8 ∉`aYv:=λJ O q nd z=>by
  let#[y,hy,e]:=`d9 z;injection e with e
  rw[`aZ,`ab] at nd;exact(y6.mp nd).2.2 y.1 (`AJ #[y,hy,rfl]) q.1 B0 e
 cases p with
 | text w=>refine `b;exact `aiV
 | row vs =>
  have h:vs=`AZ:=h;refine `b;refine#[`d?,`aW `sB `d?,?_,`i0,λs e=>?_]
  ·show (`aYw).drop `fC=_
   rw[List.drop_replicate,h,`Z,`Y,show `fC+(`sB+1) - `fC=`sB+1 by lia,`eI]
  ·exact `N e (Y d (hv d (by show d∈vs;rw[h];simp)) s)
 | table ps =>
  have h:`aYp:=h;let#[J,q,O,e,hh]:=mm0 ps pre d `a3 h;have hl:`aYx:=`aYy
  rcases hh with⟨a,b⟩|⟨a,b⟩
  ·refine `b;refine#[`nZ,`aYz,?_,`aYA,λs es=>`s #[rfl,fun π=>#[#[by show 2<4;lia,#[by show (`A_).length<=30;rw[`P];lia,`dy,`dy],a3 π,a2 π,?_],?_]]]
   ·show `QG
    rw[a,yd0,hl,oj0,e60]
   ·show `aYB
    rw[a,U];exact fl J
   ·show `aYC
    rw[a,U,hs,← es,b];exact Z J O q (by rw[← e];exact PsOk.nd hp)
  ·refine `b;refine`aYD
   ·show `QG
    rw[a,`Z,yd0,hl,← `QH,oj0,e60];rfl
   ·refine `aYE
    show d∈`hY;rw[b,e];simp
 | rcd c ps =>
  have h:`ar1=`AZ:=h;cases pre with
  | nil =>
   refine `b;injection h with h1 h2
   exact#[`mT,`J4,rfl,λz=>`N h1.symm (z c),λs _=>`bQ]
  | cons x pre =>
   refine `b;injection h with h1 h2
   refine `e;subst h1;let#[J,q,O,e,hh]:=mm0 ps pre d `a3 h2;have hl:`aYx:=`aYy
   rcases hh with⟨a,b⟩|⟨a,b⟩
   ·refine `b;refine#[`nZ,`aYz,?_,`aYA,λs es=>`s #[rfl,fun π=>#[#[by show 3<4;lia,#[by show ((`JA::pre).map `h0).length<=30;rw[`P];lia,`dy,`avn],a3 π,a2 π,?_],?_]]]
    ·show `QG
     rw[a,yd0,hl,oj0,e60]
    ·show `aYB
     rw[a,U];exact fl J
    ·show `aYC
     rw[a,U,hs,← es,b];exact Z J O q (by rw[← e];exact PsOk.nd hp.2)
   ·refine `b;refine`aYD
    ·show `QG
     rw[a,`Z,yd0,hl,← `QH,oj0,e60];rfl
    ·refine `aYE
     show d∈`hY;rw[b,e];simp
def hl(π:`hk):`agk
 | `sc=>`aiW `Jl
 | p=>`aix
def v60(ps:`aA)(π:`hk)(j:Nat):`hR:=(`og,hl π `oe)
def R30(π:`hk)(p:Pt):`g8 (`fE,hl π p)=(`JM).d:=by
 cases p with
 | text w =>
  show `c8 [`lZ,W6 (`Jm (`aiW `Jl))]=_;rw[ox0];rfl
 | row vs=>rfl
 | table ps =>
  show `c8 [`l_,`aYF]=`c8 [`l_,`aYG];rw[← `aiU,pd0,Km.on0,`b6,`b6,`b6];rfl
 | rcd c ps =>
  show `c8 [`l0,`lw,`aYF]=`c8 [`l0,`lw,`aYG];rw[← `aiU,pd0,Km.on0,`b6,`b6,`b6];rfl
def kd0{w:Str}(h:`aSg):`Ew<=20/\∀c∈`aYH,c∈sw0:=by
 unfold isWord at h;rw[`aI,`OQ] at h;have e:`Ew=`eC:=rfl;refine#[`J,`Bq];have:=`DP h.2 c hc;rw[← Rv0];have h3:`agD:=`aYI
 exact h3
def Xa0{w:Str}(h:`qV w=`c):1<=`Ew/\`Ew<=8/\∀c∈`aYH,`pg:=by
 unfold isName at h;rw[`aI,`aI,`OQ,`OQ] at h;have e:`Ew=`eC:=rfl;refine#[`J,`J,`Bq];have:=`DP h.1.2 c hc;rw[← Sd0];have h3:`DW:=`aYI
 exact h3
universe Rk
namespace Rk
open DL W Rm StrLaws
open Bw (bs sg its two kn cnt tx Vb Gq)
open Km (hb nB nT nW pk lkd It Wb ix)
open K22 (lkv rel)
structure Wf(ps:`aA)(pool:`j):Prop where
 wb:`eM
 pl:`ahb<=60
 pn:∀s∈`aM,`agP
 ok:∀p∈ps,p.Ok
 nm:∀p∈ps,∀s∈`wO,`sh
structure Inv(pool:`j)(B:`m)(T:`j)(S:RS):Prop where
 len:`dS=`bZ
 few:`w7
 nms:`b3=`aYJ
 tnd:T.Nodup
 tin:∀s∈T,`sh
 d0:`w'
 l0:`PU
 s0:`um=[]
 un:∀k∈`cx,`wR
 unl:`hU<=`dS
 held:∀q∈`dT,`X0
 wl:`hT<=60*`dS+1
 wc:`ars=`hU
 th:`hm
section
variable{ps:`aA}{B:`m}{T:`j}{S:RS}
theorem Inv.tl(W:`k3)(I:`pn):`kg<=60:=C0 (`P1 `xc `xd) W.pl
def Inv.okS(W:`k3)(I:`pn):`fZ:=by
 have h1:=`c0;have h2:=I.few;have h3:=I.wl;have h4:=I.tl W;exact#[`kz,`J,λq hq=>by have:=`QI q hq;lia,`J,by rw[`k4,`P];lia]
def Inv.wlen(I:`pn):`hT<=4000:=by
 have h1:=`c0;have h2:=I.few;have h3:=I.wl;lia
def Pf0{l:`n}{d:D}(h:`aiz)(hd:`kW):trs `JP=`c:=by
 induction l with
 | nil=>show (tr d&&`c)=`c;rw[hd];rfl
 | cons a l ih =>
  unfold trs at h;rw[`aI] at h;show `aXC;rw[h.1,ih h.2];rfl
theorem gp0{l:`aT}{k:Nat}{f:`w?}{P:α->Prop}{a:α}(h:∀x∈l,P x)(ha:`aYK)(hf:P (f a)):∀x∈`Qy,P x:=λx hx=>by
 let#[i,hi]:=x3.mp hx;rw[`mN] at hi;cases e:`GD with
 | none=>rw[e] at hi;cases hi
 | some y =>
  rw[e] at hi
  by_cases z:k=i
  ·subst z
   rw[ha] at e;cases e;simp at hi;rw[← hi];exact hf
  ·simp[z] at hi
   rw[← hi];exact h y (D0 e)
def ie0{l:`aT}{k:Nat}{f:`w?}{a:α}(ha:`aYK):(`Qy)[k]?=`a (f a):=by
 rw[`mN,ha];simp
structure Aft(S S1:RS)(k:Nat)(d:D):Prop where
 bg:`Qz=`sd
 un:S1.un=`cx
 wt:`wU=`mL
def o40{k:Nat}{u:`m}(hu:`hW)(d:D):(`iT).begun=`sd:=by
 unfold RS.hold;rw[hu]
def Inv.aft(I:`pn){k:Nat}{d:D}(A:Aft S S1 k d){T1:`j}(hq:`ke)(hl:`QJ){w:`bX}(hw:`dF)(hf:`k1)
  (hn:S1.names=T1.map `asM) (h1:T1.Nodup) (h2:∀s∈T1,`sh) (h3:S1.digits=0) (h4:S1.length=0) (h5:`asy=[]) (htr:`kW):Inv `aM B T1 S1:=by
 have bl:S1.begun.length=`dS:=by rw[`rl,`si]
 refine#[by rw[bl];exact `c0,I.few,hn,h1,h2,h3,h4,h5,`abV,by rw[bl,A.un];exact I.unl,?_,?_,?_,?_]
 ·rw[bl]
  rw[A.un] at hj;exact `kz j hj
 ·rw[`rl]
  exact gp0 (P:=`aYL) (f:=`Wx) `QI hq (by show (`arn).length<=30;rw[`Z,`c7];lia)
 ·rw[bl,A.wt,`AV]
  have:=I.wl;lia
 ·rw[A.wt,A.un,hw]
  have:=I.wc;rw[hw,`aiD] at this;exact `E
 ·unfold Th
  rw[`rl];exact gp0 (P:=λq=>`ahI) (f:=`Wx) `rj hq (Pf0 (`rj q (D0 hq)) htr)
def Jq0{B M:`m}(h:`eE):ix (B++M) j=`uQ:=by
 induction B with
 | nil=>cases h
 | cons a B ih =>
  rw[`e7];unfold ix
  by_cases e:a=j
  ·rw[`fX,`fX]
  ·rw[`eK,`eK,ih `Qb]
def Ie0{B M:`m}(h:`AL):ix (B++j::M) j=`bZ:=by
 induction B with
 | nil =>
  rw[`gu];unfold ix;rw[`bc];rfl
 | cons a B ih =>
  rw[`e7];unfold ix;have h1:a≠j:=λz=>h (z▸B0)
  rw[`aas,ih λz=>h (A7 _ z),`Y]
def dq0{s t:Str}(h:`hV=`J5):s=t:=by
 have:`aE `hV=`aE `J5:=by rw[h]
 exact `E
def Ql0{T:`j}(h:T.Nodup):(`aYJ).Nodup:=by
 refine `aVx;exact(d6.mp h).imp λhn e=>hn (dq0 e)
def Qw0(W:`k3)(I:`pn){k:Nat}{u:`m}(hu:`hW)(hq:`ke)(hl:`QJ){w:`bX}(hw:`dF)(s:Str)(hs:`sh)
  (hv:w=`mT∨`uB/\`Jp/\`uV ∉M7 q):∃S1,`br S (`aij) `uW/\Inv `aM B `JZ S1/\`aYM:=by
 have ok:=`aiX;have hf:`k1:=by rcases hv with rfl|⟨rfl,_⟩<;>decide
 have O:`Eb:=by rcases hv with h|⟨h,_⟩;exact `Mj;exact `LL
 have a3:=I.wlen;have a2:=I.tl W;have Z:`kb=`kg:=by rw[`k4,`P]
 let#[n1,n8,nS]:=Xa0 (W.pn s hs);show ∃S1,`br S (`Qf) `uW/\Inv `aM B (`aiq) S1/\`aYM
 by_cases h:`l7
 ·rw[`cV,`cV]
  have a1:=Km.n70 h;have Y:=Km.Nb0 h;let#[c,r]:=V20 S ok w ws hw O I.l0 `k `QK `rj `k `XI `k `hV (by
   rw[Z,show `ar5 - `XI=`JB by lia,`k4,`cp,Y];rfl) (λz=>by
   rcases hv with h|⟨_,h1,h2⟩
   ·rw[h] at z;cases z
   ·exact#[k,u,q,hu,hq,h1,h2])
  have A:Aft S { `l4 (`uV) with count:=c } k `gn:=`aYN;exact#[_,r,I.aft A hq hl hw hf `k4 `xc `xd rfl I.l0 I.s0 rfl,A]
 ·rw[`ej,`ej]
  have U:`hV ∉`b3:=λz=>by
   rw[`k4] at z;let#[t,ht,e]:=`d9 z;exact h (dq0 e▸ht)
  have tnd:(`XL).Nodup:=y6.mpr #[`xc,`a4,`aXn];have tin:∀x∈`XL,x∈`aM:=λx hx=>by
   rcases `jl with z|z
   ·exact `xd x z
   ·rw[`e9];exact hs
  have a1:`kg<60:=by
   have:=`P1 tnd tin;rw[`Z,`c7] at this;have:=W.pl;lia
  have J:∀n∈`b3,`mP/\∀c∈n,`pg:=λn hn=>by
   rw[`k4] at hn;let#[t,ht,rfl]:=`d9 hn;let#[_,a,b]:=Xa0 (W.pn t (`xd t ht));exact#[`J,b]
  let#[c,r]:=Qu0 S ok w ws hw O I.l0 I.s0 `k `QK `rj `k (λn hn=>(J n hn).1) `hV n1 n8 (by rw[`k4];exact Ql0 `xc) (λn hn=>(J n hn).2) nS U;have A:Aft S { `uI S `hV with count:=c } k `gn:=by
   refine#[?_,rfl,rfl];show ((`aYO:RS).hold (`uV)).begun=_;exact o40 (S:=`aYO) hu _
  refine#[_,r,I.aft A hq hl hw hf ?_ tnd tin rfl rfl rfl rfl,A];show `asN=_;rw[`k4,`aZ];rfl
def Zk0(W:`k3)(I:`pn){k:Nat}{u:`m}(hu:`hW)(hq:`ke)(hl:`QJ)(hw:`ahD)(L:`m)(hL:∃M,L=B++M)(d:D)
  (hd:`p!∨(`asC)∨∃j:Nat,`eE/\d=`h1):∃S1,`br S (`rf) `uW/\`aYP/\Aft S S1 k (lkv `h2 d):=by
 refine `e;have ok:=`aiX;have Y:=I.wlen;have fin:∀(N:Nat) (d':D),nrf d'=`c->tr d'=`c->(`fF%4=1/\d'=`aXI∨`fF%4=2/\`aXJ/\0<=`fF/\d'=`aXK∨`fF=0/\d'=`x)->∃S1,`br S (bs N) `uW/\`aYP/\Aft S S1 k d':=λN d' hn J h=>by
  let#[c,r]:=Vh0 S ok ws hw I.d0 `k `QK `rj N d' hn J h;have A:Aft S { `l4 d' with count:=c } k d':=`aYN;exact#[_,r,I.aft A hq hl hw `r `k4 `xc `xd rfl I.l0 I.s0 J,A]
 rcases hd with rfl|⟨z,rfl⟩|⟨j,hj,rfl⟩
 ·refine `b;exact fin 0 `x rfl rfl (`s (`ayI))
 ·refine `b;refine fin (4*`Qt+1) `j4 rfl rfl (`t `aYQ)
  rw[show ((4*`Qt+1:Nat):Int)/4=(`Qt:Int) by lia,Yb0]
 ·have O:=Km.n70 hj
  have U:=`c0;let#[M,rfl]:=hL;refine `b;rw[`QE,Jq0 hj,`QL,`mp];refine fin `ash (lkd (`uQ)) (jk0 _) rfl (`s (`t #[`J,`J,`J,?_]));show `q6 (`uQ)=_;congr 1;lia
def gs0(A:`aT)(x:α)(f:`w?)(n:Nat)(hn:n=A.length):(A++[x]).modify n f=A++[f x]:=by
 subst hn
 induction A with
 | nil=>rfl
 | cons a A ih =>
  rw[`e7,`Y,`e7,← ih];rfl
def P60(A N:`aT)(k:Nat)(f:`w?)(h:k<A.length):`aYR=A.modify k f++N:=by
 induction A generalizing k with
 | nil=>cases h
 | cons a A ih =>
  cases k with
  | zero=>rfl
  | succ k =>
   have:=ih k (by rw[`Y] at h;lia);show a::`aYR=_;rw[`E];rfl
def V70(kd n:Nat)(hk:`pe):`aXL:=by
 rw[`aXM];intro z
 match kd,hk with
 | 0,_=>have:=`Qu;cases `E
 | 1,_=>have:=`Qu;cases `E
 | 2,_ =>
  let#[l,hl,hm]:=`Qv;rw[`Qw] at hm;simp at hm
 | 3,_ =>
  rcases `cf z with z|z
  ·cases z
  ·let#[l,hl,hm]:=`Qv
   rw[`Qw] at hm;simp at hm
def enter(W:`k3)(I:`pn){w:`bX}(hw:`dF)(hv:`Ea)(hun:∀k u,`hW->∃q,`ke/\`QJ)(j:Nat)(hj:`h3)(h60:`bZ<60) :
  ∃S1,`br S (`asi) `uW/\Inv `aM `ki T S1/\S1.un=`aiY /\
   `Qz=`QM++[(`og,if `og=0 then hl (λx=>x) `oe else [])] /\
   `wU=(if `og=0 then [] else `W9 (`og) (cnt `oe))++`i1:=by
 have ok:=`aiX;have b1:=I.wlen;have a1:=`c0;have a6:`k1:=`Ep
 have O:=W.ok _ `aiQ;generalize `h_=p at O ⊢;have hc:`uK<=(if `fE=0 then 20 else 12):=by
  cases p with
  | text t =>
   have:=(`aYS).1;show t.length<=20;exact `E
  | row vs=>exact O.1
  | table ps=>exact `pm O
  | rcd c ps=>exact `pm O.2
 have a3:`pj:=by split at hc<;>lia
 have a8:=I.unl;let#[c,r]:=T60 S ok w ws hw hv I.d0 `k `k `QK `rj `J1 `J2 (Ua0 p) hc `k;obtain⟨S0,J⟩:∃S0:RS,S0={ rq0 S `J1 `J2 with count:=c }:=`ad;rw[← J] at r;have a4:=`aUQ;have b0:S0.begun=`QM++[(`fE,[])]:=by
  rw[J,← a1];rfl
 have u0:S0.un=`aiY:=by
  rw[J,← a1];show (`Aw).begun.length::`cx=_;rw[a4]
 have w0:S0.wait=`J3++`i1:=by
  rw[J];show `J3++([`cm]++`mL)=_;rw[hw];rfl
 have a2:`Es=`hU:=by
  have:=I.wc;rw[hw,`JR a6] at this;exact `E
 have a7:`hT=`vO+1:=`aXN
 have hh:∀q∈`QM,`X0:=by
  cases hu:`cx with
  | nil =>
   unfold RS.hold;rw[hu];exact `QI
  | cons k u =>
   let#[q,q1,q2]:=hun k u hu;rw[o40 hu];exact gp0 (P:=`aYL) (f:=`asQ) `QI q1 (by show (q.2++[`A0]).length<=30;rw[`Z,`c7];lia)
 have U:(`asO).begun.length=`bZ:=by rw[jj0];exact a1
 have I0:Inv `aM `ki T S0:=by
  have Y:S0.begun.length=`QN:=by rw[b0,`Z,U];rfl
  refine#[by rw[Y,`Z];rfl,`Do,by rw[J];exact `k4,`xc,`xd,`aht,by rw[J];exact I.l0,by rw[J];exact I.s0,`aYT,?_,`wh,?_,?_,`wh]
  ·rw[Y]
   rw[u0] at hk;rcases `cf hk with z|z
   ·lia
   ·have:=`kz k z
    lia
  ·rw[Y,u0,`Y]
   lia
  ·rw[b0] at hq
   rcases `QO with z|z
   ·exact hh q z
   ·rw[`e9];exact `cN
  ·rw[Y,w0,`Z,`Y]
   have:=or0 `J1 `J2 a3;have:=I.wl;lia
  ·rw[w0,u0,`aXO,V70 _ _ (Ua0 p),`so,`Y,a2]
   simp
  ·rw[b0] at hq
   rcases `QO with z|z
   ·exact `aYU
   ·rw[`e9];rfl
 by_cases h0:`fE=0
 ·cases p with
  | text t =>
   have a5:=`aYS;let#[c',r']:=Vb0 `J5 S0 `bZ `cx (`i1) (I0.okS W) u0 (by
    rw[w0];rfl) (λq hq=>by have:=I0.held q hq;lia) I0.d0 (by have:=I0.wlen;lia) (K2 I0.wc) I0.th a5.2
   refine#[{ `X1 with count:=c' },`X3,?_,u0,?_,?_]
   ·have bb:`aiZ=`QM++[(0,`aYV `Jl)]:=by
     show `aYW;rw[b0,`aYX];rfl
    have Z:`Ex=`QN:=by rw[bb,`Z,U];rfl
    have w1:`aYY<=60*(`QN)+1:=by
     rw[`Y];have:=I.wl;lia
    refine#[by show `Ex=_;rw[Z,`Z];rfl,I0.few,I0.nms,I0.tnd,I0.tin,rfl,I0.l0,I0.s0,`aYT,?_,`wh,?_,?_,`wh]
    ·show k<`Ex
     rw[Z];have:=I0.un k hk;have:=I0.len;rw[`Z,`c7] at this;lia
    ·show `aYZ<=`Ex
     rw[Z,u0,`Y];lia
    ·have hq:q∈`aiZ:=hq
     rw[bb] at hq;rcases `QO with z|z
     ·exact hh q z
     ·rw[`e9]
      show (`aYV _).length<=30;rw[`P];lia
    ·show `aYY<=60*`Ex+1
     rw[Z];exact w1
    ·show (`X2).count `cm=`aYZ
     rw[u0,`so,`Y,a2];simp
    ·have hq:q∈`aiZ:=hq
     rw[bb] at hq;rcases `QO with z|z
     ·exact `aYU
     ·rw[`e9]
      exact xx0 λd hd=>by let#[c,_,rfl]:=`db;rfl
   ·show `aYW
    rw[b0,`aYX];rfl
   ·rfl
  | row _=>cases h0
  | table _=>cases h0
  | rcd _ _=>cases h0
 ·have ht:tx p=[]:=by cases p with|text _=>exact `N rfl h0|_=>rfl
  rw[ht,`dh,`aat,`aat];exact#[S0,r,I0,u0,b0,w0]
universe zz
def Wz0{p:Pt}(h:`QF):(`J3).length=`aib:=by
 cases p with
 | text w=>exact `_N
 | row vs=>show (`aYw).length=`cK;rw[`vN]
 | table ps=>show (`J4).length=`Jy;rw[S80,yd0]
 | rcd c ps=>show (Want.cls::`J4).length=`aie;rw[`Y,S80,`Y,yd0]
def pe0{l:`aT}{a:α}{r:`aT}(h:`rn n=a::r):`rn `io=r:=by
 rw[← `QH,h];rfl
def Zj0(S:RS)(k:Nat)(u:`m)(ws:`be)(hu:`hW)(hw:`dR=`i1):`l5=({ S with un:=u,wait:=ws }:RS).ends:=by
 refine `e;let#[c,b,u',nm,w',dg,l,sp]:=S;have e1:u'=k::u:=hu;have e2:w'=`i1:=hw;subst e1 e2;refine `b;rfl
section
variable{ps:`aA}
theorem Sm0(W:`k3){p:Pt}(hp:p∈ps):∀s:Str,`gk s∈`fD->`sh:=λs hs=>by
 have hv:=(`J7).vals;have hn:=W.nm p hp;have J:∀qs:`cr,`aY_->`gk s∈`ai_->s∈`J9:=λqs hv h=>by
  let#[q,hq,hm]:=l7.mp h;unfold two at hm;rcases `P_ with e|hm
  ·injection e with e
   exact e▸`ai0
  ·have:=hv q.2 (`ai0)
   rw[← `aid] at this;cases `E
 cases p with
 | text w=>cases hs
 | row vs=>exact `N (hv _ hs) `aL6
 | table qs=>exact `aY0
 | rcd c qs =>
  rcases `cf hs with e|hs
  ·injection e with e
   exact hn s (E1 _ (by rw[e];exact `P?))
  ·exact `aY0
structure Done(ps:`aA)(pool:`j)(L:`m)(S S':RS)(k:Nat)(u:`m)(ws:`be)(ds:`n)(B B':`m)(T':`j):Prop where
 inv:Inv `aM B' T' S'
 un:S'.un=k::u
 wt:S'.wait=`i1
 bg:S'.begun=`z7 k (λq=>(q.1,q.2++ds.map `u0))++(B'.drop `bZ).map `X6
open T in
def sim(W:`k3)(L:`m){B B':`m}{T:`j}{b:`_}(h:`k2):∀(S:RS) (k:Nat) (u:`m) (ws:`be) (p:Pt) (pre:`n),`pn->`sm->`xa->(∃M,L=B'++M) ->
  `hW->`W3=`a (`fE,`XZ `u0)->p∈ps->`QF->`fD=pre++ds->`dR=`aiT++`i1 ->
  ∃S',`br `l5 b S'.ends/\Done ps `aM L S S' k u ws ds B B' T':=by
 induction h with
 | nil B T =>
  intro S k u ws p pre I hn hB hL hu hk hp h0 he hw;have e:`aiT=[]:=List.drop_eq_nil_of_le (by rw[Wz0 h0,he,`dh];exact `ho);rw[e] at hw;refine#[S,`uX,I,hu,hw,?_];rw[`v7,`lB,`lB,`dh,modify_id _ `aX1]
 | str h ih =>
  rename_i B T s ds B' T' b;intro S k u ws p pre I hn hB hL hu hk hp h0 he hw;let#[w,wr,s1,s2,s3]:=stage p `J6 (`J7) (`oi hp) h0 pre `gn ds he;rw[s1] at hw;have hl:`QP:=by
   have:=`QQ;rw[he,`Z,`Y] at this;lia
  have hs:`sh:=Sm0 W hp s `aY1;have c5:`k1:=by rcases s3 s rfl with rfl|⟨rfl,_⟩<;>decide
  let#[S1,r,I1,A]:=Qw0 W I hu hk (`QR) hw s hs (by
   rcases s3 s rfl with z|⟨z,q⟩
   ·exact `gc
   ·exact `s #[z,q `h2])
  let#[S',r',D']:=ih S1 k u ws p (pre++`Jv) I1 hn hB hL `ai1 `ai2 hp h0 `Et `ai3;refine#[S',by rw[q00 hw c5];exact `X3,`X4,D'.un,D'.wt,?_];rw[D'.bg,`rl,xy0];simp only[`ab,`bB,`e7,`gu];rfl
 | val hd h ih =>
  rename_i B T d ds B' T' b;intro S k u ws p pre I hn hB hL hu hk hp h0 he hw;let#[w,wr,s1,s2,s3]:=stage p `J6 (`J7) (`oi hp) h0 pre d ds he;have U:`iY:=s2 λs e=>by rcases hd with rfl|⟨z,rfl⟩<;>cases e
  subst U;rw[s1] at hw;have hl:`QP:=by
   have:=`QQ;rw[he,`Z,`Y] at this;lia
  let#[M,hM]:=hL;let#[N,hN]:=`Ev;let#[S1,r,I1,A]:=Zk0 W I hu hk (`QR) hw L `aY2 d (by rcases hd with z|z;exact `gc;exact `s (`gc));let#[S',r',D']:=ih S1 k u ws p (pre++[d]) I1 hn hB `ai4 `ai1 `ai2 hp h0 `Et `ai3;refine`aY3;rw[D'.bg,`rl,xy0];simp only[`ab,`bB,`e7,`gu]
 | old hj h ih =>
  rename_i B T j ds B' T' b;intro S k u ws p pre I hn hB hL hu hk hp h0 he hw;let#[w,wr,s1,s2,s3]:=`aY4;have U:`iY:=s2 λs e=>by cases e
  subst U;rw[s1] at hw;have hl:`QP:=by
   have:=`QQ;rw[he,`Z,`Y] at this;lia
  let#[M,hM]:=hL;let#[N,hN]:=`Ev;let#[S1,r,I1,A]:=Zk0 W I hu hk (`QR) hw L `aY2 `kj (`s (`s #[j,hj,rfl]));let#[S',r',D']:=ih S1 k u ws p (pre++[`h1]) I1 hn hB `ai4 `ai1 `ai2 hp h0 `Et `ai3;refine`aY3;rw[D'.bg,`rl,xy0];simp only[`ab,`bB,`e7,`gu]
 | new hj h1 h2 i1 i2 =>
  rename_i B T j ds B1 B' T1 T' b1 b;intro S k u ws p pre I hn hB hL hu hk hp h0 he hw;let#[w,wr,s1,s2,s3]:=`aY4;have U:`iY:=s2 λs e=>by cases e
  subst U;rw[s1] at hw;have hw:`dR=`d?::(`xe):=hw;have hl:`QP:=by
   have:=`QQ;rw[he,`Z,`Y] at this;lia
  have Z:`h3:=if0 (`oi hp `kj `aY1);have a3:=`aiK;have Y:∀x∈`l8,`sn:=λx hx=>by
   rcases `jl with z|z
   ·exact hB x z
   ·rw[`e9];exact Z
  have c3:`bZ<60:=by
   have:=`u_ a3 (m:=`oj) λy hy=>`gl (Y y hy)
   rw[`k0,`Z,`c7] at this;have:=`ai5;lia
  let#[M,hM]:=hL;let#[N1,a4]:=h1.pre;let#[N2,a1]:=h2.pre;have hπ:`QS=`bZ:=by
   rw[hM,a1,a4,`bB,`bB,`bB];exact Ie0 hj
  have a5:=(`rh Z).2;have hI:=`oi a5;let#[S1,r,I1,u1,O,w1]:=enter W I hw `Ck (λk' u' e=>by
   rw[hu] at e;cases e;exact#[_,hk,`QR]) j Z c3
  have a7:=o40 hu (`A0);have a6:k<`aY5:=by
   rw[`si];exact `kz k `arq
  have a2:`aY5=`bZ:=by rw[`si];exact `c0
  have c1:B1.drop `bZ=j::B1.drop `aXo:=by
   rw[a4,`Ef,`bB,`Ef];rfl
  obtain⟨S2,r2,I2,u2,w2,b0⟩:∃S2,`aY6/\Inv `aM B1 T1 S2/\S2.un=`aiY/\S2.wait=`cm::(`xe)/\`ai6=`aY7:=by
   by_cases ht:`og=0
   ·have c4:`AQ=[]:=by
     cases e:`h_ with
     | text _=>rfl
     | row _=>rw[e] at ht;cases ht
     | table _=>rw[e] at ht;cases ht
     | rcd _ _=>rw[e] at ht;cases ht
    rw[`ads] at O w1;rw[c4] at h1;cases h1;refine`aY8;rw[O,a7,`Ef];congr 1;show[_]=[`aY9];unfold v60;rw[ht];cases e:`h_ with
    | text _=>rfl
    | row _=>rw[e] at ht;cases ht
    | table _=>rw[e] at ht;cases ht
    | rcd _ _=>rw[e] at ht;cases ht
   ·rw[`al ht] at O w1
    rw[a7] at O;let#[S2,r2,D2]:=i1 S1 `bZ `cx (`xe) `oe [] I1 a3 Y #[N2++M,by rw[hM,a1,`bB]] u1 (by rw[O,`Ou,a2,`kS];rfl) a5 ht rfl w1;refine`aY';rw[D2.bg,O,gs0 _ _ _ _ a2.symm,c1,`ab,`bB];congr 1;show (`og,[]++(`AQ).map `u0)::_=`aY9::_;congr 1;unfold v60;cases e:`h_ with
    | text _=>rw[e] at ht;exact `aiV
    | row _=>rfl
    | table _=>rfl
    | rcd _ _=>rfl
  obtain⟨S3,J⟩:∃S3:RS,S3={ S2 with un:=`cx,wait:=`xe }:=`ad;have e3:`X5=S3.ends:=by rw[J];exact Zj0 S2 `bZ `cx _ u2 w2
  have b2:S3.begun.length=`ai7:=by rw[J];exact I2.len
  have I3:Inv `aM B1 T1 S3:=by
   have c2:=I2.wc;have l2:=I2.wl;have n2:=I2.unl;rw[w2,u2,`so,`Y] at c2;rw[w2,`Y] at l2;rw[u2,`Y] at n2;refine#[b2,I2.few,by rw[J];exact I2.nms,I2.tnd,I2.tin,by rw[J];exact I2.d0,by rw[J];exact I2.l0,by rw[J];exact I2.s0,`kK,?_,by rw[J];exact I2.held,?_,?_,by rw[J];exact I2.th]
   ·rw[J] at hx ⊢
    exact I2.un x (by rw[u2];exact A7 _ hx)
   ·rw[J]
    show `hU<=`ai8;lia
   ·rw[J]
    show (`xe).length<=60*`ai8+1;lia
   ·rw[J]
    show (`xe).count `cm=`hU;simp at c2 ⊢;lia
  have b3:S3.begun=`aY7:=by rw[J];exact b0
  have a8:lkv `h2 `kj=`A0:=by rw[`QE,hπ];rfl
  let#[S',r',D']:=i2 S3 k u ws p (pre++[`h1]) I3 (h1.nodup a3) (h1.range `rm Y hI) `ai4 (by rw[J];exact hu) (by
   rw[b3,`ga a6,ie0 hk,`aZ,`D9,a8]) hp h0 `Et (by
   rw[J,`Z,`c7,pe0 s1])
  refine#[S',?_,`X4,D'.un,D'.wt,?_]
  ·rw[`asP,`QL,`mq]
   refine r.app (r2.app ?_);rw[e3];exact r'
  ·rw[D'.bg,b3,P60 _ _ _ _ a6,xy0,`bB]
   congr 1
   ·congr 1
    funext q
    rw[`ab,a8,`bB];rfl
   ·rw[← `aZ]
    congr 1;rw[a1,`Ef,List.drop_append_of_le_length (by rw[a4];simp only[`Z];lia)]
universe zz
universe Rk
namespace Rk
open DL W Rm StrLaws
open Bt (V1 o9 Z6 Y4 zh0 O3 V7 R6 Y6)
open Bw (bs sg its two kn cnt tx Vb Gq)
open Km (hb nB nT nW pk lkd It Wb ix)
open K22 (lkv rel)
structure Whl(q:`hR):Prop where
 kd:q.1<4
 fits:`aVW
 tr:∀d∈q.2,`kW
 nr:`aVX
def U70(S:RS)(k:Nat)(q:`hR)(hq:`ke)(h:`l'):`aVY:=by
 have e2:`aVZ:=by
  show `ahj;rw[`cp,hq];rfl
 have e1:`aV_:=by
  unfold W5;rw[`bD,hq];rfl
 rw[e1];unfold uf0 O5;simp only[wn0,`h,e2];rw[`V #[rfl,xx0 h.tr,h.nr]]
theorem d10(S:RS):∀(ks:`m) (qs:`ago),`gN=`ai9->(∀(i k:Nat) (q:`hR),ks[i]?=`eW->qs[i]?=`qf->`ke)->`aY!->`VW `As (ks.map `Am)=`a (`i2 λq=>`Xx)
 | [],[],_,_,_=>rfl
 | [],`dD,h,_,_=>by cases h
 | `dD,[],h,_,_=>by cases h
 | `kP,`y?,h,hat,hw=>by
  have ih:=d10 S ks qs `hZ (λi k' q' h1 h2=>hat `es k' q' h1 h2) λx hx=>hw x `pU
  rw[`ab,`ab];unfold partsOf;rw[U70 S k q (hat 0 k q rfl rfl) (hw q B0),ih];rfl
theorem jo0:∀(xs:`n),(∀d∈xs,`kW)->∀q∈`AC,tr q.1=`c/\tr q.2=`c
 | [],_,q,hq=>by cases hq
 | [a],_,q,hq=>by cases hq
 | `F',h,q,hq=>by
  rcases `cf (show q∈`agq from hq) with rfl|hq
  ·exact#[h a B0,h b (A7 _ B0)]
  ·exact jo0 r (λd hd=>h d (A7 _ (A7 _ hd))) q hq
def iu0(a b:D)(ha:tr a=`c)(hb:tr b=`c):tr (`acl)=`c:=by
 show trs `nD=`c;exact xx0 λd hd=>by
  rcases `pk with rfl|hd
  ·exact ha
  ·rw[`uU];exact hb
def bn0(xs:`n)(h:∀d∈xs,`kW):tr `aVL=`c:=by
 show trs _=`c;exact xx0 λd hd=>by
  let#[q,hq,rfl]:=`db;exact iu0 _ _ (`aY?).1 (`aY?).2
def Li0(h:`l'):tr (`g8 q)=`c:=by
 let#[kd,held]:=q;have ht:=h.tr
 match kd,h.kd with
 | 0,_=>exact iu0 _ _ rfl rfl
 | 1,_=>exact iu0 _ _ rfl (show trs `dU=`c from xx0 ht)
 | 2,_=>exact iu0 _ _ rfl (bn0 `dU ht)
 | 3,_ =>
  show trs [`gk `zT,held.headD `x,`y ((`aVV).map `ra)]=`c;refine xx0 `w5
  rcases `pk with rfl|hd
  ·rfl
  rcases `pk with rfl|hd
  ·cases `dU with
   | nil=>rfl
   | cons a r=>exact ht a B0
  ·rw[`uU]
   exact bn0 _ λd hd=>ht d (Bf0 hd)
def Wg0(S:RS)(hl:`pb)(h:∀q∈`dT,`l')(p:`f):ot0 0 `qL 1 [] `bP `IH `b4=`a (`Ey,`b4):=by
 have z:`hl:=`aa
 unfold ot0;rw[Wc0,`h,y50,`h,xm0,`h];show (`VW `As (`un)).bind _=_;rw[d10 S (`arf) `dT (by rw[`k0]) (λi k q h1 h2=>by
  let#[a,b]:=`ds h1;rw[List.getElem_range] at b;rw[← b];exact h2) h,`h]
 have e:T4 1 [] (λ_=>`a (`q0 `aZa)) `bP noT `IH (`aW ([`q1]:Ds).length .un)=`a (`o `X7):=by
  refine xv0 rfl `lM ?_;have J:∀qs:`ago,`aY!->zk0 `bP noT `IH [.un] (`i2 `aZa)=`a (`i2 `g8):=by
   intro qs
   induction qs with
   | nil=>exact `i0
   | cons q qs ih =>
    intro hq;have h1:=hq q B0;rw[`ab];unfold zk0;have e1:oA (z7 `j7 `zY) O2 [`ah6]=`a (`g8 q):=by
     rw[`aV0];exact l20 q.1 h1.kd q.2 h1.fits
    simp only[show gN 0 (`asS) [.un]=`a [`ah6] from rfl,`h,noT,e1,ih λx hx=>hq x `pU];rfl
  exact J `dT h
 rw[e,`h];simp only[];rw[`V (xx0 λd hd=>by let#[q,hq,rfl]:=`db;exact Li0 (h q hq))]
def io0(S:RS)(hw:`l3)(hl:`pb)(h:∀q∈`dT,`l'):`ai'=`a (`Ey,R S):=by
 refine V1 rfl `aZb
 show ye0 `b4=_;refine o9 (δ':=`b4) ?_ (`ai!)
 ·have t:`aZc:=by
   unfold zz0 W0;rw[`wY,hw];rfl
  unfold ifX;rw[t];rfl
 ·exact `aZd
def Ot0{ps:`aA}(W:`k3)(hj:`h3)(π:`hk):Whl (v60 ps π j):=by
 have hp:=`aiQ;have ho:=W.ok _ hp;have hI:=`oi hp;have J:=rs0 ho;unfold v60;generalize `h_=p at ho hI J;have gen:`QF->(`fE=3->`fD≠[])->Whl (`fE,`aix):=λh0 h3=>by
  refine#[Ua0 p,#[by show (`asu _).length<=30;rw[`P];lia,λz=>`N z h0,λz=>by simpa using h3 z],`w5,m00 `w5]
  ·let#[x,hx,rfl]:=`db
   exact(`aZe).1
  ·let#[x,hx,rfl]:=`db
   exact(`aZe).2
 cases p with
 | text w =>
  have hw:=`aZf;refine#[by show 0<4;lia,#[by show (`aiW _).length<=30;rw[`P];lia,λ_ d hd=>?_,λz=>nomatch z],`w5,m00 `w5]
  ·let#[c,_,rfl]:=`db
   exact#[c,rfl]
  ·let#[c,_,rfl]:=`db
   rfl
  ·let#[c,_,rfl]:=`db
   rfl
 | row vs=>exact gen `dy λz=>nomatch z
 | table qs=>exact gen `dy λz=>nomatch z
 | rcd c qs=>exact gen `dy λ_ z=>nomatch z
def Pq0{ps:`aA}(W:`k3){T:`j}{b1:`_}(h:`aiR)(hp:`aYe):∃S,`br `du (`XX) S/\`l3/\`ai?/\`pb/\`aZg/\`aZh=`aZi:=by
 refine `e;have O:=`ai5;have hB:∀j∈[0],`h3:=λj hj=>by rw[`fv hj];exact O.1
 have hI:=`oi `aZj;have hr:=`aiS `rm hB hI;let#[N,hN]:=`Ev;have I0:Inv `aM [] [] `du:=#[rfl,`a4,rfl,U1,(λs hs=>by cases hs),rfl,rfl,rfl,(λk hk=>by cases hk),`aa,(λq hq=>by cases hq),`aa,`aa,λq hq=>by cases hq];let#[S1,r,I1,u1,J,w1]:=enter W I0 (w:=`uz) (ws:=[]) rfl `f3 (λk u e=>by cases e) 0 O.1 `ax;have Z:(start.hold (`q6 ([]:`m).length)).begun=[]:=rfl;rw[Z,`gu] at J;obtain⟨S2,r2,I2,u2,w2,U⟩:∃S2,`aY6/\Inv `aM L T S2/\S2.un=[0]/\S2.wait=[`cm]/\`ai6=`AT `X6:=by
  by_cases ht:kn (`ri)=0
  ·have a1:`J_=[]:=by
    cases e:`ri with
    | text _=>rfl
    | row _=>rw[e] at ht;cases ht
    | table _=>rw[e] at ht;cases ht
    | rcd _ _=>rw[e] at ht;cases ht
   rw[`ads] at J w1;rw[a1] at h;cases h;refine`aY8;rw[J];show[_]=[v60 ps (ix [0]) 0];unfold v60;rw[ht];cases e:`ri with
   | text _=>rfl
   | row _=>rw[e] at ht;cases ht
   | table _=>rw[e] at ht;cases ht
   | rcd _ _=>rw[e] at ht;cases ht
  ·rw[`al ht] at J w1
   let#[S2,r2,D2]:=sim W L h S1 0 [] [] (`ri) [] I1 `ax hB `aX4 u1 (`aht) `aZj ht rfl w1;refine`aY';rw[D2.bg,J,hN];show[(kn (`ri),[]++(`J_).map (lkv (ix ([0]++N))))]++N.map _=v60 ps (ix ([0]++N)) 0::N.map _;rw[List.singleton_append];congr 1;unfold v60;cases e:`ri with
   | text _=>rw[e] at ht;exact `aiV
   | row _=>rfl
   | table _=>rfl
   | rcd _ _=>rfl
 have e2:`X5=`aZk:=by rw[Zj0 S2 0 [] [] u2 w2];rfl
 rw[e2] at r2;have Y:`br `du (`XX) `aZk:=by
  rw[hp,`QL,`jm];exact Runs.app r r2
 refine `b;refine#[_,Y,rfl,rfl,by show `ai8<=60;rw[I2.len];exact I2.few,`wh,?_]
 ·have hq:q∈`ai6:=hq
  rw[U] at hq;let#[j,hj,rfl]:=`d9 hq;exact Ot0 W (hr j hj) _
 show `c8 (S2.begun.map `g8)=`aZl;rw[U,`b6,`b6];congr 1;refine `aVo
 exact R30 _ _
universe Rk
namespace Km
open DL W K22
open Bw (bs sg cnt kn its tx fold Vb Gp Gq two)
def b70{p:Pt}(h:Gq p):p.few/\`QT:=by
 have z:`P8:=`aa
 have hc:=h.cnt;have:`QT:=by
  cases p with
  | text w=>exact `cN
  | row vs=>exact hc
  | table ps=>show `XG<=20;rw[`P];exact hc
  | rcd c ps=>show `XG<=20;rw[`P];exact hc
 exact#[C0 `E `k,`E]
universe Km
namespace Rk
open DL W Rm StrLaws
open Bt (Y6)
open Bw (bs sg its two kn cnt tx Vb Gq)
open Km (hb nB nT nW pk lkd It Wb ix)
open K22 (lkv rel tgs nd)
mutual
def nob:`cA
 | `eT=>`QU
 | `c1=>`QU
 | `bN=>`p
 | `oX=>`p
 | `oY=>`p
 | _=>`c
def nk0:`C0
 | []=>`c
 | `mr=>nob x&&`QU
end
mutual
theorem Rj0:∀(x y:D),nob x=`c->nob y=`c->`wc=`c->x=y
 | `x,y,_,h2,h=>by cases y<;>first|rfl|(exact `Ez)
 | `oK,y,_,h2,h=>by
  cases y with
  | int b=>rw[deq] at h;rw[`KG h]
  | bl b=>simp[nob] at h2
  | _=>exact `Ez
 | `hK,y,_,h2,h=>by
  cases y with
  | str b=>rw[deq] at h;rw[`KG h]
  | _=>exact `Ez
 | `bN,_,h1,_,_=>`aja
 | `oX,_,h1,_,_=>`aja
 | `oY,_,h1,_,_=>`aja
 | `eT,y,h1,h2,h=>by
  cases y with
  | tup ys =>
   rw[deq] at h;rw[nob] at h1 h2;rw[`aZm]
  | _=>exact `Ez
 | `c1,y,h1,h2,h=>by
  cases y with
  | lst ys =>
   rw[deq] at h;rw[nob] at h1 h2;rw[`aZm]
  | _=>exact `Ez
theorem gz0:∀(xs ys:`n),`QU=`c->nk0 ys=`c->`Na=`c->xs=ys
 | [],[],_,_,_=>rfl
 | [],`dD,_,_,h=>`aZn
 | `dD,[],_,_,h=>`aZn
 | `mr,`CY,h1,h2,h=>by
  rw[v10,`aI] at h;rw[nk0,`aI] at h1 h2;rw[Rj0 x y h1.1 h2.1 h.1,gz0 xs ys h1.2 h2.2 h.2]
end
theorem Zf0:∀{l:`n},(∀d∈l,`aZo)->nk0 l=`c
 | [],_=>by rw[nk0]
 | d::l,h=>by
  rw[nk0,`QD,Zf0 `vV];rfl
theorem l00:∀{l:`n} {n:Nat},(∀d∈l,`nH)->`nE l n=`c
 | [],_,_=>by rw[`nE]
 | d::l,n,h=>by
  rw[`nE,`QD,l00 `vV];rfl
structure Sm(d:D)(n:Nat):Prop where
 nb:`aZo
 ln:`nH
theorem Sm.tup{l:`n}(h:∀d∈l,Sm d n):Sm (`y l) `io:=#[by rw[nob];exact Zf0 λd hd=>(h d hd).nb,by rw[`fs];exact l00 λd hd=>(h d hd).ln]
theorem Sm.str(s:Str)(n:Nat):Sm `gn n:=`aZp
theorem Sm.int(s:Int)(n:Nat):Sm (`g s) n:=`aZp
theorem Sm.two{a b:D}(ha:Sm a n)(hb:Sm b n):Sm (`acl) `io:=`y λd hd=>by
 rcases `pk with rfl|hd
 ·exact ha
 ·rw[`uU];exact hb
def Sm.val{v:D}(h:`kk)(n:Nat):Sm v `io:=by
 cases h with
 | non=>exact#[`asW,by simp[`fs]]
 | lk j _=>exact .two `xf (`g _ _)
 | int z _=>exact `g _ _
def Gj0{p:Pt}(hv:∀v∈`kl,`kk)(n:Nat):Sm p.d (n+4):=by
 have pairs:∀qs:`cr,`aY_->Sm (`y (`i2 pr)) (n+3):=λqs h=>`y λd hd=>by
  let#[q,hq,rfl]:=`db;exact .two `xf (`tS (h q.2 (`ai0)) n)
 cases p with
 | text w=>exact .two `xf `xf
 | row vs=>exact .two `xf (`y λd hd=>`tS (hv d hd) `io)
 | table qs=>exact .two `xf (`aZq)
 | rcd c qs =>
  exact `y λd hd=>by
   refine `e;rcases `pk with rfl|hd
   ·refine `b;exact `X8
   rcases `pk with rfl|hd
   ·refine `b;exact `X8
   ·refine `b;rw[`uU];exact `aZq
theorem T40{ps:`aA}(hw:`eM):Sm `re 50:=Sm.tup (n:=49) λd hd=>by
 let#[p,hp,rfl]:=`db;exact Gj0 `aXh 45
def Sm.eq{x y:D}(hx:Sm x 50)(hy:Sm y 50)[`v! (x=y)]:la0 x y=`a `axa:=by
 show (if `acn then `a (`a0 (`wc)) else `d)=_;rw[`V #[hx.ln,hy.ln]]
 by_cases h:x=y
 ·rw[`iV,← h,DL.nd0 x 50 hx.ln]
 ·rw[`i8]
  cases e:`wc with
  | false=>rfl
  | true=>exact `N (Rj0 x y hx.nb hy.nb e) h
def Yy0(p:Pt)(h:`QT):Q9 `uL=`a (`o `kl):=by
 have z:`hl:=`aa
 have hc:∀(X:D) (qs:`cr),`aZr->`ai9<=20->T4 2 [] `sa `Wc noT `ac [.sh X]=`a (`o (`rk)):=λX qs hX hl=>by
  refine `aZs
  ·show `aVR
   rw[`aVS,hX];rfl
  ·rw[vb0 (λd=>match d with|`y [_,b]=>b|_=>`x) (λd hd=>by
    let#[q,_,rfl]:=`db;exact#[[.sh (`A3),.sh q.2],rfl,rfl,rfl]),`b6]
   rfl
 cases p with
 | text w =>
  refine `w2;rw[`k_];exact `P5
 | row vs =>
  refine Q3 rfl (t8 (δ':=[`P']) `gy `Jn);rw[`k_];exact `P5
 | table qs =>
  have h:`QV:=h;rw[`P] at h;refine Q3 rfl (t8 (δ':=`aZt) `gy (t8 (δ':=`aZt) `gy `aZu))
 | rcd c qs =>
  have h:`QV:=h;rw[`P] at h;refine Q3 rfl (t8 (δ':=`aZv) `gy (t8 (δ':=`aZv) `gy `aZu))
def eh0(X:D)(s:`ah Sl)(qs:`cr)(i:Nat)(hi:gv i s=`a X)(hX:`aZr)(hl:`ai9<=20):T4 1 [] (tupI (o2 (gv i) `g1 ixD)) `bP noT `j7 s=`a (`Ka):=by
 have z:`hl:=`aa
 refine `aZs
 ·show `e_ (o2 (gv i) `g1 ixD s) _=_
  rw[o6 (x:=X) (y:=`ur) hi rfl,hX];rfl
 ·rw[vb0 `aVT (λd hd=>by
   let#[q,_,rfl]:=`db;exact#[[.sh (pr q)],rfl,rfl,rfl]),`b6]
  rfl
theorem Zd0:∀(qs:`cr) (vs:`n),(`as4 vs).map (`UY)=(`as2 vs).map pr
 | [],_=>rfl
 | `y?,[]=>rfl
 | `y?,v::vs=>by
  rw[`ab,`dX,`ab,`ab,`dX,`ab,Zd0 qs vs];rfl
universe Rk
namespace Rk
open DL W Rm StrLaws
open Bt (Y6)
open Bw (bs sg its two kn cnt tx Vb Gq)
open Km (hb nB nT nW pk lkd It Wb ix)
open K22 (lkv rel tgs nd)
theorem Xf0:∀L:`m,`ajb=`a (`aZw)
 | []=>rfl
 | k::L=>by
  show (`ajb).map (((k:Nat):Int)::·)=_;rw[Xf0 L];rfl
theorem Yw0(j:Nat):∀L:`m,j∈L->(`aZw).findIdx? (λy=>`B (y=`cw))=`a (`QS)
 | [],h=>by cases h
 | k::L,h=>by
  rw[`ab,List.findIdx?_cons];unfold ix
  by_cases e:k=j
  ·rw[`fX,`mM]
   rfl
  ·rw[`eK,`ee,Yw0 j L `Qb]
   rfl
def Kz0{v:D}(h:`kk)(L:`m)(hl:∀j:Nat,v=`h1->j∈L):t20 [v,`A4]=`a (lkv `h2 v):=by
 cases h with
 | non=>exact U3 rfl (t8 (δ':=[`uR,`ma]) `pa (Z3 rfl))
 | int z _=>exact U3 rfl (t8 (δ':=[`c',`ma]) `pa (Z3 rfl))
 | lk j _ =>
  rw[show lkv `h2 `oc=lkd (`QS) from `QE _ _];refine `wN;rw[`D0];refine Z3 (T9 (xa0 (`ae rfl (`ae (d:=`g (`QS:Int)) ?_ rfl)) `wr));rw[Mc0 (d:=`A4) (ds:=[`fx]) rfl `g5];show (`ajb).bind _=_;rw[Xf0,`h,Yw0 j L (hl j rfl)];rfl
def X80(a b:`n):tgs `z'=tgs a++tgs b:=by unfold tgs;rw[List.filterMap_append]
def Xv0{p:Pt}:tgs (`fD)=tgs `kl:=by
 have J:∀qs:`cr,tgs (`ai_)=tgs (`rk):=λqs=>by
  induction qs with
  | nil=>rfl
  | cons q qs ih =>
   rw[`Ej,X80,ih];show tgs [`A3,q.2]++tgs _=tgs ([q.2]++`rk);rw[X80];rfl
 cases p with
 | text w=>rfl
 | row vs=>rfl
 | table qs=>exact J qs
 | rcd c qs=>exact J qs
def Y20(j:Nat)(ds:`n):tgs (`h1::ds)=j::`J?:=by
 unfold tgs lkd;rw[`K7];simp only[`cy]
def Th0{d:D}(h:(∃s,d=`eg)∨`aiJ)(ds:`n):tgs `kd=`J?:=by
 rcases h with⟨s,rfl⟩|rfl|⟨z,rfl⟩<;>rfl
theorem fb0(ds:`n):(`J?).length<=`bR:=List.length_filterMap_le ..
def NT:GB:=`aQ8
def NB':GS:=(v8 `aQ9
 (v8 (ifD `aQ'
 (v8 `aQ!
 (v8 `aQ?
 (v8 `aRa
 t7)))
 t7)
 t7))
def ns5(ps:`aA)(B W:`m)(s3 s4:Sl):Ds:=[`cn,.ow (`ajc),.ow `A5,s3,s4]
def Vj0(ps:`aA)(B W:`m)(d3 s4:Sl):NT `aZx=`a (`B (W≠[])):=by
 have hl:`aZy:=by
  rw[`fs];exact l00 λd hd=>by
   let#[k,_,rfl]:=`db;simp[`fs]
 have he:fg0 `A5 `gY=`a (.bl (`B (W≠[]))):=by
  show (if `aZy/\`fs `gY 50=`c then `a (`a0 (!deq `A5 `gY)) else `d)=_;rw[`V #[hl,by simp[`fs,`nE]],deq];cases W with
  | nil=>simp[K22.nd,v10]
  | cons w W =>
   rw[`e4,`po];cases e:`X9 with
   | nil=>simp[v10,K22.nd]
   | cons a r=>simp[v10,K22.nd]
 show ob `aqd (frz `aZx)=_;refine `cs;rw[o6 (x:=`X') (y:=`pV) rfl rfl];exact he
def Mj0{ps:`aA}(hw:`eM)(hj:`h3)(s1 s2 s4:Sl):T4 1 [] `aqi `bP `t? `qJ [`cn,s1,s2,`j?,s4]=`a (`X!):=by
 have z:`hl:=`aa
 let#[w1,w2]:=`XW;have hq:=`pl;have J:=`aZz;generalize `h_=p at w1 w2 hq J;refine `aZA
 ·show `e_ (oA `aqh Q9 _) cy0=_
  rw[`aXc,Yy0 p J];rfl
 ·have O:∀vs:`n,(∀v∈vs,`kk)->zk0 `bP `t? `qJ [.un] vs=`a (nd (tgs vs)):=by
   intro vs
   induction vs with
   | nil=>exact `i0
   | cons v vs ih =>
    intro hv;have ih:=ih λx hx=>hv x `pU
    unfold zk0;cases hv v B0 with
    | non =>
     simp only[show gN 0 D.non `D4=`a [`uR] from rfl,`h,show ob `qI [`l! `x]=`bC from rfl];exact ih
    | int x _ =>
     simp only[show gN 0 (`a7 x) `D4=`a [`XK] from rfl,`h,show ob `qI [`l! `JK]=`bC from rfl];exact ih
    | lk i _ =>
     simp only[show gN 0 (`aZB) `D4=`a [.sh `JO] from rfl,`h,show ob `qI `aZC=`e6 from rfl,show o2 `an `a6 ixD `aZC=`aV1 from rfl,ih];rw[show `aZB=`Eu from rfl,Y20];rfl
  exact O `kl `Qr
def X50{ps:`aA}(hw:`eM){B W:`m}(hj:`h3)(hB:`w7)(hW:`uS<=200000)(s3 s4:Sl):∃s4',NB' `aZD=`a (.nx (ns5 ps (`XO) ((if `eE then [] else `J!)++W) `uY s4')):=by
 have zs:`w4:=`aa
 have p1:G6 (qs0 2) `j6 `aZD=`a (.nx (`QW)):=by
  unfold ns5 G6 qs0;rw[`e4,`po];show `e_ (`fB (λd'=>(d',([`cn,.ow (`ajc),.ow (`o (`aZE).dropLast),s3,s4]:Ds))) (`aZE).getLast?) _=_;rw[`aiv,`PG];rfl
 have c:e70 `aqf (`QW)=`aio:=by
  show ob `aqe (frz (`QW))=_;refine `cs;rw[o6 (x:=`fx) (y:=`ajc) rfl rfl];exact K22.Gu0 B j
 by_cases h:`eE
 ·refine#[s4,?_]
  rw[`cV,`cV];refine t8 p1 (t8 (δ':=`QW) ?_ rfl);rw[X7 (by rw[c,`Qj])];rfl
 ·rw[`ej,`ej]
  let#[_,w2]:=`XW;have O:=(Km.b70 (`pl)).2;have J:=fb0 `asZ;refine#[`as_,t8 p1 `aZF];rw[`aUT];refine t8 (δ':=ns5 ps `ki W `uY s4) ?_ (t8 (U0 (d:=`X!) (Mj0 hw hj _ _ _)) `aZF)
  ·refine(`sg (l:=nd B) (d:=`fx) rfl rfl `aZG).trans ?_
   unfold ns5;rw[`po];rfl
  ·generalize `J!=E at J
   show N8 2 `aqj [`cn,.ow (`o (nd `ki)),.sh `A5,`j?,.sh (`aZH)]=_;unfold N8;rw[o6 (x:=`X') (y:=`o (nd E).reverse) rfl (by rw[d9 (ds:=[`aZH]) rfl];rfl)];simp only[ra0];rw[`V (by rw[`l?,`iU,`iU,`l?];lia)];unfold ns5;rw[`ahy,`po `AP,K22.I40];rfl
def gc0{gt:GB}{δ:Ds}(h1:`eu=`e6)(h2:`aeV):S6 gt G `io δ=`ack:=by
 conv=>lhs;unfold S6
 rw[h1];simp only[h2]
open T in
def Pk.order{ps:`aA}(hw:`eM){B B':`m}{T:`j}{b:`_}(h:`k2):`sm->`xa->`QA->∃n,`aX7/\∀(f:Nat) (W:`m) (s3 s4:Sl),`uS+`bR+51*`JV<=51*`bZ+100000->∃s3' s4',S6 NT NB' `JW (ns5 ps B (`QX) s3 s4)=S6 NT NB' f (ns5 ps B' W s3' s4'):=by
 have O:∀{B:`m},`sm->`xa->`w7:=λ{B} hn hB=>by
  have:=`u_ hn (m:=`oj) λy hy=>`gl (hB y hy)
  rw[`k0] at this;have:=`QC;lia
 induction h with
 | nil B T=>exact λ_ _ _=>#[0,`a4,λf W s3 s4 _=>#[s3,s4,`aiN]]
 | str _ ih =>
  intro hn hB hd;let#[n,h1,h2]:=`ajd
  exact#[n,`l9,λf W s3 s4 hl=>by rw[Th0 (`t `ad)];exact `aZI]
 | val hd' _ ih =>
  intro hn hB hd;let#[n,h1,h2]:=`ajd
  exact#[n,`l9,λf W s3 s4 hl=>by rw[Th0 (`s hd')];exact `aZI]
 | old hj p ih =>
  rename_i B T j ds B' T' b;intro hn hB hd;let#[n,h1,h2]:=`ajd
  let#[N,hN]:=p.pre;have a6:`bZ<=`JV:=by rw[hN,`Z];lia
  refine#[n+1,`l9,`aZJ];rw[`Y] at hl;have a4:=fb0 ds;let#[s4',e]:=X50 hw (B:=B) (W:=`QX) (hB j hj) (O hn hB) `Qp s3 s4;let#[a,c,q]:=h2 f W `uY s4' `k;refine#[a,c,?_];rw[Y20,`e7,`QB,`aZK,`mp,`mp,`gu];exact q
 | new hj p1 p2 i1 i2 =>
  rename_i B T j ds B1 B' T1 T' b1 b;intro hn hB hd;have J:=`aiM;have U:=`aiK;have Y:∀x∈`l8,`sn:=λx hx=>by
   rcases `jl with z|z
   ·exact hB x z
   ·rw[`e9];exact J
  have hI:=`uT `JX;let#[n1,a1,a2]:=i1 U Y hI;let#[n2,c1,c2]:=i2 (p1.nodup U) (p1.range hw Y hI) `AX
  let#[N1,a3]:=p1.pre;let#[N2,Z]:=p2.pre;have a8:`QN<=`ai7:=by rw[a3,`Z,`Z,`c7];lia
  have a5:`ai7<=`JV:=by rw[Z,`Z];lia
  have a7:=`aX9;rw[`Z,`c7] at a1 a2;refine#[`XV,`l9,`aZJ];rw[`Y] at hl;have a4:=fb0 ds;let#[s4',e]:=X50 hw (B:=B) (W:=`QX) J (O hn hB) `Qp s3 s4;rw[`mq,`mq] at e;let#[t3,t4,q1]:=a2 `JY (`QX) `uY s4' `Qp;let#[v3,v4,q2]:=c2 f W t3 t4 `k;refine#[v3,v4,?_];rw[Y20,`e7,`aX',`aZK,← Xv0,q1,q2]
def Yq0{ps:`aA}(hw:`eM){T:`j}{b1:`_}(h:`aiR):`aZL:=by
 have J:=`QC;have hp:`aYj:=`aYk;let#[n,a1,a2]:=hp.order hw U1 `aYl `aYm;have hB:∀j∈[0],`h3:=`aYg
 have hl:`aYn:=by
  have:=`u_ (`aYi) (m:=`oj) λy hy=>`gl (`aiS hw hB (`aYh) y hy)
  rwa [y4] at this
 simp only[`Y,`fy] at a1;let#[s3,s4,q]:=a2 `AY [] .un .un `IU;have e:S6 NT NB' `AY `aZM=`a (.nx `aZM):=by
  rw[show `XY=(99999 - n)+1 by lia];unfold S6;rw[Vj0];rfl
 rw[`aYo,e] at q;exact Q3 rfl (t8 (δ':=[`cn,`n3,.un,.un,.un]) rfl (t8 (δ':=ns5 ps [] [0] .un .un) rfl `aXp))
def R1:GS:=(v8 `aRe
 t7)
def R2:GS:=(v8 `aRg
 (v8 `aRh
 t7))
def R3:GS:=(ifD `aRd R1
 (v8 (ifD `aRf R2 t7) t7))
def Hb0(p:Pt)(h:`QT)(f:`kM)(a b c d s6:Sl):∃s6',R3 [a,b,c,d,`P9,`aZN,s6]=`a (.nx [a,b,c,d,.sh (`w6 p (`AR f)).d,`aZN,s6']):=by
 have z:`hl:=`aa
 cases p with
 | text w =>
  refine`aZO;show ifD _ _ _ `aZP=_;rw[`rc];refine t8 (δ':=`aZP) ?_ rfl;rw[`rc];rfl
 | row vs =>
  refine`aZO;show ifD _ _ _ [a,b,c,d,`P',.sh (`o (`j3 f)),s6]=_;rw[`k_];exact t8 (U0 (d:=(`w6 (`o?) (`j3 f)).d) `ag') rfl
 | table qs =>
  have h:`QV:=h;rw[`P] at h;refine`aZQ;show ifD _ _ _ [a,b,c,d,`asY,`QY,s6]=_;rw[`rc];refine t8 (δ':=[a,b,c,d,.sh (`w6 (`z4 qs) `A6).d,`QY,`X?]) ?_ rfl;rw[`k_];refine `aZR;rw[o6 (x:=`y [`l_]) (y:=`aZS) rfl (xa0 (`ae (by
   rw[d9 (ds:=`aZT) (`ae (by
    rw[`aZU];show `aZV;rw[Zd0]) rfl)]
   rfl) rfl) `aZW)]
  rfl
 | rcd cl qs =>
  have h:`QV:=h;rw[`P] at h;refine`aZQ;show ifD _ _ _ [a,b,c,d,.sh (`Jx cl qs).d,`QY,s6]=_;rw[`rc];refine t8 (δ':=[a,b,c,d,.sh (`w6 (`nY cl qs) `A6).d,`QY,`X?]) ?_ rfl;rw[`k_];refine `aZR;rw[o6 (x:=`y [`l0,`u cl]) (y:=`aZS) rfl (xa0 (`ae (by
   rw[d9 (ds:=`aZT) (`ae (by
    rw[`aZU];show `aZV;rw[Zd0]) rfl)]
   rfl) rfl) `aZW)]
  rfl
def DB:GS:=(v8 `aRb
 (v8 `aRc
 (v8 R3
 (v8 `aRi
 t7))))
def Gc0{d:D}(h:`J'[j]?=`bw):∃k:Nat,L[j]?=`eW/\d=`lN:=by
 unfold K22.nd at h;rw[`cp] at h;cases e:L[j]? with
 | none=>rw[e] at h;cases h
 | some k=>rw[e] at h;exact#[k,rfl,`adJ]
def Qc0{ps:`aA}(hw:`eM)(hn:L.Nodup)(hL:∀k∈L,k<`aD)(hc:∀k∈L,`aYf)(hnum:`aZL):vg0 `uZ=`a (`aZi):=by
 refine `e;have zs:(9000:Nat)<=`R:=`aa
 have a2:`AU<=60:=by
  have:=`aZX
  rw[`k0] at this;have:=`QC;lia
 let#[δ',l3,l4]:=up0 (f:=gN 3) (G:=DB) (λi δ=>∃s3 s4 s5 s6:Sl,δ=[`cn,`ma,.ow (`o ((`Ya i).map `A7)),s3,s4,s5,s6]) `J' 0 `aZY (by
  rintro j d δ hj ⟨s3,s4,s5,s6,rfl⟩;let#[k,hk,rfl]:=Gc0 hj;have Y:=D0 hk;rw[`fG];let#[w1,w2]:=`rh (hL k Y);have hq:=`pl;have U:=hc k Y;have e1:(`Ya `mc).map (`A7)=`as5 (`A7)++[(`XR).d]:=by rw[`aWs,hk,`aZ];rfl
  generalize `AS=p at w1 w2 hq U e1;have O:=`aZz;have Z:∀i,`Eu∈`kl->i∈L:=λi hi=>U i (by
   have J:∀qs:`cr,`Eu∈`rk->`Eu∈`ai_:=λqs h=>by
    let#[q,hq,e]:=`d9 h;exact l7.mpr #[q,hq,by unfold two;rw[e];simp]
   cases p with
   | text w=>cases hi
   | row vs=>exact hi
   | table qs=>exact J qs hi
   | rcd c qs=>exact A7 _ (J qs hi))
  let#[a1,hr]:=Hb0 p O `u0 (`cn) (`ma) (`aZZ) (`n2) s6;refine#[[`cn,`ma,`aZZ,`n2,s4,s5,s6],_,rfl,t8 `aW2 (t8 (U0 (d:=`aZ_) ?_) (t8 hr (t8 (`sg (l:=`as6) (d:=`aZ0) rfl rfl (`aNb)) rfl))),`n2,.sh `aZ0,.sh (`aZ_),a1,`aOn]
  ·rw[o6 (x:=`AO) (y:=`lN) rfl rfl]
   exact w1
  ·refine `aZA
   ·show `e_ (oA `qG Q9 _) cy0=_
    rw[`aip,Yy0 p O];rfl
   ·exact vb0 `u0 λv hv=>#[[.sh v,`ma],rfl,rfl,by
     rw[d9 (ds:=[v,`A4]) rfl];exact Kz0 (`Qr v hv) L λi e=>Z i (e▸hv)]) #[.un,.un,.un,.un,rfl]
 let#[s3,s4,s5,s6,rfl]:=l4;rw[`l?,`fG,`aWu] at l3;refine `b;refine U3 rfl (t8 (δ':=[`cn,`ma,.un,.un,.un,.un,.un]) (U0 (by rw[`aje];exact hnum)) (t8 (δ':=`aZY) rfl (t8 (ua0 (items:=nd L) rfl l3) `q')));show oA `eb yw0 [`cn,`ma,.sh (`aZ1),xz0 s3,xz0 s4,xz0 s5,xz0 s6]=_;rw[d9 (ds:=[`aZ1]) rfl];show `a (`c8 _)=`a (`aZl);rw[`b6];rfl
universe Rk
namespace L2
open Spec PyProof.Rows
section
variable{k:Nat}{f C:`f}{ds:`K}{E:XK}{p:Pos}{t:TA}
def M70{pins:`aw}{σ:St}{H:Hp}{s:`v}{Q:VK}{us:`K}{vs:`S}(F:`aZ2)(hr:`rG)(hb:`oG)(hd:`oH)
  (I:`C) (r:`rD) (h:sp `lm H Q `aZ3):`ayd:=by
 have r2:`aye:=`_9;have hl:`_8:=`ayf
 refine X0 (L9 (`vK X.A `gE s H `B! `yk `lm Q _ hr I.env0 `ayg r2 h) `vL);refine `e;cases r with
 | error ex =>
  let#[ea,C,od,H',rfl,os,bare,un,hok,lie,wish]:=hq;refine `b;exact wish C rfl `i s' ea (I.call' (ch:=[]) os un hok bare λb z=>by cases z) (lie.mono λb z=>I.fpW z.2 z.1)
 | ok fl =>
  cases fl with
  | ret u=>refine `b;exact `ayh
  | next=>refine `b;exact `ms
  | brk=>refine `b;exact `ms
  | cont=>refine `b;exact `ms
def St0{pl:`i!}(he:`vG)(c:`vF)(hm:`_')(F:`aZ2)(hr:`rG)(hb:`oG)(hd:`oH)
  (ht:`aOi=(do
   let ov ← `hw
   `oI
   let (f,`f?) ← `rH
   `OJ):=by rfl) :
  PE X `VC (fun σ H Q=>ta σ H λx H1=>∃a dx fs,`c?/\`B8/\`B6/\∃a' sub,`aOj/\sp (x::([]++dvs)) (`gg H1 a' sub) Q `aZ3):=by
 intro pins s σ H Q I h;refine t5 (pl:=pl) (thn `h9 λu s1 hq203=>?_) ht;refine `e;let#[x,H1,I1,rx,a,dx,fs,ex,ea,l,a',sub,cl,q]:=hq203;subst ex;obtain rfl:u=`gD:=rx;refine `b;refine `_!;exact Ak0 (first:=`d4) `zt hm.kp (M70 (us:=`d4) (vs:=`d4) F hr hb hd (I1.closed cl) `aa0 q)
def Uz0{ae:`I}{k:Nat}{C f:`f}{fd:`e1}{tl:`K}{np cpos pos:Pos}{t:TE}(hm:`aeq=`xR)(ri:∀h:`D,X.K.In h->XC.Ri h C tl f)(cl:`aoL)(hbase:`aLW)
  (F:`W `aR X.w X.K `bz `cH CX0 k f fd `j0 (bw0 C)) (hb:`yj X.K fd `j0 []) (hr:`aaa) (hcalm:`bx) (hg:`Oc) (ha:PE X ae t)
  (hd:`Od:=by decide)
  (he:`aZ4:=by rfl) (hbt:`aZ5:=by rfl) :
  PS X `aZ6 (λ_ σ H=>t σ H λv H1=>∃n:Int,v=`d7/\`wu/\∀dx,`_7->lw0 X σ (upd H1 dx `tT) C `HG):=by
 intro pins s σ H D I a1;rw[arm_exec_Raise];simp only[evalOpt,`fB];refine A1 (Y3 (Uy0 (C:=C) (tl:=tl) `e3 (I.ok.hd hcalm) (A1 (C9 (wpAny_Call_ofName (q20 I hg hm ?_ hd)) (λv s₃ h₃=>A1 (Y3 (A2 h₃))) `rx))));rw[he,hbt];unfold callWith;refine A1 (D3 (B30 (P8 (thn (ha `i s σ H _ I a1) λu s1 hq204=>?_))));refine `e;let#[v,H1,I1,r1,n,a5,hn,wish]:=hq204;refine `b;refine b4 (A1 (Y3 ?_));refine `e;subst a5;let#[tk,rfl]:=r1;let#[nm,q,N,bs,a8,sn,sub,ab,b0,dd,k0,k1,k2,k3,k5,a7,hC]:=(`aLH).obj;let#[hh,g,d,t',os]:=s1;have fl:(`Kb:`ah (`M×`FE)).any `bK=`p:=rfl;refine `b;simp only[fl];refine A1 (wpAny_keeperOf_exc hC ?_);refine A1 (XC.S60 (ri _ `zt) (λh' e mk=>?_) (by show (1:Nat)<=`R;decide));have new:=mk.new;have I2:Inv X `i σ H1 `QZ:=`FA (t':=t') mk.keeps;have fp:FpW X `i H1 e:=I1.fpW new (I1.dead new);have O:=Pc0 mk;let#[oe,_,a2,_]:=id O;have I3:Inv X `i σ `aZ7 `QZ:=I2.track fp O #[oe,a2] `aes;have U:H1 e=`d:=fp.1;have sp:bw0 C `aeu `aZ7 (λv H'=>`s7/\∃dx,`HI/\`_7/\H'=upd (upd H1 e `zu) dx `tT) `vU :=
  #[e,n,rfl,m8,hn,λdx n1 n2=>#[rfl,dx,n1,by rw[m5 n1] at n2;exact n2,by rw[Kc0]]]
 have vals:`bJ [`FV e,`te n] `Q_:=`aq rfl (`aq `aeD `X);have bd:=hb `QZ `Q_ I3.kIn rfl;rw[`dh] at bd;refine X0 (L9 (`vK _ `gE `QZ _ #[`Q_,[]] `Q_ `aeu _ `vU (hr.make C _ _) (I3.env0.make C _ _) bd `qC sp) `vL);refine `e;cases r with
 | error ex=>refine `b;exact hq.elim
 | ok fl =>
  cases fl with
  | next=>refine `b;exact `ms
  | brk=>refine `b;exact `ms
  | cont=>refine `b;exact `ms
  | ret u =>
   let#[v,H2,I4,ru,Z,dx,n1,n2,a6]:=I3.after hq;subst Z a6;obtain rfl:u=`af:=ru;have Y:upd (upd H1 e `zu) dx `tT e=`a `zu:=by rw[`as8,m8]
   let#[J,_,_]:=I4.hok e _ Y;refine `b;refine#[rfl,A1 (D3 (u8 (A2 #[e,`p6,rfl,cl _ I4.kIn,J,?_])))];refine `e;have I5:Inv X `i σ (upd H1 dx `tT) s':=I4.forget Y (`aZ8) λb hb=>by
    by_cases z:b=dx
    ·subst z;rw[m8,m8]
    ·rw[`oT,`oT,m5 hb]
   let#[a3,a4,g1,g2,g3,g4,g5,g6,g7]:=J;refine `b;exact wish dx n2 `i s' e I5 #[a3,a4,g1,g2,g3,g4,g5,#[`aZ8,fp.2],_,g6,`bQ]
universe zz
universe L2
namespace DL
open Spec PyProof.Rows L2
inductive DXB where
 | ok (r b':D)|ex (c:Str) (n:`a5) (b':D)
inductive RXB where
 | ok (r:ResB)|ex (c:Str) (n:`a5) (δ:Ds)
abbrev GZB:=Ds->`aL RXB
def Go0(X:Cx)(H₀:Hp)(B₀:BS)(D:`fM):RXB->Prop
 | .ok r=>Np0 X.K `O `L D r
 | `aLZ=>`aL_
def tXB(X:Cx)(H₀:Hp)(B₀:BS)(δ:Ds)(G:GZB):TS:=λD σ H=>∃r,`zv/\`MR/\Go0 X `O `L D r
structure PSXB(X:Cx)(st:`a1)(G:GZB):Prop where
 mk::go:∀H₀ B₀ δ,PS X st `aZ9
structure PSsXB(X:Cx)(st:`b5)(G:GZB):Prop where
 mk::go:∀H₀ B₀ δ,PSs X st `aZ9
def mt0(G:GZ):GZB:=fun δ=>match `jQ with
 | `r2=>`r2
 | `xg=>`xg
 | _=>`d
def Vv0(G:GSB):GZB:=fun δ=>(`jQ).map .ok
def Ns0:GZB:=`aLX
def sk0(G1 G2:GZB):GZB:=fun δ=>match `fo with
 | `r2=>`oP
 | r=>r
def ai0(gt:GTX)(Ga Gb:GZ):GZ:=`afx
def mg0(c:Str)(g:GE):GZ:=fun δ=>`cB λd=>match d with
 | `d7=>if `wu then `a (.ex c (`pP) δ) else `d
 | _=>`d
section
variable{c ae:`I}{st:`a1}{as bs:`b5}{Gz Za Zb:GZ}{Gs:GSB}{G1 G2:GZB}{gt:GTX}{g:GE}
open T in
theorem Ko0(h:PSX X st Gz):PSXB X st (mt0 Gz):=.mk λH₀ B₀ δ pins s σ H D I hq205=>by
 let#[r,en,e,k]:=hq205
 unfold mt0 at e;split at e
 ·rename_i δ' e1
  cases e;exact `Ot
 ·rename_i c n δ' e1
  cases e;exact `Ot
 ·cases e
theorem Jw0(h:PSB X st Gs):PSXB X st (Vv0 Gs):=.mk λH₀ B₀ δ pins s σ H D I hq206=>by
 let#[r,en,e,k]:=hq206
 unfold Vv0 at e;cases e1:Gs δ with
 | none=>rw[e1] at e;cases e
 | some r1 =>
  rw[e1] at e;cases e;exact `Ot
theorem Rp0:PSsXB X [] Ns0:=.mk λH₀ B₀ δ pins s σ H D I hq207=>by
 let#[r,en,e,k]:=hq207
 cases e;exact `MT
theorem g00(h1:PSXB X st G1)(h2:PSsXB X `a3 G2):PSsXB X `BT (sk0 G1 G2):=.mk λH₀ B₀ δ pins s σ H D I hq208=>by
 refine `e;let#[r,en,e,k]:=hq208
 unfold sk0 at e;cases e1:`fo with
 | none=>rw[e1] at e;cases e
 | some r1 =>
  rw[e1] at e;cases r1 with
  | ex c n δ'=>cases e;refine `b;exact `o5
  | ok r1 =>
   cases r1 with
   | nx δ'=>refine `b;exact `aex
   | rt d δ'=>cases e;refine `b;exact `o5
theorem K60(hc:`afy)(ha:PSsX X as Za)(hb:PSsX X bs Zb):PSX X `CU (ai0 gt Za Zb):=.mk λH₀ B₀ δ pins s σ H D I hq209=>by
 let#[r,en,e1,k]:=hq209
 unfold ai0 at e1;cases e2:`eu with
 | none=>rw[e2] at e1;cases e1
 | some q =>
  rw[e2,`h] at e1;refine `afz;cases hq:q.1 with
  | true=>rw[hq,`bc] at e1;exact`o8
  | false=>rw[hq,`cU] at e1;exact`o8
open T in
theorem Wv0{r:`f}{k m:Nat}{np cpos:Pos}(T:IniC `aR X.w X.K `bz `cH cn r k)(hr:`wa)(hk:k+1<=m)(ha:PD X ae g)(hcalm:`bx:=by rfl)(hg:`Oc:=by rfl)
  (hd:`Od:=by decide)
  (he:`aZ4:=by rfl) (hbt:`aZ5:=by rfl) :
  PSX X `aZ6 (mg0 cn g):=.mk λH₀ B₀ δ pins s σ H D I hq210=>by
 let#[r',en,e1,kk]:=hq210
 unfold mg0 at e1;let#[B,b1,b2,env]:=`aK;cases e2:`av with
 | none=>rw[e2] at e1;cases e1
 | some d =>
 rw[e2,`h] at e1;split at e1
 ·rename_i n
  split at e1
  ·rename_i hn
   cases e1;let#[C,f,fd,a,ri,F,hb]:=T.ex;refine Uz0 a.mg ri a.cl Or0 F hb `kO hcalm hg `wC hd he hbt `i s σ H D I #[_,env,e2,`y7];rw[j6] at r1;refine#[n,r1,hn,λdx z=>?_];have J:=`afu;exact kk σ _ C `HG (J.grow (Z5 z)) a.ns #[dx,B,rfl,eg0 J.same z,m8,b1,b2,(`jV).same (Z5 z),λy=>`ae_ dx y z]
  ·cases e1
 ·cases e1
universe zz
def ff0(K:`A)(j:Nat)(f:`jp):Sp:=λvs H Q E=>∃(B:BS) (ds:`n) (us:`S) (p:`f) (b:D) (r:DXB),`oU/\B p/\vs=`Vp/\`wy/\`aM9/\`aM'/\`qu=`ew/\match r with
 | `sp=>∀v H',`tY->`aeT->`am3
 | `xh=>∀C od H',`tY->`aeT->`jM->XdS H H' od n->`aLx
def EndBX(G:GZB)(δ:Ds)(j:Nat)(p:`f):DXB->Prop
 | .ok r b'=>(∃δ',`jQ=`a (.ok `aeU)/\`r5)∨(r=`x/\∃δ',`jQ=`r2/\`r5)
 | `xh=>∃δ',`jQ=`xg/\`r5
def jc0{δ:Ds}{p:`f}{b:D}(e1:`jI=`aeZ)(e2:`jI=`Vo):b=b':=by
 rw[e1] at e2;have e8:=A4 e2;injection e8 with e9
 unfold z9 at e9;injection e9 with e10
 exact`aNA
def EndBX.one{G:GZB}{δ:Ds}{p:`f}{r r':DXB}(h:`Kc G δ j p r)(h':`Kc G δ j p r'):r=r':=by
 refine `e;cases r with
 | ok d b =>
  cases r' with
  | ok d' b' =>
   refine `b;rcases h with⟨δ1,e1,e2⟩|⟨rn,δ1,e1,e2⟩<;>rcases h' with⟨δ2,e3,e4⟩|⟨J,δ2,e3,e4⟩<;>rw[e1] at e3
   ·have e5:=`Dx
    injection e5 with e5
    injection e5 with e6 e7
    subst e7;rw[e6,`ajf]
   ·cases e3
   ·cases e3
   ·have e5:=`Dx
    injection e5 with e5
    injection e5 with e7
    subst e7;rw[rn,J,`ajf]
  | ex c n b' =>
   let#[δ2,e3,e4]:=h';refine `b;rcases h with⟨δ1,e1,e2⟩|⟨rn,δ1,e1,e2⟩<;>rw[e1] at e3<;>cases e3
 | ex c n b =>
  let#[δ1,e1,e2]:=h;cases r' with
  | ok d' b'=>refine `b;rcases h' with⟨δ2,e3,e4⟩|⟨J,δ2,e3,e4⟩<;>rw[e1] at e3<;>cases e3
  | ex c' n' b' =>
   let#[δ2,e3,e4]:=h';rw[e1] at e3;have e5:=`Dx;refine `b;injection e5 with h1 h2 h3
   subst h1 h2 h3;rw[`ajf]
def fz0(n:Nat)(N:`j)(j:Nat)(G:GZB)(b:D)(ds:`n):`aL DXB:=(by classical exact if h:`kT/\`aZ' then `aNy else none)
def X10{G:GZB}{b:D}{r:DXB}(h:`aZ!):`kT/\`aZ?:=by
 unfold fz0 at h;split at h
 ·rename_i hh
  have e:=`nM;have:=x8 hh.2;rw[e] at this;exact`aNz
 ·cases h
def X40{G:GZB}{b:D}{r:DXB}(hl:`kT)(h:`aZ?):`aZ!:=by
 have hh:`kT/\`aZ':=#[hl,r,h];unfold fz0;rw[`aNB];exact C8 `a (`aNC)
section
variable{P:`ao}{w:`Q}
def Fu0{st:`a1}{k:Nat}{G:GZB}(F:`M4)(S:`Cq)(hjp:`h3)
  (body:∀(cdv:`G) (A:`bT) (outer:`TT) (s:`v) (H:Hp) (E:XK),`TU->PSsXB (qc0 `EA P w K mg `l N `eq `jH fa cdv A `b2 s H E) `pT G) :
  `W P w K mg `l `EA `f! fa fd ps (ff0 K j (fz0 `aD N j G)):=by
 let#[oc,od,kV,doc,pm,an,cdv,ct,a5,rfl,lk,a3]:=F.ex;refine Nk0 lk a3 S (λvs H Q E #[B,ds,us,p,b,r,_,_,hv,_,hr,_,h,_]=>?_) λA outer s H vs Q E hr #[B,ds,us,p,b,r,hb,hp,hv,hj,rs,ro,h,q]=>?_
 ·rw[hv,`Z,`Y,`dg,`g9,hr.length]
  have:=(X10 h).1;lia
 ·subst hv
  refine`aNf;have sm:`aNg:=#[λb o e=>by
   by_cases z:b=p
   ·simp only[z,`eY] at e;cases e
   ·simp only[z,`cS] at e;exact e,λb o xs e=>by
   by_cases z:b=p
   ·exfalso
    rw[z] at e;exact `aNh
   ·simp only[z,`cS];exact e]
  have sb:`aNi:=`aNj
  have a4:`aNk:=`aNl
  have en:`aNm:=by
   refine#[sm,#[B,`aeX,`gQ,#[?_,hb,λi j a Z es h1 h2 _ _=>?_]],λi Z a h1 h2=>?_,`gQ]
   ·by_cases q:a=p
    ·exact `aNn
    ·exact `Nr
   ·unfold L2.start Q5
    rw[`aZ,`ab,`bB,`e7,`Z,`Y,`dg,`g9,`GN];refine `aNo;rw[`aNp];exact pz0 _
   ·rw[(`Ov).1,`aNq]
   ·let#[rfl,_]:=`Ov
    have:`aNr:=by
     unfold L2.start;rw[`aZ,`bB,`aNs,`P,a4,`kS];rfl
    rw[`E] at h2;cases h2;simp only[`eY]
   ·simp only[z.2,`cS]
    exact hb a z.1
  have he:=(X10 h).2 p;cases r with
  | ok r b' =>
   rcases he with⟨δ',e,e'⟩|⟨rn,δ',e,e'⟩
   ·refine`aNt
    let#[B',c1,c2,J,rv]:=`gv;let#[a,h1,hB,rl]:=`Du;let#[rfl,O]:=`Dv;have less:`Dw:=λx z=>by
     by_cases q:x=a
     ·rw[q];exact hB
     ·exact `wz
    exact `aNu
   ·refine`aNv
    let#[B',c1,c2,J]:=en'.ex;let#[a,h1,hB,rl]:=`Du;let#[rfl,O]:=`Dv;have less:`Dw:=λx z=>by
     by_cases q:x=a
     ·rw[q];exact hB
     ·exact `wz
    exact `aNw
  | ex c n b' =>
   let#[δ',e,e']:=he;refine#[_,en,e,fun σ' H' C od' en' nn x pins s1 ea I lie=>?_];refine A1 (I.noted rfl lie λh' I' Y=>?_);let#[B',c1,c2,J,xd]:=xdB en' x;let#[a,h1,hB,rl]:=`Du;let#[rfl,O]:=`Dv;have less:`Dw:=λx z=>by
    by_cases q:x=a
    ·rw[q];exact hB
    ·exact `wz
   have xs:XdS H H' od' n:=by
    cases n with
    | none=>trivial
    | some k =>
     let#[dx,B2,q1,q2,q3,_]:=x;let#[a2,U,a1,a6]:=xd;obtain rfl:dx=a2:=by rw[q1] at U;cases U;rfl
     refine#[dx,q1,?_,q3]
     by_cases z:dx=a
     ·subst z;exact `N hB a1
     ·simpa only [z,x6] using q2
   refine#[ea,C,od',H',rfl,I'.os,I'.bare,I'.base,I'.hok,Y.mono λb z=>#[z.1,?_],q C od' H' (sb `Vr) `Vq nn xs];rcases z.2.2.2.1 with y|y
   ·exact `N (show `SN from y) `ax
   ·exact y
universe zz
structure FnTX(P:`ao)(w:`Q)(K:`A)(mg:`a2)(base:`D)(c m:Str)(k:Nat)(ps:`j)(F:`j)(f:`jp):Prop where
 ex:∃C fa fd,`W P w K mg `l `EA k fa fd ps (ff0 K 0 f)/\`aOB
def pr0(f:`jp)(b:D)(ds:`n):`Vk:=match `qu with
 | `a (`sp)=>`a_a
 | _=>`d
def Sx0{f:`jp}{b:D}{q:D×D}(h:`a_b=`qf):`qu=`a (.ok q.1 q.2):=by
 unfold pr0 at h;split at h
 ·rename_i e;cases h;exact e
 ·cases h
def Wh0{f:`jp}{b:D}{d:D}(h:`qu=`a (`sp)):`a_b=`a_a:=by
 unfold pr0;rw[h]
section
variable{P:`ao}{w:`Q}
def Mi0{k:Nat}{f:`jp}(F:`W P w K mg `l `EA k fa fd ps (ff0 K j f)):`W P w K mg `l CX0 k fa fd ps (spB K j `ajg):=by
 have cv:∀{vs H Q E},spB K j `ajg vs H Q E->ff0 K j f vs H Q `vU:=λ{vs H Q E} #[B,ds,us,p,b,b',r,hb,hp,hv,hj,rs,ro,h,q]=>#[B,ds,us,p,b,.ok r b',hb,hp,hv,hj,rs,ro,Sx0 h,q]
 refine#[λvs H Q E h=>`FR vs H Q _ (cv h),λA outer s H args us vs Q E hr e0 hb r sp=>L9 (`vK A `b2 s H `he us vs Q _ hr e0 hb r (cv sp)) `vL];refine `e;cases r with
 | error ex =>
  let#[_,_,_,_,_,_,_,_,_,_,z]:=hq;refine `b;exact `d'
 | ok fl =>
  cases fl with
  | ret u=>refine `b;exact hq
  | next=>refine `b;exact hq
  | brk=>refine `b;exact hq
  | cont=>refine `b;exact hq
def FnTX.plain{k:Nat}{f:`jp}(C:FnTX P w K mg `l c m k ps F f):FnT P w K mg `l c m k ps F `ajg:=by
 let#[C',fa,fd,Fo,h]:=C.ex;exact#[C',fa,fd,Mi0 Fo,h]
universe zz
def ll0(i:Nat)(c:Str)(F:`j)(gA:GA)(f:`jp):`EB:=fun δ=>`r6 λb=>if `afe then `gX λds=>`ao! λr=>match r with
 | `sp=>(`sp,`a_c)
 | `xh=>(`xh,`a_c) else `d
def i00(g:`EB):GZ:=fun δ=>`rO λr=>match r.1 with
 | .ok _ _=>.ok (.nx r.2)
 | .ex c n _=>.ex c n r.2
def tZT(X:Cx)(H₀:Hp)(B₀:BS)(δ:Ds)(g:`EB):TE:=fun σ H Q=>∃r,`zv/\`av=`ew/\match r.1 with
 | .ok d _=>∀v H',EnvV X.K `O `L H' σ r.2 d v->`m6
 | .ex c n _=>∀H' C od,`cj X.K `O `L H' σ r.2->`HK->XdX X.K `O `L H' σ r.2 od n->`as7
structure PZT(X:Cx)(e:`I)(g:`EB):Prop where
 mk::go:∀H₀ B₀ δ,PE X e (tZT X `O `L δ g)
section
variable{gA:GA}{g:`EB}
theorem S00(i:Nat){pl:`i!}{k:Nat}{f:`jp}(C:FnTX `aR X.w X.K `bz `cH c m k ps F f)(hr:`wH)(hk:k<=n)(hN:`kL:=by rfl)(hv:`wA:=by first|exact `aU|exact `cD|exact `cE)(hd:`rR:=by decide)(hcd:`wB:=by decide)
  (ht:`aOG=(do
   let ov ← `Dz
   `oI
   let (f,`f?) ← `rH
   `OJ):=by rfl) :
  PZT X `VH (ll0 i c F v6 f):=.mk λH₀ B₀ δ pins s σ H Q I hq211=>by
 refine `e;let#[r,en,e1,kk]:=hq211
 unfold ll0 at e1;let#[B,b1,b2,env]:=`aK;let#[Ca,fa,fd,Fo,hC,cl,a2,hb,a5]:=C.ex;cases eb:`gh with
 | none=>rw[eb] at e1;cases e1
 | some bm =>
 rw[eb,`h] at e1;split at e1
 rotate_left
 ·cases e1
 rename_i hfl;let#[d0,hi,a1]:=`mJ;rw[`aOH,`h] at e1;cases e3:f `gw [] with
 | none=>rw[e3] at e1;cases e1
 | some q =>
 rw[e3] at e1;let#[a,O,hB,ro]:=`ij;let#[h1,h2]:=a1 _ _ _ _ ro;let#[x,ns,as,sos,C',dx,fs,a7,w,a3,Y,a6]:=`aOE;have a4:C'=Ca:=`aOF
 subst a4;let#[c1,c2]:=`OR;refine `b;refine(St0 (pl:=pl) `OS cl a2 Fo `kO hb `X ht) `i s σ H Q I #[`bt,O,a,`a9,`OT,a,dx,fs,rfl,`DJ w.hd a3,a6,a,`a9,c1,?_];rw[c2];show ff0 X.K 0 f `d4 H _ _;refine#[B,[],[],a,`gw,q,`r9,hB,rfl,`cN,`fS,h1,e3,?_];cases q with
 | ok d b' =>
  cases e1;intro v H' hh U rv;have J:`a_d:=`a_e;exact `aOI
 | ex cn n b' =>
  cases e1;intro Cx od H' hh U nn xx C3 q;cases q;have J:`a_d:=`a_e;refine kk H' Cx od `apk nn ?_;cases n with
  | none=>trivial
  | some n =>
   let#[Z,q1,x1,x2]:=xx;exact#[Z,B,q1,eg0 `fq x1,x2,b1,b2,J,λz=>`r9 Z z x1]
theorem Qm0(h:PZT X e g)(hs:`Z':=by rfl):PSX X `Z! (i00 g):=.mk λH₀ B₀ δ pins s σ H D I hq212=>by
 refine `e;let#[r,en,e1,k]:=hq212
 unfold i00 at e1;cases e2:`av with
 | none=>rw[e2] at e1;cases e1
 | some q =>
  rw[e2] at e1;let#[q1,q2]:=q;cases q1 with
  | ok d b'=>cases e1;refine `b;exact ru0 `ik hs `i s σ H D I #[_,en,e2,λv H' ev=>k σ H' ev.s]
  | ex c n b'=>cases e1;refine `b;exact ru0 `ik hs `i s σ H D I #[_,en,e2,λH' C od J nn xx=>k σ H' C od J nn xx]
universe zz
def nh0(gt:GTX)(Ga Gb:GS):GS:=`afx
def w00(gx:GX)(gb:GE)(f:`bn):GX:=fun δ=>`C_ λr=>(gb r.2).bind λy=>(f r.1 y).map `afv
def j50(ga gb:GX):GX:=fun δ=>`vX λr=>match r.1 with
 | `c4=>gb r.2
 | `jz=>`a (`jz,r.2)
 | _=>`d
section
variable{a c:`I}{rest:`bA}{as bs:`b5}{gt:GTX}{ga gb:GX}{g:GE}{Ga Gb:GS}
theorem fx0(hc:`afy)(ha:`aC3)(hb:`aC4):PSD X `CU (nh0 gt Ga Gb):=.mk λH₀ B₀ δ pins s σ H D I hq213=>by
 let#[r,en,e1,k]:=hq213
 unfold nh0 at e1;cases e2:`eu with
 | none=>rw[e2] at e1;cases e1
 | some q =>
  rw[e2,`h] at e1;refine `afz;cases hq:q.1 with
  | true=>rw[hq,`bc] at e1;exact`o8
  | false=>rw[hq,`cU] at e1;exact`o8
theorem lu0{op:`hb}{rr:R2}{f:`bn}(ho:`afA)(hf:`afB)(ha:`ajh)(hb:PD X b g)(hm:`kA:=by first|exact `v4|with_unfolding_all rfl):PX X `mm (w00 gx g f):=.mk λH₀ B₀ δ pins s σ H Q I hq214=>by
 refine `e;let#[r,en,e1,k]:=hq214
 unfold w00 at e1;cases e2:`ey with
 | none=>rw[e2] at e1;cases e1
 | some q =>
 rw[e2,`h] at e1;cases e3:g q.2 with
 | none=>rw[e3] at e1;cases e1
 | some y =>
 rw[e3,`h] at e1;cases e4:f q.1 y with
 | none=>rw[e4] at e1;cases e1
 | some d =>
 rw[e4] at e1;cases e1;refine `b;refine Xc0 ho `r4 `a_f hm `i s σ H Q I `Q0
 ·let#[B,env,kk]:=h
  exact `a_g
 ·let#[B,c1,c2,env,rv]:=`gv
  refine`a_h;exact hf H2 B v u q.1 y d _ `a_i (`nL s2) ru e4 λw H3 s3 J=>k w H3 (`gS `a_j c1 c2 (`iC `A8) J)
open T in
theorem jr0{op:`hb}{rr:R2}{f:`bn}(ho:`afA)(hf:`afB)(ha:`ajh)(hb:PD X b g)(hm:`kA:=by first|exact `v4|with_unfolding_all rfl):PTX X `mm (W0 (w00 gx g f)):=.mk λH₀ B₀ δ pins s σ H Q I hq215=>by
 let#[r,en,e1,k]:=hq215
 unfold W0 w00 at e1;cases e2:`ey with
 | none=>rw[e2] at e1;cases e1
 | some q =>
 rw[e2,`h] at e1;cases e3:g q.2 with
 | none=>rw[e3] at e1;cases e1
 | some y =>
 rw[e3,`h] at e1;cases e4:f q.1 y with
 | none=>rw[e4] at e1;cases e1
 | some d =>
 rw[e4,`id,`h] at e1;split at e1
 rotate_left
 ·cases e1
 rename_i t hd;have hd:d=.bl t:=hd;subst hd;cases e1;refine k20 ho `r4 `a_f hm `i s σ H Q I `Q0
 ·let#[B,env,kk]:=h
  exact `a_g
 ·let#[B,c1,c2,env,rv]:=`gv
  refine`a_h;refine hf H2 B v u q.1 y _ _ `a_i (`nL s2) ru e4 λw H3 s3 J=>?_
  rw[Z9] at J;exact#[t,J,k H3 `a_j]
theorem Tm0{op}(h:`ajh):PX X `Z6 gx:=.mk λH₀ B₀ δ=>Tz0 `ik
theorem bi0(ha:PX X a ga)(hb:PX X `vu gb):PX X `vv (j50 ga gb):=.mk λH₀ B₀ δ pins s σ H Q I hq216=>by
 let#[r,en,e1,k]:=hq216
 unfold j50 at e1;cases e2:`de with
 | none=>rw[e2] at e1;cases e1
 | some q =>
 rw[e2,`h] at e1;refine(Tk0 `r4 `Ih) `i s σ H Q I `Q0;let#[B,c1,c2,env,rv]:=`gv;split at e1
 ·rename_i hq
  rw[hq,Z9] at rv;exact#[`c,rv,#[r,ev.s,e1,k]]
 ·rename_i hq
  rw[hq,Z9] at rv;cases e1;exact#[`p,rv,k _ _ `a_k]
 ·cases e1
universe zz
def Y60(c0:Str)(i:Nat)(Gb:GZ)(Gh:GS):GS:=fun δ=>match `yP with
 | `r2=>`d6
 | `xg=>if c=c0 then (match Gh (δ'.set i (.ex c n)) with
  | `a (.nx δ'')=>`a (.nx (δ''.set i .un))
  | _=>`d) else `d
 | _=>`d
section
variable{c0:Str}{r:`f}{body:`b5}{Gb:GZ}
open T in
theorem Py0(i:Nat)(T:`Ve X.K `bz `jt r cs rs)(h0:c0∈cs)(hb:∀pn xe,PSsX (`Vb pn xe) `d1 Gb)(hh:∀e:`f,`lA (`HL (`as? (`a `gV))) `as! Gh)(hN:`ek)(st:`K5:=by rfl)
  (hi:`b0:=by rfl) (hx:`Fh:=by rfl) (hg:Gl X c0:=by rfl) (hdb:(c0==`ld)=`p:=by decide) :
  PSD X (.Try `d1 `a_l [] [] pos) (Y60 c0 i Gb Gh):=.mk λH₀ B₀ δ pins s σ H D I hq217=>by
 let#[res,en,e,k]:=hq217
 refine wpAny_Try_except ?_;obtain⟨W,hW⟩:∃W:`aj,W=λe s₁=>`q `am X.A (`Cu e `w) (λ_ s₂=>`q `am X.A (`U2 e `d) (λ_ s₃=>`q `am X.A (handleBy e `w `a_l) `Z_ `aH s₃) `aH s₂) `aH `dN:=`ad
 rw[← hW];have I1:`aL5:=I.toBody;unfold Y60 at e;cases e1:`yP with
 | none=>rw[e1] at e;cases e
 | some rx =>
  rw[e1] at e;have run:∀D1:`fM,Ii0 `zw `O `L D1 rx->`q `am X.A (execs `d1 `w) (SP `zw [] D1) W s:=λD1 k1=>(hb (`sX) W).go `O `L δ [] s σ H D1 I1 #[rx,en,e1,k1]
  cases rx with
  | ok r1 =>
   cases r1 with
   | nx δ' =>
    cases e;refine C9 (run { nx:=`gG,rt:=`lt } k) (`Z9) `OA;cases f with
    | next =>
     let#[σ',H',I',q]:=q;exact sg0 `i s1 σ' H' D I'.ofBody q
    | ret v=>let#[_,_,_,_,_,z]:=q;exact `d'
    | brk=>let#[_,_,_,z]:=q;exact `d'
    | cont=>let#[_,_,_,z]:=q;exact `d'
   | rt d=>cases e
   | bk δ'=>cases e
   | ct δ'=>cases e
   | rf d=>cases e
  | ex c m δ' =>
   simp only[] at e;split at e
   ·rename_i hc
    subst hc;split at e
    ·rename_i δ'' e2
     cases e;refine C9 (run { nx:=`lt,rt:=`lt } fun σ' H' C od en' n xx pins' s1 ea I' lie'=>?_) (`Z9) `OA
     ·show W (`Kd) s1
      rw[hW];have I2:Inv X `i σ' H' s1:=I'.ofBody;have a4:fh0 X `i H' s1.heap C od ea:=lie'.mono λb z=>z.ofBody
      refine I2.noted st a4 λh2 I3 J=>?_
      let#[C2,a2]:=T.all c h0;obtain rfl:=Lg0 a2 n;let#[oe,vs,he,a1,_]:=id J;have I4:Inv (`aji) `i σ' H' { s1 with heap:=h2 }:=I3.toHand rfl;refine wpAny_handleBy_cons (codeAny_handlers_test (q20 I4 hg a2.mg (XC.Yi0 (h:=h2) `a_m `a_m he a1 ?_) hdb)) (by intro q;cases q);rw[show (`EW::`aL1).contains `bu=`c by simp];refine codeAny_handlers_suite_as (I4.flown (C:=C) (od:=od) J λh5 I5 a3=>?_);let#[Z,a8,U,O,a5,a7,_,Y,_]:=id a3;have I6:Inv (`aji) `i σ' (upd H' ea (`px (fs0 ea C od))) { s1 with heap:=h5 }:=I5.track Y #[Z,U,O,λdx z=>a5.trans z,a8,a7] #[Z,U] λg1 g2 #[o,q1,q2,q3] q=>#[o,q o q1,q2,q3]
      refine ns0 (X:=`aji) I6 hN hi `Hf (v:=`Kd) rfl (λs7 I7=>?_) (`s hx);refine C9 ((hh ea).go `O `L (δ'.set i (`aeA)) `i s7 _ _ { nx:=fun σ H=>`cj X.K `O `L H σ δ'',rt:=`lt } I7 #[.nx δ'',en'.setEx xx Y.1 n,e2,`GA]) (λf s8 q=>?_) (λ_ _ z=>`d');cases f with
      | next =>
       let#[σ8,H8,I8,a6]:=q;exact(I8.ofHand I2).goes hN hi hx λs9 I9=>#[_,H8,I9,k _ _ (a6.setSl `Of λ_ _=>`lE)]
      | ret v=>let#[_,_,_,_,_,z]:=q;exact `d'
      | brk=>let#[_,_,_,z]:=q;exact `d'
      | cont=>let#[_,_,_,z]:=q;exact `d'
     ·cases f with
      | next=>let#[_,_,_,z]:=q;exact `d'
      | ret v=>let#[_,_,_,_,_,z]:=q;exact `d'
      | brk=>let#[_,_,_,z]:=q;exact `d'
      | cont=>let#[_,_,_,z]:=q;exact `d'
    ·cases e
   ·cases e
universe zz
def bt0(f:`cA)(gx:GX):GX:=fun δ=>`wb λr=>(.bl (f r.1),r.2)
def Vp0(g:GE)(gl gh:GO):GE:=fun δ=>`cB λd=>`acs λl=>`act λh=>match d with
 | `c1=>`a (`o (`hH xs l h))
 | _=>`d
section
variable{g:GE}{p:Pos}
theorem Jc0{T:`cd}{f:`cA}{Tn:Str}(hT:`ab9)(hb:`aEp)(hm:`aEq)(hmT:`aEr)(h:`mE)(hg:`aEs := by rfl)(hgT:Gl X Tn:=by rfl)
  (hn:`aEt := by decide) (hd:`aEu:=by decide)
  (he:`aEv:=by rfl) (he2:`aEw:=by rfl)
  (hpl:`aEx:=by rfl) :
  PX X `aEy (bt0 f gx) :=
 .mk λH₀ B₀ δ=>(oy0 (b90 hT) hg hm Cp0 (R8 `ik `aEz he) `r `r he hpl).imp fun σ H Q hq218=>by
  let#[r,en,e1,k]:=hq218
  unfold bt0 at e1;cases e2:`ey with
  | none=>rw[e2] at e1;cases e1
  | some q =>
   rw[e2] at e1;cases e1;refine`Q0;let#[B,c1,c2,env,rv]:=`gv;exact#[B,q.1,v,rfl,rv,k _ H1 `a_k]
theorem Lm0{hi:`jU}(he:`cC)(hl:`adi)(hh:`adj) :
  PDF X `aam (Vp0 g gl gh):=.mk λB δ =>
 (br0 Xg0 `NJ (hl B δ) (hh B δ)).imp fun σ H Q hq219=>by
  refine `e;let#[d,en,h,k]:=hq219
  unfold Vp0 at h;cases e1:`av with
  | none=>rw[e1] at h;cases h
  | some x =>
   cases e2:`y' with
   | none=>rw[e1,e2] at h;cases h
   | some l =>
    cases e3:`y! with
    | none=>rw[e1,e2,e3] at h;cases h
    | some u =>
     rw[e1,e2,e3] at h;simp only[`h] at h;refine `b;refine`aHM;have S:=`o4;have r3:=`adk;split at h
     ·cases h
      rw[X6] at r3;let#[a,xs,rfl,q,r]:=r3;exact#[a,xs,rfl,`ex,λp hp=>k p _ (S.free hp) `adm #[_,m8,(`adn).mono `zq]]
     ·cases h
universe zz
def cs0:`cA
 | `ci=>`r!
 | `cQ (`t _) ds=>`r!
 | `y [`bq,`b_,`ci]=>`r!
 | _=>`p
def thin:`cA
 | `aN6=>ns.all cs0
 | _=>`p
section
mutual
theorem J10(g:`ajj):∀{d:D} {v:V},`kW->`jh->RpN K H B' as d v
 | `x,_,_,h=>`oR
 | `bN,_,_,h=>`oR
 | `co,_,_,h=>`oR
 | `bq,_,_,h=>`oR
 | `ch,_,n,h=>by
  unfold tr at n;rw[yv0] at h ⊢;refine `e;rcases h with h|⟨hr,a,xs,e,q,r⟩
  ·refine `b;exact `LL
  ·refine `b;exact `s #[hr,a,xs,e,#[`aPo,q.2],qr0 g n r]
 | `ci,_,n,h=>by unfold tr at n;cases n
 | `jf,_,n,h=>by unfold tr at n;cases n
 | `oQ,_,n,h=>by unfold tr at n;cases n
theorem qr0(g:`ajj):∀{ds:`n} {xs:`S},`r!=`c->`gO->`jK K H B' as ds xs
 | [],_,_,h=>by rw[xj0] at h ⊢;exact h
 | `aB,_,n,h=>by
  unfold trs at n;rw[`aI] at n;rw[J4] at h ⊢;let#[x,r,e,h1,h2]:=h;exact#[x,r,e,J10 g n.1 h1,qr0 g n.2 h2]
end
open T in
def Ps0{b:D}(g:∀x,¬B x->((∃xs,H x=`hr)∨H x=`k')->¬B' x)(n:thin b=`c)(h:`aM4):RpG K H B' b a:=by
 unfold thin at n;split at n
 ·rename_i x ns
  let#[x',J,e,as,sos,w]:=h;cases e;refine#[x,ns,rfl,as,sos,w.hd,w.nd,w.at',λb hb=>(w.own b hb).imp id λz=>#[g b z.1 (`s z.2),z.2],w.len,?_,w.ins];refine `zb (λk nd so q1 q2 r=>?_) `H6;have hn:cs0 nd=`c:=`DP n nd (D0 q1);have g':`ajj:=λb xs z e=>g b z (`t #[xs,e])
  unfold cs0 at hn;split at hn
  ·let#[xs,e,r]:=r
   exact#[xs,e,`ajk]
  ·let#[xs,e,l,r]:=r
   exact#[xs,e,l,`ajk]
  ·let#[C,dx,ns,xs,e,f,l,c,q,r]:=r
   exact#[C,dx,ns,xs,e,f,l,c,q,`ajk]
  ·cases hn
 ·cases n
universe zz
def ob0(i k:Nat)(c:Str)(F:`j)(f:`aF):GX:=fun δ=>`r6 λb=>match `T? with
 | `a_n=>if `afe/\`a_o then (f b.1 `Kk).bind λr=>if thin r.2=`c/\`cv r.1=`c then `a `ao? else `d else `d
 | _=>`d
section
variable{pz:Pos}{z:Str}
open T in
theorem Ow0(i k:Nat){pl:`i!}{kk:Nat}{f:`aF}(C:FnT `aR X.w X.K `bz `cH c m kk ps F f)(hr:`wH)(hk:kk<=n)(hN:`kL:=by rfl)(hv:`wA:=by first|exact `aU|exact `cD|exact `cE)(hd:`rR:=by decide)(hcd:`wB:=by decide)
  (hN2:X.N[k]?=`a z:=by rfl) (hv2:Vis `m_ z:=by first|exact `aU|exact `cD|exact `cE) (hd2:(z==`ld)=`p:=by decide) (hcd2:(z==`Si)=`p:=by decide)
  (hst:`a_p=(`p,`aY (`Yb) `w)::`hE:=by rfl) (hpl:`jk:=by rfl)
  (ht:`aY `a_q `w=(do
   let ov ← `Dz
   `oI
   let (f,`f?) ← `rH
   `yl pos f `f? (`d0 pos (`a_p)) `FT):=by rfl) :
  PX X `a_q (ob0 i k c F f):=.mk λH₀ B₀ δ pins s σ H Q I hq220=>by
 let#[r,en,e1,kq]:=hq220
 unfold ob0 at e1;let#[B,b1,b2,env]:=`aK;let#[Ca,fa,fd,Fo,hC,cl,b3,hb,b0]:=C.ex;cases eb:`gh with
 | none=>rw[eb] at e1;cases e1
 | some bm =>
 rw[eb,`h] at e1;split at e1
 rotate_left
 ·cases e1
 rename_i l hkl;split at e1
 rotate_left
 ·cases e1
 rename_i hcnd;let#[c8,Y,c3]:=hcnd;let#[d0,hi,a4]:=`mJ;cases e3:f `gw `Kk with
 | none=>rw[e3] at e1;cases e1
 | some q =>
 rw[e3,`h] at e1;split at e1
 rotate_left
 ·cases e1
 rename_i hth;let#[U,d1]:=hth;cases e1;let#[a,J,hB,ro]:=`ij;let#[aL,a1,d2,xs,Z,a6]:=`tF hkl;have a2:a≠aL:=λe=>c3 (env.own i k a _ _ hi hkl J (e▸a1))
 let#[h1,h2]:=a4 _ _ _ _ ro;let#[x,ns,as,sos,C',dx,fs,d3,w,a5,a3,c4]:=p90 c8 h1 b0;have a7:C'=Ca:=by rw[hC] at a3;cases a3;rfl
 subst a7;let#[c1,c2]:=`OR;refine(Xn0 (pl:=pl) (E:=E0) `OS cl b3 Fo `kO hb `X p30 (ey0 (R8 (R0 (i:=k) hN2 hv2 hd2 hcd2) zt0 hst)) hst hpl ht) `i s σ H Q I #[`bt,J,a,`a9,`OT,a,dx,fs,rfl,`DJ w.hd a5,c4,a,`a9,c1,?_];rw[c2];refine#[`Q1,a1,?_];show spB X.K 0 f (`bt::([`Q1]++[])) H Q E0;have less:∀t,(`a_r)->B t:=λt z=>z.1
 refine#[λt=>`a_r,`Kk,[`Q1],a,`gw,q.2,q.1,λt z=>`r9 t z.1,#[hB,a2],rfl,`cN,?_,h1.less less,e3,λv H' hh a8 rv=>?_]
 ·rw[o8]
  refine#[`Q1,[],rfl,?_,`fS];rw[X6];exact#[aL,xs,rfl,`t #[`aGF,`t Z],wh0 Y a6]
 ·have c5:H' aL=`F!:=hh _ _ (A9 a2) Z
  have hg:RpG X.K H' B q.2 a:=Ps0 (λt nt ho z=>by
   have e:t=aL:=Ej0 λne=>nt #[z,ne]
   rcases ho with⟨ys,ho⟩|ho<;>rw[e,c5] at ho<;>cases ho) U a8
  have O:`Ox:=`ok hi J hh (h2 H' B q.2 hg);exact kq v H' (`gS (`tZ b1 b2 hi J hh O) b1 b2 O (s60 d1 rv))
universe zz
universe DL
namespace Sk
open DL W Rk
open Bt (zi0 Y9 vq0 yh0 ub0 S8 wx0 zy0 vm0 Q8 uj0 y80 wy0 N6 t00 G8)
section
def kv0:GS:=(v8 `aQ7
 (v8 (th0 (u00 `atc) `j6
 (v8 `a_s
 t7))
 (v8 (U50 2 (N8 2 `a_t))
 (v8 (ifD `a_u
 (v8 `a_v
 t7)
 t7)
 (v8 (V0 (ji0 (o2 `az (U5 `lW) d8)))
 t7)))))
def pq0:`j:=[`on, `j5, `a_w, `qD]
def u80:`T:=mkF 2 pq0 kv0
def wz0:GSB:=(o5 (V3 (Z8 `aqJ))
 `H)
def tn0:`j:=`aP
def R5:`aF:=mkB 1 tn0 0 wz0
def tx0:GSB:=(o5 (V3 (Z8 `ajl))
 `H)
def px0:`j:=`aP
def N7:`aF:=mkB 1 px0 0 tx0
def ye0:GZB:=(sk0 (mt0 (ai0 (zz0 `A1)
 (js0 (mg0 `i3 `ajl)
 Vm0)
 Vm0))
 (sk0 (Vv0 `aSe)
 Ns0))
def vv0:`j:=`aP
def Q0:`jp:=fz0 1 vv0 0 ye0
def vx0:GSB:=(o5 (j9 (Z7 `zO `iP))
 (o5 (j9 (Y60 `i3 2 (js0 (i00 (ll0 0 `F u9 v6 Q0))
 Vm0)
 (v8 (cpX 1 2)
 t7)))
 (o5 (ifB (ob (exN 1))
 (o5 (V3 (Z8 `iP))
 `H)
 `H)
 (o5 (V3 (Z8 (atG 1 `Kx)))
 `H))))
def o00:`j:=[`Bk, "_law_caught", "e"]
def M3:`aF:=mkB 1 o00 0 vx0
def rd0:GSB:=(o5 (ifX (orT (W0 `a_x) (W0 `a_y))
 (o5 `e'
 `H)
 `H)
 (o5 (j9 (G6 (Y0 0 `F u9 v6 R5) `iO))
 (o5 (ifB (yr0 (yn0 (ob (z80 isInt `gj))) (ob (z80 `A9 `gj)))
 (o5 `e'
 `H)
 `H)
 (o5 (j9 (G6 `Ww `qH))
 (o5 (ifB (yr0 (yn0 `a_z) (ob (o2 `hO `ajm neD)))
 (o5 `e'
 `H)
 `H)
 (o5 (ifB (ob `ajm)
 (o5 (V3 (j50 (Z8 `a_A) (j50 (w00 `a_B `g_ la0) (w00 `Q2 `iP nm0))))
 `H)
 `H)
 (o5 (V3 (j50 (w00 `Q2 `ac eqD) (Z8 `a_C)))
 `H)))))))
def m50:`j:=[`Bk, `atx, `on, `Yx, "_law_open_ones", "_law_whole"]
def z10:`aF:=mkB 4 m50 0 rd0
def Nh0:GS:=(v8 (Z7 `zO (oA (z7 `an `Wg) G8))
 (v8 (Z7 `bV (oA `eB qk0))
 (v8 (Z7 `j6 (oA (z7 (oA (z7 `an (z7 `gZ v6)) G8) v6) qk0))
 (v8 (Z7 `iO (oA `eB vg0))
 (v8 (Z7 `qH (oA (z7 `t9 `lW) u80))
 (v8 (nc0 6 `F z00)
 (v8 (nc0 7 `F z00)
 (v8 (nh0 (orT (zz0 `a_D) (W0 `a_E))
 (v8 `EC
 t7)
 t7)
 (v8 (th0 (Pi0 (z7 (xi0 `hO yo0 `aqm) (z7 (xi0 `hO `age yo0) v6))) (nr0 8 9)
 (v8 (ifD `a_F
 (v8 `a_G
 (v8 (nh0 `a_H
 (v8 `EC
 t7)
 t7)
 (v8 `a_I
 (v8 `a_J
 (v8 (nh0 `a_K
 (v8 `EC
 t7)
 t7)
 t7)))))
 t7)
 t7))
 (v8 (j80 (w00 (Y0 6 `F u9 v6 `atg) `gj la0))
 t7))))))))))
def Nc0:`j:=[`j5, `Ku, `Wd, "_law_more", `Yx, `a_w, `Bk, "_law_beside", "_law_one", "_law_other", "_law_piece"]
def lx0:`T:=mkF 1 Nc0 Nh0
universe zz
universe Sk
namespace Sk
open DL W Rk Rm
open Bt (V1 o9 Z6 Y4 zh0 O3 V7 R6 Y6)
theorem ga0{S:RS}:∀{a b:`_},`br S `z' S'->∃S1,`br S a S1/\`br S1 b S'
 | [],b,h=>#[S,`X S,h]
 | x::a,b,h=>by
  cases h with
  | cons hb ht hl hc hr th hk =>
   let#[S1,h1,h2]:=ga0 hr;exact#[S1,`aq hb ht hl hc h1 th hk,h2]
def Vx0{S:RS}(h:`PY):S'.count=`g6+`bW:=by
 induction h with
 | nil S=>rfl
 | cons hb ht hl hc hr th hk ih =>
  rw[ih,`Y];show _+1+_=_;rw[hk];lia
def K80{S:RS}(h:`PY):`hm->Th S':=by
 induction h with
 | nil S=>exact id
 | cons hb ht hl hc hr th hk ih=>exact λ_=>ih th
def J80{S:RS}(h:`hm):thin `bd=`c:=by
 show (`Ap).all cs0=`c;have J:∀(α:Type) (l:`aT) (f:α->Str),trs (`dx λx=>`gk (f x))=`c:=fun α l f=>xx0 λd hd=>by
  let#[x,_,rfl]:=`db;rfl
 have parts:∀l:`m,trs (`dx `Am)=`c:=λl=>xx0 λd hd=>by
  let#[x,_,rfl]:=`db;rfl
 rw[`h7];intro d hd;refine `e;unfold nodes at hd;simp only[`eL] at hd;rcases hd with rfl|rfl|rfl|rfl|rfl|hd
 ·refine `b;rfl
 ·refine `b;exact `qR _
 ·refine `b;exact `qR _
 ·refine `b;exact J _ `b3 `aE
 ·refine `b;exact J _ S.wait.reverse b8
 ·let#[q,hq,rfl]:=`db
  refine `b;exact h q hq
def Yu0(S:RS)(hw:`l3)(b:Int):`Xd=`a (`jz,R S):=by
 refine V1 rfl λp=>#[`iX,?_,rfl]
 show `PT;refine `uf;have t:`aU7=`a (`c,`iX):=by
  unfold W0;rw[`wY,hw];rfl
 unfold ifX;rw[t,`h,`bc];exact `uA
theorem Q30{S:RS}{b:Int}(h:`br S (b::l) S'):`im:=λz=>by
 cases h with
 | cons hb ht hl hc hr th hk =>
  rw[Yu0 S z b] at ht;cases ht
theorem Xs0(S:RS):R5 `bd []=`a (`A?,R S):=V1 rfl λp=>#[`b4,show wz0 `b4=_ from Z6 (V7 (R6 (j10 p S []))),rfl]
theorem P50(S:RS):N7 `bd []=`a_L:=V1 rfl λp=>#[`b4,show tx0 `b4=_ from Z6 (V7 (R6 (`a_M))),rfl]
def Pr0{G1 G2:GZB}{δ:Ds}{r:`aL RXB}(h:`fo=`r2)(k:`oP=r):`ajn=r:=by unfold sk0;rw[h];exact k
def N00{G1 G2:GZB}{δ:Ds}{d:D}(h:`fo=`a_N):`ajn=`a_N:=`a_O
def Pv0{G1 G2:GZB}{δ:Ds}{n:`a5}(h:`fo=`xg):`ajn=`xg:=`a_O
def mx0(S:RS)(hw:`l3)(hl:`pb)(h:∀q∈`dT,`l'):`ai'=`a (.ok (`Ey) `bd):=by
 have hv:=Rk.io0 S hw hl h;refine X40 rfl λp=>`t `asT
 show ye0 `b4=_;refine Pr0 (δ':=`b4) ?_ (N00 ?_)
 ·have t:`aZc:=by
   unfold zz0 W0;rw[`wY,hw];rfl
  unfold mt0 ai0;rw[t];rfl
 ·unfold Vv0
  rw[show V3 `aqZ `b4=`a (.rt (`Ey) `b4) from V7 (`aZd)];rfl
def Km0(S:RS)(hw:`im)(hc:`a_P):`ai'=`a (.ex `i3 `Ye `bd):=by
 refine X40 rfl `aZb
 show ye0 `b4=_;refine Pv0 ?_;have t:`asU=`a (`c,`b4):=by
  unfold zz0 W0;rw[`wY,`b9 hw];rfl
 have hn:(`I8).natAbs.log2<1920:=by
  show S.count.log2<1920;have:`g6<2 ^ 1920:=M1 hc `cZ
  by_cases z:`g6=0
  ·rw[z];decide
  ·exact(Nat.log2_lt z).mpr `E
 have e:mg0 `i3 `ajl `b4=`a (.ex `i3 `Ye `b4):=by
  unfold mg0;rw[show plN `ate `b4=`aT2 from `a_M,`h];simp only[];rw[`V hn]
 unfold mt0 ai0;rw[t,`h,`bc];unfold js0;rw[e]
def Fn0(p:`f)(δ:Ds):DXB->DXB×Ds
 | `sp=>(`sp,`HX::δ)
 | `xh=>(`xh,`HX::δ)
def Zr0{f:`jp}{p:`f}{S:RS}{δ:Ds}{r:DXB}(hf:`ajo=`ew):ll0 0 `F u9 v6 f `aN=`a (Fn0 p δ r):=by
 have h:`uu:=`cl
 unfold ll0;show `ahq;rw[`cV];show `fB _ (`ajo)=_;rw[hf];cases r<;>rfl
def Yt0(S:RS)(hw:`im)(hc:`a_P):`a_Q=`a_L:=by
 refine V1 rfl λp=>#[`ajp,?_,rfl]
 show `a_R;refine o9 (δ':=`Q3) `D6 (o9 (δ':=`ajp) (Y4 ?_) (o9 (δ':=`ajp) ?_ `pf))
 ·unfold Y60 js0 i00
  rw[Zr0 (Km0 S hw hc)];rfl
 ·rw[O3 `ue]
  rfl
def ca0(S:RS)(hw:`l3)(hl:`pb)(h:∀q∈`dT,`l'):`a_Q=`a (`x,R S):=by
 refine V1 rfl λp=>#[`Q3,?_,rfl]
 show `a_R;refine o9 (δ':=`Q3) `D6 (o9 (δ':=`Q3) (Y4 ?_) `kZ)
 ·unfold Y60 js0 i00
  rw[Zr0 (mx0 S hw hl h)];rfl
 ·rw[zh0 `ue]
  exact `uA
universe Sk
namespace Sk
open DL W Rk Rm
open Bt (V1 o9 Z6 Y4 zh0 O3 V7 R6 Y6 Y9)
open K22 (nd)
theorem Tp0{f:`aF}{p:`f}{S:RS}{δ:Ds}{r:D}(hf:`ajo=`a_S):T6 0 v6 f `aN=`a (r,`WW):=Bt.t80 (p:=p) rfl rfl hf
def tt0{gb:GE}{f:`bn}{δ:Ds}{d y r:D}(h1:`Pj)(h2:gb δ'=`fc)(h3:f d y=`ew):w00 gx gb f δ=`ag_:=by
 unfold w00;rw[h1,`h];show (gb δ').bind _=_;rw[h2,`h];show (f d y).map _=_;rw[h3];rfl
structure At(S:RS)(cnt many:Nat)(due:D):Prop where
 cn:`g6=cnt
 le:cnt<=`eh
 ml:`a_T
 wh:`Yf->`l3/\`ai?/\`pb/\`aZg/\`Ey=due
 nw:cnt≠`eh->`im
def da0{S:RS}{cnt many:Nat}{due:D}(A:At S cnt `eh due)(sd:Sm due 50):z10 `bd [`A!,`Ke,due]=`a (`c4,R S):=by
 have O:=A.cn;have Y:=A.le;have Z:=A.ml;have U:`aT9=`u1:=`I' #[λz=>Ej0 λn=>A.nw n z,λz=>(A.wh z).1];refine V1 rfl λp=>#[`i4,?_,rfl]
 show rd0 `Ba=_;have ct:∀δ:Ds,Y0 0 `F u9 v6 N7 `aN=`a (`A!,`WW):=fun δ=>by
  rw[J0 (ds:=[]) rfl (P50 S),O]
 refine o9 (δ':=`Ba) ?_ ?_
 ·have t1:W0 `a_x `Ba=`a_U:=by
   unfold W0;rw[tt0 (ct _) (y:=`A!) (r:=`jz) rfl (by
    show `a (`a0 (!`B (`A'=`A')))=_;rw[`Bb];rfl)]
   rfl
  have t2:W0 `a_y `Ba=`a_U:=by
   unfold W0 bt0;rw[ct];rfl
  unfold ifX orT;rw[t1,`h];show `e_ `a_V _=_;rw[`cU,t2];rfl
 refine o9 (δ':=`a_W) (Y4 (by
  unfold G6;rw[J0 (ds:=[]) rfl (Xs0 S)];rfl)) ?_
 refine o9 (δ':=`a_W) (by
  rw[O3 `ue];rfl) ?_
 refine o9 (δ':=`i4) (Y4 (by
  unfold G6;rw[`wY,U];rfl)) ?_
 have ce:`atk=`u1:=`pc;have c5:ob `ajm `i4=`a (`u1):=by
  refine `cs;show `a_X;rw[ce]
 refine o9 (δ':=`i4) (by
  rw[O3 (by
   have q1:yn0 `a_z `i4=`bC:=rfl;unfold yr0;rw[q1,`h,`cU];refine `cs;rw[o6 (x:=`Yh) (y:=`Yh) rfl (by
    show `a_X;rw[ce])]
   show `a (`a0 (!`B (`u1=`u1)))=_;rw[`Bb];rfl)]
  rfl) ?_
 by_cases he:`Yf
 ·let#[w1,w2,w3,w4,w5]:=A.wh he
  refine `uf;rw[zh0 (by rw[c5,`bG he])];refine `ai!;have a1:Z8 `a_A `i4=`Q4:=by
   rw[w2];rfl
  have a2:w00 `a_B `g_ la0 `i4=`Q4:=by
   have:la0 due due=`i5:=`a_Y
   have J:=`a_Z;rw[w5] at J;exact tt0 (J0 (ds:=[]) rfl J) (y:=due) rfl `E
  have a3:w00 `Q2 `iP nm0 `i4=`Q4:=by
   exact tt0 (Tp0 (ca0 S w1 w3 w4)) (y:=`x) rfl rfl
  unfold j50;rw[a1,`h];show `e_ (w00 _ _ _ _) _=_;rw[a2,`h];exact a3
 ·have hw:=A.nw he
  refine o9 (δ':=`i4) (by rw[O3 (by rw[c5,`b9 he])];rfl) (`ai!);have a1:w00 `Q2 `ac eqD `i4=`Q4:=by
   refine tt0 (Tp0 (Yt0 S hw `k)) (y:=`A!) rfl ?_;show `a (`a0 (`B (`I8=`A')))=_;rw[O,`Bb]
  unfold j50;rw[a1,`h];show Z8 `a_C _=_;show `a (`a0 (`B (`g4<=`W_)),_)=_;rw[`mM]
structure Cut(cs:`m)(many:Nat):Prop where
 hd:cs[0]?=`n'
 up:cs.Pairwise `u3
 le:∀c∈cs,c<=`eh
 la:cs.getLast?=`a `eh
 ln:`j!<=100
def CB:GS:=(v8 `a_s
 t7)
def Zl0{c:Nat}(a b e:Sl):wm0 `ata [a,b,`ajq,e]=`a__:=by
 have e1:`a_0=`a__:=by
  rw[o6 (x:=`Ki) (y:=`ur) rfl rfl,`po];exact `PF
 show `e_ (`a_0) _=_;rw[e1];rfl
def W90{c d:Nat}(h:`a_1)(hd:c<=d):(`u2++[d]).Pairwise `u3:=by
 rw[`a_2];refine#[h,`adW,λx hx y hy=>?_];rw[`OU];rcases `jl with z|z
 ·exact C0 ((List.pairwise_append.mp h).2.2 x z c (`P?)) hd
 ·rw[`e9];exact hd
def Ld0(ns:`_)(many:Nat)(hm:1<=`eh)(hmm:`a_T):`a_3:=by
 refine `e;have z:`hl:=`aa
 have cell:∀k:Int,`jo->∃x,`aSI=`a `JK:=λk hk=>Gw.Xx0 ns k hk
 let#[δ',l1,l2]:=up0 (f:=gN 3) (G:=CB) (λi δ=>∃(L:`m) (c:Nat) (s:Sl),δ=[`go,`fA,`ajq,s]/\`a_4=i+1/\`Kg[0]?=`n'/\`a_1) (zf0 0 9) 0 `a_5 (by
  rintro j d δ hj ⟨L,c,s,rfl,a1,a2,a3⟩;let#[h1,rfl]:=fv0 hj;rw[`fG] at a1;let#[x,hx]:=cell `cw `k;have m0:0<=`ajr:=`agy;obtain⟨t,ht⟩:∃t:Nat,`ajr=`wQ:=#[(`ajr).toNat,`J];refine#[[`go,`fA,`ajq,`j?],[`go,`fA,.ow (`o (nd (`Kg++[c+t]))),`j?],rfl,`Pu,`u2,c+t,`j?,rfl,by rw[`Z,a1];simp,?_,W90 a3 `k]
  ·refine(`sg (l:=`Kh) (d:=`a_6) rfl ?_ (by rw[`l?,a1];simp at h1;lia)).trans ?_
   ·rw[o6 (x:=`Je) (y:=`g `wQ) `a_7 (by
     rw[o6 (x:=`g (x/3)) (y:=`g (2+`mb/4)) (by
      rw[o6 (x:=`g x) (y:=`qE) (by rw[d9 (ds:=[`hS,`fx]) rfl];exact hx) rfl];rfl) rfl,← ht]
     exact Gw.Nv0 _ _ `k)]
    show `a (`a7 (`uC+`wQ))=_;congr 2
   ·show `a (`sj [_,_,.ow (`o (`Kh++[`a_6])),_])=_
    rw[`po `Kg];rfl
  ·rw[`ga (by rw[a1];lia)]
   exact a2) #[[],0,.un,rfl,rfl,rfl,`a4]
 let#[L,c,s,rfl,a1,a2,a3]:=l2;have Z:`a_4=10:=by rw[a1];rfl
 obtain⟨M,hM⟩:∃M,M=(`u2).map (`ajs):=`ad;have a4:M.Pairwise `u3:=by
  rw[hM];refine `Ji (a3.imp λh=>?_);lia
 have O:∀x∈M,x<=`eh:=λx hx=>by
  rw[hM] at hx;let#[y,_,rfl]:=`C3;lia
 refine `b;have a6:M[0]?=`n':=by rw[hM,`cp,a2];simp
 obtain⟨L',c',U⟩:∃L' c',M=L'++[c']:=#[`AT (`ajs),min c `eh,by rw[hM,`aZ];rfl];have J:M.length=10:=by rw[hM,`P];exact Z
 have a5:T4 1 [0] (uo0 `az) `bP noT `Yc `a_8=`a (`o (nd M)):=by
  refine xv0 (items:=`Kh) rfl (by rw[`l?,Z];lia) ?_;rw[hM];have a7:∀l:`m,zk0 `bP noT `Yc `a_9 (nd l)=`a (nd (`dx `ajs)):=by
   intro l
   induction l with
   | nil=>rfl
   | cons x l ih =>
    show zk0 _ _ _ _ (`ar3::nd l)=_;unfold zk0;simp only[show gN 0 (`a7 `rd) `a_9=`a `a_' from rfl,`h,noT,show oA `Iy jg0 `a_'=`a (`g (if `mb<`rd then `mb else `rd)) from rfl,ih];rw[`ab];show `a (`dD)=`a (`a7 ((`atl:Nat):Int)::_);congr 3;split<;>lia
  exact a7 _
 let#[y9,hy]:=cell 9 `k;have Y:∀δ:Ds,ob `atd (`go::`fA::δ)=`a (`B (y9%3=1)):=fun δ=>by
  refine `cs;rw[o6 (x:=`g (y9%3)) (y:=`ea) (by
   rw[o6 (x:=`g y9) (y:=`qE) (by rw[d9 (ds:=[`hS,`g 9]) rfl];exact hy) rfl];rfl) rfl]
  rfl
 have fin:∀(Q:`m),`a_!->Q.Pairwise `u3->`a_?->`ajt<=20->Cut (`aju) `eh/\o2 `az (U5 `lW) d8 [`go,`fA,.sh (`ajv),xz0 s]=`a (`o (nd (`aju))):=λQ q1 q2 q3 q4=>by
  have hq:0<`ajt:=`afi;refine#[#[by rw[`ga hq];exact q1,?_,`kK,by rw[`aiv],`Do],?_]
  ·rw[`a_2]
   exact#[q2,`adW,λx hx y hy=>by rw[`OU];exact q3 x hx]
  ·rcases `jl with w|w
   ·exact q3 x w
   ·rw[`fv w];exact `ho
  ·rw[o6 (x:=`ajv) (y:=`o [`Ke]) rfl rfl]
   simp only[d8];rw[`V (by rw[`l?];simp only[`Y,`fy];lia),`po];rfl
 have pre:∀(Q:`m),`a_!->Q.Pairwise `u3->`a_?->`ajt<=20->ifD `a_u (v8 `a_v t7) t7 `a0a=`a (.nx [`go,`fA,.ow (`ajv),s])->`a_3:=λQ q1 q2 q3 q4 hi=>by
  let#[f1,f2]:=fin Q q1 q2 q3 q4;refine#[`aju,U3 rfl (t8 (δ':=`a_5) rfl (t8 (ua0 (items:=zf0 0 9) (rw0 `g5 `r `r) l1) (t8 (δ':=`a0a) ?_ (t8 hi (Z3 (T9 f2)))))),f1];show N8 2 `a_t `a_8=_;unfold N8;rw[a5];rfl
 by_cases h9:y9%3=1
 ·have a8:c'<=`eh:=O c' (by rw[U];simp)
  refine pre (M++[`atm]) (by rw[`ga (by rw[J];lia)];exact a6) (by rw[U] at a4 ⊢;exact W90 a4 `k) (`kK) (by rw[`Z,J];simp) ?_
  ·rcases `jl with w|w
   ·exact O x w
   ·rw[`fv w];lia
  ·rw[O4 (by rw[Y,`bG h9])]
   refine t8 ((`sg (l:=nd M) (d:=`a0b) rfl ?_ (by rw[`l?,J];lia)).trans ?_) rfl
   ·rw[U,d9 (ds:=[`g (c':Int),`g (`mb - 1)]) (`ae `a_7 `g5)]
    show `a (`a7 (if `mb - 1 > (c':Int) then `mb - 1 else (c':Int)))=_;congr 2;split<;>lia
   ·show `a (`sj [_,_,.ow (`o (nd M++[`a0b])),_])=_
    rw[`po M];rfl
 ·refine pre M a6 a4 O `k ?_
  rw[X7 (by rw[Y,`b9 h9])];rfl
universe Sk
namespace Rk
open DL W Rm StrLaws
open Bt (Y6)
open Bw (bs sg its two kn cnt tx Vb Gq)
open Km (lkd It Wb ix)
open K22 (lkv rel tgs nd)
open Gw (Gd Vk)
def Js0{p:Pt}(h:p.Ok):`A2<=12:=by
 cases p with
 | text w=>exact `cN
 | row vs=>exact h.1
 | table qs=>show `a0c;rw[`P];exact `pm h
 | rcd c qs=>show `a0c;rw[`P];exact `pm h.2
def Nj0{v:D}(hn:n<=60)(h:Vk v `dM):`kk/\Bw.Lk n v:=by
 refine `e;rcases Sh0 h.ok with rfl|⟨i,rfl⟩|⟨i,rfl,hi⟩
 ·refine `b;exact#[`x,λj e=>nomatch e]
 ·refine `b;refine#[`g i ?_,λj e=>nomatch e]
  have h1:=h.bd i rfl;have h2:(10:Nat) ^ 60<`XC:=`aG
  exact E8 h1 h2
 ·have:=h.lk i rfl
  obtain⟨k,rfl⟩:∃k:Nat,i=`eX:=#[`fm,`J];refine `b;exact#[.lk k `k,Bw.Nd0 `k]
structure Dw(ps:`aA)(pool:`j):Prop where
 len:1<=`aD/\`aha
 pl:`ahb<=60
 gd:∀p∈ps,`aTQ
def Dw.wf{ps:`aA}(h:`a0d):Wf ps (pool.filter λs=>`qV s):=by
 have hl:=`lP;have J:∀p∈ps,∀s∈`wO,`agP:=λp hp s hs=>by
  have ho:=`ajw;cases p with
  | text w=>cases hs
  | row vs=>cases hs
  | table qs =>
   have hs:s∈`J9++[]:=hs;rw[`dh] at hs;let#[q,hq,rfl]:=`agZ;exact `a0e ho q hq
  | rcd c qs =>
   have hs:s∈`J9++[c]:=hs;rcases `ep hs with hs|hs
   ·let#[q,hq,rfl]:=`agZ
    exact `a0e ho.2 q hq
   ·rw[`fv hs];exact ho.1
 refine#[#[`J,`gf,λp hp v hv=>(`a0f).2],C0 (List.length_filter_le _ _) h.pl,λs hs=>(`BD hs).2,λp hp=>`ajw,λp hp s hs=>P4.mpr #[(`Yk).nms s hs,`a0g]];have ho:=`ajw;refine#[?_,λv hv=>(`a0f).1,λs hs=>C0 (Um0 (`a0g)) `k,Js0 ho];cases p with
 | text w=>exact`aZf
 | row vs=>exact C0 ho.1 `k
 | table qs=>exact C0 (`pm ho) `k
 | rcd c qs=>exact C0 (`pm ho.2) `k
universe Rk
namespace Sk
open DL W Rk Rm
open Bt (V1 o9 Z6 Y4 zh0 O3 V7 R6 Y6 Y9 G8)
open K22 (nd)
open Bw (bs its)
open Km (hb lkd Wb)
def Hn0(n:Nat):bs n≠[]:=by unfold bs;simp
structure Tl(ps q:`aA)(l:`_)(S:RS):Prop where
 wb:Wb q
 pk:qk0 `uZ=`a (`Xh)
 dr:vg0 `uZ=`a `h4
 ne:l≠[]
 ln:`bW<=11000000
 rn:`br `du l S
 wt:`l3
 un:`ai?
 bl:`pb
 wh:∀q∈`dT,`l'
 md:`aZh=`Bc
def N70{ps:`aA}(W:`k3):∃q l S,Tl ps q l S:=by
 refine `e;let#[L,T,b1,h,hp,hn,hL,hc,N,hN]:=Od0 `rm;have O:∀k∈L,∀i∈K22.tgs `aXy,i∈L:=λk hk i hi=>by
  refine `e;rw[← Xv0] at hi;let#[v,hv,e]:=r9.mp hi;let#[_,w2]:=`rh (hL k hk);have hI:=`oi w2 v hv;rcases hI with⟨s,rfl,_⟩|rfl|⟨z,rfl,_⟩|⟨j,rfl,_⟩
  ·cases e
  ·cases e
  ·cases e
  ·simp only[`cy] at e
   cases e;refine `b;exact hc k hk i hv
 have J:`aXx:=by
  have:=`aZX
  rw[`k0] at this;have:=`ai5;exact#[by rw[hN];simp,`J]
 have wl:=Km.Lo0 `rm J hL O;let#[S,r,h1,h2,h3,h4,h5]:=Pq0 W h hp;refine `b;refine#[_,_,S,wl,(`a0h).1,Qc0 `rm hn hL hc (Yq0 `rm h),`jT,(`a0h).2,r,h1,h2,h3,h4,h5];rw[hp,`QL,`jm] at z;have z1:=(Ek0.mp (Ek0.mp z).1).1;exact Hn0 _ z1
structure Mid(l:`_)(E S:RS)(c:Nat):Prop where
 to:`br `du (`D_ c) S
 go:`br S (`rn c) E
def Mid.next{E S:RS}{c d:Nat}(m:`Q5)(h:c<=d):∃S',`br S (`Kl) S'/\`a0i:=by
 have e:`rn c=`Kl++`rn d:=by
  conv=>lhs;rw[← List.take_append_drop `Bd (`rn c)]
  rw[`QH,`a0j]
 have g:=m.go;rw[e] at g;let#[S',r1,r2]:=ga0 g;refine#[S',r1,#[?_,r2]];have:`D_ d=`D_ c++`Kl:=by
  have:=List.take_add (l:=l) (i:=c) (j:=d - c);rw[`a0j] at this;exact `E
 rw[`E];exact m.to.app r1
theorem Ol0:Th `du:=λq hq=>by cases hq
theorem Mid.th{E S:RS}{c:Nat}(m:`Q5):`hm:=K80 m.to Ol0
def Mid.at{ps q:`aA}{E S:RS}(t:`a0k){c:Nat}(m:`Q5)(hc:c<=`bW):At S c `bW `h4:=by
 have J:`g6=c:=by
  rw[Vx0 m.to];show 0+(`D_ c).length=c;rw[`dg];lia
 refine#[J,hc,by have:=t.ln;lia,λe=>?_,λe=>?_]
 ·have g:=m.go
  rw[e,`v7] at g;cases g;exact#[t.wt,t.un,t.bl,t.wh,t.md]
 ·have g:=m.go
  rw[`anc `k] at g;exact Q30 g
def M40(xs:`n)(c d:Nat)(h:c<=d):`hH xs `Q6 `Q7=`a0l:=by
 unfold cutD sIx;simp only[];rw[`PB,`PB,`cy,`cy]
 by_cases h1:c<=`ay
 ·rw[`ag! h1]
  by_cases h2:d<=`ay
  ·rw[`ag! h2]
  ·rw[`aTP,`a0m,`a0m]
 ·rw[`PC (show `ay<=min c `ay by lia),`PC (show `ay<=c by lia),`ag?,`ag?]
def jn0{f:`aF}{gA:GA}{S:RS}{δ:Ds}{r:D}(hi:`ajx)(hA:`kN)(hf:`aUm):Y0 i `F u9 gA f δ=`a0n:=by
 have h:`uu:=`cl
 unfold Y0;rw[hi];show `ahq;rw[`cV,hA,`h];show `ahr;rw[hf];rfl
def Zw0{f:`aF}{gA:GA}{S:RS}{δ:Ds}{r:D}(hi:`ajx)(hA:`kN)(hf:`W7=`a_S):`agF=`a (r,`aX i (`Yl)):=by
 unfold T6;rw[hi];show `e_ (`cO) _=_;rw[hA,`h];show `ahr;rw[hf];rfl
def Rb0{k:Nat}{f:`aF}{S:RS}{δ:Ds}{l:`n}{r:D}(hi:`ajx)(hk:`T?=`a_n)(hfl:`iI l=`c)(hik:i≠k)(hf:`a0o=`n6)(ht:`a0p)(hr:`VF):ob0 i k `F u9 f δ=`a0n:=by
 have h:`uu:=`cl
 unfold ob0;rw[hi,hk];show (if `uu/\`a_o then _ else `d)=_;rw[`V #[h,hfl,hik]];show `e_ (`a0o) _=_;rw[hf,`h];show (if `a0p/\`VF then _ else `d)=_;rw[`V #[ht,hr]]
def aa0{gt:GTX}{Ga Gb:GS}{δ:Ds}(h:`eu=`a (`p,δ')):nh0 gt Ga Gb δ=Gb δ':=by unfold nh0;rw[h];rfl
def LB:GS:=(v8 (ifD `a_F
 (v8 `a_G
 (v8 (nh0 `a_H
 (v8 `EC
 t7)
 t7)
 (v8 `a_I
 (v8 `a_J
 (v8 (nh0 `a_K
 (v8 `EC
 t7)
 t7)
 t7)))))
 t7)
 t7)
def st(N w:D)(l l2:`_)(due cu:D)(S T:RS)(s8 s9 s10:Sl):Ds:=[`sq,.sh w,`l6,`ED,`Kf,.sh cu,`Yl,.ow (R T),s8,s9,s10]
def Gp0{ps q:`aA}{l2:`_}{E E2:RS}(t:`a0k)(N w cu:D){S T:RS}{c d:Nat}(m:`Q5)(m2:Mid l2 E2 T c)(hcd:c<=d)(hd:d<=`bW)(s10:Sl) :
  ∃S' T' s10',`a0i/\Mid l2 E2 T' d/\LB (st N w l l2 `h4 cu S T `Be `Bf s10)=`a (.nx (st N w l l2 `h4 cu S' T' `Be `Bf s10')):=by
 have zs:`aiu:=`aa
 let#[S',r1,m']:=m.next hcd;let#[T',r2,J]:=m2.next hcd;have sd:=T40 t.wb;refine#[S',T',`atp,m',J,?_];have hl:=t.ln;have sl:∀(xs:`_),`hH (`sN `a7) `Q6 `Q7=(`a0l).map `g:=λxs=>by rw[M40 _ _ _ hcd,← `aT_,← List.map_take]
 refine `a0q;rw[O4 (Y6 (by
  show `a (`a0 (`B (`uC<=`Kj)))=_;rw[`mM]))]
 refine t8 (δ':=st N w l l2 `h4 cu S T `Be `Bf `atq) (by
  show `fB _ (`a (`eD (`hH (`dx `a7) `Q6 `Q7)))=_;rw[sl];rfl) ?_
 refine t8 (δ':=`a0r) (by
  rw[aa0 (δ':=`a0r) (by
   unfold W0;rw[tt0 (Rb0 (i:=6) (k:=10) (S:=S) (S':=S') rfl rfl (Km.i20 _) `r (Xw0 r1) (J80 m'.th) rfl) (y:=`x) (r:=`jz) rfl rfl];rfl)]
  rfl) ?_
 refine t8 (`sg (i:=10) (l:=`Ym) (d:=`fz) rfl rfl (by rw[`P,`dg,`g9];lia)) ?_;refine t8 (δ':=`Yn) (by
  unfold j8;rw[jn0 (i:=7) (S:=T) (S':=T') (ds:=[`o (((l2.drop c).take `Bd).map `g)]) rfl (`ae (by
   show `a (`eD (`hH (l2.map `a7) `Q6 `Q7))=_;rw[sl]) rfl) (Xw0 r2)]
  rfl) ?_
 refine `a0q;rw[aa0 (δ':=`Yn) (by
  unfold zz0 W0;rw[Zw0 (i:=6) (S:=S') (ds:=[`g `Kj,`ajy,`Bc]) rfl `a0s (da0 (m'.at t hd) sd)];rfl)]
 rfl
def Pg0(ns:`_)(hl:`fg<=63):`a0t:=by
 refine `e;have zs:`aiu:=`aa
 let#[ps,pool,h1,c1,c4,b0,O]:=Bt.io0 ns `k 0 `k;let#[a1,a2,k1,b3,c3,b2,U]:=Bt.io0 ns `k 3 `k;have O:G8 [`hS,`fz]=`a `re:=O;have U:G8 [`hS,`qE]=`a (`AN a1):=U;have D1:`a0d:=#[#[h1,c1],`J,b0];have D2:Dw a1 a2:=#[#[k1,b3],`J,b2];let#[q,l,E,t]:=N70 D1.wf;let#[q2,l2,E2,t2]:=N70 D2.wf;have d1:=t.ln;have hl1:1<=`bW:=`OO t.ne;let#[cs,a6,C]:=Ld0 ns `bW hl1 `k;have sd:=T40 t.wb;have m0:Mid l E `du 0:=#[`uX,t.rn];have b1:Mid l2 E2 `du 0:=#[`uX,t2.rn];obtain⟨N,hN⟩:∃N:D,N=`hS:=`ad;refine `b;rw[← hN] at O U a6 ⊢;refine `e;have c8:cs.dropLast.length=`ajz:=`aaR;have c5:0<`j!:=(`ds C.hd).1;obtain⟨items,J⟩:∃items,`ba=(`a0u).map `UY:=`ad
 have a4:`cP=`ajz:=by
  rw[J,`P,`gT,`aaR,`g9,`l?];lia
 have c2:∀(j:Nat) (d:D),`aBQ->j+1<`j!/\d=`y [`a0v,`a0w]:=λj d hj=>by
  have Y:=`aeF;rw[a4] at Y;refine`aYQ;have e1:`a0x[j]?=`a (`a0v):=by
   rw[List.getElem?_dropLast,`V `aZG];unfold K22.nd;rw[`cp,`iD `ajA];simp[`bD,`ajA]
  have e2:`Yo[j]?=`a (`a0w):=by
   rw[List.getElem?_drop,`aAe];unfold K22.nd;rw[`cp,`iD `a0y];simp[`bD,`a0y]
  rw[J,`cp,show (`a0u)[j]?=`a (_,_) from x5.mpr #[e1,e2]] at hj;exact(A4 hj).symm
 let#[δ',l3,l4]:=up0 (f:=nr0 8 9) (G:=LB) (λi δ=>∃(S T:RS) (s8 s9 Z:Sl),δ=st N `re l l2 `h4 `u5 S T s8 s9 Z/\Mid l E S (`Bg i 0)/\Mid l2 E2 T (`Bg i 0)) `ba 0 (`ro) (by
  rintro j d δ hj ⟨S,T,s8,s9,Z,rfl,m,m2⟩;let#[Y,rfl]:=c2 j d hj;rw[`fG] at m m2;have g1:`Yp=cs[j]:=by simp[`bD,`ajA]
  have g2:`Km=cs[j+1]:=by simp[`bD,Y]
  have a8:`Yp<=`Km:=by
   rw[g1,g2];exact List.pairwise_iff_getElem.mp C.up j `mc `k Y `k
  have hd:`Km<=`bW:=by rw[g2];exact C.le _ (d5 Y)
  let#[S',T',a7,n1,n2,e]:=Gp0 t N `re `u5 m m2 a8 hd Z;exact#[_,_,rfl,e,S',T',_,_,a7,rfl,by rw[`fG];exact n1,by rw[`fG];exact n2]) #[`du,`du,.un,.un,.un,rfl,by rw[`bD,C.hd];exact m0,by rw[`bD,C.hd];exact b1]
 let#[S,T,s8,s9,Z,rfl,m,_]:=l4;rw[`fG,a4] at m;have a3:`Bg (`ajz) 0=`bW:=by
  have:=C.la;rw[`aGN] at this;rw[`bD,`E];rfl
 rw[a3] at m;have A:=m.at t `bj;let#[w1,w2,w3,w4,w5]:=A.wh rfl;have A0:=m0.at t `rN;refine `b;refine U3 rfl ?_;refine t8 (δ':=[`sq,`cn,.un,.un,.un,.un,.un,.un,.un,.un,.un]) (U0 (by rw[d9 (ds:=[N,`fz]) rfl];exact O)) ?_;refine t8 (δ':=[`sq,`cn,`l6,.un,.un,.un,.un,.un,.un,.un,.un]) (U0 (by rw[`aje];exact t.pk)) ?_;refine t8 (δ':=[`sq,`cn,`l6,`ED,.un,.un,.un,.un,.un,.un,.un]) (U0 (by
  rw[d9 (ds:=[`AN a1]) (`ae (by rw[d9 (ds:=[N,`qE]) rfl];exact U) rfl)];exact t2.pk)) ?_
 refine t8 (δ':=[`sq,`cn,`l6,`ED,`ajB,.un,.un,.un,.un,.un,.un]) (U0 (by rw[`aje];exact t.dr)) ?_;refine t8 (δ':=[`sq,`cn,`l6,`ED,`ajB,.sh `u5,.un,.un,.un,.un,.un]) (U0 (by
  rw[d9 (ds:=[`ajy,N]) `atr];exact a6)) ?_
 refine t8 (δ':=[`sq,`cn,`l6,`ED,`ajB,.sh `u5,.ow (R `du),.un,.un,.un,.un]) `a0z ?_;refine t8 (δ':=`ro) `a0z ?_;refine t8 (δ':=`ro) (by
  have q1:zz0 `a_D (`ro)=`a0A:=by
   unfold zz0 W0;rw[Zw0 (i:=6) (S:=`du) (ds:=[`ail,`ajy,`Bc]) rfl `a0s (da0 A0 sd)];rfl
  have q2:W0 `a_E (`ro)=`a0A:=by
   unfold W0;rw[tt0 (jn0 (i:=6) (S:=`du) (ds:=[]) rfl rfl (Xs0 `du)) (y:=`fz) (r:=`jz) rfl rfl];rfl
  rw[aa0 (δ':=`ro) (by
   unfold orT;rw[q1,`h];show `a_V=_;rw[`cU,q2])]
  rfl) ?_
 refine t8 (ua0 (items:=`ba) ?_ l3) `n0
 ·show `e_ (z7 _ _ _) Ub0=_
  rw[`ae (d:=`o `a0x) (ds:=[`o `Yo]) ?_ (`ae ?_ rfl),J]
  ·rfl
  ·rw[Bt.q40 (d:=`Yi) (l:=`d) (h:=`a `qt) rfl rfl rfl]
   show `a (`eD (`hH (`u4) `d (`a `qt)))=_;congr 2;unfold cutD sIx;simp only[`aVj,Nat.sub_zero];rw[`Bs];rw[`acV];congr 1;lia
  ·rw[Bt.q40 (d:=`Yi) (l:=`P4) (h:=`d) rfl rfl rfl]
   show `a (`eD (`hH (`u4) (`P4) `d))=_;rw[Bt.Za0]
 ·unfold j80
  have a5:=`a_Z;rw[w5] at a5;have:la0 `h4 `h4=`i5:=`a_Y
  rw[tt0 (jn0 (i:=6) (S:=S) (ds:=[]) rfl rfl a5) (y:=`Bc) rfl `E];rfl
universe Sk
namespace Sk
open L2 DL Rk
open Bt (zi0 Y9 vq0 yh0 ub0 S8 wx0 zy0 vm0 Q8 uj0 y80 wy0 N6 t00 G8)
def top(i:Nat):`a1:=PySem.Challenge.pw_graphpack_k31_packs_in_pieces.main.body.getD i `ajC
def b_bool:`fd `v'=`a (`a! `v'):=`aG
def b_int:`fd `h!=`a (`a! `h!):=`aG
def b_list:`adz:=`aG
def b_max:`fd `B2=`a (`bo `B2):=`aG
def b_min:`fd `B3=`a (`bo `B3):=`aG
def b_ord:`fd `B4=`a (`bo `B4):=`aG
def b_str:`fd `i?=`a (`a! `i?):=`aG
def b_tuple:`aPx:=`aG
def b_zip:`ad7:=`aG
structure Txt(mg:`a2):Prop where
 b_bool:mg `v'=`d
 b_enumerate:mg `m!=`d
 b_int:mg `h!=`d
 b_isinstance:mg `tB=`d
 b_len:mg `tc=`d
 b_list:mg `eS=`d
 b_max:mg `B2=`d
 b_min:mg `B3=`d
 b_ord:mg `B4=`d
 b_range:mg `sQ=`d
 b_reversed:mg `nI=`d
 b_str:mg `i?=`d
 b_tuple:mg `dk=`d
 b_zip:mg `f7=`d
 c_BASE:∃t,mg "BASE"=`a (`g 128 t)
 c_MOST_NAMES:∃t,mg `a0B=`a (`g 60 t)
 c_MOST_NAME_SIGNS:∃t,mg `a0C=`a (`g 8 t)
 c_MOST_PARTS:∃t,mg `a0D=`a (`g 60 t)
 c_MOST_VALUES:∃t,mg `a0E=`a (`g 12 t)
 c_MOST_WORD_SIGNS:∃t,mg `a0F=`a (`g 20 t)
 c_NAME_SIGNS:∃t,mg `a0G=`a (`u `z1 t)
 c_WORD_SIGNS:∃t,mg `a0H=`a (`u `z2 t)
def meth(i k:Nat):`a1:=match top i with
 | `a0I=>body.getD k `ajC
 | s=>s
def ini(i:Nat):`a1:=match top i with
 | `a0I=>body.getD 0 `ajC
 | s=>s
theorem dz0:`ai `j0 `j0 (t6 (ini 2)):=#[rfl,rfl,rfl,`aG,rfl,`aG,`aG]
theorem fsc{P:`j}(a:`ayr)(b:`ays)(c:`ayt)(d:`ayu)(e:`BL/\(∀x∈P,`ZC)/\∀y∈`LH,`ayv):`ai N P sc:=#[a,b,c,e.1,d,e.2.1,e.2.2]
theorem cok(a:scope.kind=`ne)(b:`aAF)(c:(∀y∈`gM,`aAC)/\(∀y∈`gM,`aAD)/\(∀y∈`gM,`aAE)/\N'.Nodup/\∀k∈`bF `tg,`aAG):`o0:=#[a,c.1,c.2.1,c.2.2.1,c.2.2.2.1,b,c.2.2.2.2]
section
variable{P:`ao}{w:`Q}
theorem v50:`ai yb0 `g! (t6 `ajD):=`au
theorem gj0(F:Fun K `Kp `Kp `ajD fa fd)(T:`as)  : `W P w K mg `l CX0 1 fa fd `g! (spN K V8) :=
 okN (k:=0) (G:=ya0) F v50 (λcdv A outer s H E hr=>(w6 (zw0 1 (J8 (v5 (Z4 `aO `mQ) u5)) v50.nd)
   (w6 (X3 (W9 `aO `mQ) (o7 2 v50.nd))
   (w6 (pj0 100000 E4 (n6 pi0 sp0 `bl v7)
   (w6 (W3 (u50 1 (Y7 `mQ (Z4 `bl `mQ))))
   (w6 (X3 (W9 `bl `mQ) (o7 2 v50.nd))
   u6)))
   (w6 (Rc0 (no0 `rr `Q8 `aC))
   u6))))) `jq
theorem Td0:`ai sf0 `g! (t6 `ajE):=`au
theorem Tr0(F:Fun K `Q9 `Q9 `ajE fa fd)(T:`as)  : `W P w K mg `l CX0 1 fa fd `g! (spD K vk0) :=
 okD (k:=0) (G:=s90) F Td0 (λcdv A outer s H E hr=>(w6 (V2 (n6 nq0 qi0 `aO v7)
   (w6 (X4 (G7 (O1 `rq `aO) v7))
   u6)
   u6)
   (w6 (X4 (O1 v7 `aO))
   u6))) `dG
theorem Yv0:`ai g50 `g! (t6 `ajF):=`au
theorem Yk0(F:Fun K `Q' `Q' `ajF fa fd)(T:`as)  : `W P w K mg `l CX0 1 fa fd `g! (spD K rh0) :=
 okD (k:=0) (G:=ik0) F Yv0 (λcdv A outer s H E hr=>(w6 (V2 `EE
   (w6 (X4 (G7 (z90 `u9) v7))
   u6)
   u6)
   (w6 (X4 `u9)
   u6))) `dG
theorem Yf0:`ai gb0 `o! (t6 `ajG):=`au
theorem Ys0(F:Fun K `Q! `Q! `ajG fa fd)(T:`as)  : `W P w K mg `l CX0 1 fa fd `o! (spD K vy0) :=
 okD (k:=0) (G:=h80) F Yf0 (λcdv A outer s H E hr=>(w6 (X4 (bl0 (vp0 W40 b_int `md `ajH `aO) (h00 (H40 (vp0 nn0 `Q? `md `Ra `aO)))))
   u6)) `dG
theorem ck0:`ai K5 `di (t6 `Rb):=`au
theorem c00(F:Fun K `Rc `Rc `Rb fa fd)(T:`as)  : `W P w K mg `l CX0 1 fa fd `di (spN K vl0) :=
 okN (k:=0) (G:=lg0) F ck0 (λcdv A outer s H E hr=>(w6 (V2 (`k5 (ss0 `pp (s80 `pp)))
   (w6 `Rd
   u6)
   u6)
   (w6 (M6 (jb0 (sc:=t6 `Rb) (N:=K5) (N':=[`Wi]) (n:=1) (caps:=[]) `hn `r `ajI (λcl s H ex=>o7 0 (`aG:([`Wi]:`j).Nodup)) `pq `ajJ))
   u6))) `jq
theorem Vr0:`ai er0 `o! (t6 `ajK):=`au
theorem Ue0(F:Fun K `Re `Re `ajK fa fd)(T:`as)(C_is_whole:FnD P w K mg `l `Q! 1 `o! vy0):`W P w K mg `l CX0 2 fa fd `o! (spD K vu0) :=
 okD (k:=1) (G:=dh0) F Vr0 (λcdv A outer s H E hr=>(w6 (X4 (bl0 (K7 C_is_whole hr `r `om) (h00 (Q70 Va0 by0 Va0 by0 v7 `aO v7))))
   u6)) `dG
theorem il0:`ai d60 `YB (t6 `ajL):=`au
theorem V60(F:Fun K `KA `KA `ajL fa fd)(T:`as)  : `W P w K mg `l CX0 1 fa fd `YB (spD K vh0) :=
 okD (k:=0) (G:=ex0) F il0 (λcdv A outer s H E hr=>(w6 (uu0 E4 rfl (Wk0 `aC) (o7 2 il0.nd)
   (w6 (V2 (n6 X8 Z1 (wl0 a70 Sv0 T.b_ord b_ord `e0) `aO)
   (w6 (X4 `bl)
   u6)
   u6)
   u6))
   (w6 (X4 ud0)
   u6))) `dG
theorem Zg0:`ai kz0 `Pe (t6 `ajM):=`au
theorem a00(F:Fun K `Rf `Rf `ajM fa fd)(T:`as)  : `W P w K mg `l CX0 1 fa fd `Pe (spD K ug0) :=
 okD (k:=0) (G:=j00) F Zg0 (λcdv A outer s H E hr=>(w6 (V2 `sr
   (w6 (X4 `a0J)
   u6)
   u6)
   (w6 (X4 (zb0 T.c_MOST_VALUES))
   u6))) `dG
theorem i60:`ai o30 `Pf (t6 `ajN):=`au
theorem iv0(F:Fun K `Rg `Rg `ajN fa fd)(T:`as)  : `W P w K mg `l CX0 1 fa fd `Pf (spD K u10) :=
 okD (k:=0) (G:=oa0) F i60 (λcdv A outer s H E hr=>(w6 (V2 `sr
   (w6 `a0K
   u6)
   u6)
   (w6 (V2 `sr
   (w6 `a0K
   u6)
   u6)
   (w6 (V2 `sr
   (w6 (X4 `a0L)
   u6)
   u6)
   (w6 (X4 (Y7 (u70 `Bh) `a0L))
   u6))))) `dG
theorem Z70:`ai ky0 `Kz (t6 `ajO):=`au
theorem bh0(F:Fun K `Ky `Ky `ajO fa fd)(T:`as)(C_made_pairs:FnD P w K mg `l `Rh 1 `Pg vf0):`W P w K mg `l CX0 2 fa fd `Kz (spD K O2) :=
 okD (k:=1) (G:=j20) F Z70 (λcdv A outer s H E hr=>(w6 (V2 `sr
   (w6 (X4 (yf0 (v5 j5 (v5 (Yz0 j5 `fI) u5))))
   u6)
   u6)
   (w6 (V2 `sr
   (w6 (X4 (yf0 (v5 j5 (v5 (wj0 z30 qm0 `ko `kn `fI) u5))))
   u6)
   u6)
   (w6 (V2 `sr
   (w6 (X4 (yf0 (v5 j5 (v5 (K7 `a0M hr `r `fI) u5))))
   u6)
   u6)
   (w6 (X4 (yf0 (v5 j5 (v5 `Ri (v5 (K7 `a0M hr `r (v5 (xb0 `aC `Kn xk0) u5)) u5)))))
   u6))))) `dG
theorem cj0:`ai mj0 `Pg (t6 `ajP):=`au
theorem cg0(F:Fun K `Rh `Rh `ajP fa fd)(T:`as)  : `W P w K mg `l CX0 1 fa fd `Pg (spD K vf0) :=
 okD (k:=0) (G:=l70) F cj0 (λcdv A outer s H E hr=>(w6 (X4 (Rk0 fc0 R00 `ko `ajQ `kn b_zip (v5 `a0N (v5 `a0N u5))))
   u6)) `dG
theorem rn0:`ai lh0 `YC (t6 `Rj):=`au
theorem Uk0(F:Fun K `KB `KB `Rj fa fd)(T:`as)  : `W P w K mg `l CX0 1 fa fd `YC (spD K yx0) :=
 okD (k:=0) (G:=dm0) F rn0 (λcdv A outer s H E hr=>(w6 (X3 v7 (o7 3 rn0.nd))
   (w6 (uu0 E4 rfl (wq0 `ss (v5 (G7 `aC `xi) u5)) (o7 4 rn0.nd)
   (w6 (X3 (O1 `g' (zp0 `h5 `a0O)) (o7 3 rn0.nd))
   u6))
   (w6 (X4 (tc0 nq0 qi0 (zp0 `h5 (v5 (gq0 (sc:=t6 `Rj) (N:=lh0) (N':=`a0P) (n:=1) (caps:=[1,2]) `hn `r (se0 `aO) (λcl s H ex=>o7 0 (`aG:(`a0P:`j).Nodup)) (λcl s H ex=>(W10 (`k5 (f80 (n6 X8 Z1 `ajR `aC) (jq0 (J7 (Oq0 PySem.F.slot_str_startswith PySem.F.type_str_startswith Ts0 Sj0 Vo0 `aO `e0))))))) (λcl s H ex=>`aO)) u5)) `g'))
   u6)))) `dG
theorem q50:`ai g90 [`hP] (t6 `ajS):=`au
theorem Lw0(F:Fun K `Rk `Rk `ajS fa fd)(T:`as)(C_held_items:FnN P w K mg `l `Rl 1 `di K6)(C_is_new:`a0Q)(C_item_bytes:FnN P w K mg `l `Rm 3 `ajT zm0):`W P w K mg `l CX0 4 fa fd [`hP] (spN K qk0) :=
 okN (k:=3) (G:=ih0) F q50 (λcdv A outer s H E hr=>(w6 (zw0 1 `rp `EF)
   (w6 (zw0 2 eu0 `EF)
   (w6 (zw0 3 eu0 `EF)
   (w6 (zw0 4 (J8 (v5 (yf0 (v5 j5 `op)) u5)) `EF)
   (w6 (pj0 100000 E4 (n6 pi0 sp0 (l90 `ajU) v7)
   (w6 (zx0 (Rr0 4) (qt0 (o7 5 `EF)))
   (w6 (W3 (Zt0 1 (`EG (Oc0 (q70 C_item_bytes hr `r (v5 `aO (v5 `i6 (v5 `bl `st))))))))
   (w6 (V2 (J7 (vp0 Yx0 b_str `md T.b_str `i6))
   (w6 (W3 (Jj0 3 `i6 (l90 (wl0 p50 lv0 `h5 c6 `st))))
   u6)
   (w6 (V2 (J7 (Nz0 (K7 C_is_new hr `r (v5 `i6 `e0))))
   (w6 (zx0 (Z2 (l90 (wl0 p50 lv0 `h5 c6 `e0))) (lt0 2 `kp `a0R))
   (w6 (W3 (Zt0 4 (`EG (no0 `rr `Q8 (vi0 C_held_items hr `r (v5 (Z0 `aO `a0R) u5))))))
   u6))
   u6)
   u6))
   u6))))
   (w6 `ajV
   u6))))))) `jq
theorem Ri0:`ai tz0 `km (t6 `ajW):=`au
theorem Sb0(F:Fun K `Ko `Ko `ajW fa fd)(T:`as)  : `W P w K mg `l CX0 1 fa fd `km (spD K zg0) :=
 okD (k:=0) (G:=n80) F Ri0 (λcdv A outer s H E hr=>(w6 (X4 (bl0 `att (h00 (My0 `kp `ol `aC))))
   u6)) `dG
theorem mb0:`ai tj0 `ajT (t6 `ajX):=`au
theorem du0(F:Fun K `Rm `Rm `ajX fa fd)(T:`as)(C_is_new:`a0Q)(C_known_head:FnD P w K mg `l `Rn 2 `km zo0)(C_name_bytes:FnN P w K mg `l `Ro 2 `DU wb0)(C_number_bytes:`a0S)(C_part_number:FnD P w K mg `l `Rp 1 `di z40)(C_text_bytes:FnN P w K mg `l `Rq 2 `di zs0):`W P w K mg `l CX0 3 fa fd `ajT (spN K zm0) :=
 okN (k:=2) (G:=ta0) F mb0 (λcdv A outer s H E hr=>(w6 (V2 (J7 (vp0 Yx0 b_str `md T.b_str `aC))
   (w6 (M6 (q70 C_name_bytes hr `r (v5 `aC `st)))
   u6)
   u6)
   (w6 (V2 (J7 (K7 C_is_new hr `r `ajY))
   (w6 (X3 (Z0 `aO `Ri) (o7 4 mb0.nd))
   (w6 (M6 (gu0 (vi0 `Rr hr `r (v5 (Y7 (O1 v7 (K7 C_part_number hr `r `u7)) v7) u5)) (vi0 C_text_bytes hr `r `u7)))
   u6))
   u6)
   (w6 (M6 (q70 `Rr hr `r (v5 (K7 C_known_head hr `r `ajY) u5)))
   u6)))) `jq
theorem ds0:`ai t30 `DU (t6 `ajZ):=`au
theorem dw0(F:Fun K `Ro `Ro `ajZ fa fd)(T:`as)(C_number_bytes:`a0S)(C_sign_bytes:`a0T):`W P w K mg `l CX0 2 fa fd `DU (spN K wb0) :=
 okN (k:=1) (G:=t90) F ds0 (λcdv A outer s H E hr=>(w6 (V2 (Kn0 `kp `aO `aC)
   (w6 (M6 (q70 `Rr hr `r (v5 (O1 v7 (G7 `a0U (W60 `kp `aC `aO))) u5)))
   u6)
   u6)
   (w6 (M6 (gu0 (vi0 `Rr hr `r (v5 (Y7 (O1 v7 `ajR) v7) u5)) (vi0 `a0V hr `r `om)))
   u6))) `jq
theorem c20:`ai yj0 `u8 (t6 `Rs):=`au
theorem dy0(F:Fun K `Kq `Kq `Rs fa fd)(T:`as)  : `W P w K mg `l CX0 1 fa fd `u8 (spN K P0) :=
 okN (k:=0) (G:=w70) F c20 (λcdv A outer s H E hr=>(w6 (M6 (jb0 (sc:=t6 `Rs) (N:=yj0) (N':=[`nX]) (n:=1) (caps:=[]) `hn `r (Wk0 `aO) (λcl s H ex=>o7 0 (`aG:([`nX]:`j).Nodup)) `pq (λcl s H ex=>(wl0 a70 Sv0 T.b_ord b_ord `om))))
   u6)) `jq
theorem fn0:`ai yt0 `di (t6 `aj_):=`au
theorem e40(F:Fun K `Rp `Rp `aj_ fa fd)(T:`as)(K_KINDS:`aj0):`W P w K mg `l CX0 1 fa fd `di (spD K z40) :=
 okD (k:=0) (G:=yu0) F fn0 (λcdv A outer s H E hr=>(w6 (X4 (Y7 (O1 v7 (zp0 `h5 (v5 `ats u5))) (Mo0 K_KINDS `Rt)))
   u6)) `dG
theorem c10:`ai wd0 `di (t6 `aj1):=`au
theorem cl0(F:Fun K `Rq `Rq `aj1 fa fd)(T:`as)(C_sign_bytes:`a0T):`W P w K mg `l CX0 2 fa fd `di (spN K zs0) :=
 okN (k:=1) (G:=w60) F c10 (λcdv A outer s H E hr=>(w6 (V2 `pp
   (w6 (M6 (q70 `a0V hr `r `Rt))
   u6)
   u6)
   (w6 `Rd
   u6))) `jq
theorem cd0:`ai uz0 `km (t6 `aj2):=`au
theorem ch0(F:Fun K `Rn `Rn `aj2 fa fd)(T:`as)(C_folded:FnD P w K mg `l `Q9 1 `g! vk0):`W P w K mg `l CX0 2 fa fd `km (spD K zo0) :=
 okD (k:=1) (G:=t50) F cd0 (λcdv A outer s H E hr=>(w6 (V2 (n6 mh0 k00 `aO ud0)
   (w6 (X4 v7)
   u6)
   u6)
   (w6 (V2 `aj3
   (w6 (X4 (Y7 (O1 v7 (G7 `a0U (W60 `kp `aC `ol))) v7))
   u6)
   u6)
   (w6 (X4 (Y7 (O1 v7 (K7 C_folded hr `r `om)) v7))
   u6)))) `dG
theorem sx0:`ai wc0 `di (t6 `aj4):=`au
theorem ci0(F:Fun K `Rl `Rl `aj4 fa fd)(T:`as)  : `W P w K mg `l CX0 1 fa fd `di (spN K K6) :=
 okN (k:=0) (G:=w90) F sx0 (λcdv A outer s H E hr=>(w6 (V2 `pp
   (w6 `Rd
   u6)
   u6)
   (w6 (V2 `pp
   (w6 `a0W
   u6)
   u6)
   (w6 (zw0 1 `rp sx0.nd)
   (w6 (V2 `pp
   (w6 (W3 (u50 1 `ol))
   u6)
   u6)
   (w6 (uu0 E4 rfl `ajI (o7 2 sx0.nd)
   (w6 (W3 (Zt0 1 (wj0 l80 L00 `rr `Yr `e0)))
   u6))
   (w6 `ajV
   u6))))))) `jq
theorem i80:`ai xu0 `u! (t6 `aj5):=`au
theorem iq0(F:Fun K `Ks `Ks `aj5 fa fd)(T:`as)  : `W P w K mg `l CX0 1 fa fd `u! (spD K Y9) :=
 okD (k:=0) (G:=zi0) F i80 (λcdv A outer s H E hr=>(w6 (V2 (n6 nq0 qi0 `aC `ajR)
   (w6 (X4 (Z0 `aO `aC))
   u6)
   u6)
   (w6 (X4 v7)
   u6))) `dG
theorem qq0:`ai pp0 `fJ (t6 `aj6):=`au
theorem ac0(F:Fun K `Bi `Bi `aj6 fa fd)(T:`as)  : `W P w K mg `l CX0 1 fa fd `fJ (spB K 0 S8) :=
 okB (k:=0) (G:=ub0) F qq0 (λcdv A outer s H E hr=>(v9 (b7 (X3 `xj (o7 1 qq0.nd)))
   (v9 (b7 (zx0 (Z2 `a0X) (P30 0 `kp j5)))
   (v9 (b7 (X3 `xj (o7 2 qq0.nd)))
   (v9 (S9 (n6 nq0 qi0 `aC `xi)
   (v9 (c7 (Z2 (Z4 (Z0 `bl `aC) `a0Y)))
   o4)
   o4)
   (v9 (c7 (Z2 (Z4 (O1 (Y7 (Y7 (Z4 (Z0 `bl (Z4 `aC `xi)) v7) (O1 (O1 v7 `aC) `aC)) v7) v7) v7)))
   o4)))))) `cX
theorem N5:`ai ql0 `aj7 (t6 `aj8):=`au
theorem cf0(F:Fun K `Ru `Ru `aj8 fa fd)(T:`as)  : `W P w K mg `l CX0 1 fa fd `aj7 (spN K yh0) :=
 okN (k:=0) (G:=vq0) F N5 (λcdv A outer s H E hr=>(w6 (X3 j5 (o7 2 `rs))
   (w6 (X3 j5 `a0Z)
   (w6 (uu0 E4 rfl (wq0 `ss `op) (o7 4 `rs)
   (w6 (X3 (Y7 `g' (Z0 `bl (Z4 (W9 `aO (Y7 (O1 `fH `fH) v7)) v7))) `a0Z)
   u6))
   (w6 (X3 `atu (o7 5 `rs))
   (w6 (zw0 6 `rp `rs)
   (w6 (uu0 E4 rfl (wq0 `ss `fI) (o7 7 `rs)
   (w6 (X3 (Z0 `bl (Z4 (Y7 `aO `Rv) v7)) `a0_)
   (w6 (X3 (Y7 `vc (Z0 `bl (Z4 (Y7 `u9 (W9 `Rv v7)) v7))) `a0_)
   (w6 (V2 `EE
   (w6 (W3 (u50 6 (Y7 (xb0 `g' xk0 (M5 `i6)) `vc)))
   u6)
   (w6 (V2 `EE
   (w6 (W3 (u50 6 (Y7 (xb0 `g' xk0 (M5 (Z4 `Rv v7))) `vc)))
   u6)
   (w6 (W3 (u50 6 (xb0 `vc xk0 (M5 (Y7 v7 (wj0 Tu0 Is0 `ajH b_int (v5 (tc0 pi0 sp0 `Rv v7) u5)))))))
   u6))
   u6))
   u6))))
   (w6 (nz0 6)
   u6)))))))) `jq
theorem fr0:`ai sy0 `DS (t6 `aj9):=`au
theorem eb0(F:Fun K `Rw `Rw `aj9 fa fd)(T:`as)  : `W P w K mg `l CX0 1 fa fd `DS (spD K zy0) :=
 okD (k:=0) (G:=wx0) F fr0 (λcdv A outer s H E hr=>(w6 (V2 (J7 `aC)
   (w6 (X4 (Y7 (G7 (Z4 `aO `a00) `Kr) v7))
   u6)
   u6)
   (w6 (V2 `EE
   (w6 `a01
   u6)
   u6)
   (w6 (V2 `EE
   (w6 `a01
   u6)
   u6)
   (w6 (X4 (Y7 (G7 (Z4 `u9 `a00) `Kr) v7))
   u6))))) `dG
theorem m80:`ai td0 `fJ (t6 `aj'):=`au
theorem c90(F:Fun K `EH `EH `aj' fa fd)(T:`as)(C__law_next:`aj!)(C__law_number:FnD P w K mg `l `Rw 1 `DS zy0):`W P w K mg `l CX0 2 fa fd `fJ (spB K 0 Q8) :=
 okB (k:=1) (G:=vm0) F m80 (λcdv A outer s H E hr=>(v9 (b7 (zx0 `aj? (qt0 (o7 1 m80.nd))))
   (v9 (S9 `pr
   (v9 (c7 (Z2 ud0))
   o4)
   o4)
   (v9 (S9 (n6 nq0 qi0 `atw v7)
   (v9 (c7 (Z2 (K7 C__law_number hr `r (v5 `oo (v5 `xj u5)))))
   o4)
   o4)
   (v9 (c7 (Z2 (yf0 (v5 j5 (v5 (Z4 `oo `xj) u5)))))
   o4))))) `cX
theorem qg0:`ai sj0 `EI (t6 `Rx):=`au
theorem b60(F:Fun K `EJ `EJ `Rx fa fd)(T:`as)(C__law_next:`aj!):`W P w K mg `l CX0 2 fa fd `EI (spB K 0 y80) :=
 okB (k:=1) (G:=uj0) F qg0 (λcdv A outer s H E hr=>(v9 (b7 (X3 j5 (o7 2 qg0.nd)))
   (v9 (b7 (zx0 `aj? (qt0 (o7 3 qg0.nd))))
   (v9 (c7 (Z2 (Yz0 j5 (v5 (gq0 (sc:=t6 `Rx) (N:=sj0) (N':=`a02) (n:=1) (caps:=[2,3]) `hn `r (wq0 `ss `fI) (λcl s H ex=>o7 0 (`aG:(`a02:`j).Nodup)) `pq (λcl s H ex=>(Z0 `aC (Z4 (Y7 (W9 `bl (Y7 `aO v7)) (O1 `aO `aO)) v7)))) u5))))
   o4)))) `cX
theorem zn0:`ai xn0 `fJ (`aka):=`au
theorem b40(F:Fun K `EK `EK `Yu fa fd)(T:`as)(C__law_next:`aj!)(C__law_value:FnB P w K mg `l `EH 2 `fJ 0 Q8)(C__law_word:FnB P w K mg `l `EJ 2 `EI 0 y80):`W P w K mg `l CX0 3 fa fd `fJ (spB K 0 N6) :=
 okB (k:=2) (G:=wy0) F zn0 (λcdv A outer s H E hr=>(v9 (b7 (zx0 `aj? (qt0 (o7 1 `u'))))
   (v9 (b7 (X3 `Bj `a03))
   (v9 (b7 (V2 (rz0 (J7 `xj))
   (w6 (X3 (Z0 (u70 (v5 `Bj (v5 `Bj `a04))) `Bj) `a03)
   u6)
   u6))
   (v9 (S9 `pr
   (v9 (c7 (Jt0 j5 (xl0 0 C__law_word `rt hr `r (pab 0 `a04))))
   o4)
   o4)
   (v9 (b7 (Qe0 0 0 3 rfl `u' (sc:=`aka) (N:=xn0) (N':=`Yv) (n:=1) (caps:=[0]) `hn `r (wq0 `ss `e0) `a05 (λcl s H ex=>(xl0 1 C__law_value `rt hr `r `a06))))
   (v9 (S9 `pr
   (v9 (c7 (Z2 (yf0 (v5 j5 (v5 (wj0 z30 qm0 `ko `kn `st) u5)))))
   o4)
   o4)
   (v9 (b7 (X3 `xj (o7 4 `u')))
   (v9 (b7 (X3 (Y7 v7 (Z4 `oo (G7 `ajU v7))) (o7 5 `u')))
   (v9 (b7 (X3 (wj0 z30 qm0 `ko `kn (v5 (gq0 (sc:=`aka) (N:=xn0) (N':=`a07) (n:=2) (caps:=[1,4,5]) `hn `r (Qf0 T.b_enumerate `st) (λcl s H ex=>jf0 0 1 (`aG:(`a07:`j).Nodup) `r) `pq (λcl s H ex=>(yf0 (v5 (Z0 `g' (Z4 (Y7 `Kt (O1 `aO `fH)) (zp0 `h5 `st))) `fI)))) u5)) (o7 6 `u')))
   (v9 (S9 `pr
   (v9 (c7 (Z2 (yf0 (v5 j5 (v5 (z8 6) u5)))))
   o4)
   o4)
   (v9 (c7 (Z2 (yf0 (v5 j5 (v5 (Z0 `fH (Z4 `oo `ajU)) (v5 (z8 6) u5))))))
   o4)))))))))))) `cX
theorem ps0:`ai rm0 `akb (t6 `Ry):=`au
theorem Ya0(F:Fun K `Rz `Rz `Ry fa fd)(T:`as)(C__law_cell_at:`a08)(C__law_names:FnN P w K mg `l `Ru 1 `aj7 yh0)(C__law_part:FnB P w K mg `l `EK 3 `fJ 0 N6):`W P w K mg `l CX0 4 fa fd `akb (spD K G8) :=
 okD (k:=3) (G:=t00) F ps0 (λcdv A outer s H E hr=>(w6 (X3 (K7 `akc hr `r `akd) (o7 2 ps0.nd))
   (w6 (zw0 3 (Tb0 (jy0 j5 v7 (jy0 j5 (Y7 (xb0 `aO (M5 `a0X) xk0) (u70 `e0)) (jy0 j5 (tc0 X8 Z1 `ake v7) L60)))) ps0.nd)
   (w6 (zx0 (Z2 (Y7 v7 `a09)) `akf)
   (w6 (V2 (J7 (vt0 3 `kp j5))
   (w6 (zx0 (Z2 (Y7 v7 `ake)) `akf)
   u6)
   u6)
   (w6 (zx0 (Z2 (vi0 C__law_names hr `r (v5 (Z4 `Kt `a0Y) (v5 (Z0 (u70 (v5 v7 `op)) `ake) u5)))) `akf)
   (w6 (au0 (Sn0 z30 qm0 `ko `kn (K90 3 0 rfl (sc:=t6 `Ry) (N:=rm0) (N':=`Yv) (n:=1) (caps:=[3]) `hn `r (wq0 `ss (v5 (vt0 3 `kp j5) u5)) `a05 (λcl s H ex=>(xl0 1 C__law_part `rt hr `r `a06)))))
   u6))))))) `dG
theorem f90:`ai rb0 `Kw (t6 `RA):=`au
theorem f00(F:Fun K `Kv `Kv `RA fa fd)(T:`as)  : `W P w K mg `l CX0 1 fa fd `Kw (spN K Q9) :=
 okN (k:=0) (G:=ma0) F f90 (λcdv A outer s H E hr=>(w6 (V2 `pp
   (w6 `Rd
   u6)
   u6)
   (w6 (V2 `pp
   (w6 `a0W
   u6)
   u6)
   (w6 (M6 (jb0 (sc:=t6 `RA) (N:=rb0) (N':=`a0') (n:=2) (caps:=[]) `hn `r `ajI (λcl s H ex=>jf0 0 1 (`aG:(`a0':`j).Nodup) `r) `pq (λcl s H ex=>`aC)))
   u6)))) `jq
theorem zd0:`ai tm0 `xk (t6 `RB):=`au
theorem jd0(F:Fun K `RC `RC `RB fa fd)(T:`as)(C__law_values:`a0!):`W P w K mg `l CX0 2 fa fd `xk (spN K xh0) :=
 okN (k:=1) (G:=pb0) F zd0 (λcdv A outer s H E hr=>(w6 (zw0 1 `rp `EL)
   (w6 (zw0 2 (J8 `op) `EL)
   (w6 (pj0 100000 E4 (Wf0 (n6 (Ij0 `Mf) Kh0 `bl (u70 u5)))
   (w6 (zx0 (Rr0 2) (qt0 (o7 3 `EL)))
   (w6 (V2 (Wf0 (n6 bm0 (eo0 `c) `g' `aC))
   (w6 (W3 (u50 1 `g'))
   (w6 (ju0 4 `EL (sc:=t6 `RB) (N:=tm0) (N':=[`zV]) (n:=1) (caps:=[]) `hn `r (se0 (vi0 `a0? hr `r (v5 (Z0 `aO `g') u5))) (λcl s H ex=>o7 0 (`aG:([`zV]:`j).Nodup)) (λcl s H ex=>(W10 `aj3)) `ajJ)
   (w6 (ap0 2 (zw0 2 (gu0 `bl (`EG (no0 `rr `Q8 `fH))) `EL))
   u6)))
   u6)
   u6)))
   (w6 `ajV
   u6))))) `jq
theorem Ye0:`ai h90 `wJ (t6 `akg):=`au
theorem Yd0(F:Fun K `RD `RD `akg fa fd)(T:`as)  : `W P w K mg `l CX0 1 fa fd `wJ (spD K t20) :=
 okD (k:=0) (G:=gm0) F Ye0 (λcdv A outer s H E hr=>(w6 (V2 `aj3
   (w6 (X4 (yf0 (v5 j5 (v5 (Ke0 `aC `Rt) u5))))
   u6)
   u6)
   (w6 (X4 `aO)
   u6))) `dG
theorem J1:`ai ti0 `xk (`akh):=`au
theorem c30(F:Fun K `RE `RE `Yw fa fd)(T:`as)(C__law_led:FnD P w K mg `l `RD 1 `wJ t20)(C__law_numbered:FnN P w K mg `l `RC 2 `xk xh0)(C__law_values:`a0!):`W P w K mg `l CX0 3 fa fd `xk (spD K vg0) :=
 okD (k:=2) (G:=ln0) F J1 (λcdv A outer s H E hr=>(w6 (X3 (vi0 C__law_numbered hr `r `om) (o7 1 `u?))
   (w6 (zw0 2 `rp `u?)
   (w6 (uu0 E4 rfl (se0 `aC) (o7 3 `u?)
   (w6 (X3 (Z0 `aO `g') `aki)
   (w6 (ju0 5 `u? (sc:=`akh) (N:=ti0) (N':=`wJ) (n:=1) (caps:=[1]) `hn `r (se0 (vi0 `a0? hr `r `u7)) (λcl s H ex=>o7 0 (`aG:(`wJ:`j).Nodup)) `pq (λcl s H ex=>(K7 C__law_led hr `r `akd)))
   (w6 (V2 (n6 X8 Z1 `a1a j5)
   (w6 (X3 (yf0 (v5 j5 (v5 (wj0 z30 qm0 `ko `kn `a1b) u5))) `aki)
   u6)
   (w6 (V2 (n6 co0 gl0 `a1a j5)
   (w6 (ju0 6 `u? (sc:=`akh) (N:=ti0) (N':=["_law_pair"]) (n:=1) (caps:=[]) `hn `r (kg0 (Z0 `fH `rq)) (λcl s H ex=>o7 0 (`aG:(["_law_pair"]:`j).Nodup)) `pq `ajJ)
   (w6 (X3 (Y7 (xb0 `fH xk0 (M5 `rq)) (yf0 (v5 (wj0 z30 qm0 `ko `kn (v5 (`EG (R70 `rr `ajQ `Yr b_zip (v5 (z8 6) `a1b))) u5)) u5))) `aki)
   u6))
   u6)
   u6))
   (w6 (W3 (u50 2 `fH))
   u6)))))
   (w6 (ag0 (wj0 z30 qm0 `ko `kn `e0))
   u6))))) `dG
theorem t60:`ai pq0 `akj (t6 `RF):=`au
theorem Zy0(F:Fun K `RG `RG `RF fa fd)(T:`as)(C__law_cell_at:`a08):`W P w K mg `l CX0 2 fa fd `akj (spD K u80) :=
 okD (k:=1) (G:=kv0) F t60 (λcdv A outer s H E hr=>(w6 (zw0 2 (J8 `op) t60.nd)
   (w6 (uu0 E4 rfl (wq0 `ss `op) (o7 3 t60.nd)
   (w6 (W3 (u50 2 (Y7 `a1c (Z4 (W9 (K7 `akc hr `r (v5 `aC `st)) v7) (Y7 v7 `u9)))))
   u6))
   (w6 (ap0 2 (Wn0 2 t60.nd (sc:=t6 `RF) (N:=pq0) (N':=`a1d) (n:=1) (caps:=[0]) `hn `r (se0 `bl) (λcl s H ex=>o7 0 (`aG:(`a1d:`j).Nodup)) `pq (λcl s H ex=>(wl0 (Sa0 rfl) Iq0 T.b_min b_min `akd))))
   (w6 (V2 (n6 X8 Z1 (Z4 (K7 `akc hr `r (v5 `aC `op)) v7) v7)
   (w6 (W3 (u50 2 (wl0 (Sq0 rfl) Kt0 T.b_max b_max (v5 `a1c (v5 (G7 `aO v7) u5)))))
   u6)
   u6)
   (w6 (ag0 (Y7 `bl (u70 `om)))
   u6)))))) `dG
theorem v80:`ai o00 `EM (t6 `akk):=`au
theorem ij0(F:Fun K `EN `EN `akk fa fd)(T:`as){rr:`f}(XT:`Ve K mg `akl rr `Kx [])(C_Reader_web:`akm)(AT:∀c∈`a1e,`aeC):`W P w K mg `l CX0 4 fa fd `EM (spB K 0 M3) :=
 okB (k:=3) (G:=vx0) F v80 (λcdv A outer s H E hr=>(v9 (b7 (X3 ud0 (o7 1 v80.nd)))
   (v9 (b7 (Py0 2 XT `r (λpn xe=>(dn0 (Qm0 (S00 0 C_Reader_web hr `r))
   je0))
   (λea=>(w6 (Lq0 1 2 v80.nd)
   u6)) v80.nd))
   (v9 (S9 (Lj0 1)
   (v9 (c7 (Z2 ud0))
   o4)
   o4)
   (v9 (c7 (Z2 (Hi0 1 AT)))
   o4))))) `cX
theorem sd0:`ai m50 `EO (t6 `akn):=`au
theorem gv0(F:Fun K `EP `EP `akn fa fd)(T:`as)(C_Reader_open_parts:`a1f)(C_Reader_taken:FnT P w K mg `l `F `xl 1 `aP u9 N7)(C_Reader_web:`akm)(C_Reader_whole:`ako)(C__law_refused:FnB P w K mg `l `EN 4 `EM 0 M3):`W P w K mg `l CX0 5 fa fd `EO (spB K 0 z10) :=
 okB (k:=4) (G:=rd0) F sd0 (λcdv A outer s H E hr=>(v9 (og0 (`EQ (gk0 (jr0 co0 gl0 `a1g `aC) (kf0 (sa0 (Jc0 nn0 `Q? `md `Ra `a1g)))))
   (v9 `dj
   o4)
   o4)
   (v9 (b7 (zx0 (zr0 0 `a1h hr `r) (qt0 (o7 4 sd0.nd))))
   (v9 (S9 (`k5 (ss0 (rz0 (J7 (vp0 W40 b_int `md `ajH `fH))) (s80 (J7 (vp0 nn0 `Q? `md `Ra `fH)))))
   (v9 `dj
   o4)
   o4)
   (v9 (b7 (zx0 `aty (qt0 (o7 5 sd0.nd))))
   (v9 (S9 (`k5 (ss0 (rz0 (J7 (vp0 nn0 `Q? `md `Ra `i6))) (s80 (n6 co0 gl0 `i6 (tc0 X8 Z1 `aC `bl)))))
   (v9 `dj
   o4)
   o4)
   (v9 (S9 (n6 X8 Z1 `aC `bl)
   (v9 (c7 (bi0 (Z2 (tc0 X8 Z1 `fH v7)) (bi0 (lu0 (Sy0 `Mf) Xh0 (zr0 0 `a1i hr `r) `g') (Tm0 (lu0 mh0 k00 `a1j ud0)))))
   o4)
   o4)
   (v9 (c7 (bi0 (lu0 X8 Z1 `a1j `aC) (Tm0 (Z2 (tc0 V10 ab0 `fH v7)))))
   o4)))))))) `cX
theorem ui0:`ai Nc0 [`j5] (t6 `vg):=`au
theorem J00(F:Fun K `oq `oq `vg fa fd)(T:`as)(M_Reader:FnI P w K mg `l `F 1 `aP z00)(C_Reader_give:FnT P w K mg `l `F `xm 7 `ER u9 z20)(C_Reader_open_parts:`a1f)(C_Reader_web:`akm)(C__law_cuts:FnD P w K mg `l `RG 2 `akj u80)(C__law_drawn:FnD P w K mg `l `RE 3 `xk vg0)(C__law_stands:FnB P w K mg `l `EP 5 `EO 0 z10)(C__law_web:FnD P w K mg `l `Rz 4 `akb G8)(C_pack:FnN P w K mg `l `Rk 4 [`hP] qk0):`W P w K mg `l CX0 8 fa fd [`j5] `a1k :=
 okD (k:=7) (G:=Nh0) F ui0 (λcdv A outer s H E hr=>(w6 (X3 `a1l (o7 1 `mR))
   (w6 (X3 (vi0 C_pack hr `r `fI) (o7 2 `mR))
   (w6 (X3 (vi0 C_pack hr `r (v5 `a1l u5)) (o7 3 `mR))
   (w6 (X3 (K7 C__law_drawn hr `r `fI) (o7 4 `mR))
   (w6 (X3 (K7 C__law_cuts hr `r (v5 `xi `om)) (o7 5 `mR))
   (w6 (et0 6 `mR M_Reader hr `r)
   (w6 (et0 7 `mR M_Reader hr `r)
   (w6 (fx0 (`EQ (gk0 (ol0 (sa0 (xl0 6 `a1m `rt hr `r (pab 6 (v5 v7 (v5 `xi `u7)))))) (kf0 (jr0 co0 gl0 (zr0 6 `a1h hr `r) v7))))
   (w6 `akp
   u6)
   u6)
   (w6 (uu0 E4 rfl (K70 `ajQ (v5 (xb0 `i6 xk0 (M5 `rq)) (v5 (xb0 `i6 `Kn xk0) u5))) (jf0 8 9 `mR `r)
   (w6 (V2 (n6 V10 ab0 `Yy `vc)
   (w6 (zw0 10 (Lm0 `bl `a1n `a1o) `mR)
   (w6 (fx0 (jr0 Ln0 Ob0 (Ow0 6 10 `a1p hr `r) ud0)
   (w6 `akp
   u6)
   u6)
   (w6 (W3 (u50 10 v7))
   (w6 (W3 (O9 7 `a1p hr `r (v5 (xb0 `g' `a1n `a1o) u5)))
   (w6 (fx0 (ol0 (sa0 (xl0 6 `a1m `rt hr `r (pab 6 (v5 `Yy (v5 `xi `u7))))))
   (w6 `akp
   u6)
   u6)
   u6)))))
   u6)
   u6))
   (w6 (au0 (lu0 (Sy0 `Mf) Xh0 (zr0 6 `a1i hr `r) `fH))
   u6))))))))))) `dG
theorem lb0:`ai rg0 `aP (t6 `xn):=`au
theorem lr0(F:Fun K `dZ `akq `xn fa fd)(T:`as)(CN_Reader:`el):`W P w K mg `l CX0 1 fa fd `aP (spB K 0 z00) :=
 okB (k:=0) (G:=rf0) F lb0 (λcdv A outer s H E hr=>(v9 `akr
   (v9 `aks
   (v9 `aks
   (v9 `aks
   (v9 (b7 (p10 0 (J8 `Bh) `kq))
   (v9 `akr
   (v9 `akr
   (v9 (b7 (n60 0 j5 `kq))
   o4))))))))) `cX
theorem o10:`ai m70 `ER (t6 `xo):=`au
theorem ft0(F:Fun K `xm `akt `xo fa fd)(T:`as)(CN_Reader:`el)(C_Reader_end_parts:FnT P w K mg `l `F `xp 1 `aP u9 J5)(C_Reader_takes:FnT P w K mg `l `F `xq 6 `ct u9 U8)(C_is_byte:FnD P w K mg `l `Re 2 `o! vu0):`W P w K mg `l CX0 7 fa fd `ER (spB K 0 z20) :=
 okB (k:=6) (G:=sz0) F o10 (λcdv A outer s H E hr=>(v9 (Mq0 E4 rfl (se0 `aC) (o7 2 o10.nd)
   (v9 (og0 (`EQ (gk0 (Ze0 (rz0 (J7 (K7 C_is_byte hr `r `e0)))) (kf0 (ol0 (sa0 (O9 0 C_Reader_takes hr `r `e0))))))
   (v9 (b7 S20)
   o4)
   o4)
   (v9 (b7 (Pa0 0 v7 `kq))
   (v9 (b7 (W3 (zr0 0 C_Reader_end_parts hr `r)))
   o4))))
   o4)) `cX
theorem gg0:`ai o20 `aP (t6 `xr):=`au
theorem ib0(F:Fun K `vb `aku `xr fa fd)(T:`as)(CN_Reader:`el):`W P w K mg `l CX0 1 fa fd `aP (spB K 0 W8) :=
 okB (k:=0) (G:=tv0) F gg0 (λcdv A outer s H E hr=>(v9 (c7 (Z2 (tc0 X8 Z1 `me v7)))
   o4)) `cX
theorem ni0:`ai tn0 `aP (t6 `xs):=`au
theorem nu0(F:Fun K `va `akv `xs fa fd)(T:`as)(CN_Reader:`el):`W P w K mg `l CX0 1 fa fd `aP (spB K 0 R5) :=
 okB (k:=0) (G:=wz0) F ni0 (λcdv A outer s H E hr=>(v9 (c7 (Z2 `me))
   o4)) `cX
theorem iz0:`ai px0 `aP (t6 `xt):=`au
theorem g80(F:Fun K `xl `akw `xt fa fd)(T:`as)(CN_Reader:`el):`W P w K mg `l CX0 1 fa fd `aP (spB K 0 N7) :=
 okB (k:=0) (G:=tx0) F iz0 (λcdv A outer s H E hr=>(v9 (c7 (Z2 `kr))
   o4)) `cX
theorem dv0:`ai vv0 `aP (t6 `su):=`au
theorem c70(F:Fun K `hP `akx `su fa fd)(T:`as)(CN_Reader:`el)(C_Reader_whole:`ako)(C_made_part:`a1q){rr:`f}(I_NoPack:IniC P w K mg `l `i3 rr 1):`W P w K mg `l `EA 3 fa fd `aP (ff0 K 0 Q0) :=
 Fu0 (k:=2) (G:=ye0) F dv0 `r (λcdv A outer s H E hr=>(g00 (Ko0 (K60 (ol0 `a1r)
   (dn0 (Wv0 I_NoPack hr `r `kr)
   je0)
   je0))
   (g00 (Jw0 (c7 (Qv0 0 `ko `kn (sc:=t6 `su) (N:=vv0) (N':=`di) (n:=1) (caps:=[]) `hn `r `fK (λcl s H ex=>o7 0 (`aG:(`di:`j).Nodup)) (λcl s H ex=>(K7 `a1s hr `r (v5 `ol `Rt))))))
   Rp0)))
theorem p00:`ai o90 `ct (t6 `xu):=`au
theorem h50(F:Fun K `xq `aky `xu fa fd)(T:`as)(CN_Reader:`el)(C_Reader_takes_digit:FnT P w K mg `l `F `xv 4 `ct u9 Q6)(C_Reader_takes_letter:FnT P w K mg `l `F `xw 2 `ct u9 R7)(C_Reader_takes_name_number:FnT P w K mg `l `F `xx 5 `ct u9 T3)(C_Reader_takes_sign:FnT P w K mg `l `F `xy 2 `ct u9 M8)(C_Reader_whole:`ako):`W P w K mg `l CX0 6 fa fd `ct (spB K 0 U8) :=
 okB (k:=5) (G:=y90) F p00 (λcdv A outer s H E hr=>(v9 (og0 `a1r
   (v9 `dj
   o4)
   o4)
   (v9 (b7 (X3 `YA (o7 2 p00.nd)))
   (v9 (S9 (`k5 (ss0 `akz (s80 `akz)))
   (v9 (c7 (O9 0 C_Reader_takes_digit hr `r `fI))
   o4)
   o4)
   (v9 (S9 `akz
   (v9 (c7 (O9 0 C_Reader_takes_sign hr `r `fI))
   o4)
   o4)
   (v9 (S9 (n6 pi0 sp0 `kr v7)
   (v9 (c7 (O9 0 C_Reader_takes_letter hr `r `fI))
   o4)
   o4)
   (v9 (c7 (O9 0 C_Reader_takes_name_number hr `r `fI))
   o4))))))) `cX
theorem uw0:`ai te0 `ct (t6 `xz):=`au
theorem oc0(F:Fun K `xv `akA `xz fa fd)(T:`as)(CN_Reader:`el)(C_Reader_goes_on:FnT P w K mg `l `F `xA 1 `wM u9 ze0)(C_Reader_takes_head:FnT P w K mg `l `F `xB 3 `ES u9 R4):`W P w K mg `l CX0 4 fa fd `ct (spB K 0 Q6) :=
 okB (k:=3) (G:=y40) F uw0 (λcdv A outer s H E hr=>(v9 (b7 (X3 (Y7 (O1 `kr `mQ) (Z4 `aC `mQ)) (o7 2 uw0.nd)))
   (v9 (S9 (n6 nq0 qi0 `aC `mQ)
   (v9 (c7 (O9 0 C_Reader_takes_head hr `r `e0))
   o4)
   o4)
   (v9 (og0 (`EQ (gk0 (Ze0 `a1t) (kf0 (ol0 (sa0 (O9 0 C_Reader_goes_on hr `r `e0))))))
   (v9 `dj
   o4)
   o4)
   (v9 `a1u
   (v9 `dj
   o4)))))) `cX
theorem km0:`ai qv0 `wM (t6 `xC):=`au
theorem kl0(F:Fun K `xA `akB `xC fa fd)(T:`as)(CN_Reader:`el):`W P w K mg `l CX0 1 fa fd `wM (spB K 0 ze0) :=
 okB (k:=0) (G:=ur0) F km0 (λcdv A outer s H E hr=>(v9 (c7 (Z2 (Ht0 (tc0 X8 Z1 `YA j5) (h00 (tc0 Va0 by0 (O1 `aC `mQ) (Y7 (O1 v7 (O1 v7 `a0J)) v7))))))
   o4)) `cX
theorem tl0:`ai tq0 `ES (t6 `xD):=`au
theorem m10(F:Fun K `xB `akC `xD fa fd)(T:`as)(CN_Reader:`el)(K_KINDS:`aj0)(C_Reader_hold:`ET)(C_Reader_takes_part:FnT P w K mg `l `F `xE 2 `EU u9 za0)(C_unfolded:FnD P w K mg `l `Q' 1 `g! rh0):`W P w K mg `l CX0 3 fa fd `ES (spB K 0 R4) :=
 okB (k:=2) (G:=ym0) F tl0 (λcdv A outer s H E hr=>(v9 (b7 (X3 `oo (o7 2 tl0.nd)))
   (v9 (S9 `pr
   (v9 (c7 (O9 0 C_Reader_takes_part hr `r (v5 (H70 K_KINDS `a09) (v5 `Kt u5))))
   o4)
   o4)
   (v9 (S9 `akD
   (v9 `dj
   o4)
   o4)
   (v9 (S9 `pr
   (v9 (b7 (W3 (O9 0 `vf hr `r (v5 (K7 C_unfolded hr `r `e0) u5))))
   o4)
   (v9 (S9 (`k5 (f80 `pr (jq0 (n6 nq0 qi0 `bl `me))))
   (v9 (b7 (W3 (O9 0 `vf hr `r (v5 (yf0 (v5 j5 (v5 (G7 `a1v `bl) u5))) u5))))
   o4)
   (v9 (S9 (n6 X8 Z1 `aC v7)
   (v9 (b7 (W3 (O9 0 `vf hr `r (v5 ud0 u5))))
   o4)
   (v9 `dj
   o4))
   o4))
   o4))
   (v9 `dj
   o4)))))) `cX
theorem tg0:`ai tr0 `EU (t6 `xF):=`au
theorem ou0(F:Fun K `xE `akE `xF fa fd)(T:`as)(CN_Reader:`el)(C_Reader_hold:`ET)(C_most_held:FnD P w K mg `l `Rf 1 `Pe ug0)(C_wanted_items:FnD P w K mg `l `Rg 1 `Pf u10):`W P w K mg `l CX0 2 fa fd `EU (spB K 0 za0) :=
 okB (k:=1) (G:=v20) F tg0 (λcdv A outer s H E hr=>(v9 (S9 (`k5 (ss0 (n6 pi0 sp0 `bl (K7 C_most_held hr `r `fI)) (s80 (n6 X8 Z1 `me (zb0 T.c_MOST_PARTS)))))
   (v9 `dj
   o4)
   o4)
   (v9 (b7 (W3 (O9 0 `vf hr `r (v5 (yf0 (v5 j5 (v5 `me u5))) u5))))
   (bx0 0 3 `r (V80 0 3 tg0.nd `aC) (ia0 0 3 `fK) (ia0 0 3 `fK)
   (v9 (b7 (W3 (fq0 `fK j5)))
   (v9 (b7 (W3 (Ls0 `fK (`EG (no0 `rr `Q8 (K7 C_wanted_items hr `r `ajY))))))
   (v9 `dj
   o4))))))) `cX
theorem gy0:`ai m60 `ve (t6 `xG):=`au
theorem ec0(F:Fun K `vd `akF `xG fa fd)(T:`as)(CN_Reader:`el):`W P w K mg `l CX0 1 fa fd `ve (spB K 0 W7) :=
 okB (k:=0) (G:=re0) F gy0 (λcdv A outer s H E hr=>(v9 (S9 `a1w
   (v9 (b7 (W3 (fq0 (ro0 `Yz v7) `aC)))
   o4)
   o4)
   (v9 (b7 (j90 `fK))
   (v9 `a1x
   o4)))) `cX
theorem mf0:`ai su0 `aP (t6 `xH):=`au
theorem md0(F:Fun K `xp `akG `xH fa fd)(T:`as)(CN_Reader:`el):`W P w K mg `l CX0 1 fa fd `aP (spB K 0 J5) :=
 okB (k:=0) (G:=ve0) F mf0 (λcdv A outer s H E hr=>(v9 (b7 (pj0 100000 E4 (`k5 (f80 `a1w (jq0 `akD)))
   (w6 (j90 `fK)
   (w6 (j90 `fK)
   u6))))
   o4)) `cX
theorem tb0:`ai to0 `ct (t6 `xI):=`au
theorem m40(F:Fun K `xy `akH `xI fa fd)(T:`as)(C_Reader_hold:`ET)(C_sign_of:`a1y):`W P w K mg `l CX0 2 fa fd `ct (spB K 0 M8) :=
 okB (k:=1) (G:=v30) F tb0 (λcdv A outer s H E hr=>(v9 (b7 (X3 (K7 C_sign_of hr `r (v5 `aC (v5 (fm0 T.c_WORD_SIGNS) u5))) (o7 2 tb0.nd)))
   (v9 (S9 `a1z
   (v9 `dj
   o4)
   o4)
   (v9 `a1A
   (v9 `dj
   o4))))) `cX
theorem wi0:`ai wt0 `ct (t6 `xJ):=`au
theorem so0(F:Fun K `xx `akI `xJ fa fd)(T:`as)(CN_Reader:`el)(C_Reader_takes_known_name:FnT P w K mg `l `F `xK 4 `EV u9 O7)(C_is_left:`a1B):`W P w K mg `l CX0 5 fa fd `ct (spB K 0 T3) :=
 okB (k:=4) (G:=K8) F wi0 (λcdv A outer s H E hr=>(v9 (S9 `pr
   (v9 (c7 (O9 0 C_Reader_takes_known_name hr `r (v5 `oo u5)))
   o4)
   o4)
   (v9 (b7 (X3 `oo (o7 2 wi0.nd)))
   (v9 (S9 (`k5 (ss0 `a1t (ss0 (n6 pi0 sp0 `bl (zb0 T.c_MOST_NAME_SIGNS)) (s80 (n6 X8 Z1 `me (zb0 T.c_MOST_NAMES))))))
   (v9 `dj
   o4)
   o4)
   (v9 (S9 (rz0 (J7 (ej0 C_is_left hr `r `fK (v5 `bl `Bh))))
   (v9 `dj
   o4)
   o4)
   (v9 `a1u
   (v9 `dj
   o4))))))) `cX
theorem ws0:`ai v90 `EV (t6 `xL):=`au
theorem rc0(F:Fun K `xK `akJ `xL fa fd)(T:`as)(CN_Reader:`el)(C_Reader_hold:`ET)(C_Reader_names_here:FnT P w K mg `l `F `xM 3 `aP u9 M9):`W P w K mg `l CX0 4 fa fd `EV (spB K 0 O7) :=
 okB (k:=3) (G:=y30) F ws0 (λcdv A outer s H E hr=>(v9 (S9 (n6 V10 ab0 `aC `me)
   (v9 `dj
   o4)
   o4)
   (v9 (b7 (X3 (yz0 (ro0 `fK (G7 `a1v `aC)) `atz) (o7 2 ws0.nd)))
   (v9 (og0 (`EQ (Ms0 (Ze0 `akD) (Pp0 (Os0 Ry0 (eo0 `p) `bl (zr0 0 C_Reader_names_here hr `r)))))
   (v9 `dj
   o4)
   o4)
   (v9 `a1A
   (v9 `dj
   o4)))))) `cX
theorem t10:`ai tp0 `aP (t6 `xN):=`au
theorem nj0(F:Fun K `xM `akK `xN fa fd)(T:`as)(CN_Reader:`el)(C_made_part:`a1q)(C_pair_names:FnN P w K mg `l `Rc 1 `di vl0):`W P w K mg `l CX0 3 fa fd `aP (spB K 0 M9) :=
 okB (k:=2) (G:=yp0) F t10 (λcdv A outer s H E hr=>(Ul0 0 1 t10.nd `Yz (q70 C_pair_names hr `r (v5 (K7 `a1s hr `r (v5 `Ri (v5 `Ri u5))) u5)))) `cX
theorem uc0:`ai uv0 `ct (t6 `xO):=`au
theorem pt0(F:Fun K `xw `akL `xO fa fd)(T:`as)(CN_Reader:`el)(C_Reader_hold:`ET)(C_is_left:`a1B)(C_sign_of:`a1y):`W P w K mg `l CX0 2 fa fd `ct (spB K 0 R7) :=
 okB (k:=1) (G:=zu0) F uc0 (λcdv A outer s H E hr=>(v9 (b7 (X3 (K7 C_sign_of hr `r (v5 `aC `a0O)) (o7 2 uc0.nd)))
   (v9 (S9 (`k5 (ss0 `a1z (s80 (rz0 (J7 (ej0 C_is_left hr `r `fK (v5 `kr (v5 (Y7 `kr `bl) u5))))))))
   (v9 `dj
   o4)
   o4)
   (v9 (b7 (s70 0 (Y7 `kr `bl) `kq))
   (v9 (S9 (n6 X8 Z1 (zp0 `h5 `a1C) `kr)
   (v9 (b7 (W3 (fq0 `fK `kr)))
   (v9 (b7 (W3 (O9 0 `vf hr `r `a1C)))
   (v9 `a1x
   (v9 (b7 (s70 0 j5 `kq))
   o4))))
   o4)
   (v9 `dj
   o4)))))) `cX
universe zz
theorem us1:∀{us:`aT},`kt=1->∃a,us=[a]
 | [a],_=>#[a,rfl]
theorem us2:∀{us:`aT},`kt=2->∃a b,us=`nD
 | `nD,_=>#[a,b,rfl]
theorem us3:∀{us:`aT},`kt=3->∃a b c,us=[a,b,c]
 | [a,b,c],_=>#[a,b,c,rfl]
theorem us4:∀{us:`aT},`kt=4->∃a b c d,us=[a,b,c,d]
 | [a,b,c,d],_=>#[a,b,c,d,rfl]
def Hd(K:`A)(x:Str)(st:`a1):Prop:=∃f fd,`a1D/\`akM
theorem S5{st:`a1}{f:`f}{osl:`h6}{kV:`G}(a:`akM)(l:`Cc=`a #[oc,od,`ce `Bl,osl])(c:`c3 K cdv x=`c)(k:`LD):Hd K x st:=#[f,_,K3 l c k,a]
section
variable(P9:`ao)(w9:`Q)(b9:`D){h:`D}{st:`a1}{f:`f}{m:`T}(X9:`eA)(G9:`Bp)(F9:`a1D)(a9:`akM)
include X9 G9 F9 a9
theorem cD1(o:`akN)(hl:`aD=1)(b:`a1E):`akO:=`a1F
theorem cD2(o:`akN)(hl:`aD=2)(b:`a1G):`akO:=`a1H
theorem cD3(o:`akN)(hl:`aD=3)(b:∀(kV doc pm:`G) (an:`bm) (cdv ct u v w:`G),`ru `Bl #[[u,v,w],[]]=`bI (`pJ [u,v,w])):`akO:=#[f,fd,o,`KC,`KD,`KE λ_ _ _ _ _ _ us h=>by let#[u,v,w,rfl]:=us3 `KF;exact b _ _ _ _ _ _ _ _ _]
theorem cN1(o:`akP)(hl:`aD=1)(b:`a1E):`akQ:=`a1F
theorem cN2(o:`akP)(hl:`aD=2)(b:`a1G):`akQ:=`a1H
theorem cN4(o:`akP)(hl:`aD=4)(b:∀(kV doc pm:`G) (an:`bm) (cdv ct u v w y:`G),`ru `Bl #[[u,v,w,y],[]]=`bI (`pJ [u,v,w,y])):`akQ:=#[f,fd,o,`KC,`KD,`KE λ_ _ _ _ _ _ us h=>by let#[u,v,w,y,rfl]:=us4 `KF;exact b _ _ _ _ _ _ _ _ _ _]
universe zz
def all_mk{l:`aa1}{w:`Q}{h:`D}(X:`eA)(G:`Bp)(hfa:mg `oq=`Ga)
  {f36 f37 f38 f39 f40 f41 f42 f43 f44 f45 f46 f47 f48 f49 f50 f51 f52 f53 f54:`f}
  {od36 an36 od37 an37 od38 an38 od39 an39 od40 an40 od41 an41 od42 an42 od43 an43 od44 an44 od45 an45 od46 an46 od47 an47 od48 an48 od49 an49 od50 an50 od51 an51 od52 an52 od53 an53 od54 an54:`bm} {sl36 sl37 sl38 sl39 sl40 sl41 sl42 sl43 sl44 sl45 sl46 sl47 sl48 sl49 sl50 sl51 sl52 sl53 sl54:`h6} {oc36 kV36 dc36 pm36 cd36 ct36 oc37 kV37 dc37 pm37 cd37 ct37 oc38 kV38 dc38 pm38 cd38 ct38 oc39 kV39 dc39 pm39 cd39 ct39 oc40 kV40 dc40 pm40 cd40 ct40 oc41 kV41 dc41 pm41 cd41 ct41 oc42 kV42 dc42 pm42 cd42 ct42 oc43 kV43 dc43 pm43 cd43 ct43 oc44 kV44 dc44 pm44 cd44 ct44 oc45 kV45 dc45 pm45 cd45 ct45 oc46 kV46 dc46 pm46 cd46 ct46 oc47 kV47 dc47 pm47 cd47 ct47 oc48 kV48 dc48 pm48 cd48 ct48 oc49 kV49 dc49 pm49 cd49 ct49 oc50 kV50 dc50 pm50 cd50 ct50 oc51 kV51 dc51 pm51 cd51 ct51 oc52 kV52 dc52 pm52 cd52 ct52 oc53 kV53 dc53 pm53 cd53 ct53 oc54 kV54 dc54 pm54 cd54 ct54:`G}
  {t_BASE t_MOST_NAMES t_MOST_NAME_SIGNS t_MOST_PARTS t_MOST_VALUES t_MOST_WORD_SIGNS t_NAME_SIGNS t_WORD_SIGNS:Tok}
  {cT_Reader:`f} (aT_Reader:`bO K `a_ `F=`a (`a `dY)) (bT_Reader:Wu0 K `dA u9=`c)
  (h0:Hd K `Kp `ajD)
  (h1:Hd K `Q9 `ajE)
  (h2:Hd K `Q' `ajF)
  (h3:Hd K `Q! `ajG)
  (h4:Hd K `Rc `Rb)
  (h5:Hd K `Re `ajK)
  (h6:Hd K `KA `ajL)
  (h7:Hd K `Rf `ajM)
  (h8:Hd K `Rg `ajN)
  (h9:Hd K `Ky `ajO)
  (h10:Hd K `Rh `ajP)
  (h11:Hd K `KB `Rj)
  (h12:Hd K `Rk `ajS)
  (h13:Hd K `Ko `ajW)
  (h14:Hd K `Rm `ajX)
  (h15:Hd K `Ro `ajZ)
  (h16:Hd K `Kq `Rs)
  (h17:Hd K `Rp `aj_)
  (h18:Hd K `Rq `aj1)
  (h19:Hd K `Rn `aj2)
  (h20:Hd K `Rl `aj4)
  (h21:Hd K `Ks `aj5)
  (h22:Hd K `Bi `aj6)
  (h23:Hd K `Ru `aj8)
  (h24:Hd K `Rw `aj9)
  (h25:Hd K `EH `aj')
  (h26:Hd K `EJ `Rx)
  (h27:Hd K `EK `Yu)
  (h28:Hd K `Rz `Ry)
  (h29:Hd K `Kv `RA)
  (h30:Hd K `RC `RB)
  (h31:Hd K `RD `akg)
  (h32:Hd K `RE `Yw)
  (h33:Hd K `RG `RF)
  (h34:Hd K `EN `akk)
  (h35:Hd K `EP `akn)
  (a36:`bO K `a_ `oq=`a (`a `a1I)) (l36:`bE f36=`a #[oc36,od36,`ce (`a1J),sl36]) (c36:`c3 K cd36 `oq=`c) (k36:`cg K `a1I=`c)
  (a37:`cu K `dY `dZ=`a (`a (`z f37))) (l37:`bE f37=`a #[oc37,od37,`ce (`cL `dZ `akq (V4 `xn) (Y8 `xn) (t6 `xn) `af kV37 dc37 pm37 an37 cd37 ct37),sl37]) (c37:`c3 K cd37 `akq=`c) (k37:`cg K (`z f37)=`c) (i37:`dL K (`z f37)=`c)
  (a38:`cu K `dY `xm=`a (`a (`z f38))) (l38:`bE f38=`a #[oc38,od38,`ce (`cL `xm `akt (V4 `xo) (Y8 `xo) (t6 `xo) `af kV38 dc38 pm38 an38 cd38 ct38),sl38]) (c38:`c3 K cd38 `akt=`c) (k38:`cg K (`z f38)=`c) (i38:`dL K (`z f38)=`c)
  (a39:`cu K `dY `vb=`a (`a (`z f39))) (l39:`bE f39=`a #[oc39,od39,`ce (`cL `vb `aku (V4 `xr) (Y8 `xr) (t6 `xr) `af kV39 dc39 pm39 an39 cd39 ct39),sl39]) (c39:`c3 K cd39 `aku=`c) (k39:`cg K (`z f39)=`c) (i39:`dL K (`z f39)=`c)
  (a40:`cu K `dY `va=`a (`a (`z f40))) (l40:`bE f40=`a #[oc40,od40,`ce (`cL `va `akv (V4 `xs) (Y8 `xs) (t6 `xs) `af kV40 dc40 pm40 an40 cd40 ct40),sl40]) (c40:`c3 K cd40 `akv=`c) (k40:`cg K (`z f40)=`c) (i40:`dL K (`z f40)=`c)
  (a41:`cu K `dY `xl=`a (`a (`z f41))) (l41:`bE f41=`a #[oc41,od41,`ce (`cL `xl `akw (V4 `xt) (Y8 `xt) (t6 `xt) `af kV41 dc41 pm41 an41 cd41 ct41),sl41]) (c41:`c3 K cd41 `akw=`c) (k41:`cg K (`z f41)=`c) (i41:`dL K (`z f41)=`c)
  (a42:`cu K `dY `hP=`a (`a (`z f42))) (l42:`bE f42=`a #[oc42,od42,`ce (`cL `hP `akx (V4 `su) (Y8 `su) (t6 `su) `af kV42 dc42 pm42 an42 cd42 ct42),sl42]) (c42:`c3 K cd42 `akx=`c) (k42:`cg K (`z f42)=`c) (i42:`dL K (`z f42)=`c)
  (a43:`cu K `dY `xq=`a (`a (`z f43))) (l43:`bE f43=`a #[oc43,od43,`ce (`cL `xq `aky (V4 `xu) (Y8 `xu) (t6 `xu) `af kV43 dc43 pm43 an43 cd43 ct43),sl43]) (c43:`c3 K cd43 `aky=`c) (k43:`cg K (`z f43)=`c) (i43:`dL K (`z f43)=`c)
  (a44:`cu K `dY `xv=`a (`a (`z f44))) (l44:`bE f44=`a #[oc44,od44,`ce (`cL `xv `akA (V4 `xz) (Y8 `xz) (t6 `xz) `af kV44 dc44 pm44 an44 cd44 ct44),sl44]) (c44:`c3 K cd44 `akA=`c) (k44:`cg K (`z f44)=`c) (i44:`dL K (`z f44)=`c)
  (a45:`cu K `dY `xA=`a (`a (`z f45))) (l45:`bE f45=`a #[oc45,od45,`ce (`cL `xA `akB (V4 `xC) (Y8 `xC) (t6 `xC) `af kV45 dc45 pm45 an45 cd45 ct45),sl45]) (c45:`c3 K cd45 `akB=`c) (k45:`cg K (`z f45)=`c) (i45:`dL K (`z f45)=`c)
  (a46:`cu K `dY `xB=`a (`a (`z f46))) (l46:`bE f46=`a #[oc46,od46,`ce (`cL `xB `akC (V4 `xD) (Y8 `xD) (t6 `xD) `af kV46 dc46 pm46 an46 cd46 ct46),sl46]) (c46:`c3 K cd46 `akC=`c) (k46:`cg K (`z f46)=`c) (i46:`dL K (`z f46)=`c)
  (a47:`cu K `dY `xE=`a (`a (`z f47))) (l47:`bE f47=`a #[oc47,od47,`ce (`cL `xE `akE (V4 `xF) (Y8 `xF) (t6 `xF) `af kV47 dc47 pm47 an47 cd47 ct47),sl47]) (c47:`c3 K cd47 `akE=`c) (k47:`cg K (`z f47)=`c) (i47:`dL K (`z f47)=`c)
  (a48:`cu K `dY `vd=`a (`a (`z f48))) (l48:`bE f48=`a #[oc48,od48,`ce (`cL `vd `akF (V4 `xG) (Y8 `xG) (t6 `xG) `af kV48 dc48 pm48 an48 cd48 ct48),sl48]) (c48:`c3 K cd48 `akF=`c) (k48:`cg K (`z f48)=`c) (i48:`dL K (`z f48)=`c)
  (a49:`cu K `dY `xp=`a (`a (`z f49))) (l49:`bE f49=`a #[oc49,od49,`ce (`cL `xp `akG (V4 `xH) (Y8 `xH) (t6 `xH) `af kV49 dc49 pm49 an49 cd49 ct49),sl49]) (c49:`c3 K cd49 `akG=`c) (k49:`cg K (`z f49)=`c) (i49:`dL K (`z f49)=`c)
  (a50:`cu K `dY `xy=`a (`a (`z f50))) (l50:`bE f50=`a #[oc50,od50,`ce (`cL `xy `akH (V4 `xI) (Y8 `xI) (t6 `xI) `af kV50 dc50 pm50 an50 cd50 ct50),sl50]) (c50:`c3 K cd50 `akH=`c) (k50:`cg K (`z f50)=`c) (i50:`dL K (`z f50)=`c)
  (a51:`cu K `dY `xx=`a (`a (`z f51))) (l51:`bE f51=`a #[oc51,od51,`ce (`cL `xx `akI (V4 `xJ) (Y8 `xJ) (t6 `xJ) `af kV51 dc51 pm51 an51 cd51 ct51),sl51]) (c51:`c3 K cd51 `akI=`c) (k51:`cg K (`z f51)=`c) (i51:`dL K (`z f51)=`c)
  (a52:`cu K `dY `xK=`a (`a (`z f52))) (l52:`bE f52=`a #[oc52,od52,`ce (`cL `xK `akJ (V4 `xL) (Y8 `xL) (t6 `xL) `af kV52 dc52 pm52 an52 cd52 ct52),sl52]) (c52:`c3 K cd52 `akJ=`c) (k52:`cg K (`z f52)=`c) (i52:`dL K (`z f52)=`c)
  (a53:`cu K `dY `xM=`a (`a (`z f53))) (l53:`bE f53=`a #[oc53,od53,`ce (`cL `xM `akK (V4 `xN) (Y8 `xN) (t6 `xN) `af kV53 dc53 pm53 an53 cd53 ct53),sl53]) (c53:`c3 K cd53 `akK=`c) (k53:`cg K (`z f53)=`c) (i53:`dL K (`z f53)=`c)
  (a54:`cu K `dY `xw=`a (`a (`z f54))) (l54:`bE f54=`a #[oc54,od54,`ce (`cL `xw `akL (V4 `xO) (Y8 `xO) (t6 `xO) `af kV54 dc54 pm54 an54 cd54 ct54),sl54]) (c54:`c3 K cd54 `akL=`c) (k54:`cg K (`z f54)=`c) (i54:`dL K (`z f54)=`c)
  (z_bool:`bO K `a_ `v'=`b8)
  (z_enumerate:`bO K `a_ `m!=`b8)
  (z_int:`bO K `a_ `h!=`b8)
  (z_isinstance:`bO K `a_ `tB=`b8)
  (z_len:`bO K `a_ `tc=`b8)
  (z_list:`bO K `a_ `eS=`b8)
  (z_max:`bO K `a_ `B2=`b8)
  (z_min:`bO K `a_ `B3=`b8)
  (z_ord:`bO K `a_ `B4=`b8)
  (z_range:`bO K `a_ `sQ=`b8)
  (z_reversed:`bO K `a_ `nI=`b8)
  (z_str:`bO K `a_ `i?=`b8)
  (z_tuple:`bO K `a_ `dk=`b8)
  (z_zip:`bO K `a_ `f7=`b8)
  (y_BASE:`bO K `a_ "BASE"=`a (`a (`g 128 t_BASE)))
  (y_MOST_NAMES:`bO K `a_ `a0B=`a (`a (`g 60 t_MOST_NAMES)))
  (y_MOST_NAME_SIGNS:`bO K `a_ `a0C=`a (`a (`g 8 t_MOST_NAME_SIGNS)))
  (y_MOST_PARTS:`bO K `a_ `a0D=`a (`a (`g 60 t_MOST_PARTS)))
  (y_MOST_VALUES:`bO K `a_ `a0E=`a (`a (`g 12 t_MOST_VALUES)))
  (y_MOST_WORD_SIGNS:`bO K `a_ `a0F=`a (`a (`g 20 t_MOST_WORD_SIGNS)))
  (y_NAME_SIGNS:`bO K `a_ `a0G=`a (`a (`u `z1 t_NAME_SIGNS)))
  (y_WORD_SIGNS:`bO K `a_ `a0H=`a (`a (`u `z2 t_WORD_SIGNS)))
  {cI_NoPack fI_NoPack:`f} {odI_NoPack anI_NoPack:`bm} {slI_NoPack:`h6} {ocI_NoPack kVI_NoPack dcI_NoPack pmI_NoPack cdI_NoPack ctI_NoPack:`G}
  (aI_NoPack:`bO K `a_ `i3=`a (`a (`z cI_NoPack))) (bI_NoPack:`cu K (`z cI_NoPack) `dZ=`a (`a (`z `RH)))
  (lI_NoPack:`bE `RH=`a #[ocI_NoPack,odI_NoPack,`ce (`cL `dZ `a1K (V4 (ini 2)) (Y8 (ini 2)) (t6 (ini 2)) `af kVI_NoPack dcI_NoPack pmI_NoPack anI_NoPack `a1L ctI_NoPack),slI_NoPack]) (gI_NoPack:`c3 K `a1L `a1K=`c) (kI_NoPack:`cg K (`z `RH)=`c) (iI_NoPack:XC.Z90 K `akl `i3 `RH=`c)
  {kA_KINDS:`f} {kn_KINDS:Nat} {ks_KINDS:`h6} {kt_KINDS_0 kt_KINDS_1 kt_KINDS_2 kt_KINDS_3:Tok}
  (kN_KINDS:`bO K `a_ "KINDS"=`a (`a (`z kA_KINDS))) (kL_KINDS:`bE kA_KINDS=`a #[`eQ,`d,`b7 ⟨`u `Is kt_KINDS_0,`u `It kt_KINDS_1,`u `Iu kt_KINDS_2,`u `zT kt_KINDS_3⟩ kn_KINDS,ks_KINDS])
  (xt:XC.Oa0 K `akl `Kx []=`c)
  : ∃fd:`e1,(∀(s:`v) (v:`G),`Gd s fd #[[v],[]] [(`j5,v)])/\∀base:`D,`ZA->`BE->`W `ak w K mg `l CX0 8 fa fd [`j5] `a1k:=by
 refine `e;have e:=hfa.symm.trans (C5 X G a36);cases e;have T:`as:=#[D9 X G z_bool,D9 X G z_enumerate,D9 X G z_int,D9 X G z_isinstance,D9 X G z_len,D9 X G z_list,D9 X G z_max,D9 X G z_min,D9 X G z_ord,D9 X G z_range,D9 X G z_reversed,D9 X G z_str,D9 X G z_tuple,D9 X G z_zip,#[_,C5 X G y_BASE],#[_,C5 X G y_MOST_NAMES],#[_,C5 X G y_MOST_NAME_SIGNS],#[_,C5 X G y_MOST_PARTS],#[_,C5 X G y_MOST_VALUES],#[_,C5 X G y_MOST_WORD_SIGNS],#[_,C5 X G y_NAME_SIGNS],#[_,C5 X G y_WORD_SIGNS]];have p3:`aj0:=#[_,_,_,_,C5 X G kN_KINDS,kL_KINDS,rfl,rfl,rfl,(by show 4<=`R;decide),`aq `ad (`aq `ad (`aq `ad (`aq `ad (`X))))];let#[rr,XT]:=XC.tab_of X G xt;let#[f0,g0,F0,a0]:=h0;let#[f1,g1,F1,a1]:=h1;let#[f2,g2,F2,a2]:=h2;let#[f3,g3,F3,a3]:=h3;let#[f4,g4,F4,a4]:=h4;let#[f5,g5,F5,a5]:=h5;let#[f6,g6,F6,a6]:=h6;let#[f7,g7,F7,a7]:=h7;let#[f8,g8,F8,a8]:=h8;let#[f9,g9,F9,a9]:=h9;let#[f10,g10,v4,x7]:=h10;let#[N1,N0,u1,D1]:=h11;let#[f12,g12,t4,I1]:=h12;let#[f13,I5,r1,w7]:=h13;let#[f14,S0,u2,B1]:=h14;let#[f15,I7,r6,H4]:=h15;let#[f16,g16,s7,C3]:=h16;let#[f17,I9,u0,H3]:=h17;let#[f18,g18,t2,y3]:=h18;let#[I3,g19,s9,z4]:=h19;let#[S3,g20,t0,y1]:=h20;let#[S2,L0,r3,A0]:=h21;let#[I2,g22,q5,D2]:=h22;let#[N2,g23,v3,z2]:=h23;let#[f24,g24,v1,H7]:=h24;let#[H8,g25,q4,z1]:=h25;let#[y7,g26,q6,z3]:=h26;let#[H5,I8,q8,y2]:=h27;let#[f28,I6,r7,B2]:=h28;let#[I4,g29,w1,H9]:=h29;let#[f30,g30,s8,E2]:=h30;let#[f31,L1,t1,I0]:=h31;let#[f32,g32,s2,z5]:=h32;let#[f33,g33,r4,H6]:=h33;let#[C2,g34,q7,y9]:=h34;let#[z6,g35,q3,z0]:=h35;have y5:=K3 (x := `oq) (st:=`vg) l36 c36 k36;have w2:=K3 (x := `dZ) (st:=`xn) l37 c37 k37;have s4:=K3 (x := `xm) (st:=`xo) l38 c38 k38;have w5:=K3 (x := `vb) (st:=`xr) l39 c39 k39;have v2:=K3 (x := `va) (st:=`xs) l40 c40 k40;have s6:=K3 (x := `xl) (st:=`xt) l41 c41 k41;have s0:=K3 (x := `hP) (st:=`su) l42 c42 k42;have s3:=K3 (x := `xq) (st:=`xu) l43 c43 k43;have r5:=K3 (x := `xv) (st:=`xz) l44 c44 k44;have w3:=K3 (x := `xA) (st:=`xC) l45 c45 k45;have r2:=K3 (x := `xB) (st:=`xD) l46 c46 k46;have t3:=K3 (x := `xE) (st:=`xF) l47 c47 k47;have u3:=K3 (x := `vd) (st:=`xG) l48 c48 k48;have w4:=K3 (x := `xp) (st:=`xH) l49 c49 k49;have s5:=K3 (x := `xy) (st:=`xI) l50 c50 k50;have r0:=K3 (x := `xx) (st:=`xJ) l51 c51 k51;have u4:=K3 (x := `xK) (st:=`xL) l52 c52 k52;have s1:=K3 (x := `xM) (st:=`xN) l53 c53 k53;have w0:=K3 (x := `xw) (st:=`xO) l54 c54 k54;have J:`el:=Le0 `dH `atB;refine `b;refine#[`a1J,λs v=>.of_eq rfl,λbase _ _=>?_];have e9:=K3 (x := `dZ) (st:=ini 2) lI_NoPack gI_NoPack kI_NoPack;have q1:IniC `ak w K mg `l `i3 rr 1:=Oo0 XT `r iI_NoPack e9 dz0 (e9.binds (ps:=`j0) λ_ _ _ _ _ _ us hl=>match us,hl with|[_,_],_=>rfl) λC cl ec rc hm cdv A outer s H E=>T10 hm rc cl ec `r
 have AT:∀c∈`a1e,`aeC := λc hc=>by
  simp only[`eL,`hi,`hj] at hc;rcases hc with rfl
  ·exact at_of XT `r iI_NoPack
 have c2:=cN1 `ak w `l X G F0 a0 (gj0 F0 T) rfl `bH;have q0:=cD1 `ak w `l X G F1 a1 (Tr0 F1 T) rfl `bH;have p8:=cD1 `ak w `l X G F2 a2 (Yk0 F2 T) rfl `bH;have p4:=cD1 `ak w `l X G F3 a3 (Ys0 F3 T) rfl `bH;have m1:=cN1 `ak w `l X G F4 a4 (c00 F4 T) rfl `bH;have i0:=cD2 `ak w `l X G F6 a6 (V60 F6 T) rfl `bH;have n8:=cD1 `ak w `l X G F7 a7 (a00 F7 T) rfl `bH;have e8:=cD2 `ak w `l X G F8 a8 (iv0 F8 T) rfl `bH;have l3:=cD1 `ak w `l X G v4 x7 (cg0 v4 T) rfl `bH;have j1:=cD3 `ak w `l X G u1 D1 (Uk0 u1 T) rfl `bH;have k5:=cD2 `ak w `l X G r1 w7 (Sb0 r1 T) rfl `bH;have d3:=cN1 `ak w `l X G s7 C3 (dy0 s7 T) rfl `bH;have j2:=cD1 `ak w `l X G u0 H3 (e40 u0 T p3) rfl `bH;have n1:=cN1 `ak w `l X G t0 y1 (ci0 t0 T) rfl `bH;have b3:=cD2 `ak w `l X G r3 A0 (iq0 r3 T) rfl `bH;have b2:FnB `ak w K mg `l `Bi 1 `fJ 0 S8:=#[I2,_,ac0 q5 T ,C5 X G D2,q5.kp,q5.binds (ps:=`fJ) `jr];have l0:=cN2 `ak w `l X G v3 z2 (cf0 v3 T) rfl `bH;have k3:=cD2 `ak w `l X G v1 H7 (eb0 v1 T) rfl `bH;have c4:=cN1 `ak w `l X G w1 H9 (f00 w1 T) rfl `bH;have p6:=cD2 `ak w `l X G t1 I0 (Yd0 t1 T) rfl `bH;have q2:FnI `ak w K mg `l `F 1 `aP z00:=#[#[`dA,f37,_,lr0 w2 T J,`dH,#[(`YD).2.2.1,a37,i37,(`YD).2.2.2],w2.binds (ps:=`aP) `jr,C5 X G `dH]];have Y:FnT `ak w K mg `l `F `vb 1 `aP u9 W8:=#[#[`dA,f39,_,ib0 w5 T J,`dH,`eN,#[a39,i39,k39],w5.binds (ps:=`aP) `jr,`aa]];have U:FnT `ak w K mg `l `F `va 1 `aP u9 R5:=#[#[`dA,f40,_,nu0 v2 T J,`dH,`eN,#[a40,i40,k40],v2.binds (ps:=`aP) `jr,`aa]];have e7:FnT `ak w K mg `l `F `xl 1 `aP u9 N7:=#[#[`dA,f41,_,g80 s6 T J,`dH,`eN,#[a41,i41,k41],s6.binds (ps:=`aP) `jr,`aa]];have e3:FnT `ak w K mg `l `F `xA 1 `wM u9 ze0:=#[#[`dA,f45,_,kl0 w3 T J,`dH,`eN,#[a45,i45,k45],w3.binds (ps:=`wM) `js,`aa]];have O:FnT `ak w K mg `l `F `vd 1 `ve u9 W7:=#[#[`dA,f48,_,ec0 u3 T J,`dH,`eN,#[a48,i48,k48],u3.binds (ps:=`ve) `js,`aa]];have e0:FnT `ak w K mg `l `F `xp 1 `aP u9 J5:=#[#[`dA,f49,_,md0 w4 T J,`dH,`eN,#[a49,i49,k49],w4.binds (ps:=`aP) `jr,`aa]];have p9:=cD1 `ak w `l X G F5 a5 (Ue0 F5 T p4) rfl `bH;have e1:=cD2 `ak w `l X G F9 a9 (bh0 F9 T l3) rfl `bH;have m0:=cN2 `ak w `l X G r6 H4 (dw0 r6 T c2 d3) rfl `bH;have l4:=cN1 `ak w `l X G t2 y3 (cl0 t2 T d3) rfl `bH;have n4:=cD2 `ak w `l X G s9 z4 (ch0 s9 T q0) rfl `bH;have m2:FnB `ak w K mg `l `EH 2 `fJ 0 Q8:=#[H8,_,c90 q4 T b2 k3,C5 X G z1,q4.kp,q4.binds (ps:=`fJ) `jr];have n7:FnB `ak w K mg `l `EJ 2 `EI 0 y80:=#[y7,_,b60 q6 T b2,C5 X G z3,q6.kp,q6.binds (ps:=`EI) `js];have e4:=cN1 `ak w `l X G s8 E2 (jd0 s8 T c4) rfl `bH;have o1:=cD2 `ak w `l X G r4 H6 (Zy0 r4 T b3) rfl `bH;have c8:FnT `ak w K mg `l `F `xE 2 `EU u9 za0:=#[#[`dA,f47,_,ou0 t3 T J O n8 e8,`dH,`eN,#[a47,i47,k47],t3.binds (ps:=`EU) λ_ _ _ _ _ _ us hl=>by let#[_,_,_,rfl]:=us3 hl;rfl,`aa]];have d1:FnT `ak w K mg `l `F `xy 2 `ct u9 M8:=#[#[`dA,f50,_,m40 s5 T O i0,`dH,`eN,#[a50,i50,k50],s5.binds (ps:=`ct) `js,`aa]];have c1:FnT `ak w K mg `l `F `xw 2 `ct u9 R7:=#[#[`dA,f54,_,pt0 w0 T J O j1 i0,`dH,`eN,#[a54,i54,k54],w0.binds (ps:=`ct) `js,`aa]];have l8:=cN4 `ak w `l X G u2 B1 (du0 u2 T k5 n4 m0 c2 j2 l4) rfl `bH;have p1:FnB `ak w K mg `l `EK 3 `fJ 0 N6:=#[H5,_,b40 q8 T b2 m2 n7,C5 X G y2,q8.kp,q8.binds (ps:=`fJ) `jr];have m6:=cD1 `ak w `l X G s2 z5 (c30 s2 T p6 e4 c4) rfl `bH;have b1:FnTX `ak w K mg `l `F `hP 3 `aP u9 Q0:=#[#[`dA,f42,_,c70 s0 T J Y e1 q1,`dH,`eN,#[a42,i42,k42],s0.binds (ps:=`aP) `jr,`aa]];have c5:FnT `ak w K mg `l `F `xB 3 `ES u9 R4:=#[#[`dA,f46,_,m10 r2 T J p3 O c8 p8,`dH,`eN,#[a46,i46,k46],r2.binds (ps:=`ES) `js,`aa]];have d2:FnT `ak w K mg `l `F `xM 3 `aP u9 M9:=#[#[`dA,f53,_,nj0 s1 T J e1 m1,`dH,`eN,#[a53,i53,k53],s1.binds (ps:=`aP) `jr,`aa]];have q9:=cN1 `ak w `l X G t4 I1 (Lw0 t4 T n1 k5 l8) rfl `bH;have p7:=cD2 `ak w `l X G r7 B2 (Ya0 r7 T b3 l0 p1) rfl `bH;have e6:FnB `ak w K mg `l `EN 4 `EM 0 M3:=#[C2,_,ij0 q7 T XT b1 AT,C5 X G y9,q7.kp,q7.binds (ps:=`EM) `jr];have c3:FnT `ak w K mg `l `F `xv 4 `ct u9 Q6:=#[#[`dA,f44,_,oc0 r5 T J e3 c5,`dH,`eN,#[a44,i44,k44],r5.binds (ps:=`ct) `js,`aa]];have b0:FnT `ak w K mg `l `F `xK 4 `EV u9 O7:=#[#[`dA,f52,_,rc0 u4 T J O d2,`dH,`eN,#[a52,i52,k52],u4.binds (ps:=`EV) `js,`aa]];have k4:FnB `ak w K mg `l `EP 5 `EO 0 z10:=#[z6,_,gv0 q3 T U e7 b1 Y e6,C5 X G z0,q3.kp,q3.binds (ps:=`EO) λ_ _ _ _ _ _ us hl=>by let#[_,_,_,_,rfl]:=us4 hl;rfl];have Z:FnT `ak w K mg `l `F `xx 5 `ct u9 T3:=#[#[`dA,f51,_,so0 r0 T J b0 j1,`dH,`eN,#[a51,i51,k51],r0.binds (ps:=`ct) `js,`aa]];have e5:FnT `ak w K mg `l `F `xq 6 `ct u9 U8:=#[#[`dA,f43,_,h50 s3 T J c3 c1 Z d1 Y,`dH,`eN,#[a43,i43,k43],s3.binds (ps:=`ct) `js,`aa]];have k0:FnT `ak w K mg `l `F `xm 7 `ER u9 z20:=#[#[`dA,f38,_,ft0 s4 T J e0 e5 p9,`dH,`eN,#[a38,i38,k38],s4.binds (ps:=`ER) `js,`aa]];exact J00 y5 T q2 k0 U b1 o1 m6 k4 p7 q9
theorem Zh0:∀ns:`_,Rps K H B `agC `yC
 | []=>by rw[`lB,`lB,m9]
 | `o7=>by
  rw[`ab,`ab,o8];exact#[_,_,rfl,`GH,Zh0 ns]
def Ta0{ns:`_}(hK:`aeK)(hS:`aaZ)(hm:`a0t):spD K lx0 `d4 H `Mc `pR:=by
 refine#[`HR,[`hS],`c4,`aOy,?_,hm,λv H' _ r=>`am8];rw[o8];refine#[_,[],rfl,?_,`fS];rw[X6];exact#[a,`no `te,rfl,script_at hK hS,Zh0 ns]
universe Sk
open PySem.W PyProof.Rows
namespace PySem.W.Fast
def tw2866271426594685941:=0
def tw7777830513174463663:=0
def tw16445137596232510136:=0
def tw10278340973039983146:=0
def tw6227367385536985317:=0
def tw4747162989953800181:=0
def tw10393197319599645817:=0
def tw7099969865070235712:=0
def tw7144398595833862805:=0
def tw11427504971148773876:=0
def tw14003007755696160869:=0
def tw11285439741533807365:=0
def tw12148651749053313602:=0
def tw6949019057972086633:=0
def tw14645546793570119726:=0
def tw5510797404041099625:=0
def tw16623862820506555211:=0
def tw16617840056777179154:=0
def tw15514842550354706609:=0
def tw11655327438557002696:=0
def tw18024126721522990330:=0
def tw15649118101272920086:=0
def tw11418471242739671423:=0
def tw8084255920085048125:=0
def tw17039889464004875816:=0
def tw6351435048592178344:=0
def tw16476295694131268258:=0
def tw2517447074044627357:=0
def tw4712944437415905315:=0
def tw5214036775468703984:=0
def tw16155444504689873713:=0
def tw4551947870585003239:=0
def tw11418640481511054505:=0
def tw9758460529243228402:=0
def tw1159636869326382481:=0
def tw12813411075813595993:=0
def tw850760718188616375:=0
def tw14999382012434974050:=0
def tw5960008551208558247:=0
def tw6064452256550824603:=0
def tw8551180299394918926:=0
def tw1471868226846571666:=0
def tw7297546327044621632:=0
def tw12390779184114488344:=0
def tw18308096427083363036:=0
def tw920664428772853422:=0
def tw12901527131376160359:=0
def tw1154998124098306034:=0
def tw15890311857250756806:=0
def tw7157543632797365139:=0
def tw4317525741784262044:=0
def tw5610947998279171363:=0
def tw7820360147191626275:=0
def tw16642312489355052778:=0
def tw18260876699969175988:=0
def tw8905000124504805948:=0
def tw12093103615551480479:=0
def tw15221522483759934763:=0
def tw2544064108115584670:=0
def tw11724542772503831522:=0
def tw2124281835379172587:=0
def tw4303605022897139600:=0
def tw8217981917075248082:=0
def tw13360165828136575598:=0
def tw14793014169932250733:=0
def tw15543400184566596173:=0
def tw3610619321110313002:=0
def tw17152169693356322028:=0
def tw2859783647069575571:=0
def tw16741801522784493038:=0
def tw7337016222564339775:=0
def tw4979090508007230663:=0
def tw16543158496405143956:=0
def tw15520358272688694652:=0
def tw7158337237135032185:=0
def tw9559402748552447391:=0
def tw1273265491528992281:=0
def tw3409335861357727128:=0
def tw16672768721108092509:=0
def tw4918600681341356974:=0
def tw13325299001549804067:=0
def tw14118865353042077407:=0
def tw6547521495491452291:=0
def tw2006603097671770141:=0
def tw6857048623388060135:=0
def tw968247400097330169:=0
def tw15745829443782962253:=0
def tw16808733505567193636:=0
def tw7844263218201444818:=0
def tw11545687416509636255:=0
def tw6045601873094550009:=0
def tw9832165729853391068:=0
def tw493906533036740746:=0
def tw11051622110432352991:=0
def tw15835452484828898118:=0
def tw14532423984475674323:=0
def tw9371896274043374986:=0
def tw16064808741114150350:=0
def tw2284128430099150529:=0
def tw13058668407865809306:=0
def tw8952687317383705960:=0
def tw3881641485506803755:=0
def tw7506135526581384653:=0
def tw6634537292229336949:=0
def tw8376735790503859403:=0
def tw11810878981701701486:=0
def tw8604523657578176969:=0
def tw6242485176833175666:=0
def tw1183309916897514106:=0
def tw8832905414027654005:=0
def tw3367372545657764313:=0
def tw6585826417038699573:=0
def tw4112017702430043443:=0
def tw8493582029372160954:=0
def tw7321601705207977103:=0
def tw14473569952581117547:=0
def tw2636952354945010876:=0
def tw5144199895026318532:=0
def tw14885807663462329890:=0
def tw3934416313505617786:=0
def tw11340156017603408154:=0
def tw207126849446255644:=0
def tw16302647689044688319:=0
def tw15642010440462756789:=0
def tw8972499661039852504:=0
def tw18052106629115447599:=0
def tw14967593959072209768:=0
def tw548850152599402745:=0
def tw16729165215486998321:=0
def tw1625682223909916759:=0
def tw8895345747765904713:=0
def tw16617255811096536721:=0
def tw6662885542282727386:=0
def tw12849863223886146925:=0
def tw15190251257151547174:=0
def tw7607946752591811996:=0
def tw17533173149352732082:=0
def tw15459087081390241712:=0
def tw8998847199812335489:=0
def tw3312399116382618100:=0
def tw16774529351149364601:=0
def tw1697176034463210771:=0
def tw6502506884169284906:=0
def tw13007021490020558562:=0
def tw7829006004905379975:=0
def tw18273709507216478669:=0
def tw14123811844516831601:=0
def tw8009204120275637983:=0
def tw10053488892807077995:=0
def tw10017587270971085736:=0
def tw864495200610408868:=0
def tw6645346199055969198:=0
def tw14044766527452326655:=0
def tw2781360980569176706:=0
def tw2469345580816791935:=0
def tw11674832420467669684:=0
def tw3054537686434841414:=0
def tw5004684118053398659:=0
def tw11762360500060373668:=0
def tw16531941410759107472:=0
def tw12133138797374912872:=0
def tw15511868488390381108:=0
def tw16378533840789963304:=0
def tw15769369443026244042:=0
def tw16028774918512364201:=0
def tw17552504135500250722:=0
def tw4346848704180767091:=0
def tw17232112610349448836:=0
def tw13924987536619950291:=0
def tw7709780609959796029:=0
def tw16963219446487932312:=0
def tw5253522637144427156:=0
def tw1711205215474896306:=0
def tw17868847890170272366:=0
def tw4669705463634637765:=0
def tw10071399304673119039:=0
def tw10548393217119755922:=0
def tw10967691774406589129:=0
def tw6728615969678326499:=0
def tw10137998730707362327:=0
def tw3975803019340383659:=0
def tw3810349061735913045:=0
def tw2622823618635816088:=0
def tw7265960309765484062:=0
def tw1445713913890398670:=0
def tw16034367022222486938:=0
def tw11495999596334418491:=0
def tw13016937174024736948:=0
def tw3850210425940786228:=0
def tw15518106377863818292:=0
def tw5730060074246652798:=0
def tw823741365220570829:=0
def tw10727750641688921991:=0
def tw12619704780851954616:=0
def tw6025043639079002675:=0
def tw9679742184255573519:=0
def tw11935762787286273756:=0
def tw16581746440804490805:=0
def tw3717425279870508314:=0
def tw2240599887424475120:=0
def tw1995339833549595313:=0
def tw1951068666679784642:=0
def tw12126273458636689221:=0
def tw16090249138043566544:=0
def tw9270061589666642948:=0
def tw14857880832669542763:=0
def tw1305002950908880987:=0
def tw4675480819421945356:=0
def tw18169840105992931490:=0
def tw5147367039870921906:=0
def tw4074134741036654836:=0
def tw17169503246545247386:=0
def tw2817790096993291471:=0
def tw15870744687863542799:=0
def tw2331451092896696610:=0
def tw13917590117126623039:=0
def tw1593129529894627744:=0
def tw5996591907488218788:=0
def tw18097137833480517983:=0
def tw10743560651041314626:=0
def tw13467148753931268058:=0
def tw13941143200779492746:=0
def tw10243235398714176116:=0
def tw3665385201838935375:=0
def tw14175485164605038963:=0
def tw15189721545476915033:=0
def tw7828811628119247927:=0
def tw7210889796049337306:=0
def tw11896987052680091138:=0
def tw16748161238248732463:=0
def tw11612372873117114820:=0
def tw2452097858974455971:=0
def tw3270718212849021803:=0
def tw12309000106839257149:=0
def tw2800359669680294995:=0
def tw4182735632561695376:=0
def tw4387358128681051118:=0
def tw9364776308143416346:=0
def tw1988784509892787110:=0
def tw9375011910506519565:=0
def tw6271173034035306284:=0
def tw4188582898790721893:=0
def tw3870633778369982523:=0
def tw11926184423154619176:=0
def tw16658722194626582312:=0
def tw16461840132764407736:=0
def tw9530286811784922206:=0
def tw11097454120033949894:=0
def tw6183498186488569953:=0
def tw12208995652016436428:=0
def tw6890384351538320740:=0
def tw1624684841578211908:=0
def tw8959734154913015136:=0
def tw8143301776158589940:=0
def tw109991697712207699:=0
def tw4484794989796703662:=0
def tw18116572757680172603:=0
def tw18093556008228069798:=0
def tw2363621539451504696:=0
def tw5812358058207404827:=0
def tw7996027266143749117:=0
def tw15098093041427636616:=0
def tw4337816963936845681:=0
def tw10479511028225773402:=0
def tw4150109837970375189:=0
def tw7370151545715363384:=0
def tw10802789171810290503:=0
def tw2473753556967191397:=0
def tw6383052172169009269:=0
def tw2957353188626839030:=0
universe PySem.W.Fast
end
set_option maxRecDepth 100000 in
theorem PySem.Challenge.cw_graphpack_k31_packs_in_pieces_holds : PySem.Challenge.rw_graphpack_k31_packs_in_pieces.Holds := by
 w_on;o_law;k_head;(case hw=>w_witness2)
 k_fill
 refine DL.Op0 (l:=PySem.Challenge.rw_graphpack_k31_packs_in_pieces) (n:=63) (k:=8) (x := "_law_script") (CX:=L2.CX0) (sp:=λK=>DL.spD K Sk.lx0) rfl (by decide) rfl ⟨rfl,by decide,by decide⟩ (λw h Y=>W.kIn_of Y) ?F ?S ?C
 case F =>
  intro w mg fa h KX G hmg;refine' Sk.all_mk KX G hmg ?aT_Reader ?bT_Reader ?h0 ?h1 ?h2 ?h3 ?h4 ?h5 ?h6 ?h7 ?h8 ?h9 ?h10 ?h11 ?h12 ?h13 ?h14 ?h15 ?h16 ?h17 ?h18 ?h19 ?h20 ?h21 ?h22 ?h23 ?h24 ?h25 ?h26 ?h27 ?h28 ?h29 ?h30 ?h31 ?h32 ?h33 ?h34 ?h35 ?a36 ?l36 ?c36 ?k36 ?a37 ?l37 ?c37 ?k37 ?i37 ?a38 ?l38 ?c38 ?k38 ?i38 ?a39 ?l39 ?c39 ?k39 ?i39 ?a40 ?l40 ?c40 ?k40 ?i40 ?a41 ?l41 ?c41 ?k41 ?i41 ?a42 ?l42 ?c42 ?k42 ?i42 ?a43 ?l43 ?c43 ?k43 ?i43 ?a44 ?l44 ?c44 ?k44 ?i44 ?a45 ?l45 ?c45 ?k45 ?i45 ?a46 ?l46 ?c46 ?k46 ?i46 ?a47 ?l47 ?c47 ?k47 ?i47 ?a48 ?l48 ?c48 ?k48 ?i48 ?a49 ?l49 ?c49 ?k49 ?i49 ?a50 ?l50 ?c50 ?k50 ?i50 ?a51 ?l51 ?c51 ?k51 ?i51 ?a52 ?l52 ?c52 ?k52 ?i52 ?a53 ?l53 ?c53 ?k53 ?i53 ?a54 ?l54 ?c54 ?k54 ?i54 ?z_bool ?z_enumerate ?z_int ?z_isinstance ?z_len ?z_list ?z_max ?z_min ?z_ord ?z_range ?z_reversed ?z_str ?z_tuple ?z_zip ?y_BASE ?y_MOST_NAMES ?y_MOST_NAME_SIGNS ?y_MOST_PARTS ?y_MOST_VALUES ?y_MOST_WORD_SIGNS ?y_NAME_SIGNS ?y_WORD_SIGNS ?aI_NoPack ?bI_NoPack ?lI_NoPack ?gI_NoPack ?kI_NoPack ?iI_NoPack ?kN_KINDS ?kL_KINDS ?xt
  (case aT_Reader=>k_is)
  (case bT_Reader=>kernel_rfl)
  (case h0=>exact Sk.S5 (by k_is) (by k_is) (by k_is) (by k_is))
  (case h1=>exact Sk.S5 (by k_is) (by k_is) (by k_is) (by k_is))
  (case h2=>exact Sk.S5 (by k_is) (by k_is) (by k_is) (by k_is))
  (case h3=>exact Sk.S5 (by k_is) (by k_is) (by k_is) (by k_is))
  (case h4=>exact Sk.S5 (by k_is) (by k_is) (by k_is) (by k_is))
  (case h5=>exact Sk.S5 (by k_is) (by k_is) (by k_is) (by k_is))
  (case h6=>exact Sk.S5 (by k_is) (by k_is) (by k_is) (by k_is))
  (case h7=>exact Sk.S5 (by k_is) (by k_is) (by k_is) (by k_is))
  (case h8=>exact Sk.S5 (by k_is) (by k_is) (by k_is) (by k_is))
  (case h9=>exact Sk.S5 (by k_is) (by k_is) (by k_is) (by k_is))
  (case h10=>exact Sk.S5 (by k_is) (by k_is) (by k_is) (by k_is))
  (case h11=>exact Sk.S5 (by k_is) (by k_is) (by k_is) (by k_is))
  (case h12=>exact Sk.S5 (by k_is) (by k_is) (by k_is) (by k_is))
  (case h13=>exact Sk.S5 (by k_is) (by k_is) (by k_is) (by k_is))
  (case h14=>exact Sk.S5 (by k_is) (by k_is) (by k_is) (by k_is))
  (case h15=>exact Sk.S5 (by k_is) (by k_is) (by k_is) (by k_is))
  (case h16=>exact Sk.S5 (by k_is) (by k_is) (by k_is) (by k_is))
  (case h17=>exact Sk.S5 (by k_is) (by k_is) (by k_is) (by k_is))
  (case h18=>exact Sk.S5 (by k_is) (by k_is) (by k_is) (by k_is))
  (case h19=>exact Sk.S5 (by k_is) (by k_is) (by k_is) (by k_is))
  (case h20=>exact Sk.S5 (by k_is) (by k_is) (by k_is) (by k_is))
  (case h21=>exact Sk.S5 (by k_is) (by k_is) (by k_is) (by k_is))
  (case h22=>exact Sk.S5 (by k_is) (by k_is) (by k_is) (by k_is))
  (case h23=>exact Sk.S5 (by k_is) (by k_is) (by k_is) (by k_is))
  (case h24=>exact Sk.S5 (by k_is) (by k_is) (by k_is) (by k_is))
  (case h25=>exact Sk.S5 (by k_is) (by k_is) (by k_is) (by k_is))
  (case h26=>exact Sk.S5 (by k_is) (by k_is) (by k_is) (by k_is))
  (case h27=>exact Sk.S5 (by k_is) (by k_is) (by k_is) (by k_is))
  (case h28=>exact Sk.S5 (by k_is) (by k_is) (by k_is) (by k_is))
  (case h29=>exact Sk.S5 (by k_is) (by k_is) (by k_is) (by k_is))
  (case h30=>exact Sk.S5 (by k_is) (by k_is) (by k_is) (by k_is))
  (case h31=>exact Sk.S5 (by k_is) (by k_is) (by k_is) (by k_is))
  (case h32=>exact Sk.S5 (by k_is) (by k_is) (by k_is) (by k_is))
  (case h33=>exact Sk.S5 (by k_is) (by k_is) (by k_is) (by k_is))
  (case h34=>exact Sk.S5 (by k_is) (by k_is) (by k_is) (by k_is))
  (case h35=>exact Sk.S5 (by k_is) (by k_is) (by k_is) (by k_is))
  (case a36=>k_is)
  (case l36=>k_is)
  (case c36=>k_is)
  (case k36=>k_is)
  (case a37=>k_is)
  (case l37=>k_is)
  (case c37=>k_is)
  (case k37=>k_is)
  (case i37=>k_is)
  (case a38=>k_is)
  (case l38=>k_is)
  (case c38=>k_is)
  (case k38=>k_is)
  (case i38=>k_is)
  (case a39=>k_is)
  (case l39=>k_is)
  (case c39=>k_is)
  (case k39=>k_is)
  (case i39=>k_is)
  (case a40=>k_is)
  (case l40=>k_is)
  (case c40=>k_is)
  (case k40=>k_is)
  (case i40=>k_is)
  (case a41=>k_is)
  (case l41=>k_is)
  (case c41=>k_is)
  (case k41=>k_is)
  (case i41=>k_is)
  (case a42=>k_is)
  (case l42=>k_is)
  (case c42=>k_is)
  (case k42=>k_is)
  (case i42=>k_is)
  (case a43=>k_is)
  (case l43=>k_is)
  (case c43=>k_is)
  (case k43=>k_is)
  (case i43=>k_is)
  (case a44=>k_is)
  (case l44=>k_is)
  (case c44=>k_is)
  (case k44=>k_is)
  (case i44=>k_is)
  (case a45=>k_is)
  (case l45=>k_is)
  (case c45=>k_is)
  (case k45=>k_is)
  (case i45=>k_is)
  (case a46=>k_is)
  (case l46=>k_is)
  (case c46=>k_is)
  (case k46=>k_is)
  (case i46=>k_is)
  (case a47=>k_is)
  (case l47=>k_is)
  (case c47=>k_is)
  (case k47=>k_is)
  (case i47=>k_is)
  (case a48=>k_is)
  (case l48=>k_is)
  (case c48=>k_is)
  (case k48=>k_is)
  (case i48=>k_is)
  (case a49=>k_is)
  (case l49=>k_is)
  (case c49=>k_is)
  (case k49=>k_is)
  (case i49=>k_is)
  (case a50=>k_is)
  (case l50=>k_is)
  (case c50=>k_is)
  (case k50=>k_is)
  (case i50=>k_is)
  (case a51=>k_is)
  (case l51=>k_is)
  (case c51=>k_is)
  (case k51=>k_is)
  (case i51=>k_is)
  (case a52=>k_is)
  (case l52=>k_is)
  (case c52=>k_is)
  (case k52=>k_is)
  (case i52=>k_is)
  (case a53=>k_is)
  (case l53=>k_is)
  (case c53=>k_is)
  (case k53=>k_is)
  (case i53=>k_is)
  (case a54=>k_is)
  (case l54=>k_is)
  (case c54=>k_is)
  (case k54=>k_is)
  (case i54=>k_is)
  (case z_bool=>k_is)
  (case z_enumerate=>k_is)
  (case z_int=>k_is)
  (case z_isinstance=>k_is)
  (case z_len=>k_is)
  (case z_list=>k_is)
  (case z_max=>k_is)
  (case z_min=>k_is)
  (case z_ord=>k_is)
  (case z_range=>k_is)
  (case z_reversed=>k_is)
  (case z_str=>k_is)
  (case z_tuple=>k_is)
  (case z_zip=>k_is)
  (case y_BASE=>k_is)
  (case y_MOST_NAMES=>k_is)
  (case y_MOST_NAME_SIGNS=>k_is)
  (case y_MOST_PARTS=>k_is)
  (case y_MOST_VALUES=>k_is)
  (case y_MOST_WORD_SIGNS=>k_is)
  (case y_NAME_SIGNS=>k_is)
  (case y_WORD_SIGNS=>k_is)
  (case aI_NoPack=>k_is)
  (case bI_NoPack=>k_is)
  (case lI_NoPack=>k_is)
  (case gI_NoPack=>k_is)
  (case kI_NoPack=>k_is)
  (case iI_NoPack=>kernel_rfl)
  (case kN_KINDS=>k_is)
  (case kL_KINDS=>k_is)
  (case xt=>kernel_rfl)
 case S=>exact λw H a ns hl hS=>Sk.Ta0 (by kernel_rfl) hS (Sk.Pg0 ns hl)
 case C=>exact λ_ _ _ _ z=>z
#print axioms PySem.Challenge.cw_graphpack_k31_packs_in_pieces_holds
