import PyProof.Rows.All
import Wide.All
import OpenK.AllK
import Wide.FinOn
import Lean
import PyProof.EqAt
import PyProof.EqKinds
import PyProof.TupleCall
import PyProof.NeKinds
import PyProof.Rows.SetFrom
import KE.KRevIter
import PyProof.ZipIter
import PyProof.TupleOfGen
import PyProof.Rows.ZipGen
import PyProof.EnumMake
import PyProof.EnumFor
import PyProof.ListRange
import PyProof.LayNew
import KE.KDictOf
import KE.KIntText
import KE.IntTextLaws
import PyProof.StrCalls2
import PyProof.Rows.StrNews2
import PyProof.StrLawsTight
import PyProof.ExcArgsOwn
import PyProof.ExcAttrAll.ValueError
import PyProof.IsInstanceT
import PyProof.RulesAs
import PyProof.Rows.Tup
import OpenK.KOwn
import PyProof.ExcInit
import OpenK.KCls
import OpenK.KMake
import PyProof.InstStoreFacts
import PyProof.ListMulRight
import PyProof.AttrMissHeap
import PyProof.RaisesMany
import PyProof.RulesTry
import PyProof.NsDelKeeps
import PyProof.Rows.FStr
import OpenK.KWalk
import PyProof.AutoListH
import PyProof.CallFns
import PyProof.Rows.SortStr
import KE.KDictSum
import PyProof.Draws
import PyProof.Rows.CallKwBuiltin
import PyProof.SumWalkG
import KE.KDictLaws
import PyProof.DictTruth
import PyProof.Rows.SortShellK
import PyProof.Rows.SortWalk
import PySem.Challenge.RW_graphpack_k48_no_base
set_option maxHeartbeats 0
set_option bootstrap.genMatcherCode false
set_option genSizeOf false
set_option compiler.postponeCompile true
set_option compiler.extract_closed false
set_option linter.all false
set_option linter.all false
open Lean in
def xi(s:List Char):Nat:=match s.map λc=>"abcdefghijklmnopqrstuvwxyzABCDEFGHIJKLMNOPQRSTUVWXYZ_0123456789'!?".toList.idxOf c with
|[a]=>a
|[a,b]=>53+a*66+b
|[a,b,c]=>3551+(a*66+b)*66+c
|_=>0
open Lean in
def xp(t:Array Syntax):Nat→Syntax→Syntax
|0,s=>s
|n+1,s=>s.rewriteBottomUp λs=>match s with
 |.node _ k a=>if k==``Lean.Parser.Term.quotedName then xp t n (t.getD (xi s[0][0].getAtomVal.toList.tail) s) else .node .none k a
 |.atom _ v=>.atom .none v
 |.ident _ r v p=>.ident .none r v p
 |s=>s
open Lean in
local macro_rules
|`(command|mutual $cs* end)=>do
 let l:=(cs.getD 0 default).raw[1]
 if l[1][0].getId != `T then Lean.Macro.throwUnsupported
 let t:=l[3][1][1].getSepArgs
 return mkNullNode ((cs.drop 1).map λc=>let c:=xp t 99 c.raw
  if c.getKind==``Lean.Parser.Command.universe then .node .none ``Lean.Parser.Command.end (List.toArray [mkAtom "end",if c[1][0].getId==`zz then mkNullNode else mkNullNode (List.toArray [c[1][0],mkNullNode])]) else c)
mutual
def T:=[some,none,.int,true,Addr,(`ai),(`p),pins,wpAny,`ab Str,base,`ab Nat,false,.lst,.inl,by omega,.inr,Shared,`ab D,Value,Heap,X.env,.tup,cons_of,Inv X `h σ H s,.non,s.heap.objs.size,this,`ab V,Expr,Option.bind_some,List.length_map,W.Frag,`ab `t,if_pos,.str,`s->`db,World,ps.length,Bool,decide,s.heap,.ref,sizeLine,FuncData,(`aB),.nil,(gv 0),.sh (`a_),absurd,FnOk,`t->`dy,`ab (`b8),Program,List,(`zY `a0 X.w),B₀,`a o,H₀,.sh `dj,(v4 0),by decide,.none,.cons,items,(`zY `eS w),(gv 1),`ab Pt,l.prog,by decide +kernel,FnScope,g δ,0,⟨_,rfl⟩,`ab (`aaH),Txt mg,fsc rfl rfl rfl rfl `eT,if_neg,X.xe,(v4 1),by simp,List.map_cons,(by intros;rfl),d::ds,Int.toNat_natCast,`ab Int,Option,`o9 `t,`ab `e,(`g0),r.length,List.length_append,.sh `Dx,List.mem_cons,xs.length,(gc (`ck)),(by rw[`vW];rfl),List.map_map,`aH Int,List.not_mem_nil,or_false,(x==`jr)=`m,D->Ds->`aH Ds,Web ps,.type,`c c,X.prog,s.toks,pure,mainGlobals,`c i,Around,`aH `e,Str->`gc,Stmt,`Q a,.seq,.Name,List.size_toArray,List.length_cons,`a d,Rps K H B ds xs,(ha B δ),(gv 3),PD X e g,`a u,I.hok,.Call,String,.dct,List.map_append,Vals,X.mg,`a v,eval,δ.set,(j:Int),(gN 0),(gv 2),p.vals,decide_eq_true,(λds d h=>U0 h),lean,0,A.in1,L.length,[`hl],Env K H B σ δ,`ay `T,Wb ps,vs.length,(·.1),(n:Int),gA δ,ds.length,Paired,`a r,(gv 5),qs.length,.sh `qM,`ab α,X.calm=`d,Nat.zero_add,decide_eq_false,`ab `D,strOf,(v4 2),X.N[i]?=`cc,en.ex,(by exact cok rfl rfl `eT),its.toArray,(`a9),outer,A4.mp,W.nsIn,Or.inl rfl,(`MQ),List.range,b.size,.sh `l_,Nat×Nat,A3 e,call,(gN 3),D->D->`db,(m9 U7 W2 `dl m8),.builtin,`a x,`o rfl,starEach,(·.2),cpos,(`zY P w),`e1 H H',`J _,`c 1,.sh W,List.length_take,(v4 3),A0 ?_,`I rfl,(V1 I q `T),(λcl s H ex=>T6),⟨h,g,d,t,os⟩,H b=`b,`Q `A,CallR,A1 ?_,.bl _,(i+1),`w ds,δ[i]?,EnvS,D.int,(gc (`c3)),wd ps,.sh `iH,.sh (`n!),(v4 5),Gl X x,ObjOk,False,(k:Int),`c `cL,.sh (`fO),l.length,`s->`pL,Bool.and_eq_true,A.handled=`b,(`as).bind,PD X a ga,z.elim,`ab (`qm),`aZ `dC,qual,scope,`C->`Ao,C1 _,leans,(`CO),
(o2 `V `aQ ixD),`c 0,"_law_cell",(gN 4),.sh `iL,if_true,`a `b,`abH=`pu::`tB,PD X b gb,`aZ `dE,`aH V,.bl b,`aH D,`n ds,(`Bj H),`ab X5,`c k,`c `br,Int×Int,(z9 `V v6),(`cE),`a `m,(p7 `ah u5),(J3 hr),Scope,0,if_false,`bm xs us,`q rfl,Option.map_some,Rp K H B d v,`cB K `af `ad H σ δ,(1000:Nat)<=`R,Met ps r,(λds d h=>M5 h),`r->Prop,Value.ref,.ret,(`kJ),"tuple",RelV,"list",bootBuiltins,X.base,I.loc,{ s with heap:=h' },`c _,I.list,(`a4),s₁,caps,`a (.nx δ'),q.to,List.getElem?_map,_::_,SortSt,(gv 4),`c x,(by show 2<=`R;omega),`ab `a8,Vis `tu x,I.free,(I.ok.hd hc),.bool,`gS=`ae,h.objs.size,backTo,rest,I.tuple,"enumerate",`c j,items.size,`a y,l.map,(`e_),IsPair,List.mem_singleton.mp,(gc (`gz)),(`v?),List.getD_eq_getElem?_getD,T.b_tuple,b_tuple,Model,Cl h C tl,True,`ab Env,I.bare,`dD y u,Ds->`db,p.few,h.get?,s.heap.get?,`ab Key,B0 _ rfl,B6.mp,`J x,I.kIn,`Ak _,s1.heap.objs.size,rawInt,ps.map,(z9 `bt v6),[p.d],Pt.d,`wu _ w2,`c b,(j+1),sn M,(v4 4),(w6 `bV v8),`ak r t,(x==`abe)=`m,`dK hq,D->`N,`MP (`b3),`MP (`jN),`ady z TI TO i1 i2 l1 l2,List.getElem_map,`ab (`dh),Lv n v,Web qs,prog,(`aq),`a c,X.env.locals,K.lookup,body,`tq=`ae,s.heap.push,`Q p,(k+1),Same,r.mono,H p=`b,flat,cutD,(`uO),rv.length,Obj.mapSeq,D.tup,us.length,(gv 6),someO,W9 (`lH),0<=k,Vb v,.sh (`n `hz),Bw.z70,`o9 (`gc),λb hb=>?_,Ds->`pK,Ds->`pL,Ds->`ME,`M2=`pu::`li,List.zip_cons_cons,Go b κ st,`fJ hd,List.length_range,hw.len,(`zW),.fields,I.cell,I.freeC,I.len,"zip",scope.names,`pz `aK,ys.length,(`abd),its.toArray.size,vs.toArray,(`ab?),`a b,trivial,(hb B δ),(`p8),(`cu),pl.isList,A8.mp,(gN 2),(o2 `V `cD ixD),`ex `bG,List.append_assoc,`c `ia,(`vZ),`n `Mv,.sh (`fQ),L.map,Bw.web ps,`a k,`bS h,(`Qt),`bv h,T.b_len,`ti=`kJ,Unit->`dy,`ab (`z3),I.os,λp hp=>?_,X.N.Nodup,x=`a9,List.append_nil,(`Ma).any `bG=`m,(`bI).bind,CoeFun,`I h,`p9 l2 ys,λv hv=>?_,Nat->`l,Pn.hd,Gq p,`aH `t,root,h'.get?,`kR=`ae,D4.mp,`dD v u,`n xs,assign,compareOp,(`tG),codeAny,ks.length,by rw[o8],(λz=>nomatch z),"dict",(Gr.own hb),Value.type,
List.length_zip,IsZip,e3.extBut,p1.isList,I.laid,`ab (Key×V),`c 2,isTup,(z9 `an v6),(by rw[`F];omega),λz=>?_,"_law_web",(ix L),(w6 `eF v8),`gc->`dy,C8 hx ?_,Frag,HOk P w H h,`X (show `pt from hs) B7,z30 r,`ay e,o.length,Option.bind,Nat->Nat,`X h `eT,`en a,`w xs,X.stack,X.fs,I.pin,I.ok.kind,hs.2,Hp->Prop,SqT K H a xs,A2 _,2 ^ 62,`dD x u,HT.sIx,i.toNat,cLine,items.length,`a `d,v=`a9,`ic s1,λa z=>?_,es.length,n.toNat,Heap.size_push,⟨rfl,rfl⟩,hq.to,`c a,K.In h,D.lst,xs=[`e_],"int",(`j2),.rcd,`ex `cf,"part",(gc (`C3)),(z9 `dT v6),(gN 5),"web","_law_k",(z9 `V `gB),(`De),`J s,(`j8),p.vals.length,T.length,.ow `qJ,`fS pN,(`q_),(w6 `ah v8),(w6 u5 v8),(w6 `cn v8),[`hp, "k"],(v4 6),C__law_mix,Bool.false_eq_true,`ay h,k _ _ `h_ e,`o q,h.elim,`dD x v,`d4 hq,args,kindOf,(apos.endLine==cpos.line)=`d,hbase,ga δ,gb δ,e.bad,`I e,not_or,(ob (o2 `fL `nS eqD)),Option.map,(2000:Nat)<=`R,Sum.inl,(`cd),`a .cell,.free,`LC x=`eU,o.data,St->`gZ,(`As),Turn,xs[i]?=`cc,[a,b],j.toNat,Room,apos,G1 δ,(a:Int),e.all,en.same,(Z3 hp),`LE=`acv,0,putK,(`ur),putAt,(`Q e),Value.none,`c `jz,hc.1,0,.ellipsis,e1.extBut,e5.extBut,{ s with heap:=h',toks:=tk },0,Inv X `h σ H `dI,List.range',List.getElem?_eq_getElem,`aeu<=1048576,List.length_nil,Keyed,(`nQ),(z9 `be v6),m_values,`c 12,(gc (`lC)),.sh `Pd,.sh `Pf,.sh (`lI),(`dg),`n (nm.map `J),D.str,wd qs,(`iK),`c m,`M<=20,pd `lW,(`ht),.sh `hu,j∈B,L.take,fs L,sn L,other,(w6 `aA v8),"_law_names",a==b,`aP<=`R,by simpa using hb,∀x,foldedSetIterable `k_ `v x=`a2 x,by simp at h,List.length_drop,V->`cZ,k.toNat,List.any_cons,"str",hline,⟨_,q⟩,List.forIn_cons,L2.PI.imp,p2.isList,(`Bz).any `bG=`m,`bJ=n,G0 hl,env.at hi,(`acz),`d! `P TI `NF `NG,`NH i2 l2 k2,i<`M,`s->`aH DX,`ay `g,I0.mp,`b1 hv,`vF ps,(zt0 `bt),Gw.w90 _ _ `f,Wb qs,x ≠`ts,List.getElem?_set_ne,("__debug__" : Str),assignEach,`a `h1,binaryOp,(g i j),`A+1,(`jw),(`cw),(i:Int),s.TypeIs,typeLookup,(`k7),attributeBase,.Attribute,.bl `d,[`a9],(t7 st),.func,λ_ _=>`cK,f2 b hb,.sh d,¬B a,`MP rfl,PSsD,
List.replicate,G `uv,`dz a,owL i δ,zx0 kvs k,get_set,List.length_singleton,`N->`dy,putAll,s.heap.update,.Constant,`c z,`n l,v₁::v₂::r,`ex pr,`c 3,(gN 6),(gc (`j3)),C4.mpr,sub_len,`w `agb,`qL<=20,its p,.sh (`iM),x2%8,.sh (`lP),`bA<=60,(by show 1<=`R;omega),.ow (`M3),hq.vals,j∈`eE,"drawn","_law_many",T.b_range,(E3 _),(upd H a o),Inv X `h σ H' s',(`es),PE X e te,vals1 r,`tu=sc,`bJ<=`R,Gr H H' B B',`I hl,PDA X `gl gA,Decidable,`M5 κ,`ab κ,`BI+1<`g5,⟨_,rfl,h⟩,`p9 l1 xs,`jA `fG `fv,`AF "__next__",(ob (o2 `fL `hm eqD)),(Z5 (gc `A?)),.sh p.d,D.bl,L.Nodup,"met",FnD P w K mg `k `EW 1 `EX o6,`Q C,`dz C,`eo a,kvs.length,KV kvs vs,H' b,(`Q f),`a .local,`eo b,X.s₀.heap.objs.size,b≠`eV,(`b9),(`a! x pos),holding,D.nx,Inv X `h σ' H' s',`a2 `b,iter,`kO=`b,s'.heap,False.elim,(`bi `tT `gl [] pos),(`Q t),its.length,`J z,`Q l,(`acd elt [⟨tg,`k_,ifs,0⟩] `cY pos),DL.D,(`jL),gt δ,δ[j]?,`a ds,Gr.less,e.own,f ds,t σ H Q,s1.trans,r1.same s2,`o z,`ce [] `v,(frz δ),en.b0,`bx d n=`d,r2.length,tree,(z9 g v6),.done,"reversed",F.extBut,hc.2,e2.extBut,g5.objs.size,(`pp),[it],(`ig kvs x.k x.v),h1.objs.size,PairAt,"sorted",.row,`c 4,`J `C9,"_law_script",`c 7,(gc (`qx)),by kernel_rfl,`n vs,adj x,nd o,`ex `eA,tgs vs,.sh `v5,(`nY),`c `bH,(i,j),ps.flatMap two,most,"_law_at",(yj0 0 1),s∈T,(kb B),(Bw.small `g),(`wq),wd `lY,(`fT),.sh `v',`DF k `qR,upf ps qs L,`Er `eA,λs hs=>(by cases hs),gt M j,Wb w,.sh (`QK),T.b_isinstance,"one","other",[`OT],[`C_, `C0],`q x,`bm xs its,α->β->Prop,`ab β,I.base,Loc `tu x,`LK∨`Ad,`jq (B1 hj),Ends,`pl=`b,CmpOp,PE X a ta,λ_ _ _=>`cK,hf it `T,I1.list,`tJ `aK (`Av),slice,hfew,List.reverse_cons,`ar N ps `jH,(`jJ),`a `Ba,[`dc],.ex c n,`bk _ _,k::ks,`w `h8,`J c,`NH i1 l1 k1,List.forIn_nil,⟨_,hz,rfl⟩,(`nD elts x1 tpos),A0 (A0 (L7 ?_)),[(`CK,b)],List.take_length,`o9 `iy,b.toList,`lB vs,Res.nx,Gw.v90,(`o `br),(a+1),`fe ?_,[`ag,`W,`wM,`aN,`Ev,`cF,s6],(a==`z4)=`m,`ge b,X.outer,`mT=`ae,{ s with heap:=h',toks:=t' },λ_ _ q=>q,σ.set,λb o e n hb hx=>?_,
.BoolOp,SqL K H a xs,hf b hb,A5 _ e,λb o e=>`m2,-(`g1),.BinOp,ps.zip,W.keepIn,.function,W.fnOf,`Q b,getItem,ht.typeIs,0<=i,h'.objs.size,ns.length,ns.map,A.units,(`Q D),`ab `k9,`J `abY,(`acn),`a δ',B' a,RpL K H B d a,`a a,`a `b_,Pd.get,env.same,`a (.rf d),g `lj,True.intro,en.fr,`bp `e6 `v,Rps.snoc,EnvV.mk',trees,`o9 GenState,`d_ `m,hend,xs.size,V.ref,.Tuple,IsEnum,[e,it],e4.extBut,(`eq),`i `am A (`p! `fG) Q E s,ws.length,hs.extBut,`ab (`de),xs.drop,(upd H `A `vr),lent,(`bq i (`pX)),`qi t,`ti=`cW,(gc (`OL)),`J "at",(V3 `d),(gc (`qy)),(gc `z),.sh `af7,o++[x],adj i,o.Nodup,(`lL),(`x rfl rfl),(`qN),x1%5,(gN 7),(by simpa using h),B.length,pa ps i,B++[j],(lkv π),b::l,pd (kb L),(`o `cL),k<`M,i∈L,hw.lk,(`l3),(kd (`eE)),0,(Q6 v8),"numbers",[`qn],[`hp],[`vO, `C'],[`qv],"law",[`gE, `lT, `DY],c.sub ?_,`kL=`ae,(`cb `pa),H b=`bg,`ab (`aaW),`gW p hp,`Al op b=`m,PE X b tb,(he `h s σ H _ I h),`ay B7,⟨_,`eq,rfl,rfl⟩,Bool.eq_iff_iff,`I `f,V->`aT->`aT->`Ao,`a j,List.all_cons,hplain,`ne+1<`g5,`ab (Str×`e),List.lookup_cons,`as=`bb,`e->Prop,List.nil_append,RpO K H B d a,Pd.imp,λ_ _=>rfl,PID X tg `k_ gi,p.1=k,`kM<`R,`jU h1,Meets,λj=>`adf,Bool.true_xor,List.length_reverse,p::ps,(Q7 `qo),n<=60,P5.mpr,`er hy,Pw n p,Lv m w,`DI<=20,List.map_take,WI n m L,wd `fW,(N6 `bV),O3.nd,"_law_come",Array,(`kK::tl).contains,`o' (`Q W),`d_ b,"isinstance",Sum.inr,`kM<=`R,"range",`a _,(`gT),`dF x,X.ex,(`bo),`a `pi,X.pn++`h,`bn x,(`gi),`u->Prop,h.IsListIter,by simp;omega,I1.hok.fresh,(hi - lo).toNat,again,`m=`d,(`m,`abc),(vs++dvs),scope.names.lookup,(1:Int),s3.heap.objs.size,I.hok.fresh,xs[j]?,"len",`AK<=`R,(`t2),s₁.heap,.call,(W3 st),caps.length,σ[j]?,(W7 X `cY cl N' s H ex),`aH `N,`aH (`s),f d δ,gt δ',`bK F l m,H a≠`b,by rw[n6],`ad a,∀a,`pR->B a,∀a,B a->`pR∨`af a=`b,Txt.slice,r.same,rr.length,.ow d,T9 ks k,`a `t6,DGet,`aH `D,`a (`pX),(`nu),rx.length,s1.free,.NotIn,`bm vs us,B5 h,`Q z,s.heap.IsList,c≠z,pyNext,ys.size,as.map `dz,`aZ `d5,t1.length,by simp[hi],`d? hb,·.setIfInBounds,
forIn,xs.take,arrOf,`dS->Prop,vs.map,srt ps,Str×D,"number",(W8 v6),`J `ON,(gc (`M3)),(z9 `bM v6),(W5 `vM),(gc (`nT)),(ob `vI),"_law_part","_law_some",`c 5,`c 60,(gc (`iC)),"new",(`hk).length,Pt.rcd,[`iF],`c `v1,`Dl p vs,tgs `bu,ded S,(nd r),(`A7),(`da),s.length,(`iI),pN p,`wh&&`gA w,(`adH),[a,b,c,`jL,`PE],(`lB []),.sh `n2,(Y4 rfl),`w `hi,(q+1),(kt T),pd `qW,.sh `iP,(m.lt i hi),nd L,((j+1:Nat):Int),tgs `Qe,(`M:Int),`qB<=20,.sh `Ek,[`cE,`iK],λv hv=>(by cases hv),(`Eo),pa ps k,pa qs j,"NoBase","pair",T.b_list,"slip",[`QM, `QN, `QO, `QP, `QQ, `q', `QR, `QS, "NoWay", `ahO],Q4.nd,(w6 `ah `iW),bindArgs,c.obj,by rw[typeLookup_type,builtinLookup_eq_fast];kernel_rfl,Fin->`dy,{ s with toks:=t' },W::Ws,beq_iff_eq,`ak _ t,`ab (κ×`t),`ab (`ep×V),`a' `al n,H a=`b,b∉`gV,s.gens,`fs x c e,frs `gU,λx c e=>?_,spliced,0,(`LM a [op] [b] pos),V->`Ao,p.isList,`abs=[`L4],`ce `h8 `v=[`L4,`abv],`ce [b] `v=[`abv],(∀b∈fp,`k0),`t->`L8,(0:Int),x::xs,`k2 hq,PA X `gl t,`I hk,List.getElem?_replicate,ws.toArray,`ay `f,A0 `jy,value,.bl a,`J b,H l=`t1,H `A=`b,`q h,`I hc,`ay hc,λ_ _ h'=>h'.elim,CompOk sc `cY X.N N' n `dN,s2.heap.objs.size,λx hx=>?_,(`as).map,`a [],`bI=`la,`q ks,`bk ks ds,List.cons_append,`o e,(`un),⟨x,en,e1,λv1 H1 s1 r1=>⟨y,`g9,e2,λv2 H2 s2 r2=>?_⟩⟩,⟨_,en,e2,λvs H' s' r=>?_⟩,PDF X e g,∀cl s H ex,PGD `pJ tg idx f,∀cl s H ex,PFD `pJ ifs gt,∀cl s H ex,PD `pJ elt ge,λ_ _ _ _=>`pQ,`z4<`A,`h' m X.A,gx δ,T9 ks q,H b=`a (`w (k.map kV)),H a=`pZ,v::vs,by unfold deq;simp,us.toArray,Bool.false_xor,R9 0 n,[`k7],(zj0 rr).2 hl,IsZ `P z TI TO a f,`i _ _ (`uY `fG 2>>=_) _ _ _,A0 (B3 hz rfl (x:=`nz) rfl ?_),`i _ _ (`uY `fG 3>>=_) _ _ _,`i _ _ (`B3>>=_) _ _ _,`i _ _ (`NI `NF>>=_) _ _ _,`i _ _ (`NI `NG>>=_) _ _ _,(d5 _),st.hTI,`ab (`e×HO),a::as,H t=`b,Gl X `d5,`bn `d5=`b,`d! `P TO a b,(∀x∈ps,x.ok H),X.A.in1,`Oi X.K `bn `gd r cs rs,[`Or],L3.mp,n - 1,B8 (i5 ?_),`vD w,(gc (`qp)),Dfs adj S c o T r,List.foldlM_cons,`a (`lI),`w [_,`d6],`d? z,h.few,`fJ hv,Z1 rfl `eb,
`agm _ _ `g,(f j),((128+r%128:Nat):Int),(`wj).vals.zip `agB,(`qS),h.cnt,M0 _ `g,(n0 _),Lk n v,(`ag5),List.map_id,nB B d,(1000000:Nat)<=`R,(cs W NM c `od j x a (`wI)),`d? hv,kk M i,(X3 `og),(λcl s H ex=>`dl),(w6 `dl v8),(top 22),(j7 xo0),[`C9, `qA],[`hp, `ra],"laid",R7.nd,[`gE, `c4],[`lE],M6.nd,o.cls,"__class__","BaseException.__getattribute__",typeOf,Ws.map,nsIn K `a3 c,`a (`z0),by simpa using h1,`en b,`a `pf,"__name__",sc.names.lookup,X.env.scope,`a p.2,I.base.free,(λ_ q=>q),(`mY i `pi),Heap.SameBut,AllBare,`ce es `v,(ha `h s σ H _ I h),λv s1 ⟨x,H1,I1,r1,q1⟩=>?_,ok.kind,`a2 `m,e::es,.Subscript,I1.kept,I1.fpOk,((0:Nat):Int),(b,o),Sem `t,`a1+1,(`Lw),2 ^ 64,.bl k,x.length,sp vs H Q E,(`a! x p),A.deeper,`Az `cX `cY `A f cd,(`Me),W.codeIn,IsPart,IsTup,`g3 `aP 0 lo,atI xs i,`a `pm,`n ys,sliceBounds,(eqU x),(`AO),(`Ms),V.int,callerA,(`AS),(`Q fa),`eW f,cl.lookup,NameKind.cell,ForInStep.yield,T.obj,X.env.kindOf x,(`acg).names.lookup x,DL.Ds,t=`d,Gb δ,gi δ,ge δ',by simpa using hj,Rp K H B d x,`o ks,∀a,B a->`pP,(`pQ),k _ H `dd `uo,(`acA),`lf s2,r1.length,items.drop,`e2 g,(Z8 N ds),`a (.rt d),`ld=`bb,hf ds d h,Pd.app,(by rw[U8]),List.map_nil,([]:`ab `Mt).length,(if ([]:`ab `Mt).isEmpty then 0 else 1),qf0 i δ,q::qs,KT H kvs xs,`ge a,h.push,`ab (V×V),H a=`ae,b≠a,en.frz,Gr.fresh,`a! x px,(`Nl),s1 _ _ hx,`np s1,(`BQ s1),en.mut,deq d e,(`c!),xs[k1]?,`eo c=`ae,field,C5 ?_,A0 (`uZ),D.i1z,D.l1z,J.extBut,D.l2z,D.l2i1,`d! h' `A x y,min `nB `p?,as.length,Around.under_plainId,`aZ `fv,(`u9),(vm0 H l),Prod.fst,B5 `B,[x,y],(`w `vb),(s1.mono g2).to,D.TOz,D.i1z.symm,[z,TI,TO,i1,i2],`Ck i,ps[i],⟨rfl,?_⟩,(λx hx=>by cases hx),(V6 ks vs k b),s.heap.FunFrames,g.objs.size,XC.At,`a! c' pc,(`Ok (`pk) W),(`BK),(λ_ _ q=>`AH),h'.IsTupleIter,A0 (D0 hTI rfl ?_),hg.mem,Go b κ t,`a z,pendingOf,`lz h v q,seqObj,g.get?,le2 a b=`d,.text,"row",.table,(`hk),(gc (`c 128)),(K7 `gA `V),(z9 `c2 v6),`J `OM,(`jF),(gc `vL),(z9 `C7 v6),"_law_value",`c 8,(gc (`vP)),[0,2],setAt,(oA `di V2),
(z9 `cD v6),(`Pb),j6 (`lH),Pt.table,[`iE],m7 ?_,a.length,`b5 n,(x:Int),r.Nodup,Wb.getD i `z,`n (`lK),(`qE),(`lN),(`o `v1),j∈r,A8.mpr,(`dU),2*k*k,m7 (Z7 ?_),`J zz0,.sh (`wa),(`Dw),(r:Int),fold z,(p.1:Int),(p.2:Int),`gA v,`w [v,w],pa ps p.1,10 ^ 60,(s3 _),.sh (`PP),(z9 `an `ey),(kt T).length,j6 `D4,dr ps r,r.take,.sh (`c3),`DF j `qR,hw.it,hb ps B T d,λ_=>rfl,.ow (`n `hz),List.take_succ,(lkv `gF),λk=>(`Qd).d,h.inr,`n ((`l2).map pN),SL (`Qu),h.vals,`bF=`qB,.sh (`J nam),`n `od,.ow `vV,(kk M `QL),(gc (`lF)),.ow (wl L'),.ow (wl L),`QC j (`QT),[`fQ],`a `vL,(yf0 u5),[`q!],C_values,hr.units,"pairs",(Y5 `aik u5),(w6 (v4 7) v8),(Q8 `fY `hA),(`m9 x x `Mx `pG `jH `aj kV doc pm an cdv ct),(top 68),Result->`dy,Drawn,List.all_eq_true,Bool.or_false,`o k,o.dict=`b,`n _,b∉ex,`a ob,X.base.get? b=`ae,List.filterMap_cons,b∉ch,`LI b o e hx,`N->`gZ,PT X a tA,(.Return `LS pos),I.kept,x=`a4,A1 hQ,`LX hx,(`abq),λh' eb=>⟨rfl,`At (t':=`a1) (λb o hb e=>eb b o hb e) f0 f1 f3 f4 f5⟩,[`ev],I1.tuple,(`ju .Add),"ord",`h' k A,(`m6 us),⟨us,[]⟩,r.append,bindL,bindC,N.length,`AA `tW,r.get,(`m'),y=`m',r'.length,(by simp only[`a?]<;>omega),n<=`R,x=`k7,(`ab4),IntsAre vs ns,s80 `pE H,`m7 K `kP=`d,x.cps.size,`b1 hx,(`c_),by subst F;rfl,X.N[i]?=`d8,Loc `tu y,X.fn y=`d∨`Ac y=`kQ,G2 δ',`a (.ct δ'),`a (.bk δ'),signs,(`uk),∀a,`nk->B a,Pd.set,`aba hl,`acw `acx,∀v H',`ci->`acy->`Ai,(o2 ga gb f),PTD X a gt,PTD X c gt,PD X `k3 `Bm,Rps K H B ds vs,`al[i]?,List.drop_eq_getElem_cons,∀(cdv:`t) (A:`a5) (outer:`acN) (s:`r) (H:Hp) (E:XK),`acO->`jO (wo0 CX0 P w K mg `k N `cX `jH fa cdv A `b0 s H E).nox `pG G,`cB K H B H (`MX N vs) `uv,y::ys,.ty T,by assumption,`By h,(`acX).all `BA&&`BB,(`d2 `cg (`li)).any `bG=`m,E9 `f (`acY:`acZ),(hr.mono hk),(`jS).bind,⟨hl,?_⟩,u60 e,o.isSome,ph0 `bh e,(s70 ry),pj0 `bh e,(l7 hu),(tu0 `bh eb),`ac7<=`R,by have:=zv0 kvs k v;omega,`cA=`a (.ow d0),`jU h2,`q q,.of_wp,qw0 e2,(`uR).mut,λq hq=>?_,(T4 `bd J7 he),⟨x,en,e1,`BW⟩,`kL=`a oa,`uW=`cc,ys[k2]?=`d8,
`B4 i2 l2 (k2+1),D.i2z.symm,`uW=`b∨`B',st.h1,st.h2,A3 e1,v=`Q t,⟨_,e1,λv z=>by rw[d1] at z;cases z⟩,id h1,I.turnedNew,(`qb),List.zipIdx_cons,List.zipIdx_nil,(upd H `A `Cn),(U6 ks k),z90 `aeo zl0 `h s σ H D I `acG,(λz=>by cases z),λ_ _ z=>z,(z40 N ds p l),"sum",(`Ov).get?,SortKind,`iy->`iy->`N,`c1[i]?=`cc,cmp v u,(l+r)/2,List.getElem_zip,(`ae5),`hj c ps,`bU l,ud0 _ _,qx0 _,(a++b),`b1 q,o++[k],`w Wb,Pn.O4 p h,v30 `dj i,`bF=`hv,⟨s',?_⟩,by rw[zb0];omega,x<`M,.sh (`Dt),(`v0).map,(by rw[w40];omega),`I `g,`Dv _ _ `g,(r/128),((n%128:Nat):Int),n<`DA,`bS `g,D->Prop,Z1 rfl `fP,(st `k'),Dc L d,okv L v w,j6 ht,W9 ht,[`ag,`c6,`qS,`jL,.un],`bF<=20,x%`lS,GoodL W n,[`cl,`aN,`PX,.un],hp.len.2,K1 `qI,`n6<=60,It `M d,nW ps B W d,.ow `D5,x%(`br+1),zc0 s7,L[a]?,`d? q,WI `M `bN L,(kd l),cs W `qM c `od `br x a (`wI),(fs M).Nodup,`bu[x],q.vals[x]'`g,`fS wd,PWD.pt,(xd0 `EI),(top 19),PDF.pd,(p7 `eF u5),(vv0 T.c_BASE),vy0.nd,(p7 `hE u5),(m9 U7 W2 `cn u5),(P0 u5),J1.nd,"ValueError",`aZ T,.tail,model,`tm `dz,cd.ns,`a `dB,`Q r,Value.str,κ×V,sysModules,(M3 P w),F a b,b≠e,`a o',k b u q,b∈`ph,`LD=`ae,I.ok.above,σ.length,`er hp,X.env.scope.names.lookup,`Ac x=`kQ,X.env.scope.kind,λb o e hx=>?_,I.base.tups,I.base.frzs,Q v H',isTrue,I.tok,behindInMarks,its.size,its.toList,Hp->VK->Prop,`bp o `v,.Assign,v40 X `h H b,`Q it,I.turned,I.list_inj,`pq `aK,r x y H Q,Binds,(us++ds),envOfC,List.getElem?_append_left,(start N vs),(`cb id),sIx `d7 0 lo,(`Q sl),Str.ofString,Builtin.Tuple.tupleExact,A5 _ q,q30 xs lo hi,(xs++ys),z.length,(by simpa using hw),[`k6],H l=`b,`w ys,(`Ap),(ho `h s σ H _ I h),`eo l,`d_ `d,s₁.heap.get?,BindsTo,(`nd `t7),`tA s'.gens,⟨`jG,[]⟩,Value.bool,`tX K cdv `cX=`d,{ s with heap:=h',toks:=`tN },`pw y,env.cells.lookup,(n,k),`aa5 x,.next,target,`C->`gZ,`n [],{ cls:=`c!,data:=`a' ([]:`H).toArray },s2.toks,z.symm,`a! y py,(.bl `m),(`dc),(`k!).bind,(`MH),Rps.mono,(`um),`gn=`aP,H a=`t1,(SlR K H B),`a (`ML),Same.refl,by rw[X6],k H' s,(oA gA f),en.grow,λi H2 g2 hi=>?_,
`Bj _,(`acK),Gr.same,(Z9 n `dN gi f gt ge),`a (.nx δ),(G7 h1).elim,V.str,(`acS),`a! Tn p2,O0.mp,`d2 pos (`li),(λx=>!x.1),(`ab2 `cg (`ab3 [] `v)).all (λx=>x.1.isSome),`a `t',`de×`s,kv.1=k,valueAt,atKey,`a (.dT kvs),X.A.units,(hi `h s σ H _ I h),.dK [],[e,f],dd.typeIs,Pd.impI,λa z=>z.1,`o ⟨rfl,xs,`o `uP⟩,rx.same,(`abc),`c0 ds n=`d,Rp X.K H B d x,SeqAt.EqAt,(Z3 hl),λv H1 s1 r1=>?_,rr.mono,`w `adi,⟨h1,h2⟩,(`Q I),(K2 _ _ (B1 hb)).trans,`gf->`mV,Nat.min_self,Builtin.SmallTypes.ownedTupleIsFree `fG,h'.IsListIter,(k1+1),c≠i1,c≠i2,`Q TI,D.i2z,ys[k2]?=`b,(∀c o,`p'->`NL->`adA),(`adQ),(t,HO.tup `B?)::xb0 as (us.zip ws),I.turnedL,Call_,(C0 _ 1),(`aZ `gq),`Q TO,D.TOz.symm,(`m2),D.TIz,ry.mono,ps.drop,Shared.TypeIs,{ s with heap:=`eZ `ac8 },(.dT []),hcalm,(`uN hp),(`hd),A.frames,Obj.mapFields,r8.mp,`jZ (`J y) j cp,(CXE P w),.ok d,`a (.ok (.rt d)),`z1::XC.bmV,(`Cy),(`Bp),X.hand,`Q ea,`a (`Cw),(`k6),`eZ `aeB,`Q `jx,(p:Int),f `Os,`a l',"start",`eZ `N!,((k+j:Nat):Int),`ab2 pos (`ab3 `aeK `v),`qi st,(j - 1),C.ask,`aH Nat,(`b,()),pk `P y.1,pk `P x.1,pk h v,λ_=>#[],[`a4,`d6],[`a ke],[.un],"value","begun","told",(o2 `V `OQ ixD),`J `vE,(z9 `bt `iA),(gc (`vK)),(tupI `C2),(gv 7),[(`c3)],"old","_law_numbers",(z9 `qz v6),(`e? `dT),(oA (z9 `an (z9 (gc (`c 6)) v6)) o6),(z9 `j5 v6),(S7 `afO),Pt.row,Y4 (V7 ?_),(`fM).zip,`Df vs,(`Dg).map,x∈o,x∉S,(∀x∈o,x<n),Pn.put,by rw[`F],(`hw:Int),ms W k l U o T `v6,(kd (U++o)),.ow (`n (`Ps)),(`lJ++T),`n `qI,`bk (`o (kd (`qH))) (`Pv),`b1 h,Gw.xp0,`J (`bU w),(`cM),PySem.Str,2 ^ m,2 ^ 300,(`j_),k∈ks,(`x rfl `n1),.sh (`agy),ps.getD,pa qs p.2,`c `wf,cnt p,w.length,4*`DI+kn p,(Y4 ?_),ps.take,(c+1)*(k+3),`fc/\`agK,[`W,`PO,`j!,.sh (`c (x%5))],nm.getD,`J S37,.sh (`DR),C4.mp hk,Z4 `DD `dV,(`DU),.sh (`c st),`c `lS,"_law_found",(j4 q),(2*`qL+1),(`q s),(kb B).length,(`qX),.sh `D2,(by rfl),(`iO),r.idxOf j,`b5 `M,`wr j,[`cE,`c3],.sh (`Ds),.sh `D5,[`j8,`iO],(`wt),W.length,`ex λp=>(p.1,lkv π p.2),(`PF),l.getD j 0,[p.d,`lI],`oc _ w2,Pt.text,
L++[`lQ],`n (`hy),(`Ej),dk (`iT),dk (`iU),zc0 s6,stays ps qs,M.length,`pU `ahy `ahz `b,qs.map,(`bN:Int),(qs'.map `eA),.sh (`wH),.sh `vV,(fs M),(nd `Ew),`c (`l5:Int),List.length,(kk M `bN),(gc (`lD)),J5 M qs j,.sh (`ah5),ps.set k np,ps.tail,mk ps,slp ps M `fW,(p7 `ah `wQ),"pair_names","values",(M7 `aib),"relinked","listed","are_links","linked_pair","is_new","number_bytes","sign_bytes",["signs"],v10.nd,"mark","_law_mix",[`c4, `hq],"_law_signs","_law_one_value","_law_cell_at",[`lE, `hq],"_law_pool","_law_pair","_law_led","_law_some_of","_law_with",[`qv, `qw],Q0.nd,C__law_cell_at,zs0.nd,"_law_drawn",D3 X9 G9 a9,F9.kp,F9.binds,(h.trans hl),bmV.contains `fq=b,(`aaK),checkBuiltinCall,(`aaM),C8 F ?_,(`z1::bmV),h.Ns `a3 mg,Bool.not_true,Sum Int Str,(`J x t),(`Lx),`a (.own a),∀b u,`Lz,by rw[`aa0];exact q,Un.kept,(A3 q),base.Ns `a3 mg,`gU=`v::`mU,`LE=`pj,I.ok.bs b o e,`A<=a,`ft x c e,(O b o e hx),(`LG b o e n hb hx),`tw b o e n hx,`LH b o e n hb hx,I.step,s.drawn,o.slots,λ_ _ e=>e,N.Nodup,Q () s',`aba hiσ,(SP X `h D),λ_ _ x=>x,c=`d,(`m_ .And (`LN) pos),(`m_ .And `abh pos),Array.length_toList,Operator,PassesOwn `ac X.A `v `az,Nat->`pn,`eY->`mV,pyIter,It->`gZ,∀xs,`m0->`h7,λb hb=>(`m1).1,`tI (t':=`L1) `m3,`m4<=j/\j<`g1,Gl X `pd,`bn `pd=`b,PA X [a] ta,by simpa using q,r xs H Q,Int->Int->V,(tOp r ta tb),λi j=>`c (i*j),OpR X (`gk op) r,PA X es t,∀vs H Q E,`tS->`L?,`h' k X.A,λr s' hq=>?_,sc.names,Str->`aH `abI,((p,w)::`Mb),by simpa using h2,`ay hk,λ_=>`d,λ_=>`b,`abK `tW,ps.Nodup,⟨_,ho,rfl⟩,if v<0 then (v+`bH).toNat else min v.toNat n,((`abN:Nat):Int),s.heap.IsSliceOf sl vl vu `aj,`tY vl lo,`tY vu hi,`a i,λb ob q=>`AH,`abV r2,`I h1,i<`aP,subscripted,(`tH a b pos),SqL K H p xs,H p=`t1,`fy<=`R,`X (show `pt from fx) B7,xs.all we0=`d,SqL X.K H p ys,(`cW),xs.dropLast,xs.reverse,I.lstM hH,⟨_,e,rfl⟩,I.lset,`nc<=n,SqL K H a `AV,`AY `d,`m9 x `cX `Mx `pG `jH `aj kV doc pm an cdv ct,pure_bind,noteFrame,by rw[← hs3],`w _,`a `A?,`a (`cz),(`bq i `k'),D->`pL,`g6<=`R,
Ds->`aH (`aT),u6 G1 G2 δ,(`aE),g _ _ n h,by unfold Rp at h ⊢;exact h,by unfold Rp;rfl,`bk `Be ds,by simpa using e1,by rw[o8] at h;subst h;simp[o8],(RpL.toO rfl h),`a oe,od=`a dx,`c n,`acu=`to,l[i]?=`nm,SlR K H B o s,δ.length,∀σ H Q,t' σ H Q->`le,Op2 X.K r f,PDA X es gA,(`g9).bad,`e1 `af H,(`pS),(`pT),PGD X tg idx f,tf0 (i:=i) hN hi hx hf,z90 (h1 `af `ad δ) zl0 `h s σ H D I `acG,en.same.trans,⟨r,`Bn s',e1,k⟩,i<`g6,PDA X [a] gA,F.same,`ut `cy,i<`bJ,Fun K x `cX st fa fd,F.ok S (λvs H Q E ⟨B,ds,d,_,r,h,_⟩=>?_) (λcdv A outer s H vs Q E hr ⟨B,ds,d,hb,r,h,q⟩=>?_),(`uy).1,⟨_,`eX cdv A `b0 s H E hr H B `uv,?_⟩,⟨`Bj H,⟨B,`MY,`MZ,⟨?_,hb,λi j a J es h1 _ _ _=>`Bu⟩⟩,λi J a h1 _=>`Bu,hb⟩,`uz (yx0 (N:=N) r) `M_,`bn `pa=`b,Gl X `pa,(`a! `pa p),i8.mpr (B1 (A6 hb)),`ac_/\`ac0/\`M4,CompOk sc `cY N N' n `dN,`e4 d=`d,rl0 ds,(kvs.any `M9),(`jT),Inv X `h σ H s',(show u=`dz b from ry),(`Nd).isSome_eq,h _ (`eu),`dD v r,PE X o td,⟨_,hi⟩,⟨_,h⟩,`o `ada,⟨B,`MY,`MZ,e⟩,`I hf,[`uO],List.all_map,Rps X.K H B ds xs,dxs.length,Nat->D,(`aZ `Nx),(hT 0 _ st),Builtin.List.listSameRef,Builtin.List.listItems,updateSeq,(`Am:Int) - 1,(`eZ _).objs.size,k H2 `ih,T9 pr.1 q,⟨rfl,λe u he ru=>?_⟩,`B4 i1 l1 `B5,`nb=`jw,(∀c o,`p'->`adA),A0 (B3 hz rfl (x:=`B8) rfl ?_),A0 (`u_),A1 `NJ,(∃o,`ge e=`ae/\`ti=`adI)->E `ij `dI,st.hl1,st.hl2,`u6<=`R,hG.above,A0 (D9 ?_),(H 0 `f),⟨_,`eq,rfl⟩,(`nD elts x1 pos),vs=`jG,(`bi `NU [a] [] pos),`tI (t':=`L1) hk,`tJ `Cd (`pq `Cd),hx us `vd,`dF `gq=`a `Ce,`d! g2 TO a b,`lt _ _ D.TOi1 (`ip _ _ `ve hTO),A0 (P2 `jy),(((`adE `ip `B9).extBut `lt `adF).extBut `gv `NX),D.TOi1.symm,`dK O,hk c o `im hc.2.2.1 hc.2.2.2.1 hc.2.2.2.2 e,λh=>`pp,Gl X `fv,`bn `fv=`b,(`bi (`a! `fv p) `h8 [] pos),dictSet,`dK hl,`a (`w us),`u8 yv0 _,`q hl,`BI+2<`g5,(I.ok.hd `Co),I2.fpOk,(`MG ws),flats ds=`d,nd.keep,nd.slot,`gd ∉cs,fun σ H Q ⟨d,en,h,k⟩=>?_,T.all c hc,(λd z=>nomatch z),List.take_of_length_le,Int.toNat_of_nonneg,`L_ l `al,
(λa=>if a=p then `b else H a),`c is.sum,is.map `t7,is.length,"setdefault",`L_ l1 xs,m<=`b6,(`Ow),wpS_modify,wpS_mono,lt2 q r,(`CT).1,(`CU).1,(`ae0).Pairwise (λx y=>lt2 x y=`d),pairsOf_size,(c6 _),qp0 ds,`vD _,["name", `C1],(Q7 (oA `vJ yu0)),λds=>z20 (ds++`C8),(ob (o2 `be `cD eqD)),`iB `ez=`Pc,[`iE,`iG,.un],[`iF,`iG,.un],nb d=`d,(∀x∈T,x<n),hT x A7,by rw[`aM];omega,(λo j=>`af?),List.any_eq_true,(e▸ha),ys0 `g `g `z,h.len.2,h.at hi,o4 (ds:=`ez) rfl,.sh D',decide_eq_decide,ob g δ,`fJ hx,k<=1000000,∃x,0<=x/\`agj/\o6 `agk=`a `v',fun δ=>?_,A30 `B,⟨f,hf⟩,R9 0 `bH,λs hs=>?_,[`aN,`W,`wb,.sh `wc,`cN],(n/128),`bv `g,(`ag),(by simp only[`ba,`ix];omega),`agI*(k+31),`a (.nx `DP),(s1 _),(j8 (d:=`PP) `wl),(j8 (d:=`lP) (hn _)),hf k (by have:=`DT;omega),m7 (Z7 `DV),(by show 3<=`R;omega),0<`lS/\`lS<=60,`fJ hp,ya0 W i,`agV λz=>e `A',ix ks k,by injection e,(`DF `h9 `qR),`hw<=100000,[`qY,`D3],up0 _ `lX,`a (`cC _)=_,`c `tK,W9 `D4,λj=>`D6,kd (`D8),`c `ag7,[`b7,`iQ,`D!,`D3,.un],⟨f - 1,`p⟩,hw.len.2,pak ps 0,(`Qc),Bw.nm0,`hv<=20,(Z4 `n1 `kc),R9 1 `bH,M1 _ `g,nr0 hj,(`b7),(rel `gF p).d,`c `q2,(`ahs),wst L v w,`ab (D×D),`wB p hm,[(0,0)],fx ps qs k L,o4 (ds:=[`cE]) rfl,Bw.Pool nm,(T0 hv),[`ahB,`W,`bO,`wG],`bN<60,qs.getD a `qR,Wb qs',`QC i v,(i7 hu).elim,x%`Es,rows M qs,`bv hk,`bS hk,`ab (`ao),(∀w∈L',`l6),L'.length,[`ag,`W,`wM,`aN,`Ev,`cF,`QV],`ah7::`EF,`ah9++[`Eh "a"],`b1 hp,x%`q2,(top 14),(λcl s H ex=>o5 0 (`aq:(`wR:`j).Nodup)),"head",(top 16),"with_values",T.b_zip,(top 18),"links",FnN P w K mg `k `EK 1 `bB `iB,"met_but",w80.nd,(top 21),T.b_enumerate,"is_upheld",(nf0 `wT),"folded","pack","held_items","item_bytes","known_head","name_bytes","part_number","text_bytes",(w6 `aA `eG),(p7 `aA u5),C_number_bytes,(top 36),"stay","upheld_pairs","walked_pairs",(w6 u5 `hB),(p7 (p7 (v4 7) u5) u5),(top 46),(top 48),t7 `Q9,"_law_drawn_part",(top 55),"_law_built","_law_links",(top 60),(top 61),"_law_headed","_law_changed",(zn0 (Q8 `fY `hC)),(top 64),"_law_renumbered","_law_two",
(d7 `E8 hr `f `aij),"_law_refused","_law_others",qa0.nd,`Y P9 w9 K mg b9 CX0 n f fd ps (spD K m),FnD P9 w9 K mg b9 x n ps m,`Y P9 w9 K mg b9 CX0 n f fd ps (spN K m),FnN P9 w9 K mg b9 x n ps m,`kJ::tl,.head _,(`cs:`r).TypeIs,`cb "object.__class__",Value.builtin,`a2 (`aaP),.cls cd,`gd::cs,`c i t,by simpa using e,{ cls:=`c!,data:=`aaV },`tq=`bg->`mT=`bg,`a (.frz o u),`tt x=`h0,X.env.cells.lookup,`aOj b,σ[i]?,(`aa7)/\∀p∈`pk,p.1≠b,I.base.keep,I.base.slot,I.base.there,I.base.tbls,X.fn x=`d,X.env.globals,.Compare,b::`d3,.UnaryOp,`Am<=`R,swapsWith,pos.line,(`a e),setItem,swapsWithSole,swappedStores,`aP<=i,rv.get,(`aOX),h.IsTupleIter,s.heap.IsTuple,I.tuple_inj,s1.toks,{ cls:=`aZ `pd,data:=`fr #[`c lo t,`c hi u,`c 1 v] },`bp a `v,(`m,`L3),(`aO3),thn `L5 `abu,`bp b `v,`t->`tM,{ s with toks:=`tN },`c (if k then 1 else 0),I1.laid,`bF=`M,`d2 pos (`tB),P.zip vs,S0.mp nd,b∈([]:`aJ),by simpa using hi,sIx `d7 `d7 hi,`Mf - `AD,(`abS==0&&`px==1&&(`Mg)==`d7)=`d,(`aP8),`g3 `aP `aP hi,r.drop,`a `g4,-`bH<=i,z.cps.toList,2 ^ 63,`a `Ly,eqV y x,`c `AK,.dK kvs,Keyword,{ cls:=`c!,data:=`a' `fB },(`nd `c),by rw[q];simp,(R5 st),N'[n+k]?,(`pI).join,NameKind.free,k==`MA,`a `pD,`ab (Str×`t),`aH Res,R6 f gt ge `ni `al,ks.zip,`MG xs,SqT' K H B a xs,SqL' K H B a xs,`fr vs,.ow ds,`a `k',(`aQN),(`aQO),Or.inr,h B δ,λvs H1 s1 r1=>?_,(q.mono g2).to,by rw[rs.length];exact hi,(gN i),isL d=`m,`acP/\`MV,L2.start,λ_ z=>z,λ_ z=>`lh,(vb0 _),en'.same,(g' i j),`ce [e] `v,`bk (`o []) [],`Ax K fd ps [],DecidableEq,`aP+`fy<=`R,(`abz)∨(`abA),`a (`c (i*j)),λkv=>`O (`BE),List.find?_cons,`ig kvs k v,`aQ7 e,λz=>e (h1.trans z),ks.map kV,`aaX `z5,rel.val k,(`aQ?),λb z=>?_,⟨a,rfl,hb,r⟩,λj ds b h1 h2=>?_,∃(i:Nat) (d:D),`ac?,(b1 a z),⟨v,e,`e2 (`lb `BO)⟩,`o hx,xs++[v],(`aRm),`a! y p3,ds.getD j `z,`bx e m=`d,`dD y w,A.in1.units,Y.length,O.length,`n es,(ds.zip es).map,"list_reverseiterator","__length_hint__",(`dA `aj),Builtin.List.listExtendWith,`bi (`a! `lq p2) [e] [] pos2,DGet.k hp,DGet.t hp hb,
(`aRI),(`Q i1),(`Q i2),s.heap.IsListIter,Builtin.SmallTypes.nextOf,⟨_,rfl,?_⟩,"StopIteration",c≠TO,Q `b `dI,·.push,`eZ `A8,`Q l1,`bi (`a! x2 p2) `gl [] pos2,xb0 as ps,SqL K H b ys,ys[i]?=`d8,(`aR9),⟨_,hz⟩,λB' gB hb=>?_,D.TOi2.symm,D.l2TO,(A1 `jy),(`Q `lu),(B2 lz),D.TIi1,D.TIi2,(s2.mono g2).to,`nC x.p,λx=>`N4,`M - i,(`aRC),`Ck `cy,L6 yv0 _,E5 sh0 ?_,{ cls:=`aZ "list_iterator",data:=`aee },(`p4 F),(`aSd),env::`b0,(`aS8),(`aTa),(`aTb),Heap.get?_update_other,Q () `dI,[`aTj],XC.Tab,`a! y pc,X.body,`nD es x1 tp,(`a! x p0),d.name,[e0,e],hit.typeIs,(`aRF),`a! y px,(ds++[`j0]),ds++[`hf l],(`aT7),wm5 `P l1 l2,λc t hI=>?_,(`aUR),(`aeV),failedOf,(`nQ).Perm,`Oz t=`b,(`aU_),tuples',(`OD f),pairsOf vs,(A9 _ hu),(pk `P),`jY a (`e8 `CW),(`cb `lA),"text",`J `OK,"table","record",("" : Str).cps,(V3 `m),(`aVi),(`aVq),(`aVI),"both",(`aWy),(`aWO),(`aW8),(`aXb),(`aXo),(`c 10),(`aYc),`J "",`c 21,(zm0 `hn),`c 20,(`aZa),`c 36,(`aZp),"a b 9",(`a_v),(`aYO),(`a_Y),(`a05),(`a09),intOfD,`n `bu,`a `vV,(`vX ps).d,(`a12),(`qC c ps).d,`w ((`fM).map `J),`w (`Dh pr),b.length,λy hy=>hT y (A9 _ hy),`bF<=12,v=`z∨(∃z,v=`j_)∨∃j:Nat,`agc,(`a1?),p.vals.map,`c (f j:Int),rel f p,`Pn (lkv f),if x∈a then a else a++[x],nd T.reverse,(`a2b),.ow (`v4),nd (`qH),48271+69621*k,`W::δ,w.take a,.ow (`n (o.map `c)),2 ^ 250,(st s),`pY=`d,S4 rfl,.sh (`wi),`w [`nT,`il],pN `lQ,up ps qs L p,`c `wg,`w [q.1,q.2],λq=>`PJ,`nd `cC,982451653 ^ 7,`c (`wk),.sh (`df),`c (`n3),.sh (`qU),.sh `Cq,(`aWD),(`aVp),"_law_parts","_law_pairs",(ya0 W),.ow (`nO p (`lK)),(CB `DZ),(nd js),(`Ot).length,`a (.rf `aeE),δ'[ds.length]?=`a (.ow `aeE),(`pb s:X5),`hZ `br,ix T s,ix B j,.sh `DB,(`n6:Int),nums r `aL,.sh `z,.ow `D2,W.reverse,(o++`aha),`wu p hp,by show `hw<=_;omega,rel π p,rel `gF (`l1),(`l1).vals,(`d9 `c),`c (`Ee),L.drop p,(`a31),laid ps L,`aho `wA,`n (`fS `wA),`w vs,(`Eh w).d,(`a4C),.sh (`aht),i∉`iT/\j∉`iU,(`bA:Int),(`l2).length,dr qs s,stays `lY `fW,wkd `lY `fW,(`a 20),(`ahA).take (y%12).toNat,`DM (y%13).toNat,
(`Qy).map,qs.set,(`bF:Int),p.vals.set,lkd `bN,(`ahE).map `eA,(`ahG),(sd M),`O (`kf),(`b5 `bN).map,(`aVl),slp ps M Q,Q.length,"NoText","NoPlace","NoValue","TooMany","NoMake","NoRow","NoName",`c (x%1000),`n (`wN),.sh (`QU),Km.laid,`QW ps R,.sh (wd w),.sh (`EH),b_list,"some",(`a7M),[`hl, `oh],"item",[`OK, `vE, `OM, `ON],(top 45),(top 47),(top 52),[`aii, `c4, `EY],(top 54),[`c4, `hq, `kh],"_law_start",[`c4, `kh],(top 56),(top 59),(`a8M),(`a80),"_law_told",[`gE, `lT],"__getattribute__",Row h tl,OsState,Cl h W tw,C8 J ?_,`tl `fq=`Lt,Cl `P C tl,(`aOa),⟨rfl,hq⟩,(by intro e;cases e),X _ _ ho,Bool.not_eq_true',"ValueError.__new__",(`hZ a:Key),(`pb a:Key),`O (a=b),∃t,u=`aaT,by simp at e,`ak q t,`aH HO,⟨_,`eq,rfl,_,rfl,rfl⟩,`pc/\`mS/\∃vs,`kN/\h.DictOf `z5 a vs,.ext φ,`cJ P w H h a o,Paired.mapP,∀b xs,H b=`tr->`kO=`tr,`d1<=a,Mut (H x),e=x∨H e=`aa1,∃u,`ge e=`bg,∃sl,`mT=`a { o with slots:=sl },∃o',`mT=`z8,k b ob q,(upd H x o),K.In `k,builtinsNs,Str->`N,`aa4∨`LB,X.A.frames,b∉`ph,`ab (`c?),A9 _ hb,I.ok.stk,I.stkSub,(`z'∨`kS<=b)/\`kT/\`LF,HOk `a0 X.w H' h',∀b o,`z!->`kT,λi x v e1 e2 e3=>?_,id `dH,Inv X `h σ H `mW,k b o (λz=>hc `aa9) e,λb u e=>?_,∀b u,`aa!,σ'.length=`Aa,λj y v' e1 e2 e3=>?_,by simpa using `fu,(`gY b (A6 (B4 `kU `z?))).trans,⟨u',r',?_⟩,I.ok.has,(`gY b (A6 (B4 `kU (I.ok.cab x c O hc)))).trans,s'.os=s.os,V->`gZ,(`aOq),⟨v,H,I,r,h⟩,wpAny_Name,(`aOt),`eW a=`ae,r.inj r',⟨σ',H',`abk,q⟩,`kX σ H,λf s1 q=>?_,V->V->V->Hp->(`gZ)->Prop,`js es `v,(A6 `kU),PE X o to,(`aOI),standAt pos,`kW `abm (`LT ov iv v),release `abm [],`LU [tg] e `LR `v=`tF,`LV [tg] e `v=`kZ,(`js [tg] `v).map `cf=[`gj tg `v],(`aOK),Int->`abn,v40 X `h H' b,λx c e z=>?_,λp hp z=>?_,tn i `P,J.go i H,(`aON),Inv X `h σ H' s2,J.yld i H x H',J.stop i H,λi H=>∃xs x,`m0/\`h7,λi H=>∃xs,`m0/\`LW,∀xs,`g_->`h7,`c (lo+i),`po it a i,⟨o,e,λv z=>by rw[d] at z;cases z⟩,(i:Nat),(`aOZ),(`aO0),(`eZ `L2).objs.size,PA X `h8 ta,PI X tg `k_ wi,I7.unpinned,(f v u),
Int->Int->Prop,(`aPb),0<j/\`aby,0<=j/\j<=1000000/\i.natAbs<`tP,Yw0 x y=`d,`O (x=y),λi j=>.bl (`O (i<j)),λi j=>.bl (`O (j<i)),sizeLine_eq,(show `cK from r).elim,A.depth,(`aPJ),(us++ds).length=`M,`Ax X.K fd ps ds,`bm dvs ds,wpAny_call,vs[i]?=`bo,(`aPQ),`pg=`a `fq,⟨_,F,rfl⟩,(`aPV),Builtin.Slice.slicePlaces,Subscript_,{ s3 with heap:=s3.heap.push { cls:=`aZ "slice",data:=`fr #[vl,vu,`aj] } },q _ (`fx),IsTupN.new _ _,`w `AJ,seqIndex_of,seqIndex_neg,operate,IxR X r,SqT K H p xs,i9 `g,I.write,`t3 lo hi `b n,(if a then 1 else 0)==b,a==(if b then 1 else 0),we0 x=`d,(`cb `pB),SqT X.K H p ys,`bm ys its,h'.push,`bh p _ hk,(`tG).length,`ak r `U,Builtin.List.listTooLong,⟨e,?_⟩,OpenLaw,l.most=`a n,.list `Mv,l.row.toRowW,⟨t,rfl⟩,s₁.heap.Ns,(`aQm),.FunctionDef,`e1 H1 H2,x.cps[i]?,`t? y=`eU,x.2=`h1->∃c,`t? x.1=`eU,`A2::r,λx hx=>h x (A9 _ hx),λ(n,k)=>if `acc then (n,`ua) else `A2,if (`acb&&`A3==`h0)=`d then `ua else k,Nat->`dy,newList [],h₁.get? b=`ae,(x,`h1),(`jK).2.1,as.2.2.2.1,`LQ `k8 (`a (`A!)) spos.line `v=`a2 `d,`a (`gj (`A!) `v),N7 f G `al δ,`a (`O (i=j)),sIx `aP 0 lo,`pM=`nj,`pN=`g7,(`aE).length,by unfold u6;rw[h],`I h2,.dK `Bc,.dT `Bc,by conv=>lhs;unfold Rp,⟨x,rfl,h1⟩,List.take_succ_cons,s _ _ e,(unl d),oe.dict,oe.data=`MK,`aT->Prop,(upd H p o),Rp K H B dx x,k _ H `dd (`Bk),(`g9).same s2,(`ur).trans,fun σ H Q h=>or0 hf h,⟨d,`ic s,h,λv F s'=>k v F (s.trans s')⟩,`ay hl,λv H' s r=>k v H' (`lf s) r,FnR X.K r f,fun σ H Q h=>g70 hf h,⟨ds,en,e1,`MR⟩,(vs++[]),∀a,`pR->`af a≠`b,G δ=`bL,PSD X st G,e.same.trans,λj hj=>?_,`np s',Gr H₁ H B B,⟨_,en,e2,λv H' s' r=>?_⟩,PDA X `h8 gA,λv σ H Q=>∃B d δ,tDG X.K idx f B d δ v σ H Q,`g6 - `cy,⟨v,e,`uu⟩,(`Br s2),s2.trans,fun σ H Q=>∃B δ,tDT X.K B δ gt σ H Q,⟨_,en,e,λv H' s' r'=>q v H' s' r'⟩,(`aQ1),`ce [`Bx] `v,(`aQ2),J.toArray,eqS dx dy,k _ H `dd ?_,SqL K H p ys,SqT K H p ys,`o `dP,`q `dP,PDA X [e] gA,λvs H2 s2 r2=>?_,(`aQ6),(`nr).bind,(zc0 s),(J2 d).bind,y60 xs ys,`s->`N,
deq x y,Nat->`N,`c0 xs n,`e5 xs lo hi,`dD (kV k) u,Option.isSome_map,Rd H a `t6,Rd H a (.dT kvs),H a=`BH,upd H a `ac5,dd.mapOf,`p_ H a y o,∃q,`uH=`a q,je0 `bh e,`bF<=`R,by rw[← `ac6];exact z,PE X i ty,`ab (TE×TE),List.set_cons_succ,(`aRg),`o `fE,`q ⟨d,rfl,e⟩,`jU e2,s _ _ h,`jq n1,(λo h=>h),`ay hf,Bool.and_false,EnvV K `af `ad H σ δ d v,PX X e gx,`O (([e]:`bT).length+`uC+`uD<30),(`aRk),(`aRn),`js `add `v,by unfold y60;simp,`ne<`g5,view I ld hx rx,view I le hy ry,by rw[in1_units];omega,`fA=`bJ,by rw[`a?,← `e7,`pW],(`aRr),⟨q1,q2⟩,by rw[`us,`lm];exact hz,Int.zero_add,(`gg h).1,List.getElem?_range,`nx ds,`ln d=`d,`I `BZ,(`x h rfl),Nat->`adj,∀i s,St i s->`jA `B_ `Nx,ItemsOf P acc' n,`gs `dE,`gs `dC,R (.ok `Nz) s',its.reverse,by simp[hh],(`MH).map `adv,vr0 e3 r1,q10 e3 (`lg),pr.1.length,`bq i (.ow (`bk (`o (`adw)) `NE)),`m9 x `cX `Mx `pG `jH dV kV doc pm an cdv ct,ds.all `e4,(`p7).symm,IsZ h' z TI TO a `d,`i `am A (`B3) Q E s,Q `fH `dI,`i `am A `adB (λfin s'=>∃v,fin=`lp (`dA v)/\Q v s') E s,(`aRO),(`aRP),Y.extBut,{ cls:=`cW,data:=`a' #[x,y] },`i `am A `adB Q E s,by rcases `nA with h|h;rw[hx] at h;cases h;exact h,λh' e hk he=>?_,A0 (o3 (T := `NK) (b:=`d) `adJ x9 ?_),∃p q,`d! h TO p q,`d! h TI `NF `NG,h.IsList,lo<=z/\lo<=TO/\lo<=i1/\lo<=i2,`u7=`u6,{ s with heap:=h,toks:=tk },∀c o,`p'->`NL->`B6->`B7->`en c=`ae->`ge c=`ae,(·.pop),"tuple.__new__",⟨[`cW,`p8],[]⟩,wpAny_of_eq,(`aR_),vm0 H l b,A9 _ hq,List.nodup_cons,`u7=(xs.zip ys).length,(`va).symm,k b o hc e,⟨_,he,λv z=>nomatch z⟩,(`aR7),(`gY _ `im).trans (hk c o `im `ls x),λh' hk=>⟨rfl,`Cb (t':=`a1) (fp:=`nF) hf λc o hc x=>?_⟩,hk c o `ls x,d6 he h,(B2 (X2 _)),t1.get (i:=i) (C3 hi),tz0 `adY j5 `uo (rx.mono gB),(`aR?),`bn `gq=`b,Gl X `gq,(`aSc),Option.isNone_none,(`ew `lu),qa<`ev,`Q x.b,`ab PKV,hp y hy,I2.kept,`aef `aK,hp x hx,`nL×`s,`a (ks,vs),by simp[hsz],A0 (B3 he hd q ?_),nd.there,`kR=`b,FpW X `h H b,lg0 X `h H `P C od e,wpAny_point,I1.free,(`gY b `aen).trans,(1:Nat),
`a (.ok (.nx δ')),.ex c n δ,mkX n N G ds,H a=`a (.ext (DL.sm0 a C od)),(`aTo),`bh a _ hH,(cl _ `et),λt'=>⟨`cx,H,`Ak t',rfl,q⟩,ownsK K Ws,c'∈cs,(`kK::`aep).contains,`ce [`vp] `v,(`m,`nu),boot_isinstance,(`aTs),il0 en h,t50 a2 h3,(`aZ Tn),`ce [`Oj] `v,∀d,s≠`pX,(`aTt),`CB (`aes (`a (`CC))),`ce [`Ol] `v,(w60 f),List.range'_succ,i.natAbs.log2<=2000000/\j.natAbs.log2<=2000,`iv hj,of_decide_eq_true,`b1 hz,WData.weight,(`aev).In,(`aev),(`aTH),Nat.min_eq_left,(gk δ).bind,`ab PKW,`aex it l i,`LZ it l i,Builtin.«enumerate.__new__»,{ cls:=`qb,data:=`fr #[`aj,`nz,`cu,`ew 0,`aj,`aj] },(`aeC `aeD),⟨_,he,rfl⟩,(`aTX),(`uR).bad,`c `CH,`nO p l,But p H H',But a H H',us++[`e_],`CI=`CJ,(`m,x)::more,{ cls:=`qb,data:=`fr #[`aj,`nz,`cu,`ew k,`aj,`aj] },kk.toNat,(sq.mono g2).to,(og0 ds).map,`a is,`jT=`b,(wm4 `P l1 l2).objs.size,`c1[j]?=`d8,cmp x y=`d,(`CO).size,`c1[n - 1]?=`bg,`c1[n]?=`bo,Dn cmp `c1 n,λc t2 hJ=>?_,`c q.1 t,Prs `P vs,pairsOf_toList,∃q,`ae_,fs.map `a,out.toList.Perm vs,listUpdate_at,seqEpoch_at,Heap.size_update,{ s with heap:=g },(`aU9),`w `ae4,PrV H ys ps,`M<64,qp0 (`ex pD),`hj _ ps,(z9 `fL v6),(`aV'),(Z5 `V),(`aX3),`c 982451653,(gc (`O0)),oA (z9 `an (z9 (o2 `iD `V o9) `ey)) X8,(`a_p),(R0 5 `qo),(`a1m),λe he=>h e (A9 _ he),`bx d 50=`d,`jS=`a l,l.Nodup,Y1.mp `g,(`nY).Nodup,L9.mp hb,(`a19),hT y (A9 _ z),l.foldlM,∀i,i<n->∀j∈`nZ,j<n,(`a1!),decide_eq_true_eq,`er hx,(`lL).getD i `z,ys0 `g `gC `z,ym0 D' `iH=`a (`Po),G5 [p.d,D']=`a (`Pp).d,`q (`o ⟨z,rfl⟩),S.length,List.mem_singleton,(`a2a),`c `Dn,`n (nd (`lJ)),[`cl,k,l,.ow (`n (nd `lO)),`agh,`Dq,`lN],c<=5000,`a (`Ds),H i hi j hj,`q (`q (D6 _ hj)),`agl*(`Pw+`v!),`Dv _ _ `f,Pool nm,hf k `g,q.trans ?_,`Py++`ags::w.drop a,z.natAbs<`PA,`qL<=`R,`a (.rt `A?),T9 ks (k2 p),λq=>q z,`DF i `qR,p.1<`M,p.2<`bN,(`DI:Int),`DJ<=20,(b:Int),X4 rfl `DL,List.flatMap_cons,k<=1000,(`a2F),`agJ<=1048576,0<m/\m<=1000,(`a2I),2*`wk - 1,(`wk:Nat),`a p.d,(l:Int),[`W,`bO,`j!,`wm,`ka,.un,.un,.un,.un],(`a2M),(`a2N),
[`W,`bO,`j!,`wm,`ka,.un,`iG,.un,.un],(st+`cL)%12,`er hs,0<=a/\a<=100,K8 [`fQ,`hd,`DX],(`a20),(`a23),(`a26),(`a3i),(`a3l),(`a3z),(`a3J),(`a3L),vis `PW [] q j o,`bv hc,(`a3N),`M5 α,List.range_succ,(by rw[e]),idx_map,List.mem_map,Bw.Lk n v,if `lV then bs `agX else bs `D_++sg s,`h9∈B,`bS `n5,(`o `ag7),.sh (`P8),DL.putAt,z20 `D9=`ag8,[`b7,`P9,`D!,`D3,.un],[`b7,`l0,`D!,`D3,.un],[a,b,c,`P',e,`qY],`D1<`R,`I (by rw[nn0];omega),(o++`wv),λp hp v hv=>?_,Q9 (hL k hk),List.mem_range,`c `ahh,Bw.V9 c k h0 h1,[W,C,`wx,`aN,s4,s5],(9000:Nat)<=`R,`c `q0,L[0]?=`a 0,by rw[`cm];omega,(`qk `wz),(∀k∈L,`oa),(∀k∈L,∀i∈`q1,`ob),.ow (`n (`Qk)),(ty0 hq).2,cn0 hv hl rfl,hw.tg hi,ya0 `l_ i,hw.good,wst L q.1 q.2,⟨[],(i6 L).symm⟩,lf0 L zs,hz q A7,ws one `iV L a s6 (`PE),ws one `iV L a s6 (`DE),.ow (`n [pN (0,0)]),.ow (dk [0]),L.filter,`Qs<`bA,(`a4J),M.map pN,Met qs s,h.names,[.sh `Qn,`W,`bO,`wG],`Qz `cf,`QA i p,(.ow (`lI)),p6 (x:=`wH) (y:=`fO) rfl rfl,x/2400%`QB,x/1200%2,`n [(`Eh `qA).d,(`Dd `ahD).d],(v9 e' rfl),`c `Es,x.natAbs,.ow (`wH),[`cE,`a_],`n [`c 16,`qy],[`fR,`ag,`bO,`W,.sh (wd q1)],(`eE).Nodup,(M++[p]),`QI λ(k:Nat)=>`w [`cM,`ahM],yj0 3 4,.sh (`lZ),rows M Q,J5 M Q j,(`a `cL),wd `EF,`I (by rw[`F];show 1+_<=_;omega),xr0 G1 G2 δ,`c (`EG),[`fR,`ag,`c6,`W,`QZ,.un],[`fR,`ag,`c6,`W,`QZ,`QY],(top 15),(`a7x),[`hl, `Q0],(top 17),(j7 `ah),[`hp, "k", "left"],(top 20),T.b_dict,T.b_reversed,(top 24),(top 25),[`l9, `l', `q!, `EN],(top 26),(top 29),(top 30),(top 32),[`hp, `Q3, `C0, `C1],(`a71),(`a72),(top 33),(top 34),(top 35),(top 37),(top 38),(top 39),(top 40),(top 43),[`l9, `l', `wU],[`l9, `l'],gd0 P w K mg `k `kg 5 `hD z20 `C8,(top 44),t7 `Q5,t7 `Q6,FnD P w K mg `k `EV 5 `oj y50,(top 50),(d9 `aA u5),(top 51),t7 `Q7,(top 53),(h90 u5 u5),[`c4, `iX, `kh],(w6 `hE v8),[`lE, `Q!, `ain],FnD P w K mg `k `E_ 1 `E0 Z6,t7 `Ra,(top 57),(top 58),t7 `Rb,(o5 6 `rc),[`qv, `c4, `iX],(top 62),(`a8N),[`gE, `c4, `iX],(top 63),FnN P w K mg `k `E4 1 `ol X7,FnD P w K mg `k `E5 1 `E6 V5,(w6 v80 v8),
C__law_with,(o5 3 `E7),(top 65),(o5 4 `E9),[`gE, `Re],(top 66),(top 67),`b2 K `a3 x=`a (`a `kP),`e×Obj,"BaseException",lookupAlong,`aZ `zV,`J `tj tk,`aZ `aaI,`Ls `tk,(`aN!),`aZ "type",λt'=>hr t',λW=>`o!,(`aOb),Value.int i t,⟨_,rfl,r⟩,`a' `bZ n,`ep×`e×`t,tupleKind,`a { cls:=`aj,data:=`fr ps },`z6->G a b,W.methodObj,Z0 (T7 q hn),`a (.own x),Z0 `aOh,`aOi b,`tt x=`kQ,env.kindOf,H p.1=`b,∀x c,`h2->c≠b,s.heap.IsCell c v,(`aOk),by rw[e];simp,`kR=`bg->`mT=`bg,storeName,List.getElem?_set_self,z.sameBut hs (cne y c e),`bp e `v,EP X `h σ Q,("__classdict__" : Str),I.mod.glob.keeps I.bk,`Aj e `v whole,(a::`LN),`h3=`a' its n,Array.toList,I.unwish,Q σ' H',[v,ov,iv],Int->Int,letOwnedTupleGo,k it `T o e,by simpa using hu,`L_ a `bZ,`ce [a] `v,(`aO1),λus s1 ⟨vs,H1,I1,r1,q1⟩=>?_,(`m,`L7),(`aPa),`i `ac X.A (f `tO (`c j u)) Q E s,j<1073741824,-(`tP)<i/\i<`tP,-(`tP)<j/\j<`tP,`c (i+j),`c (i - j),`c (i/j),`c (i%j),`c (i ^ `h9),`J (i++j),`ce `gl `v,NameKind,cellsFrom,List.getElem?_append_right,`a `AC,hc `h s1 σ H1 vs us Q I1 r1 q1,sIx n 0 lo,sIx n n hi,`jz+(m:Int)*1,(items.toList.drop (`AD)).take (`Mg),"__getitem__",((`AD:Nat):Int),(`aP'),r.length.symm,r1.append,(i+n).toNat,ixN `aP i,⟨#[c]⟩,its'.toArray,(`aQc),(`aQd),(1:Int) > 0,backToKw,keywordEach,by rw[`a?];omega,`a `Mu,⟨[u],[]⟩,(`aQq),t { nx:=λ_ H'=>Q `z H',rt:=Q } `AB H,`pw y.1=`kQ,N'.length,caps.map,J4 n `dN σ,Str×`abI,`MB&&env.scope.kind==`m8,(`aQs),.ListComp,s2.heap.push `A8,(`jK).2.2.2.2.1,relabel `cY `v,`Ae==`m8,`ud==`h0,PG `pJ tg g,PF `pJ ifs tt,PE `pJ elt te,(`aQD),xq0 n `dN δ,(·.length),Txt.join,List.filter_eq_self.mpr,H a=`a (dOb ks xs),`acr/\dLn ks=`aP/\`bc,(`aQK),`b2 K `a3 c,`a (`nn),List.getElem?_eq_none,(`aQM),Rp K H' B d v,za0 (i:=i) hN hv hd hcd,by rw[W4],by rw[W4] at r;exact r,λH' s=>?_,by rw[`us];exact hl,`cA=`Bi,(`aQP),⟨_,en,e1,k⟩,⟨`Bo,λi H2 x H3 g2 y hi=>?_,`Bo⟩,k _ H' s' `acH,B b/\¬`ad b,λa=>B a∨a=p,RpO K H' `Bq d p,(`aQE),`ab PySem.Env,
`h' k (`tU (`Az `cX `jH `A fa cdv)),`jQ=`nq,`jQ=`uw,(`aQ_),ys.map `Bv,Txt.slice_le,`fA+J.toArray.size,k _ H `dd `uq,Env X.K H B σ δ,`d2 `cg (`M2),(`abf).lt,`a3<`A,mg x=`BC,`m7 K `t'=`d,(ds++es),ds.dropLast,`e4 x=`d,`BG xs k,(.dK (`M!)),rel.length,(`M!).length,{ cls:=`aZ `gq,data:=.dict #[] },`d2 `cg (`ce `BL `v),λj k b ds es h1 h2 h3 h4=>?_,`cA=`p1,`ac!/\`ie,⟨z,q⟩,"append",`a! x p2,[`adc,`No],es.getD j `z,deq (`Np) (`ade),Rp X.K H B' e y,(`aRs),[p.1,p.2],`t->Prop,s'.heap.get?,`a `aRw,c'.quiet=`d,R (.ok f) s',.again c',.error e,{ cls:=`c!,data:=`a' #[] },`eZ `adq,`a `uV,(`m,`bp (`NB) `v),`d2 pos2 (`li),λp=>if p.1=q then v else p.2,U6 pr.1 q,loadIfAlive,ZipApart,`uX->`ge c=`ae,`B6->`B7->`adz,(`aRN),h1.extBut,hl1.extBut,h2.extBut,D.i12.symm,hl2.extBut,by show 2<=`R;decide,`aZ `NK,⟨o,ho,hc⟩,Q (`a `fH) `dI,(`dz `d1),(`qa).toArray,(`aR0),F b `adN,(`m,`bp (`NQ) `v),as.map `nC,{ cls:=`cW,data:=`a' #[u,w] },λys hy=>by rw[`Au hy hq];exact hx,λo y=>(`gY it hei.symm).trans y,(`aO4),{ s1 with heap:=h' },⟨us,s1.to⟩,k _ H' s' ⟨`Bo,λi H2 v H3 g2 y hi=>?_,`Bo⟩,(λz=>hb t z ht),s' _ _ e5,(`aSe),Q' `d s,(`aSj),(`aSk),g5.IsListIter,g5.get? c=`ae,e8.extBut,e7.extBut,(`aSs),(`aO'),`Nw λp=>`e9 `adi,(`ex `N5),Builtin.«dict.update.loop»,(`aSL),(`aSM),(`Q x.p),by rw[Z0 (uv0 hl hd `gp)];exact hl,`jX [] ps,`fr #[`k7,`c 0 0],I2.hok.fresh,r.1.length,(·.frame),(`Ob).filterMap `aeh,setFlight,{ cls:=`aZ "traceback",dict:=`b,data:=`fr ar },g.push `aek,L0 _ hT (i0 (P4 F _)),(up b o e),(`aTl),`dz r::XC.bmV,o.frames,(`aTu),X.A.mark,λn=>`O (c=n),z.natAbs.log2,K `aTB,z50 [] ps,s.heap.IsTupleIter,(`dz l==`ik)=`d,Heap.ExtBut,`aZ "tuple_iterator",{ cls:=`aeA,data:=`aee },Shared.heap,⟨hp,g,d,tk,os⟩,(`nO p l'),B a/\a≠p,`aT0 k,`d2 pos (`abs),`L4::`Bz,`AF `CK,[`aT4],(`aTZ),(`aT_),callWith,is.getD i 0,(`aUp),(`aUq),up (up `nH),y8.mp h.pm,wpS_lift,`iz[i]?=`vx,`qi t2,(`aUY),⟨`p,`p⟩,Up cmp `iz `b6,(`vy t3).push (0,`b6,0),`lz `P v q,out.toList.map `OH,(`aU6),
(`eZ `ae1).update `A (`e8 (·++`fB)),(`vA `dE `fB 0),[`c q.1,`c q.2],λa=>B a∨a=`A,pairTrees_length `CY [ve] `v pos rfl rfl,`a `vG,.sh (pr p),F.toArray,(`aVD),(`aVJ),(`aVL),(`aVO),(`aVU),(`aVT),(`aVV),(`aV6),(`aV!),(`aWe),(`aWg),(`aWk),(`aWj),(`aWn),o2 (oA `afj xm0) (oA `afk xm0) zg0,(oA `hn O6),(`aWw),(`aWz),o2 `OU `afo zg0,(`aWG),(`aWU),(`aW9),(`aW'),(`aXc),(`aXd),(oA `vN O6),(`aXv),(`aXx),(zf0 3 `e!),(`aXF),(`aXI),(`aVj),(`aYt),(`aYu),(`aYK),(`aY7),(`aZo),(`aZs),(`aZB),(`aZO),(`aZQ),`J `O7,(`aZZ),(oA `iA V2),(`a_c),(`a_d),(`a_g),(`a_o),(`a_y),(`a_z),(`a_?),`c 2400,(`a0v),(`a0E),(`a0J),(`a02),(`a03),(`a06),(`a07),(`a1q),(`a1A),(`a1I),(`a1X),(`Dd vs).d,(by rw[`fa];rfl),(`a11),(`a13),(`nd `J),vis adj S q j o,λy hy=>`j6 (F y hy),[`nT,`dg],v=`j8/\j<n,`v2/\∀x∈r,x<n,(`aX8),kd (U++`lO),nd U++td `lO,.ow `a2d,ms W k l U `lO `Dr `v6,x<2147483647,[`a_,`df],(c%2147483629+1),Gw.mul_r,λh=>`X h hj,(ones w).map,strs_map,(`a2f),(`a2g),cg `agr,.sh (`c `wd),(`we:Int),`c `agu,((sg s).map `c),`n `agw,`w `a2i,[`agy],[a,b,c,`jL,`DE],(`DG).vals,[`cE,`iK,`qN,d],(`x (g1 _) rfl),(`qL:Int),((`DK:Nat):Int),`c `agF,`n ((tx p).map `c),(k*7919+5),c.natAbs.log2,Lk m.toNat v,(`aYs),(`aYx),`a (`lP),(`a2R),(`a2S),(`a2Z),(`a2_),(`a3v),(`aZ5),K5 `DZ (z40 G8 ds p l),(`Du).resolve_left,2*`a3P,(`agW),u20 T s,(pm0 _ _).mpr,(`a3R),(`a3W),kb_mem,`ag1 B j,(`P4:Int),(`P5:Int),by rw[`wp];rfl,`a32+2,(r[j]:Int),`a (`lZ),o4 (ds:=[`z,`iO]) rfl,pf0 rfl B,o4 (ds:=[`dU,`iO]) rfl,o4 (ds:=`D?) rfl,hb ps B T `hu,st ps `P? B T W (`iQ),st ps `P? (`n8) T (`j'++W) (`iQ),`a3'<=M,by show `ahd;omega,(te0 hu),(`d9 `cC).getD j `z,((1+j:Nat):Int),`a (lkv `gF v),`a (`qF).d,`n (`Dh pr),(`q_).length,.ow (`n (nd [0])),(`a36),(`iS j).map,`fS λk=>`Qd,T3 [`fT,`fO,`A7],lkv `gF q.2,`ex λq:`qm=>(q.1,`ahr),`n `Qo,`a (Bw.web (`Qj)),[`qN,`jF],`n (`fS λp=>`w `ahv),w++`a4N,(`ahx),(`a (y%4)),vs++`a4Q,.sh (`qC cl ps).d,by simp[`bx],[lkd a,`z],qs++[np],Km.ws 1 (Km.pak ps 0)%65521,`o `wg,[`PI,`DH],M.map λp=>`e9 `ahH,(pa `fW k).d,
F.inr p h1,(`a4W),J5 M qs k,(`aX7),"NoPack",(`a5r),(`a5s),(`a5y),(`a5A),(`a6f),(`a6g),(`a6k),(`a6h),(`a6l),`c 1000,(`a6y),(`e? `bM),(`a6E),(`a6P),(`e? `be),(`a6V),(`a65),`n `Qe,(`l1).vals.length,`Dd [`lF,`z],`Dd [`lF,`w [`nT,`ck],`z],`ah8::`EF,(`a7i),v9 ?_ rfl,.ex `q' `b,(`a7p),(`a7K),(`a7O),(`a7V),Cd_drawn,"stayed","WebError",[`QM, `QN, `QO, `QP, `QQ, `q', `QR, `QS],"_law_j",(`a8j),(`a8k),"_law_base","_law_turn","_law_most",C__law_led,"_law_name",(`a8L),(`a8O),(`a8Q),(`a8R),C__law_some_of,[u,v,w,y],W.binds_K,"__getattr__",`H->Prop,Row h (`Lo),excClassObj,tl.contains,List.contains_cons,`aaJ bmV n=`a2 y,typeLookup_eq,`zX _ (`Lp),R (.ok (`dA `dB)) `cs,`Lq (`Lr) "getset_descriptor",c.hasT `eT,Code.quiet_builtin _ `eT,⟨[`a9,`aaL],[]⟩,`aaN==`Ls "object.__getattribute__",(`aN?),⟨h,g,d,t',os⟩,Builtin.«isinstance.nested»,`c dep tk,c.isT (g:=g) (d:=d) (t:=t+1) (os:=os),mm0 c hx hc,(`dA (`o?)),[`a9,`Q W],gj0 c cw hx hc `aaQ,`aJ->Prop,λs=>`P=h,(`tm `aaR),(`zZ).toArray,(`aOc),[`a9,`Q tp],nsOkIn K `z_,isNs_of_in,nsMap_none_of_in,`a ⟨`aaP,_,`Lu,sl⟩,cd.mro==`Lo,!cd.hasDel,`a (`cb n),"__init__",(`Lv).all,nsIn K `a3 c',`tn=`to,λc hc=>?_,beq_self_eq_true,`t->`N,Value.isInt,Value.isStrOf,`o ⟨i,t,rfl,e⟩,i9 `aOd,(M3 `eS w).is,`o9 UInt8,`ab (`aH L2.V),`ab (`ab L2.Key×L2.V),∃t,u=`z2 x t,by simp at e;subst e;exact`aaU,⟨u,`tp,h2⟩,`bm ys ws,Vals.append,`dD p.2 q.2,`ab (Str×V),p.1=q.1/\H q.2.1=`a (`w (p.1.map kV))/\`dD p.2 q.2.2,o.ExactDict,∀f,RelO (fs.lookup f) (mA f),∃o,`d0,`gS=`aaY,∀h1 h2:`u,φ h1->(∀o,h1.get? a=`ae->h2.get? a=`ae)->φ h2,A3 `aOf,∀a b,`aaZ,⟨z.1,ht _ _ z.2.1,z.2.2⟩,k a _ `h_ e,`a (`aa_ `kP (`Q y)),(`aOg),`cJ P w H h a u,∀b u,`z7->`Lz,by subst z;rw[r] at mu;exact mu,∀b o u,H b=`LA->`kO=`LA,∀b ps,H b=`a (.tbl ps)->∃more,`kO=`a (.tbl (ps++more)),λb u q _ _ _=>`z9,λb u q _ _ _=>⟨u.slots,`z9⟩,λb u q _=>⟨u,`z9⟩,k b u (hb b n) q,by rw[`aa2];exact q,`aa3=`ae,∀x:Str,`jp->mb x=`pg,l.filterMap,Mod X.K `bn `dG,`LC y=`eU,
X.env.frame=`a `eV,X.H₀ b=`b,X.s₀.heap.FunFrames,s.heap.Ns `eV m,`eo p.1=`tv/\`aa6/\p.1≠`eV/\p.1∉`gV/\∀v,p.2.data≠.cell v,`gf/\`ct,(I.ok.noex b o e),I.ok.funs.mem hb,Heap.get?_none_of_le,Inv X `h σ H' { s with heap:=h',gens:=g',drawn:=d',toks:=t' },λb o e=>A6 (B4 `kU `z?),∀x c,`h2->∀v,`aa8->h'.IsCell c v,λz=>(hch c z).2.2.1 x c e rfl,⟨_,q,hd⟩,λb o e n hx=>?_,λb ps e=>?_,`LJ b ps e,hl i x v e1 e2 e3,⟨u,r,?_⟩,λz=>(hch _ z).2.1 rfl,⟨_,O,J,hL,r'⟩,(λ_ _ _ _ n=>n),(`aOl),(`bh b u e).stay (λc v hc q=>k c v ?_ q) `tx `mX,(`Ab).elim,Inv X `h `ty H s',`i M A (`aa? `v x u) Q E s,`aOp=`m,by rw[`gX];rfl,by rw[`fu];exact(`gg hi).1,`tz a `P h',HOk `a0 X.w H h',(`gY c ?_).trans,⟨`mZ,`mZ,`tw,`Af,`Ag,`Ah,`LJ⟩,λy c e=>?_,hl j y v' e1 e2 e3,λe=>hj (o20 hN e1 (e▸hi)),`q ⟨k,c,e,`abb⟩,⟨w',`abb⟩,⟨(`gY p.1 ne).trans e,n,ne,nf,d⟩,λh' Z hs=>?_,hn.sameBut,`gh/\`Ai,wpAny_loadName_local,wpAny_loadName_cell,Calls.Constant_str,`i `ac X.A (`bp `kV `v) Q E s,(`aOr),PE X `kV (tC v),PC X op a b t,nobehind _ `f `f,wpAny_Compare1,(`aOs),wpAny_isTrue_Compare1,j3 ⟨H1,I1,q⟩,∀whole,`abg=(do let v ← whole;standAt e.pos;`kW [v] (truthy v)),λc H1=>Q (!c) H1,(`aOu),isTrue_and,(`aOx),(`m_ .Or [a] pos),(`aOz),hb wh `h s1 σ H1 Q I1 q1,⟨H1,I1,q1⟩,(`aOA),(`m_ .Or `abh pos),(`LO .Not a pos),tb σ H1 Q,(`m_ op [a] pos),thn `tC `tD,hb `h s1 σ H1 Q I1 q1,(`aOB),(`aOF),Rd H a `pm,`ti=`c!,`abi/\`LP/\`bm xs `An,SqL X.K H a xs,h.ok `bh,`et a o hk,by simpa using hs,SqT X.K H a xs,by simpa using C6 `abj d1,(X.wish E).Ok,⟨ok.mod,`tE,ok.glob,ok.blt,ok.above,ok.inj,ok.has,ok.cab,ok.hd,ok.frames,ok.stk,ok.exf,ok.bs,ok.bsz,ok.noex,ok.exfs,ok.funs,ok.frf⟩,Inv (X.wish E) `h σ H s,{ D with nx:=u D },⟨σ,H,I,h⟩,interactive,`kX σ H1,`LQ e `b `LR `v=`tF,St->Hp->(`h4)->Prop,t v σ H Q,(`aOH),wpAny_assign_Name,by simpa using rv,(`aOJ),.AugAssign,`Ac x=`jt,⟨`dJ,H,`eu,`au,q⟩,Nat->`h4,{ D with nx:=N,ct:=N,bk:=`kX },PSs X `eX tb,(`aOL),hN σ3 H3 n3,
⟨m',hm,σ3,H3,I3,w3⟩,Nat->`gZ,(`aOM),∀v,`h3≠.cell v,(∀b∈fp,`Ar),`h6 `a0 X.w X.K tg J fp it tn,tn 0 s2.heap,(`aOO),`aOU n,wpAny_load,λi H=>∃xs x,`g_/\`h7,λi H=>∃xs,`g_/\`LW,λi h h' st k=>st.at λo e=>`abp,λh' F sb=>?_,`At (t':=`a1) `LY f0 f1 f3 f4 f5,`LZ it a i,(show `abr from p),λys hy=>by rw[`L0 hy hq];exact hx,IsRangeIter,Data.fields,thn (hl `h s σ H _ I h) `tD,{ s with heap:=`eZ `L2,toks:=tk },((`pr:Nat):Int) - `tK,(`aO2),boot_range,(`aO5),(`aO!),tn i `k1,I7.pin `tL `abw,`ps I7 n7,Inv X `h σ H2 s2,OpR X (`ju op) r,(`m5 a op b pos),(`aPe),Q (`c `jv `a1) `L9->`abx,λi j=>`c `jv,⟨`c `jv,H,`eu,`au,q⟩,IntMulOk i j,(`aPf),λi j=>`abB,λi j=>`abC,(`ju .Mult),opI `aPg,λi j=>`abD,λ_ j=>0<j,λi j=>`abE,λi j=>`abF,`c (g i),(`aPl),(`aPn),∃i j,x=`J i/\y=`J j/\i.length+j.length<=`R/\Q (`abG) H,`bm [x] us,∃u,us=[u]/\`g2,(`aPu),(`aPC),recursionLimit,by have:=r.dp;omega,by have:=r.un;omega,⟨[],H,I,`U,h⟩,λu s1 ⟨x,H1,I1,r1,q1⟩=>?_,(`aPI),H1 `ev=`b,`Q `ev,`L! (t':=`L1) (λb u e=>`m2) `aK ?_,Un (frs `b0) [] H H' `P `k1,HOk P w H' `k1,CE `b0 P w H s Q u s',Env0 P w K mg `k A `b0 s H,I.ok.frames,`Y `a0 X.w X.K `bn `dG CX k f fd ps sp,iz0 CX X E,`bm `pv `Ay,`pl=`a `kP,`m7 X.K `kP=`d,N1 `aPL,W.callWith_K (h₀:=`dG) I.ok.mod.kin hk (thn `L5 λus s1 ⟨vs,H1,I1,r,q⟩=>⟨I1.kIn,?_⟩) he hpl,sc.kind=`m8,sc.isCoroutine=`m,sc.isGenerator=`m,N.take P.length=P,y.2≠`h1,(`aPM),λw hw=>h w (A9 _ hw),by rintro rfl;exact h v A7,P[i]?=`cc,λv hv=>(`Mc).1 (S1 hv).1,`tU (`tV),W.cellsFrom_some,`ar N ps `cY,(`tV).kindOf,`abJ `jx `fw [],wo0 CX P w K mg `k N `cX `cY f cd A `b0 s H E,`X (show `Md from z) `T,λb z=>`X z (F b),e0.hok.fresh,P7 `aPO,List.length_replicate,(`aPP),λb o e=>(e0.bs b o e).1,`cv X `AC r,`pg=`abL,PE X `k3 (tCB r t),N1 `aPS,(`aPU),`cv X `fq r,(vs++ws).toArray,`aT->Nat,(`aPW),Builtin.Slice.sliceAdjust lo hi 1 `bH,((`abO:Nat):Int),slicePart_none,λ(m:Nat)=>xs[(`abP).toNat]?,λm=>xs[i+m]?,`tZ `P t `al,`AD=0/\`Mf=`d7,`a' (`abQ).toArray,
`i `am A (`m! `k4 `AE) Q E s,`jA `AE "slice",A0 `aPZ,`AF `abR,(`aP3),`i _ _ (Builtin.Tuple.tupleItemsOf `k4>>=_) _ _ s,A0 `aP5,A0 `aP6,`i _ _ (if `Mh then _ else _) _ _ s,A0 (m:=`AG _) (K0 `Mi F),(`aP9),`aT->`gZ,evalPart_none,r x lo hi H Q,`jB `fq `abR=`a2 (`abL),(`aP!),subscriptTail,`Q `py,(`t_=0/\`Mj=`aP),`w (`AI),by rw[`a?];exact `abU,(`aP?),B9 (px0 xs lo hi) hz,(`Mk (`t_)).take (`Mj - `t_),SqT K H b ys,by rw[`aM];exact hz,if `na then (if i<n then `Ml else `b) else if `Mm then `a `abW else `b,(`abX).bind λj=>`pA,r x xs H Q,`i `ac X.A (`b' `AC (v::us)) `fz `az s,`t0=`bo/\Q v H,atI `Mn i,EP X `h σ Q w s,(`aQa),(`fA:Int),subscriptTail_builtinR,pl.isList.typeIs,slot_list_getitem.lookup,λr s'=>r=w/\EP X `h σ Q r s',(`aQb),z.cps.toList.length,-(`Mo:Int),`eo p=`Mp,{ cls:=`c!,data:=`a' `abZ n' },`bm ys its',(`aQe),(`aQf),Option.getD_none,show `ab1 by decide,`g3 `k5 0 lo,`n (`AI),we0 y=`d,xs.any λy=>`Mq,(`aQh),⟨`cx,H,I,rfl,?_⟩,show its.toArray.any `t4=its.any `t4 by simp,Q (`c `fy) H,⟨`c `fy,H,`eu,⟨`tN,by rw[`a?,F]⟩,q⟩,∃z,xs=`AM/\`pC/\Q (`Mr) H,∀l,`AN->Q `jC (upd H l `pD),`ge `A,call_list_seq,(`aQj),∀l,`AN->Q `jC (upd H l `t5),`Q `nb,ob.dict=`b,⟨o,e,ex⟩,⟨⟨o,e,ex.1⟩,λa e2=>?_⟩,⟨o,e,ex.2.1⟩,tyV K T x H1,Slot T name id,`tl `AC=`a2 (`aZ "method_descriptor"),MtR X id r,`jD o name `v `AP=`Ap,(`jE o name `h!),(`aQl),ak0 I1 r1 ty,(`d2 `cg (`tB)).any `bG,`ak r ih,(a::b::r).length,(b::r).length,`AR=`Mp,"list.append",Array.getElem?_toList,`ab WData,pre_splitW hpre,(`d==`d),WShape.has,s₁.gens=#[],`AT a=`ab5,`h' k `t8,∀(s:`r) (u:`t),`AU s fd `ab6 [(x,u)],`gm `ch `t8 (`pF `t' `AX) `ab7 `dM,hA b (`Mw),λb o e=>?_,`X rfl z,by rw[`F];exact hl,`t!=`a ⟨oc,od,`jI fd,osl⟩/\`AZ,Fun K x `cX st f fd,`h' k (`tU (`Az `cX `jH `A f cdv)),∃t,PSs (wo0 CX0 P w K mg `k N `cX `jH f cdv A `b0 s H E).nox `pG t/\`ab8,`Y P w K mg `k CX0 `e0 f fd ps sp,c20 lk O S len λA outer s H vs Q E hr J=>?_,hbody cdv A `b0 s H vs Q E hr J,⟨t,h.nox,q⟩,
⟨⟨oc,od,kV,doc,pm,an,cdv,ct,osl,rfl,l,c⟩,k⟩,H b=`ae->`kO=`ae,Option.none,"str_ascii_iterator","str_iterator",`tz it `P h',⟨#[x.cps[i]]⟩,Inv X `h σ H `A_,λh' F sb=>J h' F sb,fp default,y.2≠.cell,y.2=.local->`ab9,y.2=`h1->`tt y.1=`h0∨`tt y.1=`jt,`ab'=n+`pH,`My=(`dN[k]?).bind (N[·]?)/\(`My).all (λy=>`A0==`jt)=`d,`ab! λj=>`Mz,(`ab?).length,`ab (`aca),x.2=`h1->∃c,`A1 x.1=`eU,acc.lookup y=`eU,λy d hy=>?_,λx hx hf=>?_,h2 x hx hf,closureFor,List.lookup,`acc=`d,by simpa using hx,(.ok `A4),`a2 (`ub ok),`a2 (`ub r),(`aQv),`pI=`pj,Nat->Nat->`A6,W i m ys H2,(`aQw),J.yld i H2 x H3,Wk `fC σ4,if b=`d then te σ4 H5 λy H6=>H6 D=`MC/\`fy<`R/\∃m',m'<m/\W `cy m' (ys++[y]) (upd H6 D (`n (ys++[y]))) else ∃m',m'<m/\W `cy m' ys H5,{ s2 with heap:=`ace },s3.heap.get? b=`ae,`uc _ _ st2 b hb,(b5 b o e),W7 X `cY cl N' s3 H3 fp,A6 (d2 b hb),λx c e=>`acf x c (hcl1 x c e),`ue=`aQB,(`jK).2.2.2.1,`b1 (I3.stkSub b hf),{ s3 with heap:=h₁,toks:=`A9+([]:`MD).length },`abK `T,(`aQC),by subst F;exact e,`X hp (by simp[W7]),(x4 `A'),Ia.pin `tL `abw,∀cl s H ex,`acj,∀cl s H ex,`ack,∀cl s H ex,`acl,ok.free x hx hf,`o `acm,`q `acm,as.2.2.2.2,λv H'=>`kX `ty H',λ_ s'=>SP X `h D `A4 s',`uf->`aH `k9,`uf->`aH DL.Res,`uf->`aH (`ng),fun δ=>`Bb λt=>if `ug then Ga δ else `uh,N7 f G ds δ',(`ui).bind,λc=>`nh,`m4<=i/\i<`g1,`a (R9 i j),`ab! λj=>jj0 `k?,R6 f gt ge δ ds,(`MF).map,ds.map .sh,`a (`abE),(eqS x y).map,sIx `aP `aP hi,`a (`c `aP),(ys.map `aco).sum+`fy*sep.length<=16777216,(`aQF),`uj=`a (h d),R6 f gt ge δ `al,List.filter_cons_of_neg,List.filter_cons_of_pos,⟨δ',a,b,λ_=>c⟩,`acq `T,su0 `aQH,`a (`d9 h),by rw[`ba];omega,`h?=`dO,ifD g Ga Gb δ,by unfold ifD;rw[h];rfl,Z9 n `dN gi f gt ge δ,o2 ga gb f δ,Gr H H' B B,∃a xs,`g8/\`MI/\`bc,∃a xs,`g8/\`MJ/\`bc,∃a xs,`g8/\`jM/\`acs,∃x r,xs=x::r/\`ul/\Rps K H B ds r,Rp K H' B' d v,⟨a,xs,e,q.mono g,`Bd g r⟩,`bc->Rps K H' B' ds xs,`Bf/\`bc,Rps K H B es ys,Rps.append,by simp[o8],∃xs,`Bg/\`bc,`e2 (`lb l),
RpL K H' B d a,H a=`aQL,X60 H B od n,XcR K H B c n a,g _ _ h1 h2,g _ _ q1 q2,B a/\`nl,m[i]?=`fD,`pO->`bK G l m,(m.set i b),`bK `Bh σ δ,`a (.ow es),`cA=`MM,`no `ib h,⟨v,rfl,r⟩,λj k a ds es h1 h2 h3 h4=>?_,`jq (B1 hk),`lc j k a ds es h1 h2 h3 h4,∀B δ,PE X e (tD X.K B δ g),∀B δ,PT X e `MN,∀B δ,PW X e `MN,∀B δ,PA X es (tDA X.K B δ g),Rp K H B dy y,λpins s σ H Q I z=>h `h s σ H Q I `MO,fun σ H Q ⟨d,en,h,k⟩=>by cases h;exact `up,⟨_,en,e,λv H' s r=>⟨t,`acB,`Bl⟩⟩,⟨b,en,e,`acC⟩,⟨t,`ic s,h,λF s'=>k F (s.trans s')⟩,PTD X e gt,k [] H `dd (`go),⟨v,vs,rfl,`lg,r2⟩,⟨ds,en,e1,λvs H1 s1 r1=>⟨`acD,λp hp=>k _ _ (`lf `id) ?_⟩⟩,(Ya0 `b4).imp,∀(i:Nat) (ds:D) (a:`e),`acE->`ie->`af a=`b,`af p=`b,∀H₀ B₀ δ,PS X st `acF,∀H₀ B₀ δ,PSs X st `acF,Wr idx σ σ' δ δ',∀B d δ,PG X tg (tDG X.K idx f B d δ),`jq (B1 `B),l80 `h s σ H D I (k σ H en),⟨_,en,e1,fun σ' H' en'=>⟨r,en',e,k⟩⟩,`cB K `af `ad H' σ' δ',λi ds a h1 h2=>?_,w.oth i hi,e.fr i ds a h1 h2,(.If c as bs pos),⟨t,env,e2,λH' s'=>?_⟩,∀B δ,PI X tg e (tDI X.K B δ g),⟨a,rfl,⟨xs,`dP⟩,`acI⟩,⟨xs,xs[i],`MS,by simp[`B]⟩,rs.get (i:=i) (d:=_) (C3 hi),y xs `MS,⟨`Bp,_,C3 hi,λB' gB _=>r'.mono gB⟩,⟨xs,`MS,`MT⟩,`jO X `eX G,tDS X.K `af `ad δ G D σ H,hb `af `ad δ `h s σ H D I h,if `acJ then `b else H1 b,by rw[Z b n];exact h,fun σ' H' en'=>⟨δn,en',ei⟩,List.drop_length,∀B δ,PF X ifs `MN,`jP n Sl.un,λi j a ds es h1 _ _ _=>(o70 h1).elim,(`aQQ),∀p H',`e3->`ci->`acL->Q `d' H',∀B δ,PE X e (tDF X.K B δ g),PDF X `k8 `Bs,fun σ H Q=>∃B δ,tD X.K B δ ge σ H Q,(`aQS),(`aQU),(`aQW),PD X `k8 `Bs,PSD X `acM (b7 `MU `Bs),∀ds d,`ux->`bJ=`M/\`acR,`Y P w K mg `k CX0 `e0 fa fd ps (spD K f),⟨_,en,e,fun σ' H' en'=>q `z H' `M0 `uA⟩,⟨_,en,e,λp H' hp s' r'=>q _ H' s' ((r'.toO hn).rp (λa z=>`lh) (λz=>hb p z hp))⟩,∀ds d,`ux->`bJ=`M/\`MW,`Y P w K mg `k CX0 `e0 fa fd ps (spN K f),
⟨_,en,(`uy).2.1,λp H' hp s' r'=>q p H' hp s' (r'.toO (`uy).2.2)⟩,`bm `Bw us,by rw[`uB] at r;cases r;exact `U,λt' k=>⟨`cj,H,`Ak k,⟨t',rfl⟩,q⟩,(`aQ0),(`acT z _ _),λK d=>by cases d<;>kernel_rfl,⟨o,h1,h2⟩,`bh a _ hq,N9 W.kitx_dict `et ⟨o,h1,h2.1⟩ e `gp F,Int->Int->D,∀i j H B,Rp K H B `M1 `jv,k _ H `dd (hg i j H B),SqL K H b zs,`aP+zs.length<=`R,`acU<=`R,`pV (Z3 h),λ_ _ _ _=>`acA,Zy0 rx ry e,⟨h1,by rw[h2];exact `acV⟩,L2.atI xs i,`o ⟨a,xs,_,v,rfl,rfl,`dP,hv,k _ H `dd rv⟩,∀B δ,PO X e (fun σ H Q=>∃o,`acW/\`as=`ae/\∀H',`ci->Q o H'),by rw[n6] at r;exact r,k _ H `dd (by rw[n6,`pW]),`O `aQ5,wpAny_Dict_empty,Heap.DictOf.new,`Y P w K mg `k CX0 k fa fd ps (spD K f),fun δ=>`nr,`a (.ow `Ba),`bq i (.ow (`n (ds++[d]))),`bq i (.ow (`n `ac1)),ds.getLast?,`bq i (.ow (`n `ac2)),`ab DL.X5,yb0 ks ds q,(`MG ds).map,`aH (`BD),(`uE).bind,λk=>yb0 ks ds k,λk=>.bl (xor neg (`pY)),U3 gt G n δ',`bx x 50=`d/\`bx y 50=`d,if `ac3/\ys.all `e4=`d then `a (.bl (xor neg (ys.any λy=>eqF y x))) else `b,if isL d=`d then `b else `bb,mkF n N G ds=`bb,⟨e,Cd0.mpr hn⟩,mkN n N G ds=`bb,if `M6 then `a (`n `AJ) else `b,if `M7 then `M8 else `b,zx0 (p::r) k,by simp[zx0,`M',e],`BF vs k,`BF (`uF) k,by simp[`BF,`M',e'],vs.any `M9,(`aQ'),`ak ?_ ih,`I (`M?),`ay (`Na),r.repl k ry,Paired.snoc,(`ac4).map `cf,`BG (`uF) k,by simp[`BG,`M',e'],(`ac4).isSome,(`w (`Nb)),(`Nc).is,∃xs,`uG/\h.DictOfH (`Nc) a xs,(.dT (`M!)),RelO.some_of,(`aQ!),h w' _ (`eu) F,λh' F hs=>h _ ?_,let ⟨q,_,_,hq,_⟩:=F;⟨q,hq⟩,t60 I `Ne hs he (ii0 hl hd (rel.put k rv) F),Wy0 `bh e,by rw[← Paired.length rel];exact z,t60 I `Ne hs ⟨q,hq⟩ ⟨hl,hd,_,(rel.put k eb rv).keeps λc ys ec=>?_,q,es,ep,hq,h2,h3,h4,h5⟩,Z0 (uv0 ec e `gp),`jA `b_ `gq,`p_ H2 a y o,thn `BJ λiv s1 ⟨y,H1,I1,ry,q1⟩=>thn (ho `h s1 σ H1 _ I1 q1) λu s2 ⟨x,H2,I2,rx,a,ov,ex,g,q2⟩=>?_,(`uI `ac8),`uJ->`gZ,`ab (`p0),(`ac9).all `BA&&`BB,`O `aRe,`ac9=[`pu,(`m,`bp f `v)],⟨`BM,λb q=>?_,hd⟩,⟨ob,h1,h2.2.1⟩,
∀o,`uK->H' a=`ae,⟨?_,`Nf,`ac'⟩,`o ⟨v,e,`e2 `gr⟩,Pd.setR (i:=i) (b:=Sl.ow d) (`o `Ng) hs h0,`BN (λj o' s e1 e2 h=>?_) h1,`X (`lc i j a d0 d' hi e3 hs e1) F,∃d,`k?=`p1,∃d,δ[k]?=`p1,`lc j k b d1 d2 q1 q2 h3 h4,`nt i d0 a hi hs,⟨λb u h=>?_,⟨B,b1,b2,env⟩,`Nh,`lk⟩,(`ic b u h),`nt j ds b h h2,λj ds a h1 h2=>?_,`X rfl n3,`nt j ds a h1 h2,(DL.frz δ),λa=>B a/\¬`Ni,⟨B',`g',λa z=>b2 a (c1 a z),F⟩,c2 a `Nj,`X (`nt i d a q1 q2) (`lk a z),λb=>B b/\`uL,λb z=>z.1,`o `Nk,⟨r,`uM,hq,k⟩,AutoSeq1.idx_int,Array.size_append,by rw[`a?,`a?];omega,List.set_cons_zero,List.dropLast_eq_take,∀H₀ B₀ δ,PE X e (tX X.K `af `ad δ gx),∀H₀ B₀ d δ,PG X tg (tTG X.K `af `ad ft d δ),PTG X tg ft,`bk (`o r.1) r.2,`jD `e6 `adb `v `p2=`nu,(`aRj),⟨_,J,`BP,d,env,e3,λv H1 s1 r1=>⟨a,xs,v,rfl,rfl,`uQ,by rw[`p3];exact hz,?_⟩⟩,(`aRl),(`nv `uS r1).mono `gr,k _ _ (`nw (`uT s1 b1 b2 hi J F) b1 b2 F `uA),`gj `Nn `v v,`kW [v] `p2,`kW [v,ov] `BR,⟨_,F,_,env,e3,λiv H1 s1 r1=>?_⟩,k _ _ (en.s.mut s1 b1 b2 hi F J),U3 gt G m δ'=`bL,fun σ' H' en'=>⟨δn,en',e2⟩,(`js [`No] `v).map `cf,`jq (B1 h2),`jq (B1 h1),∀(d:D) (n:Nat),`ll->deq d d=`d,by unfold deq;rfl,by unfold lean at h;unfold deq;exact ql0 ds n h,∀(ds:`s) (n:Nat),`BS->y60 ds ds=`d,by unfold y60;rfl,min `bJ `g!,`bJ==`g!,List.range_succ_eq_map,Rps.inj I ld le r r',`X z `f,`c0 es m=`d,`c0 ds m=`d,`ll->`Nq->`BT->`adg->`g2->`Nr->`BU A s u w (`uU),us.toArray.size,`ne+n<`g5,Aw0 _ _ _ _,Az0 _ _ _ _,u7 _ _ _ _,u8 _ _ _ _,SeqAt.EqAt.none_list p' F,SeqAt.EqAt.bool_list _ p' F,SeqAt.EqAt.int_list _ _ p' F,SeqAt.EqAt.str_list _ _ p' F,SeqAt.EqAt.none_tuple p' F,SeqAt.EqAt.bool_tuple _ p' F,SeqAt.EqAt.int_tuple _ _ p' F,SeqAt.EqAt.str_tuple _ _ p' F,Rp.inj I ld le hx hy,oi0 _ _ ld,SeqAt.EqAt.of_refs hab ?_,SeqAt.RcAt.tuples,(`aRq),SeqAt.RcAt.lists,Ct0 (A:=A) p p' `adh F,`aRt hl,`Ns+n'<`g5,sq0 (A:=`bz) a2 a3 rr O rv Y λd e x y u w h1 h2 h3 h4 h5 h6=>ae0 I n' m' d e x y u w `bz a1 h1 h2 h3 h4 h5 h6,
Z.toArray.size=`g!,by rw[`a?,← `Nt,`Nu],Bool.and_true,`BI+64<`g5,bl0 I 50 50 dx dy x y v u X.A `g lx ly hx hy rx ry,‹`s ›,Y1.mp hn.symm,(`aRu),(`aRv),by rw[`aL,tp0,tp0];exact hw,(ei0 r l u),⟨_,rfl,`up⟩,λl hl=>k _ _ `BV (pb0 hb hl rr),(`b5 `g?).map,λl hl=>k l _ (`p4 hl) (`lf `BV) ⟨_,j5,`BX (`uN hl)⟩,`Y P w K mg `k CX0 k fa fd ps (spN K f),FnN `a0 X.w X.K `bn `dG x k ps f,[`dc,`Nv],ds.reverse,`a (`Nw λp=>`BY),(`b5 `bJ).map,`a (K1 ds),oA `lo V2 δ,`ny->`ny->Prop,WalksS `eS w `bz I fp wr G n P St,Moved (C::wr) G s s',`adk C=`adl,(`aRA),`gs `Nx,(`AF `Ny),`I `eT,`a `adq,`NA `dB `B_ `aj,(`aRE),λb o hb e=>`B0 e,{ s with heap:=`adr },`dF `dE=`ads,`bn `dE=`b,`bn `lq=`b,Gl X `dE,Gl X `lq,`ce [`NB] `v=`adt::`li,(`adu).any `bG=`m,(`aRG),E6 ?_ e1 h1,λv s2 hv=>U1 hv,zx0 `Bc q,λd' e'=>?_,by simp[h],k v H2 `ih rv,⟨p,_,rfl,`NC,_,rfl,?_⟩,⟨p,_,rfl,`ND,_,rfl,?_⟩,`Al `p5 b=`m,(`aRH),(lw0 hu `bd `fF),(`ii i g),by rw[`gt,← hl,`B2];exact hz,(`aRJ),FunV K x `cX st fa fd dV,`ac_/\`ac0/\`Ax K fd ps us/\`p6/\∀H B,Rps K H B dd vs,`aH Obj->`dy,`i `am A (`adx a) Q E s,by rw[ho];exact h,λ_ _ _=>h',A0 `aRL,`i _ _ (`adx ((a:Int).toNat)>>=_) _ _ _,List.forIn_toArray,(`aRR),(`aRT),A0 `aRV,h₄.objs.size,λo e=>`m2,A1 (hQ _ hk),`gu h z TI TO `aj,as[j]?=`nm,ys[j]?=`d8,ZG xs ys S h as,g.pairs j a hj,ZSt h z TI TO i1 i2 l1 l2 S xs ys i,ZLow z TI TO i1 i2 l1 l2 S,hk _ _ (A6 L.z) hz,ZSt `P z TI TO i1 i2 l1 l2 S xs ys i,`u5->`B!->`adK,λc o c1 _ c3 c4 e=>hk c o c1 c3 c4 e,xs[i]?=`b∨ys[i]?=`b,∀h',`B!->`NM,`a `aRW,acc.toList=`qa,"list.extend.loop",E5 F.entry_extend_loop ?_,`u8 y3 _,`i _ `bz (`p! `fG>>=_) _ _ _,λj a hj=>?_,(`NN `adL),acc.push `adL,(as++[`d1]),(`aRX),∀S,S≠z->S≠i1->S≠i2->ZSt `P z TI TO i1 i2 l1 l2 S xs ys 0,ZLow z TI TO i1 i2 l1 l2 `A,∃f0,`gu `P z TI TO f0,Pc0 xs ys lo s h' as,`A<`nb,F.plain_list_iadd,{ s with heap:=`NO },(`e8 (`NN `ik)),List.Pairwise.nil,{ cls:=`cW,data:=`a' `adM },codeAny_of_tree ?_,F.plain_tuple_new,A.in1.handled=`b,(`aRY),
call_zip_2,λo e=>hk _ o e,F.entry_object_init,F.args_object_init_2 obj _,upd `u! p.1 p.2 b,by rw[`adO];exact q,by rw[F c `adN];exact q,gr0 X (`aZ T1) (`aZ T2) r,`bn x1=`b,`bn x2=`b,`dF x1=`a (`aZ T1),`dF x2=`a (`aZ T2),x1 ≠`ts,(x1==`jr)=`m,x2 ≠`ts,(x2==`jr)=`m,`ce [`NQ] `v=`adP::`li,(`d2 pos2 (`tB)).any `bG=`m,(`aR1),(`NR).map `u?,ps[j]?=`a p,by simp[xb0] at h,xb0 as (xs.zip ys),(`Ca).map `u?,∀b o,b∉fp->`B1,(upd H `A `vc),upd H `A `vc b=`b,{ s with heap:=`eZ `adR,toks:=t' },`NS/\`h7/\`NT,∀ys,`NS->`NT,`NS/\(`LW∨`fy<=i),H'=`aR2,(`aR4),⟨old,k e `T _ he⟩,λo x=>k it `T o x,⟨_,x,rfl,`fx,rfl,`adS⟩,⟨_,by simpa using b1⟩,a2.at `adT,vs=[`a9,`m'],(`aR8),(Itz K a b),`dF `fv=`a `u',`Cc `aR!,d6 (s:=`adV) hz ?_,⟨`NV,F⟩,(K1 ds).length=`e',by unfold K1;simp[`qc],⟨q1,rfl,`adW,`adX⟩,⟨us,us[i],`vd,`qd⟩,⟨Z3 ht,`w [`il,ds[i]],by unfold K1;simp[hi],`NW⟩,⟨us,`vd,hi⟩,∀a,B a->`nk∨(∃xs,`Bg)∨∃ks xs,`acr,by rw[o8] at r ⊢;exact r,`q (`o ⟨xs,`adZ⟩),`ad_=`m,(X0 s x t),call_gives,vj0 `P z TI TO v0 f,∀Q':`jW,`ad0->`i `am A (`B3) Q' E s,`d! h' TO x y,A0 `aSg,A0 `aSi,vj0 g1 z TI TO `io f,A0 `aSm,A0 (D0 Z rfl ?_),`d! g3 TO x b,(`aSq),`d! g4 TO x b,`d! g5 TO x y,A0 (P2 `NZ),`lu=`A,by rw[e5.1,e4.1,e3.1,e2.1,e1.1],(`aSr),λc o c1 c2 c3 c4 e=>`iq _ _ c2 (`nG _ _ c4 (`gv _ _ c2 (`lt _ _ c3 (`ip _ _ c1 e)))),`ad3 i2 l2 (k2+1),`i _ _ (Builtin.SmallTypes.ownedTupleHandOut `fG `N_>>=_) _ _ _,∀c o,`p'->`ad4->g8.get? c=`ae,λc o c1 e=>`ad5 _ _ c1 (`ad6 _ _ c1 `Ch),`d! g8 `lu x y,`ad5 _ _ `N0 (`ad6 _ _ `N0 `nH),g8.objs.size=`lu+1,by rw[e8.1,e7.1,`ha],λo e=>up _ o `u0 e,λo e=>up _ o `B9 e,λc o c1 c2 c3 c4 e=>up c o c1 (keep c o c1 c2 c3 c4 e),λg2 e e2 he=>?_,(`aSw),λg4 e e4 he=>?_,(`aSE),F.slot_zip_iter,dx0 `P z TI TO,(∀(E':`Z) (A':`a5) (Q':`jW),`ad0->`i `am A' (`B3) Q' E' s)->`nI,(`aSF),`ps λE' A' Q' q=>kj0 hz q,`ps λE' A' Q' q=>kf0 hz e q,`ady z TI TO i1 i2 a b,`po i2 b i,⟨_,hz,λv z=>nomatch z⟩,⟨_,hTI,λv z=>nomatch z⟩,
⟨_,F,λv z=>nomatch z⟩,⟨_,e2,λv z=>by rw[d2] at z;cases z⟩,k z `T _ hz,k TI `T _ hTI,⟨p,q,k TO `T _ F⟩,λo e=>k i1 `T o e,h2.at λo e=>k i2 `T o e,∀{c o},`uX->c<`A,by rw[`Au Z O];exact hy,hk _ _ `Ci D.TITO `N1 `N2 hTI,⟨rfl,`Cb (t':=`a1) (fp:=`vg) hf λc o hc e=>?_⟩,`Cc `aSH,by obtain⟨_,e,_⟩:=`gw;exact `b9,λh' hz hTI O J F Y hk=>?_,y4 (s:=`adV) hz ?_,⟨_,_,O⟩,`tJ (C0 _ 4) (`pq (C0 _ 4)),`tJ (C0 _ 2) (`pq (C0 _ 2)),`tJ (C0 _ 3) (`pq (C0 _ 3)),(`ad9).length=min `e' `nJ,by rw[`F,`gt,`qc,t2.length],⟨q1,q2,rfl,`adW,⟨ws,s2.to⟩,`adX⟩,⟨us,ws,us[i],ws[i],`vd,`N3,by simp[h1],by simp[h2]⟩,t1.get (i:=i) (C3 h1),t2.get (i:=i) (C3 h2),hy ws `N3,⟨Z3 ht,`w [ds[i],es[i]],by rw[`dQ,show (ds.zip es)[i]?=`a (ds[i],es[i]) from B70.mpr ⟨C3 h1,C3 h2⟩];rfl,`NW⟩,tz0 `adY j5 (rx.mono gB) (`Cj gB),⟨us,ws,`vd,`N3,`p⟩,`tz d `P h'->Q () `ir,λh' F hs=>h _ _ ?_ hs,ps.foldl (λacc x=>`ig acc x.k x.v) kvs,"dict.update.loop",v40 X `h H it,`NH it l i,SqL X.K H l `ad',`kM+(`N6)<=`R,upd H d (.dT (`jX kvs (`vh))),`i `ac `bz (`ad! ⟨[`Q d,`As,`ew i,`aj],[]⟩) (λfin s'=>match fin with|`lp f=>`adn|`ado=>`adm/\`gm `ac A c' R s') `N7 s,A0 `aSJ,`Cb (t':=`a1) (fp:=`lw) `ad? λb o hb e=>hk _ _ `aea e,by rw[List.drop_eq_nil_iff];omega,upd H d (.dT (`jX kvs [])),A0 (A1 (A1 `B)),ps[i]?=`cc,⟨`vi,by simp[J]⟩,`LX `aSP,(`aSQ),`Cb (t':=`a1) (fp:=`lw) `ad? λb o hb e=>`nK _ _ `aea e,A0 `aSS,A0 `aSW,Z0 (uv0 ec hd `gp),(`jz+1)=((i+1:Nat):Int),by push_cast;rfl,(`aSX),⟨by rw[Z0 F];exact hf.1,hf.2⟩,(`aSY),λs' I'=>hR s' ?_,`o (`o (`aec)),`o `aS_,`vh=x::`N8,(`aS0),`M<=`R,(.dT (`aed)),x5 (Q₁:=λobj s₁=>obj=`cu/\`dM=`Cm) D70 (D80 _) D90 (kt_code_dict_new _ `hb) ?_,`Cl `Cm `fH `gq,λc o e=>by rw[Z0 (T7 e hf)];exact e,⟨hT,Db0 _ _,?_⟩,A0 `aS3,`i _ _ (`a2 (`A,[`dz l])) _ _ _,`i _ _ (Builtin.Dict.updateFrom "dict.__init__" `A `jC [] `aj) _ _ _,A0 `aS7,{ s with heap:=h1,toks:=J },A1 ⟨`N9,`N'⟩,h1.push `N!,`A<`ly,B2 (A3 a1),λs' I'=>`vj,⟨`cu,_,I',rfl,?_⟩,
N8 [] [] ds,`bk (`q r.1) r.2,⟨a,b,k,rfl,h,e⟩,_::_::`dR,Rps K H B vs ws,`aeg=ws'.length/\Rps K H B r.2 ws',⟨[],h1,`vk,ws,rfl,hl,h2⟩,pg0 (q:=k) (v:=y2) hl,Rps K H B `vl zs,`nv h2 J,by rw[q1];rfl,⟨q,ps,rfl,by rw[← q1];exact `hc,q2,by have:=`pW;rw[q1,`F] at this;omega,λl F=>?_⟩,k l _ `N? `Oa ⟨ws,j5,q4,q5.mono (`uN F)⟩,⟨u,q,`e2 `Cp⟩,`Cr=`a (`Ob),`vm `k (`Ob),env.frame=`a L,∀b,`A<=b->ok b,Noted ok (`aei) `P h',(`aS'),(h _ ?_ ?_),(((`ael).update e `Oe).update `vn (`Cs (`qf 3 ((`b:`a6).elim `ik λf=>`ew f)))).get?,(`aTc),sl.2.2 b o q,`Of _ _ nT,Obj.cls_mapFields,Lie ok `P C od e,Lie ok h' C od e->`Og,(`Ct q3).1,(`jY T (`Cs (`qf 3 `ik))).get?,K2 _ _ (B1 n),⟨_,`aem⟩,(`aTh),`i M A `Oc Q E s,oth b o z λw=>n (w▸okT),∀h',`it->lg0 X `h H h' C od e->`Og,I.afterNote,λb u q=>?_,E `dB od H',`bn c=`z0,(c==`jr)=`m,`ce [`Cu] `v=`Oh,`d2 `cg `Oh=`Oh,F.excBase_ValueError,`a (.xd [("at",`df)]),XdX K `af `ad H σ δ od n,`cB X.K `af `ad H σ δ,(`aTk),n.symm.trans,`Y P w K mg `k `Cv k fa fd ps (spX K f),`jQ=`Cx,(`aTr),XC.bmV.contains,cs.contains c=`d,`Oi K mg `gd r cs rs,`vo K mg c C `Cz,`O (c=c'),(`zX _ h2),(c'==`jr)=`m,(`m,`bp (`vp) `v),[`uO,`vp],T.all c' h',k _ _ `CA `uq,(y==`jr)=`m,[`uO,`Oj],(`Ok pn W).Ok,⟨o.mod,o.kind,o.glob,o.blt,o.above,o.inj,o.has,o.cab,o.hd,`aeq,o.stk,o.exf,o.bs,o.bsz,o.noex,o.exfs,o.funs,o.frf⟩,Inv `vq [] σ H s,Inv (`CB A) `h σ H s,e.fr j ds b h1 h2,[`aTx],PCl X r cs es ns,`bK (λ(C:`e) (n:Str)=>n∈cs/\`vo K mg n C `Cz) Cs ns,ns.any `aet,[`uO,`Ol],w60 f ds=`bb,`ld=`CD,x.cps.toList,ys[m]?=`d8,(`aTy),`qg [lo:hi] b f,Builtin.Int.intBits,by unfold Builtin.Int.intBits;split<;>omega,(`gg hj).1,eqU `CE (`J y tk),F.slot_tuple_index,ys.findIdx?,λy=>`O (y=z),`bp `Om `v,WData.weightAll,(`a7)->`pn,`L->`pn,`aTz=[],mg `On=`BC,(∀z∈ns,`iw),(`aTA),((k:Nat):Int),(`qh k++y::`nM k),`aTC K,its.toArray.extract,`bq i (.ow (`n (ds.take `g?++d::ds.drop `g?))),`ce `Oo `v,(`aTM),H x.p=`a (`w [kV x.k,x.v]),upd H d (.dK (z50 kvs (`vh))),
upd H d (.dK (z50 kvs [])),(`aTN),(`aTO),(.dK (`aew)),Inv X `h σ `nN `Cm,`gx (a:=`A) (o:=`BK) (t':=`a1) `vs `aK (ol0 `P hb),{ s with heap:=h1,toks:=F },(`aTP),(J2 a).bind,O8 [] [] ds,`i `am A (`NI `h5) Q E s,(`aTQ),`i _ _ (`uY `h5 0>>=_) _ _ s,A0 `aTS,`i _ _ (if `aey then _ else _) _ _ s,`ay (show ¬(`aey) from B7),`i _ _ (`uY `h5 1>>=_) _ _ s,A0 `aTU,`i _ _ (seqItems? `jC>>=_) _ _ s,`aTV ..,`aez it `P h',K0 ?_ (by size_fits),firstArgMember,`vt it l i,let ⟨o,e,r⟩:=x;⟨o,k o e,r⟩,h.IsTuple l `al,[`qb,`k7],(`CF).objs.size,sub_enumerate,Heap.IsTuple,⟨_,hl,rfl,n,rfl⟩,wpAny_stack_any λst=>`cw,`Oq->Q (`CG) `dI,callType_new,F.entry_enumerate_new,⟨_,A5 _ `nH,rfl,rfl⟩,λb o x=>A5 _ (A5 _ x),F.slot_enumerate_next,(`gg hu).1,(`aTW),{ s with heap:=h',toks:=tk+1 },`LQ `k3 `b ap.line `v=`tF,(`Bn `ih),Rps K H B l xs,Env K H' B σ `nP,`o ⟨v,e,`e2 (Gr.but hb hh)⟩,`Y P w K mg `k CX0 k fa fd ps (spM K me f),hf ds l l' h,(λa=>`aeF),(`CI).map,`a (.ow (`w [`c p,`j0])),RpL X.K H B d0 a,(`aTY),`n (l++[d]),"enumerate.__new__",`aeG=`d,(`CL).objs.size,Heap.IsList,((k+i:Nat):Int),(R90 K a k),`c `CM,`aeH=`aeI,(`aeI).any `bG=`m,`aT5=`m,`aT6=`d,(`CN).filterMap `bG=[`aeJ],`aT!=`aT?,λi H3 g2 hi=>?_,(by rw[hf] at h;cases h),og0 (is.map `cC),λi=>`aeO,⟨t1,t2,?_⟩,k _ H2 `ih `uq,`aUa hl,`gu `P z TI TO `aj,`aex i1 l1 k1,c90 z TO i1 i2 `P h',A0 `aUc,A0 `aUe,A0 `aUo,`gu g1 z TI TO `io,A0 `aUs,A0 `aUy,(`aUD),(`aUF),(Q20 K a b),(wkT `P l1).objs.size,(wm2 `P l1 l2).objs.size,(wm3 `P l1 l2).objs.size,up (`aeR),(`aUJ),`pK->`qj,wpS `ch A E s (ltAt' i j) Q st,b.toList.Nodup,(`aeS).mem_iff.mp `T,Cp P w A E s b κ cmp,Up cmp `c1 n,h i j x y F hjn ex ey,(`vv ex).1,(`vv eu).1,(`vv ev).1,(`aUK),Up cmp `c1 a,(`aUL),hg.el (i:=x) `g,hg.el (i:=x - 1) `g,B8 `aUN,C.to u mu v mv (hg.ne C.nd eu ev `g) hc,`CR->`qj,∀r t,`vw->1<=r->r<=m->Up cmp `iz r->Q (`bL) t,(`aUS),`Ox[i]?,C7 `aUU,B8 (`aeT (D9 `vj)),Up cmp `iz n,c=(`b,l,r),(`aUX),i<x->`aeU->cmp v z=`d,⟨rfl,l,l,rfl,F,lo,hi⟩,(g2.mem ez).1,
`aeW[i]?,`I `aeX,c=(`b,`b6)/\`OA b/\`OB/\(`vy t).size=1/\`aeY,Nat.sub_zero,Go b κ t3,`qi `OC,t2=t/\c=`CS,(`aU2),lt2 a b=`d,∃q,`vz,keyLt' `OE x y,(`aU3),(q.1==r.1),(q.2==r.2),A0 (nw0 (A1 `NZ)),`qk (pk h),∃q,`lz `P x.1 q,(`OF).toList,L3.mpr λi j hi hj F e=>?_,firstOfTuple',λu hu=>hv u `OG,λfs ns a c=>`cw,(`j1).toArray,List.mapM_toArray,(f0::fr).map λ_=>`gs `hh,`a (`aZ `hh),∀a o,`d0->`nR->`uH=`ae,pk h' v=`CV,x.all v hv,List.map_congr_left,(`lp `Nz),`a (`vA `dE #[] ep),wpAny_newList,`aU7 `ae1,Heap.get?_push_ne,size_push',∀c o,`uX->`nR->`vB c=`ae,Heap.get?_update_ne,vs.toArray.size,Array.size_map,bne_self_eq_false,L3.mpr λi j hi hj a6=>?_,pairsOf (`j1),(`nQ).size,(`ae2).push `ae3,(`aU8),U2 `g `g,l.Pairwise,`nC a∈ys,pk `P v,(λv h=>by cases h),out.toList,`w `CX,`a (`n ((`ql).map pD)),PrV H zs qs,`dF `lA=`a `OJ,(by rw[`ae6];simp),[`J p.1,p.2],`w [`OL,`J w],R6 `bs noT `c2 `CZ `hi=`ae7,(`aU!),⟨[`ae8],rfl,rfl,rfl⟩,"abcdefghijklmnopqrstuvwxyz0123456789",by rw[hl];omega,(ones l).foldl,`ae9++`OO++#[c],(⟨_⟩:Str),((ones l).map `aco).sum,(`aVa),(`aVf),(`aVg),(o2 `V `an `OP),(`aVh),(z9 `C2 v6),(`aVk),(R0 1 `qo),(`aVo),(R0 2 `qq),(`aVu),(V0 (uy0 4) `ho),(`aVE),(`aVF),(`aVK),(`aVP),(`aVW),(`aV7),`c 65521,(`aWd),(`aWf),(ob (`afl)),(`aWu),(ob `afm),(`aWx),(ob (`afp)),(`aWC),(`aWJ),(`aWN),(dh0 5 `aQ),(`aW5),(`aXj),(`aXm),(`aXn),(`aXs),(V0 (uy0 5) `j4),(`aXw),(`aXy),(Y0 `afz),(`aXJ),(`aXQ),(`aXV),(W5 `dT),(`aXX),(`aX6),(oA `iA V4),Z9 1 [] (anyI `an) `bs `qu `c2,`c 48271,`c 69621,`c 2147483647,(`aX9),(`aX!),(`aYa),(`aYb),(`aYf),"abcdefghijklmnopqrstuvwxyz0123456789 ",(gc (`O1)),(`aYL),(`aYN),(`aYV),(`aY?),(`aZw),(`aZG),oA `afL O2,(`aZX),(`aZ_),(`aZ1),(`aZ2),(`aZ3),(`aZ4),(`aZ?),(`a_b),(`a_j),(`a_x),(`a_A),(`a_M),(`a0g),(`a0o),(`a0w),(`a0D),(`a0K),"_law_more",(z9 `vT v6),(`a0Z),(`a04),(`a1i),(`a1r),(`a1B),(`a1J),(`a1Q),(`a1Y),(`a10),"_law_old","_law_new",X4 rfl (v9 (δ':=[`nX]) `aR (Y4 `af8)),X4 rfl (v9 (δ':=`vY) `aR `af9),Y9 (items:=`j2) rfl `Pe (g00 ps),
X4 rfl (v9 (δ':=`qD) `aR `af'),Y9 (items:=`j2) rfl `Pe (i80 ps),(`a14),(`a16),(`a18),(j8 (d:=`Ph) ?_),by unfold lean;rfl,by unfold lean at h;unfold deq;exact ro0 ds n h,lb0 _ _ h1 h2 h,`I ⟨h,h⟩,by unfold nb;rfl,(`w `af!),K6 `dL (`d6)=`M8,sliceText _ _ _=_,⟨h0,by rw[vs0];exact h1⟩,`v_+`Pi<=`R,K3 `ez=`Pc,Y9 (items:=`j2) rfl `Pe (ly0 ps),`Di∨x∈S,Dfs adj S (c+1) o (x::T) r,(`nZ).length,x<n/\`Dj,ih o T `g `g ho F `Pj,vis adj S q k o=`bL,q90 (λo j r e=>g60 q j o r e) _ _ _ e,`j7 ho (m:=`v0) `aga,⟨q - 1,`p⟩,`j7 Y (m:=`v0) λy hy=>`j6 (J y hy),vis adj S q x [],(λy hy=>by cases hy),Wb.length=n,`Pk/\∀v∈vs,`Pl,List.map_reverse,`O (`Di),List.any_map,`n_->`Dk->`agd,⟨ho,hon⟩,oA `Pm K3,ixD W (`il)=`bb,⟨`v3,?_,e⟩,0<`M/\`M<=60,`w `n0,ixD `dj (`il),ps[i].vals,R6 `bs `qu `c2 `CZ vs,(nd (`lM)),`a (`n (nd (`qG))),`n (`Pq),`Dh `cf=vs,o30 p _ (`Dm),S.foldl (λa x=>`Pr) a,List.foldl_cons,List.mem_append,(`Ps).length,`a (.nx (`Do)),nd (x::T).reverse,List.getLast?_concat,List.dropLast_concat,T9 `Dp `v7,⟨s,?_⟩,MB `Pt,[`cl,k,l,`Pu,`agh,`Dq,`lN],by rw[ue0,`bS F],U6 `Dp `v7,V6 `Dp (nd U++td o) `v7 `vL,`a (.nx (`agi)),nd (`lJ).reverse,List.reverse_append,Dfs (v30 `dj) S c [] [x] r,B9 (lp0 _) q.few,∃s,r=o++s,`v8∨j∈S,⟨[],(i6 o).symm⟩,λi hi j hj=>?_,⟨x::s,by rw[e,`fN];rfl⟩,List.idxOf_cons,beq_false_of_ne e,`as=`a `qK,by unfold ob;rw[h];rfl,`v9 ⟨q,hq,rfl⟩,lp ps h.lv,M0 _ `f,M1 _ `f,Int.mul_le_mul,Int.mul_assoc,Int.mul_nonneg,zy0 [`a_,`iC]=`a `qM,o2 `afH `O6 b8 (`cF::`Px),⟨0,`agn⟩,by rw[hw];simp,[`n (`ago `J)],`agp id (ones w),su0 (`ago `iJ)=`a (ones w),`a2e=0,`bU (F k),(j8 (d:=`fO) ?_),`I (by rw[zk0,wl];omega),`J (`bU (w.drop a)),[`ags],2 ^ (m+1)=`Dz*2,Nat.pow_succ 2 m,(bs n).length<=301,N2 (Nat.div_le_self _ _) h,[a,`Pz,`agt],((r/128:Nat):Int),Q5 [`lP]=`a (`n ((bs n).map `c)),((n/128:Nat):Int),v9 e `hs,(2:Nat) ^ 252,(2:Nat) ^ 250,uj0 [`j_]=`a (`agv),`a (`O (z<0))=_,((`we:Nat):Int),ze0 [`ht]=`a (`agx),`cO+e.length<=`R,Y0 (yk0 i g) δ,
(∀d∈`al,ok d),N7 f G `al `PB,⟨s,rfl⟩,N7 f G `al δ',λe he=>?_,`PC↔`DC,⟨k,h,`PD⟩,`w [_,`a4],(`g4,`h9),`a2h e,`wh=`d/\`gA w=`d,O6 [`wi]=`a (.bl (`qO)),`a (`qO),o4 (ds:=[`wi]) rfl,`X hb.1 `T,`X hb.2 `T,Q3 `agz=`a (`PG),Z1 rfl (m7 (Z7 (Z4 `DD `qP))),o4 (ds:=`agz) rfl,⟨`gD,`gD⟩,v9 (δ':=`agA) ?_ rfl,v9 (δ':=`qQ) ?_ rfl,vg0 (`PH) (xn0 `agC),(`a2j),p6 (x:=`cE) (y:=`DH) rfl rfl,p6 (x:=`iK) (y:=`PI) rfl rfl,o4 (ds:=[P.d]) `agD,o4 (ds:=[R.d]) (`x (g2 _) rfl),(`a2m),(hn _).trans,(`a2n),`c `agE,`a2s=_,yh0 `ez=`a (`agG),yp0 `ez=`a (`agH),(`lR).length,(`DM j).flatMap two,[a,.ow (`n pre),s],zd0 `ez=`a (`n (`j')),[`iE,.un,.un],[`iE,`hx,.un],(`a2v),[`iF,.un,.un],d.1.length<=20/\Vb d.2,(`a2w),fz0 h2 λs hs=>h3 s (D6 _ hs),(`a2x),∃z,Z6 [`fQ,`df]=`a `DB/\`iw,`a2E=_,(Bg0 (B2 e)).mpr,(`DN).natAbs,`c (`PM),`a (`PN),`fb/\k<=100,∃v,X8 [`a_,`df,`iM]=`bo/\`DO,`a2G=_,.lk _ `g,`a2H=_,`Dv _ _ hm.1,`c _ (B4 (m:=1000) `g `f),`a2J=_,`DN*`PM,`DQ `g4 "",V9 c 1 `f `f,V9 c 2 `f `f,V9 c 3 `f `f,∀δ:Ds,o2 `agL `agM ixD (`Px)=`agN,`n [`c3,`ck,`gz,`j3,`gz,`ck,`lC,`iC],`c (`j?),o4 (ds:=[`a_,`gz]) rfl,⟨1,`p,F 1 rfl⟩,⟨2,`p,F 2 rfl⟩,o4 (ds:=[`a_,`ck]) rfl,o2 `bt `afF ixD (`cF::`W::`DS::δ),`J ⟨#[f j]⟩,`a2K=_,o4 (ds:=[`a_,`j3]) rfl,X8 `a2L,`a2O=_,[`W,`bO,`j!,`wm,`ka,.un,`iG,`DW,.un],[`W,`bO,`j!,`wm,`ka,.un,`iG,`DW,`PQ],by show `iN;omega,λv hv=>(pv v hv).1,by show `qB<=12;rw[`F];omega,λv hv=>(pv v hv).2,`a2P=_,oA `afL O2 (`aN::`fR::`PR::`ka::`bO::δ),(j8 (d:=`iI) ?_),[W,`df,`n od],(`a2T),(Y0 (is0 2 `an)),(`a2W),(`a2X),[`gE, `lT, `DY, "_law_other"],(R0 2 `qo),(`a2Y),[`gE, `lT, `DY, `C', `hq, `PU, `qv, `PV],mkF 2 K9 y40,j4 q [W,`dg,`v4],⟨s3,rfl⟩,CB `DZ [`cl,K,`PX,`cF],[`cl,K,.ow (`nO p (nd o1)),`cF],N7 `b! `PY `PZ δ',∀ds l l',j4 `qV `Os=`CJ->`P_=3/\∀p,(`pt/\`agU=`P0)∨(`m=`m/\∃δ',`agU=`dO/\`P1),[`cl,`aN,.ow (`nO p `qI),s3],j4 0 ds=`b,λ(k:Nat)=>(`hZ `cL:X5),λs=>`P2,(`P3:X5),(`O (`lV)),T9 `qW `D0,`agZ `ag_,ji0 `ag0,`a (.bl (`O (j∉B))),(`a3Y),(`a3Z),`c `ag3,
yb0 `qW (nd (`b5 `wo)) `D0,gh0 `ag_,`c `ag4,[`ht,`qX],Bw.Wo0 _ _ `g,[`P6,.sh X],`c ((`ag6:Nat):Int),(`P7 - 1 - `ag4),f a=f b->a=b,Dfs adj [] c o T r,(`wq).length=`aL,`aL<=`M,`j7 m.nd (m:=`D7) λy hy=>`j6 (m.lt y hy),K22.yi0 h f D' hd,[`cE,`c3,`M3],nd (`iu 0 j),List.take_append_drop,`a `Dx,[(`n7).d,`P8],N5 h `qZ,[`ag,`ws,`D',.ow (nums r 0),.un,.un],(srt (`fS zz)).map,(`fS zz).map,[`fT,d,`iO,`qX],(`a33),4*fold x+1,(`a34),`a (`O (j∉B)),(`a35),(j8 (d:=p.d) ?_),p6 (x:=`fT) (y:=`dg) rfl rfl,if `lV then T else T++[s],(st ps o B T W s),`c (`wo:Int),(`a37),(9000000:Nat)<=`R,(`a38),`P!++[d],v9 (δ':=st ps (o++hb ps B T `z) B T W (`P9)) ?_ rfl,v9 (δ':=st ps (o++hb ps B T `v') B T W (`l0)) ?_ rfl,nB B `hu=if `iR then B else `n8,by unfold nB;simp only[`aF],nW ps B W `hu=if `iR then W else its `Ea++W,by unfold nW;simp only[`aF],v9 (δ':=`ahb) ?_ rfl,v9 (δ':=`ahc) ?_ rfl,∀s:Str,`j9->P `iP,(`a39),λs h=>hn s (D6 _ h),((`Qa).vals v hv),o++pk ps f B T W,⟨`p,B,T,s,?_⟩,⟨`ahe,`Qb,hn,F,J⟩,`ex λp=>(p.1,f p.2),(`lR).map,(`Qc).vals=`Pn `n9,⟨?_,rfl,rfl,?_,hv,?_⟩,(`Ec).length=`M,l20 `n9 (`ww) ps,(`Ec).map `bG,`fM++[c],0<`bA/\`kb,ib0 `gF (`l1),show lkv `gF `Ed=lkd (ix L i) from gx0 _ _,mn0 (hc k hk i `ahf),(`eB).vals,`cL*b+ws `e0 l,(`b5 `cO).map,(`n').getD,wg0 1 `Qf,o4 (ds:=[`fT]) rfl,`w [`hd,`eC],`ahg=`Qg,by simp[`ec,hj],X7 `ez=`Pc,∀j:Nat,v=lkd j->j∈L,U5 [v,`n!]=`ahi,V5 `Ef=`ahj,`a (`qU),(`a4c),`w [`vK],`w [`Ph],nd (`iS p++k::`Qh),(`q_).take,(`q_).drop,(`ahl:Int),(p:Int).toNat,List.getElem_range,[W,`W,`ahm,s3,s4,s5],`iS p++`eD::`Qh,.ow `a4e,.ow `a4k,n80 `a4p,L[j]?=`fU,[a,b,c,s3,`kd,e],.ow `a4q,`iS `eD=`iS j++[k],by rw[`wy,hk];rfl,(ig0 hn hk),[.sh v,`cG],`oc _ w2 v hv,`q (`q ⟨j,rfl,hk j rfl⟩),.ow `a4u,[`b7,`W,`fd,F,`cG,`hx],`a4v=`a4w,by rw[`wy,hk,`bl];rfl,(`a4x),by rw[e1];rfl,p6 (x:=`fT) (y:=`cM) rfl rfl,(`a4y),(`a4B),(`lL).length,o4 (ds:=[`Ql]) rfl,`a (`e9 _)=`a (`e9 ((`ahp).map `eA)),[`nX,.sh (`Qm)],by have:`q3:=hl;rwa [L4] at this,
v9 (j8 (d:=`n (`ex λq:`qm=>q.2)) (Y9 (items:=`j2) rfl `gC (io0 ps))) rfl,(`ke v hv),sp0 (`eB) (`Eg),⟨0,o,`U o,ho,F⟩,`ahq=`a `hz,`n (nd []),[a,b,c,`kd,s,e,f,g],⟨s7,?_⟩,[a,b,c,`cG,d,e,.sh `Qn,s7],by have:`q3:=F;rwa [L4] at this,⟨`Qp,?_⟩,v9 (j8 (d:=`aht) (Y9 (items:=`j2) rfl `gC (d00 hv hl))) (v9 (j8 ?_) rfl),`w [`w `Qo],S5 [`fT,`fO]=`ahu,`j7 b2 (m:=`D7) λy hy=>`j6 (hL y hy),[`b7,`cN,`fd,`cG,s4,`hx,.un,.un],Nat->`cP,if `Qq then `Ei else L,Nat->`_->`_,(`iT).Nodup,(`iU).Nodup,b60 L hv hw hb,(∀q∈zs,Lv n q.1/\Lv m q.2),λx hx=>hz x (A9 _ hx),(wk ps qs k a L),by rw[ue0,`fV],yc0 g1 g2 δ,g1 δ=`dk,`O (i∉`iT),[.sh one,.sh `iV,`q4,.sh (`El),.sh (`Em),`cN,`En,`DE],`O (j∉`iU),(`a4D),(`a4E),N7 `n4 FB _ δ',`c `Qr,(`a4G),(`a4H),`wB p (E4 e),(`a4I),(wi0 hp hq),λp=>`O (`PH),`a (`ahw),`fS λp=>`e9 `ahv,`I `gC,`b8->`N,(E20 _ E30),(`Ep:Int),[a,b,`ag,`c6,`q4,.sh (`wC)],`n ((upf ps qs (`l2)).map pN),tx0 `q5=`a (`n ((`wD).map pN)),(zo0 hp mp).1,`n ((`Qv).map pN),o4 (ds:=[`iK]) rfl,`a4K `g,ih `a4L,(`a4M),tp ps `wE,(`Dg).length<=20,`Dh `bG,Ua.o10 _ _ (by rw[`F];have:`wF:=hl;rw[`B,`F]),(gc (`iM)),`Dv _ _ hm,(`a4O),(`a4P),[`nX,`W,`bO,`wG],(`ahA),o80 _ _ `g,(`Qx).length,[`iE,`W,`bO,`wG],Lk `bN v,Lk (`bN+1) v,`I ⟨`ahC,`ahC⟩,(`vS 7 CI),List.map_set,(`a4R),((`l3).length:Int),⟨`aq,`q6,`l4,`c_⟩,by show 2<=20;decide,by show 2<=12;decide,(`ahE).length,`QC i (`QD),cs W NM c (`QE) j x a (`wI),((`QE).length:Int),(`a4T),(Km.ty0 hq).1,cs W `qM c `Et `br x a s7',[`cl,`W,`bO,`Eu,`cF,`l0,`cN,`Ev],[`cE,`a_,`iI],R9 0 (x%4),[`ag,`W,`bO,.ow (`n `n0),.un,.un,.un,.un],`O (c0%8=5),[`fR,`ag,`bO,`W,.sh (wd q0)],W9 (by rw[t,`fX]),j6 (by rw[t,`fV]),(j8 (d:=`a_) ?_),`c (`ahF),p.2∉`eE,(`a4U),(`a4V),λp=>`w `ahH,`w [`lD,`Ey],(zo0 Wp mp).1,(zo0 Wq mq).1,`n (rows M `fW),o4 (ds:=`q5) rfl,O8 [] [] (`ahI),[`aN,.sh `ahJ,.sh `QG],upf ps qs `q7,(J p).mpr h,Va.qo0 hp hq (`ahK).1 (`ahK).2 q O,((`Eo).map Ta.zz),λj=>`QH,kk M `cy,List.filter_append,by have:=C6 `Ez e;rwa [L4,L4] at this,
⟨by show `qB=(`Er `cf).length;rw[`F,`F,el],?_⟩,(`Df (`Er `cf)),(`q8).vals,i∈sn `EA,(`q9).vals,⟨ok,λi z=>by cases z⟩,`X ok (by intro z;cases z),`uj=`a (h j),R6 f gt ge δ (`d9 r),`a (`QH),(`a4X),(`a4_),[a,b,`kd,s3,s4,f],[a,b,.ow (sd (kk M j)),`cF,.sh (`EC),f],Cl `lY Q M,(`a5b),.sh (sd `wJ),Q.map `eA,(`b5 `QL).map,λj=>(pa Q j).d,(pa `lY (`l5)).d,(`a5d),(`a5z),(`a5B),(`a6a),(`a6b),(`a6e),(`a6m),(`a6K),(`a62),(`a7b),List.drop_of_length_le,[`ag,`W,`wL,`aN,`ED,`cF,s6'],v9 (δ':=[`ag,`W,.ow (wl (L++[`EE])),`aN,`Ev,`cF,`QV]) ?_ rfl,`n (p.vals.drop `eD),(`a7f),`w ((`lL).drop `e0),R9 0 (`ah6:Int),List.length_tail,`wu p (hm p hp),`oc p (hm p hp) v hv,[`ag,`W,.un,.un,.un,.un,.un],(`a7j),λG=>v9 a1 (`ah!),R9 0 `q2,[`ag,`W,.ow (wl [w,`QX]),.un,.un,.un,.un],`a (.ex c m δ'),by unfold xr0;rw[h],ifZ g1 Ga Gb δ,by unfold ifZ;rw[h];rfl,`c (mk w),(`a7l),`a (`ah?),[`QY,`l7,.un,.un,.un,.un],[`ag,`l7,.un,.un,.un,.un],[`cl,.sh S,`P9,.un],[`cl,.sh S,`ah?,.un],pl0 `wO=`wP,SL `a7n,[`iK,`c3],mk w=`EG,"MARK_BASE",FnN P w K mg `k `EJ 1 `bB z60,(`a7u),(`a7G),(`a7J),(`a7L),(`a7N),[`C_, `oh],(`a7T),FnD P w K mg `k `EM 3 `Q2 G5,[`hl, `hp, `oh],C_relinked,(`a7U),(p7 `dl u5),FnD P w K mg `k `EO 1 `l! O6,FnD P w K mg `k `EP 1 `l! Q3,(`a7Y),(`a70),C_are_links,C_linked_pair,(O5 u5 `ah),FnD P w K mg `k `EQ 1 `l? zq0,(Z2 (w6 m8 `hB)),(`a75),(p7 `cH u5),FnN P w K mg `k `ER 1 `oi Q5,FnN P w K mg `k `ES 1 `ET ze0,(`a78),C_sign_bytes,Yj0 K mg "KINDS" `Q4,(`a79),(`a7'),(o5 4 `EU),(`a8c),(`a8d),(`a8g),[`q!, `l9, `l', `EN],[`qn, "byte"],["k", `hl, `aif],(`a8h),(`a8i),`Oi K mg `aig rr `rb `aih,[`vE, `oh, "base"],(O5 u5 `aA),(`a8l),(`a8p),[`hq, `c4, `EY, `ail, `lT],(P0 `eF),(`a8u),FnD P w K mg `k `EZ 2 `Q' X8,(d9 u5 `ah),[`hq, `c4, `kh],C__law_one_value,[`hq, `iX, `qw, `aim],FnN P w K mg `k `E1 2 `Q? zy0,C__law_pool,[`hq, `lE, `Q!, `kh, `iX],(`a8y),K5 mp (z40 G8 ds p l),C__law_come,FnD P w K mg `k `E3 1 `ok U5,(o5 4 `rc),(`a8C),(`a8F),[`aip, `vO, `C'],(`a8I),[`E2, `vO],(`a8P),(`a8S),(pe0 3 `hE),(`a8V),
(`a8_),(w6 `wX v8),(`a83),C__law_built,(`a88),FnD P w K mg `k `E' 64 `Rf S5,C__law_drawn,(spD K pl0),C__law_others,Fun K x x st f fd,∀(kV doc pm:`t) (an:`a6) (cdv ct u:`t),`re `wY `ab6=`a2 (`m6 [u]),⟨f,fd,o,`E!,`E?,`Fa λ_ _ _ _ _ _ us h=>by obtain⟨u,rfl⟩:=us1 `Fb;exact b _ _ _ _ _ _ _⟩,∀(kV doc pm:`t) (an:`a6) (cdv ct u v:`t),`re `wY ⟨[u,v],[]⟩=`a2 (`m6 [u,v]),⟨f,fd,o,`E!,`E?,`Fa λ_ _ _ _ _ _ us h=>by obtain⟨u,v,rfl⟩:=us2 `Fb;exact b _ _ _ _ _ _ _ _⟩,∀(kV doc pm:`t) (an:`a6) (cdv ct u v w:`t),`re `wY ⟨[u,v,w],[]⟩=`a2 (`m6 [u,v,w]),⟨f,fd,o,`E!,`E?,`Fa λ_ _ _ _ _ _ us h=>by obtain⟨u,v,w,rfl⟩:=us3 `Fb;exact b _ _ _ _ _ _ _ _ _⟩,∀(kV doc pm:`t) (an:`a6) (cdv ct u v w y:`t),`re `wY ⟨`aiv,[]⟩=`a2 (`m6 `aiv),⟨f,fd,o,`E!,`E?,`Fa λ_ _ _ _ _ _ us h=>by obtain⟨u,v,w,y,rfl⟩:=us4 `Fb;exact b _ _ _ _ _ _ _ _ _ _⟩,`c 0 tt5_0,`c 0 tt8_0,(`Q f47),`m9 `om `om (R5 `wZ) (W3 `wZ) (t7 `wZ) `aj kV47 dc47 pm47 an47 cd47 ct47,Zc0 F5 T e3,`aiw X rfl t5 rfl rfl rfl,us1 `a8',by repeat (first|exact `U|refine `ak (by first|exact`au|rfl) ?_),λH B=>by simp[o7,o8,n6,U8],jw0 F8 T m3 b1,`aiw X rfl t8 rfl rfl rfl,m1.binds (ps:=`on) λ_ _ _ _ _ _ us hl=>by obtain⟨_,_,_,rfl⟩:=us3 hl;rfl,`d_ (`o!),`dA `aaO,λP' w' A' R s' hs=>?_,Ws.any `aaR,`d_ `aaS,(λq=>nomatch q),show `gS=`pe from x,(`aOe),λc v _ q=>k c v q,(hm b _ q λz=>z),(s80 h H).get?,X.s₀.heap.get?,by simp[z],λb ps e=>⟨#[],`aa'⟩,`Ae==.module&&`eV != `LL,(`aOm),`Ae==.class||`aOn,(`aOo),TP X `h σ Q,by rw[I.ok.glob];exact `abf,h `h s σ H Q I hw,h `h s σ H _ I hw,`m_ .And [a] pos,ha `h s σ H Q I h,(`aOv),thn `aOw λc s1 e=>?_,λc s1 ⟨H1,I1,q1⟩=>?_,thn `tC `aOy,`m_ .Or (`LN) pos,.IfExp c a b pos,hc `h s σ H _ I h,(`aOC),λd s1 ⟨H1,I1,q1⟩=>?_,thn `aOD `aOE,∃σ' H',`kY/\`abl,λ_ s'=>`aOG,`tH o i pos,hi `h s1 σ H1 _ I1 q1,`Aq [tg] e pos,.While c `eX [] pos,by rw[z];exact hb,`abo tg `h5 u,PIE X `h σ tg R,"dict_itemiterator","dict_reverseitemiterator","odict_iterator",
"itertools.zip_longest","itertools.pairwise",[`d5, `fv, `aOP, `aOQ, `aOR, `aOS, `aOT].contains,(sb.2 b hb).trans,`aOV e,λb o hb e=>`aOW,SqL K H1 a xs,∃xs,`aOY,SqT K H1 a xs,∃xs,`aO_,`a! `pd p,`bi `abt [a] [] pos,ha pos `h s σ H _ I h,E6 (`L6) hs rfl,`bi `abt `h8 [] pos,by rw[hs,hs2],by rw[hs2];rfl,(`aO6),(`aO7),E6 (`L6) `aO8 `aO9,.For tg `k_ `eX [] pos,(D7 _ (vt0 hb e)),D7 _ `aO?,hb `h s1 σ H1 _ I1 q1,ho `h s2 σ H2 x y v u Q I2 rx ry q,λv u s2 x y H2 I2 rx ry q=>`aPc,W80 ha hb I h `aPd,intBits_le_64 h1 h2,λ_ _ _ _ _ _ _ hc q=>mul_int q hc.ok,.bl (`O (x=`z)),(`aPh),Q `aPi H,y=`z/\`aPj,λx y H Q=>`aPk,`Aw∨r' x y H Q,λx y H Q=>`aPm,xs=[`a4]/\Q `dL H,∃i,`aPo,xs=[`tQ]/\Q (`L') H,(`aPp),∃k,`aPq,`aPr∨`aPs,λxs H Q=>`aPt,(x.cps.getD 0 0:Nat),`c `aPv,(`aPw),Q `aPx H,`tR=1/\`aPy,xs=[`es]/\`aPz,∃x,`aPA,λxs H Q=>`aPB,h pos `h s σ H _ I hq,by rw[← `aL];exact z,⟨`aPE,?_⟩,(`aPD),λus s1 ⟨xs,H1,I1,r,z,q⟩=>`aPF,thn `aPG `aPH,.List es pos,vw0 I hg hm ?_ hdb,(`aPK),∀v,(x,v)∉binds,x.above y c (L5 h),(`aPN),`m9 name `cX params `eX `cY dV kV doc pm an cdv ct,wo0 CX P w K mg `k N `cX `cY f cdv A `b0 s H E,z80 I hg hm hv ?_ hn hdb,(`aPR),λus s1 ⟨vs,H1,I1,r1,q1⟩=>`abM,thn `L5 `aPT,by simpa using hv,if v<0 then max (v+`bH) 0 else min v `bH,wpAny_sequenceKey,`aPX `m? `f ?_,(`aPY),args_tuple_getitem,`aP_ _ _,entry_tuple_getitem,(`aP0),D8 W1 `m? `aP1 ?_ `aP2,tupleItemsOf_ ht ?_,(`aP4),(uh0 hs pl pu ?_),⟨_,rfl,A1 h⟩,A1 `aP7,A1 `Mi,.Slice lo hi `b p2,`tH e `abT pos,by rw[F];exact hw,by rw[hj];simpa using ew,by rw[`a?]<;>omega,xs.set j v,`n `ab_,upd H p `ab0,by rw[hk];exact⟨_,I',q⟩,sk0 rx fx r fs w `AL,λw hw=>`aQg,F its r' hz h' c' kp e,λh' c' kp e=>`aQi,λv s1 ⟨x,H1,I1,r1,ty,q1⟩=>?_,thn `AQ `aQk,λv _=>v=`jF,s'.os=s₁.os/\`AW,OldK `pE `k1/\`aQn,r=.ok (`dA `t9)/\`aQo,λr s'=>`aQp,`aa5 n==`h0,`acb&&`aQr,⟨`A5,`k_,ifs,0⟩,[`aQt],`acd elt `aQu `cY pos,J.stop i H2/\Q `nf H2,(`MB&&`ach&&`aci),`aQx=`d,if `aQy then `ua else k,λk=>`aQz,
(`pw x).map `aQA,by rw[hsc];exact z,by show `Ac x.1=_;rw[hsc];exact z,`Aq [`A!] `k8 spos,`J (`acp sep ys),`d9 λa=>`J (h a),(`aQG),sm0 a C od,(`aQI),.ext `aQJ,`a `act,by simpa using hl,tDT X.K B δ g,q σ H Q z,tDS X.K `af `ad δ G,by simpa using z,hg cl s _ ex B d δ `h s' σ H v u Q I r h,λcl s H ex pins s' σ H v u Q I r ⟨B,d,δ,h⟩=>`aQR,ht cl s _ ex B δ `h s' σ H Q I h,λcl s H ex pins s' σ H Q I ⟨B,δ,h⟩=>`aQT,he cl s _ ex B δ `h s' σ H Q I h,λcl s H ex pins s' σ H Q I ⟨B,δ,h⟩=>`aQV,d=`z/\∃δ,`jQ=`Bt,(`aQX),`aQY∨`MW,`acQ∨`aQZ,`J (`pU z lo hi),show u=`jR from ru,`n (xs++zs),[e].length+`uC+`uD,`aQ3<30,(`aQ4),.Dict [] [] pos,h1.symm.trans,if `BE then (kv.1,y) else kv,λkv=>`aQ8,kvs.map `aQ9,by rw[l];exact `Nd,by rw[e];exact `ns,(`BL:`bT).length,`aRa+`uC,`aRb+`uD,`aRc<30,(`aRd),s=`pX/\o'=`nn,∃d,`aRf,`jE `e6 `adb `h!,(`aRh),`bi `aRi [e] [] `cg,T4 `b4 J7 hs,upd H1 a (`n (`Nm)),`tH `e6 e pos,rv.same s1,ih m' d e x y u w `bz a2 h1 h2 h3 h4 h5 h6,λd e x y u w h1 h2 h3 h4 h5 h6=>`aRo,sq0 a1 Z rr J rv O `aRp,by rw[s1,s2,hl],by rw[s1,s2];simpa using hl,beq_eq_false_iff_ne.mpr,`m5 a .Add b pos,`m5 a .Mult b pos,{ cls:=`c!,dict:=`b,data:=`a' acc' c',slots:=#[] },`gm `am A c' R s',`adm/\`aRx,match fin with|`lp f=>`adn|`ado=>`aRy,λfin s'=>`aRz,R (`adp) s',λe s'=>`aRB,(λ_=>(#[]:`aI)),`e8 `aRD,∀b o,`B1,`bi (`a! `dE p) [`NB] [] pos,`LM a [`p5] [b] pos,V6 pr.1 pr.2 q d,.dK ((`adw).zip ys),B3 hz rfl (x:=`ew a) rfl ?_,(`aRK),Builtin.«zip.__next__»,`aRM ⟨[`p8],[]⟩,`adC `lr `u0,`adD `lr `u1,(`adE `lr `B9).extBut,`aRQ `u2 `adF,(`adG `lr `u3).extBut,`aRS `u2 `u4,x8 (hsz:=`adH) ?_,(`aRU),{ cls:=`c!,dict:=`b,data:=`a' acc c,slots:=#[] },by rw[`aM,`jV];omega,`b' `u' [`NP,`Q l2],zipApart_new,`aRZ a1 a2,I.hok.lt q,`bi (`a! x1 p) [`NQ] [] pos,upd H t (`w [`il,x]),`nE h e it i old,∃old,`aR3,`gY _ (B2 le),(`aR5).trans,`aR6 a3,∃ys,SqL K H1 b ys,`a! `d5 p,z80 I hg hm rn0 `adU,(`aR'),M3 `a0 X.w,`a! `gq p,(`aSa),`bi `aSb [e] [] pos,`lf (Z3 F),
n==1||`tR==0,B3 hz rfl (x:=`Cf) rfl ?_,(`aSf),E1 hz `T λg1 O e1=>?_,(`aSh),`adC `ip `u0,`adD `ip `u1,S3 `ad1 `ad2 hx λg2 a1 e2=>`cw,(`aSl),(`adG `ip `u3).extBut,`aSn `lt `u4,(`aSo).extBut,`aSp `gv `NY,`gv _ _ `Cg (`lt _ _ `vf O),`ip _ _ c1 x,e2 _ _ c3 `ad7,(`aSt),`gv _ _ c1 `aSu,λc o c1 _ c3 _ x=>`aSv,`lt _ _ c3 `ad7,(`aSx),`gv _ _ c2 `aSy,(`aSz),e4 _ _ c4 `aSA,(`aSB),`iq _ _ c1 `aSC,λc o c1 c2 c3 c4 x=>`aSD,λQ' q=>hf _ _ Q' q,z80 I hg hm boot_zip `ad8,(`aSG),Af0 hh O `fI `lv λh' hk=>?_,(`aSI),by rw[`qe];exact hf,λb hb=>`aSK,λz=>hb `aa9,`ad'[i]?=`a `aeb,show `aSN by rw[`dQ,hx];rfl,(`aSO),show u=`dz x.p from ru,wpAny_tryCatch ?_,(`aSR),show `Cl _ `aeb `dC from `adJ,(`aST),E8 `aSU ?_,(`aSV),upd H d (.dT `lx),by have:=zv0 kvs x.k x.v;omega,`q ⟨o',`aec⟩,(`aSZ),`ex λx:PKV=>`N4,wpAny_notOrdered_dict,`aS1 hT ?_,(`aS2),show `Cl _ `jC `dE from ⟨ol,O,Z⟩,(`aS4),E8 `aS5 ?_,(`aS6),`aej `ij `b,`i M A `Oc Q E s',λ_ s'=>`aS9,`dz `vn,(`aS!),`qf 1 `aS?,`Cs `Od,λz=>n1 (z▸oke),λz=>n1 (z▸okT),(`aTd),oth b `aTe,(`aTf).trans,`aTg h1,`bp (`Cu) `v,(`m,`aTi),tXS X `af `ad δ G,h1.go `af `ad δ,XC.Cl h C tl,`he->`aTm,∀h:`u,`aTn,`he->XC.Cl h W tw,∀h:`u,`aTp,∃tw,`aTq,za0 hi hv hd hcd,upd H a `act,b₀::suite,`a (`a! `gd np),(`aTv),.ExceptHandler `aTw (`cc) `aer hp,`iu lo (hi - lo),d.params.defaults,λf vs=>PySem.call f vs,w.params,Builtin.List.listFitsIndex,((`fA:Nat):Int),K+`aTD,(`aTE).toNat,min K.toNat `fA,if K<0 then `aTF else `aTG,`qh `g?++v::`nM `g?,(`aTI),`n `aTJ,(`aTK),upd H1 a `aTL,upd H d (.dK `lx),`ex λx:PKW=>`N4,by simp only[`ix];omega,D8 y6 `Op Dh0 ?_ (Di0 _),B3 ho hd (x:=`k7) rfl ?_,(`aTR),B3 ho hd (x:=`c i 0) rfl ?_,(`aTT),Heap.SameBut.update,by simp[hei,hea],.Expr `k3 ap,`bq i (.ow (mk l')),·.1.isNone,·.1.isSome,Builtin.SmallTypes.fitsIndex,(`aeJ),`a `aT1,⟨`aT2,b,kp⟩,(`aT3:`Mt),(`CN).any `aeL,(`CN).all `aeM,`bi `NU [a] `aeK pos,`bp `NU `v,(← `aT8),`aeN pos `aT9 [] (`aeH) (`CN),`bp `Ou `v,(do `aT'),(zj0 (q:=q) rx).2,
B3 hz rfl (x:=`B8) rfl (`vu),(`aUb),B3 hz rfl (x:=`aj) rfl `jy,(`aUd),E1 hz `T λg1 q1 e1=>?_,(`aUf),A0 `aUg,(`aUh),B3 hz rfl (x:=`Cf) rfl `aUi,(`aUj),A0 `aUk,(`aUl),D9 `aUm,(`aUn),zu0 h1 `ip `u0,t1.extBut `ip `u1,xk0 `aeP `aeQ hx λg2 j1 e2=>`cw,(`aUr),e9 p2 λg3 p3 e3=>?_,(`aUt),A0 `aUu,(`aUv),D0 p2 rfl `aUw,(`aUx),t2.extBut `ip `u3,(`aUz).extBut,`aUA `lt `u4,(`aUB).extBut,`aUC `gv `NY,(`lt _ _ `vf q1),`gv _ _ `Cg `aUE,H p=`pZ/\Q (`c `kM) H,`hg/\`aUG,∃(p:`e) (kvs:`gy),`aUH,λxs H Q=>`aUI,h i `CP x u `g `g ex eu,λx c t J O hI=>?_,`CQ _ _ _ _ _ _ hg ev eu ?_,(`aUM),(n - 0),`aUO/2,(`aUP),mirror `c1 0 n `aUQ,setArr st `Ox,k n st hg n1 n2 hu,(`aUT),`aeU->cmp z v=`d,i<l->`aUV,∀i z,`aUW,bubble `Oy x (x - l),setPending,`aUZ t3 (`aeZ),a.1=b.1/\a.2<b.2,(`aU0),a.1<b.1∨`aU1,A0 (A0 (A90 ?_)),(`vA `dC `fB 0),(`OI).push `aU4,`vA `dE #[] 0,(`aU5).push,p1.mem_iff.mp hv,λa b=>`vC,match d with|`w [_,v]=>v|_=>`z,λd=>`aU',(o2 `bt `cD gtD),ob `aU?,o2 `vH (o2 `bt `vH b8) o9,(`aVb),zf0 1 `aVc,(`aVd),Y0 `aVe,b7 `fK (o2 `bt `vH G6),o2 (oA `gB J9) `aQ u40,unG zr0 `aQ,o2 `an `c2 ym0,ob (K7 isStr `an),o2 `an `aQ ixD,yk0 1 (oA `ey yu0),(`aVm),Y0 `aVn,R0 3 `qq,oA `hn V2,(S7 `OR),o2 `aVr `cD gtD,(`aVs),ob `aVt,z9 `bM `C4,(`aVv),z9 `V `aVw,(`aVx),oA `aVy y20,(`aVz),qi0 `aVA,(`aVB),yk0 1 `aVC,Y0 `ae',ob (K7 isStr `bM),oA `iA J9,(`aVG),S7 `aVH,l40 3 `bM `OS,Y0 `ae!,z9 `bM `ey,oA `ae? zq0,(`aVM),yt0 `aVN,ob `afa,(oA `ey J9),S7 `aVQ,(`aVR),W5 `aVS,o2 `bM `aQ ixD,`ii 2 `afb,V0 `afc `afd,o2 `V `afb ixD,(`aVX),z9 `aVY v6,(`aVZ),oA `aV_ zd0,(`aV0),z9 `aV1 v6,(`aV2),oA `aV3 t00,(`aV4),yk0 4 `aV5,Y0 `afe,o2 `fL `C5 eqD,(`aV8),ob `aV9,oA `di z60,z9 `aff v6,(`aV?),oA `aWa V4,(`aWb),z9 `aWc v6,Z9 1 [] `C6 `bs noT `c2,Q7 `afg,o2 `bt `cD ixD,o2 `V `afh ixD,(`aWh),z9 `aWi v6,o2 `bt `aQ ixD,o2 `an `afi ixD,(`aWl),z9 `aWm v6,oA `afj `iB,oA `afk `iB,(`aWp),z9 `aWq v6,(`aWo),(`aWr),z9 `aWs `aWt,(oA `hn Q3),o2 `aWv `be `nU,ob `afn,o2 `dT `cD ixD,o2 `dT `aQ ixD,z9 `V (z9 `vM v6),(`aWA),j9 `aWB,z9 `V `iA,
oA `ey V2,(`aWE),S7 `aWF,o2 `bM `afq ltD,(`aWH),ob `aWI,(o2 `bt `bM ixD),yt0 `aWK,(`aWL),b7 `j4 `aWM,o2 `e! `cD ixD,o2 `V `OV ixD,(`aWP),z9 `aWQ v6,(`aWR),oA `aWS `iB,o2 `e! `aQ ixD,o2 `an `afr ixD,(`aWV),z9 `aWW v6,(`aWX),oA `aWY `iB,(`aWZ),z9 `aW_ v6,(`aWT),(`aW0),z9 `aW1 `aW2,(`aW3),q40 `aW4,o2 `C7 `cD ixD,(`aW6),o2 `aW7 `aQ ixD,o2 `OW `be `nU,ob `afs,xj0 `aft,o2 `C7 `aQ ixD,(`aW?),o2 `aXa `aQ ixD,o2 `OX `dT `nU,ob `afu,xj0 `afv,(`aW!),(`aXe),yc0 `aXf `aXg,(`aXh),yc0 (ob `afw) `aXi,zf0 2 (oA `vN Q3),(`aXk),Y0 `aXl,zt0 (oA `di `iB),oA `qr V2,(S7 `OY),o2 `aXp `cD gtD,(`aXq),ob `aXr,o2 `e! `dT `nU,(`aXt),ob `aXu,xj0 `afx,`ii 4 `e!,V0 `qs `afy,o2 `V `e! ixD,(`aXz),z9 `aXA v6,(`aXB),oA `aXC xw0,(`aXD),z9 `aXE v6,oA `afA t00,(`aXG),yk0 5 `aXH,Y0 `afB,z9 (oA `gB V4) v6,(`aXK),z9 `hm `aXL,(`aXM),j9 `aXN,(`aXO),Z5 `aXP,z9 `afC v6,(`aXR),z9 `qt `aXS,(`aXT),j9 `aXU,(o2 `an `V ixD),z9 `aXW `ey,z9 `be `hn,(`aXY),z9 `bt `aXZ,(`aX_),oA `aX0 z10,(`aX1),b7 `ho `aX2,o2 `OY `OR ltD,(`aX4),ob `aX5,oA `di y50,o2 `V `an ixD,o2 (oA `hr o6) `lG b8,(o2 `be `j5 ltD),ob `aX',(o2 `be `j5 eqD),ob `aX?,o2 (gc `OZ) `nV o90,z9 `aQ v6,z9 `V `O_,(`aYd),oA `aYe o6,z9 `aQ (z9 `iD `C!),(`aYg),z9 `ea `aYh,(`aYi),z9 `j5 `aYj,(`aYk),z9 `ea `aYl,(`aYm),z9 `aQ `aYn,(`aYo),z9 `cD `aYp,(`aYq),W8 `aYr,z9 `ea v6,z9 `V `afD,oA `afE o6,(`aYv),o2 `aYw `vQ b8,gc (`c 80),(`aYy),o2 `aYz `V o9,(`aYA),z9 `aYB v6,(`aYC),z9 `an `aYD,(`aYE),oA `aYF o6,gc (`c 37),(`aYG),(`aYH),o2 `aYI `aYJ b8,o2 `bt `afF ixD,(o2 `be `aQ eqD),ob `aYM,z9 `e! v6,z9 (gc (`c 30)) v6,(`aYP),z9 `V `aYQ,(`aYR),oA `aYS o6,(`aYT),o2 `aYU `qz b8,o2 `be `V o9,(`aYW),o2 `aYX `qz b8,(`aYY),o2 `an `aYZ ixD,o2 `bt `V ixD,(`aY0),z9 `aY1 v6,(`aY_),(`aY2),z9 `aY3 `aY4,(`aY5),j9 `aY6,Z9 1 [1,6,7] `O2 `bs noT `afG,(`aY8),z9 `aY9 v6,(`aY'),oA `aY! V4,gc (`O3),z9 `O4 v6,(`aZb),z9 `V `aZc,(`aZd),oA `aZe o6,(`aZf),o2 `aZg `vQ b8,(`aZh),z9 `aZi v6,(`aZj),zm0 `aZk,z9 `an `di,(`aZm),oA `aZn o6,gc (`O5),o2 `afH `O6 b8,(`aZq),o2 `bt `aZr ixD,(`aZl),
Z9 1 `vR `aZt `bs noT `afI,(`aZu),z9 `aZv v6,o2 `j5 `V K6,(`aZx),o2 `aZy `an o9,(`aZz),o2 `aZA `O6 b8,o2 `bt `afJ ixD,(`aZC),o2 (U9 `be W6 `C?) `aZD o9,(`aZE),o2 `aZF (U9 `be `C? W6) o9,o2 (o2 `bt `ea o9) `V o9,(`aZH),z9 `aZI v6,(`aZJ),z9 `an `aZK,(`aZL),oA `aZM Z6,z9 `dT `iA,(`aZN),z9 `aZP `afK,z9 `an (z9 `lG v6),(`aZR),oA `aZS o6,(`aZT),o2 `aZU `qz b8,(`aZV),o2 `bt `aZW ixD,(`afM),gc `aZY,o2 `c2 `afN o9,(o2 `Da `iD b8),`e? `aZ0,j9 (z9 `nW `Db),mp0 (z9 `C2 `gB),j9 (z9 `fL `gB),`e? `OQ,z9 (o2 `vQ `dT o9) v6,(`aZ6),z9 `an `aZ7,(`aZ8),oA `aZ9 o6,(`aZ'),b7 `ho `aZ!,(o2 `bM `Dc b8),b7 `j4 `a_a,o2 `be `e! ixD,yt0 `afP,z9 `afQ v6,(`a_e),oA `a_f X7,R0 7 `afR,(`a_h),ux0 7 `a_i,o2 `bM `nV G6,(`a_k),o2 `a_l `lG b8,(`a_m),o2 `a_n `cD wp0,ob `afS,z9 `afQ `ae?,(`a_q),oA `a_r ye0,(`a_s),W5 `a_t,`vS 3 `e!,(`a_u),V0 `a_w `O8,o2 `C7 `qo zg0,ob `afT,xj0 `afU,o2 `bM (gc (`c 300)) G6,(`a_B),o2 `a_C `iD b8,(`a_D),o2 `a_E `cD wp0,(`a_F),ob `a_G,(o2 `Dc `nV ltD),ob `a_I,(`a_H),(`a_J),yc0 `a_K `a_L,(`J `qA),gc `a_N,(`a_O),z9 `a_P v6,(`a_Q),z9 `nS `a_R,(`a_S),j9 `a_T,z9 `qt `O9,(`a_V),j9 `a_W,z9 `nW v6,(`a_X),z9 `a_Z `O',(`a__),j9 `a_0,(`a_1),z9 `a_2 v6,(`a_3),z9 `hm `a_4,(`a_5),j9 `a_6,(`a_7),z9 `a_8 v6,(`a_U),(`a_9),z9 `a_' `a_!,W8 `afV,o2 `bM (gc (`c 1200)) G6,(`a0b),o2 `a0c `ea b8,(`a0a),(`a0d),o2 `a0e `a0f ixD,(o2 `Dc `aQ u40),z9 `a0h v6,(`a0i),z9 `qt `a0j,(`a0k),j9 `a0l,(`a0m),W5 `a0n,(gc (`afW)),o2 `bM `a0p G6,(oA `vN V2),S7 `a0r,(`a0q),(`a0s),o2 `a0t `a0u b8,`vS 7 `afX,z9 `iD (z9 `Dc v6),(`a0x),z9 `bM `a0y,(`a0z),oA `a0A X8,(`a0B),W5 `a0C,z9 `afP `vN,oA `afY V5,(`a0F),yt0 `a0G,(`a0H),W5 `a0I,V0 `afZ `O8,o2 (gc (`c 100)) `be o9,(`a0L),z9 `a0M v6,(`a0N),z9 `an `a0O,(`a0P),oA `a0Q o6,(`a0R),o2 `a0S `afq b8,(`a0T),o2 `aQ `a0U o9,(`a0V),mv0 2 `a0W `be,(`a0X),Y0 `a0Y,(oA `hn J9),S7 `a0_,(`a00),W5 `a01,`ii 4 `be,V0 `af_ `af0,o2 `V `be ixD,z9 `O! v6,oA `af1 X7,zt0 `af2,oA `hr U5,(`a08),Z9 1 [4] `a0' `bs noT `O?,(`a0!),z9 `a0? v6,(`a1a),z9 `O! `a1b,(`a1c),oA `a1d V5,(`a1e),zf0 5 `a1f,(`a1g),
Y0 `a1h,(oA `qr V4),sj0 `a1j,(`a1k),Z5 `a1l,gc (`c 16),(`a1n),(z9 `nV v6),z9 `a1o `a1p,W8 `af3,z9 `V `vU,(`a1s),oA `a1t Z6,(`a1u),o2 `a1v `vQ b8,(`a1w),o2 `a1x `lG eqD,(`a1y),z9 `a1z v6,oA `af4 `Pa,z9 `be `O_,(`a1C),oA `a1D o6,(`a1E),o2 `a1F `vQ b8,(`a1G),o2 `a1H `j5 eqD,ob `af5,z9 `O4 `C!,(`a1K),z9 `V `a1L,(`a1M),oA `a1N K8,(`a1O),b7 `c5 `a1P,z9 `be `afD,(`a1R),oA `a1S o6,(`a1T),o2 `a1U `ea b8,(`a1V),o2 `a1W `aQ eqD,ob `af6,oA `afK M4,(`a1Z),b7 `c5 `a1_,v9 (δ':=`vY) `aR `hs,by have:`qB<=`R:=h;simpa using `B,v9 (δ':=`qD) `aR `hs,`x (d:=`Pg) ?_ rfl,o4 (ds:=[`Pd]) rfl,by rw[`a15];exact e,o4 (ds:=[`Pf]) rfl,by rw[`a17];exact e,by simp only[`aM,`jV];omega,by rw[`d? hy];exact hx,λy hy=>`a1',z9 `age v6,ms W k l U o T s,ms W k l U o (x::T) s,`bk (`o (`agf)) (`agg),(`a2c),("" : `Dy).length,3*`cL+c,`agq%36,Classical.not_not.mp,[`PF,`j8],`ag::`c6::`qS::δ,P.vals.zip R.vals,(`a2k).map,`a2l `PK,∃s:Str,d=`ht/\`j9,((`j2).length:Nat),(`a2o:Int),`cC `a2p,(`a2q),`a `a2r,J0 (items:=`j2) rfl e,(`a2t),v9 `a2u `qT,`v9 ⟨d,hd,rfl⟩,D7 _ (L9.mpr rfl),((`PL).length:Nat),(`a2y:Int),k<`a2z,(`a2A),`O `a2B,(`a2C),`a `a2D,by rw[`F];exact h,`a (`O (x%5=0)),`a (`O (x%5<3)),`x ?_ rfl,`a (`O (x%5=3)),`a (`O (`n3=0)),[`a_,`c (4+`br),`iM],xz0 `n1 `g `g,j8 (d:=`lI) s6,`a (`O (`n3=1)),`a (`O (`n3=2)),(v70 `d),o2 `an `bt `a2Q,ob `agO,xj0 `agP,oA `Pm O7,(`a2U),zt0 `a2V,vu0 2 `PS T3,ux0 2 `PT,W5 `OS,`ii 3 `dT,V0 `agQ `agR,o2 `V `dT ixD,(`a21),b7 `j4 `a22,o2 `OV `hm eqD,(`a24),ob `a25,tupI `afr,(`a27),Z9 1 [3] `a28 `bs noT `O?,(`a29),z9 `a2' v6,(`a2!),oA `a2? V4,(`a3a),z9 `a3b v6,(`a3c),z9 `hm `a3d,(`a3e),j9 `a3f,(`a3g),b7 `j4 `a3h,o2 `OV `nS neD,(`a3j),ob `a3k,o2 `e! `OQ ixD,(`a3m),tupI `a3n,oA `wn U5,(`a3p),z9 `a3q v6,(`a3r),z9 `V `a3s,(`a3t),j9 `a3u,(`a3o),Z9 2 [3] `a3w `lU noT `agS,(`a3x),b7 `n4 `a3y,U9 `e! W6 `agT,(oA `vN V4),z9 `a3B v6,(`a3C),j9 `a3D,(`a3A),(`a3E),o2 `a3F `a3G o9,(`a3H),b7 `j4 `a3I,(zf0 5 `e!),Y0 `a3K,(`b5 `gn),nd `a3M,`hw - 1 - `P4,(`a3O),(`agY).mpr,`a3Q h,(`agY).mp,`a3S z,
(`a3T),h `a3U,λz=>`a3V,(`ag2).mpr,`a3X h,(`ag2).mp z,`b5 `D1,(`a3_),nd `a30,4*(`n6 - 1 - `P5),by rw[`ag9];exact `ag',by rw[`ag!];exact `ag',by rw[`ag?];exact h80 B j,`c (`D1:Int),st ps o B T (d::W) s,st ps o B T W `k',`v9 ⟨p,hp,rfl⟩,`Eb+51*(`M - `n6),hc _ ps rfl hv hp,(`a3!),j8 (d:=`ahk) `a3?,(`a4a),v9 `a4b `eb,pd (kb (B++[k])),(`a4d),`o (U6 `lW `n?),V6 `lW `Qi `n? `ahn,(`a4f),(`a4g),`bk `a4h `a4i,(`a4j),(`ag1 B k).mp z,(`a4l),hk `a4m,λz=>`a4n,(`a4o),(pd (kb (`iS i))),(`iS i).map `wA,(`a4r),`n `a4s,(`a4t),(`iS `eD).map (`wA),`aho (`wA)++[(`Qd).d],by rw[`F,`cm];omega,J0 (items:=`q_) rfl l2,J0 (items:=`q_) rfl l3,(`a4z),v9 `a4A `eb,(`ahs).map pr,by unfold kd;rw[`F];omega,ws one `iV L a s6 s7,((`hy).length:Int),`cC `a4F,ws `dj `iL L a s6 s7,qo0 hp hq hm.1 hm.2,i50 ps qs h,Nat.min_eq_right,λu hu=>hl u `OG,`d&&(`nx `hi&&`d),(`O7 : Str),`pU (`Eq) `b `Qw,`J `ahy,[D.non,`j3],by rw[`F];exact ha,tm0 (l:=`l3) rfl,by rw[`a4S,`F],U6 `oe `QF,V6 `oe `Ex `QF (`DH),o2 `OU `EB eqD,ob `ahL,`ii 2 `afo,(`a4Y),V0 (W5 `be) `a4Z,tupI `QJ,(o2 `fL `EB eqD),ob `a41,(o2 `bt `c2 ixD),z9 `a43 `gB,(`a44),oA `a45 G5,(`a42),(`a46),ifG `a47 `a48 `V,(`a40),(`a49),Z9 1 [2,5] `a4' `bs noT `a4!,(`a4?),z9 `a5a v6,(o2 `an `cD ixD),o2 `a5c `ahN neD,z9 `wK `O',(`a5e),j9 `a5f,(`a5g),z9 `a5h v6,(`a5i),z9 `hm `a5j,(`a5k),j9 `a5l,(`a5m),z9 `a5n v6,(`a5o),j9 `a5p,`e? `aQ,U9 `V `ahP W6,(`a5q),o2 `a5t `ahQ o9,(`a5u),z9 `a5v v6,(`a5w),W8 `a5x,R0 2 `ahR,o2 `vT `nV ltD,ob `ahS,z9 `qt `O_,(`a5C),j9 `a5D,(`a5E),z9 `a5F `O',(`a5G),z9 `wK `a5H,(`a5I),j9 `a5J,(`a5K),z9 `a5L v6,(`a5M),z9 `hm `a5N,(`a5O),j9 `a5P,(`a5Q),z9 `a5R v6,(`a5S),j9 `a5T,(`a5U),o2 `a5V `ahQ o9,z9 (gc (`J "a")) v6,(`a5X),z9 `nS `a5Y,(`a5Z),j9 `a5_,(`a50),z9 `a51 v6,(`a52),j9 `a53,(`a5W),(`a54),o2 `a55 `a56 o9,(`a57),z9 `a58 v6,(`a59),W8 `a5',(`a5!),R0 2 `a5?,b7 `c5 `af2,z9 `OR v6,(`a6c),zm0 `a6d,o2 `dT `bM ixD,o2 `ahT `nW mu0,ob `ahU,K7 `gA `ahT,(`a6i),ob `a6j,v60 `ahV,ob0 `ahW `ahX,o2 `lG `bM o9,(`a6n),z9 `a6o v6,(`a6p),z9 `an `a6q,(`a6r),
oA `a6s o6,(`a6t),(gc (`ahY)),o2 `a6u `a6v b8,(`a6w),z9 `a6x v6,W8 `ahZ,(`a6z),o2 (U9 `dT W6 `ah_) `a6A o9,o2 `bM `aQ o9,(`a6C),`e? `a6D,U9 `dT `ah0 W6,(`a6B),(`a6F),o2 `a6G `a6H o9,(`a6I),b7 `j4 `a6J,z9 `O! `O9,(`a6L),oA `a6M V5,(`a6N),z9 `a6O v6,j9 `ah1,(`a6Q),o2 (U9 `V W6 `ah2) `a6R o9,o2 `be `aQ o9,(`a6T),`e? `a6U,U9 `V `ah3 W6,(`a6S),(`a6W),o2 `a6X `a6Y o9,(`a6Z),zf0 2 `a6_,(`a60),Y0 `a61,oA `qr y50,(`a63),o2 `a64 `OU zg0,ob `ah4,oA (z9 `bM `hn) y00,(`a67),ob `a68,(`a69),v60 `a6',(`a66),(`a6!),yc0 `a6? `a7a,p6 (x:=`cE) (y:=`cM) rfl rfl,by rw[`a7c];exact w1,(`a7d),`x `a7e rfl,Z4 rfl `dV,(`a7g),`x `a7h rfl,`x rfl `ah',o4 (ds:=[wd w]) rfl,by rw[`a7k];exact wx0 hw,Va.stays `lY `fW,(`a7m),C_pair_names,S6 `a7o hr `f `hA,w6 `aia v8,(`a7q),U4 Y8 J8 `ed `ee `a7r,(`a7s),w6 `a7t v8,si0 `q? `Q_ `dl,(`a7v),X3 `a7w,U4 Y8 J8 `ed `ee `iW,(`a7y),w6 `a7z v8,(`a7A),w6 m8 `a7B,(`a7C),Z2 `a7D,(`a7E),j7 `a7F,S6 `wS hr `f `hA,(`a7H),N6 `a7I,yr0 zp0 `ee `l8 `ed `ah,λcl s H ex=>(ld0 `EL),w6 `cH v8,Q8 `fY `Q1,tq0 `dm `aA `dl,w6 `aic v8,(`a7P),w6 m8 `a7Q,(`a7R),Z2 `a7S,yr0 zp0 `ee `l8 `ed `dl,p7 `bV u5,p7 `ah `aid,(`a7W),w6 `a7X v8,p7 `aA `aid,(`a7Z),w6 `a7_ v8,Q8 `fY `gG,w6 `bV `hC,y70 xx0 vx0 `fY S2 `hC,(`a73),zn0 `a74,y70 xx0 vx0 `fY S2 `iW,(`a76),wf0 `a77 u5,mb0 `aie hr `f `hA,mb0 `aie hr `f `iW,w6 `bV (w6 `cn `gG),(`a7!),S6 C_upheld_pairs hr `f `a7?,(`a8a),c7 `a8b (o5 5 `EU),zn0 (Q8 `fY `eG),B20 (`ai:2<=64) _,(`a8e),N2 `a8f `wT,d7 C_mark hr `f `hA,U4 Y8 J8 `ed `ee `hC,w6 `ah `hB,d7 `hF hr `f `aij,G4 `ki (w6 `wV v8),(`Q8:`j).Nodup,(`aq:`a8m),o5 0 `a8n,λcl s H ex=>`a8o,w6 (d9 u5 `aA) v8,(`a8q),w6 `ah `a8r,(`a8s),d7 `hF hr `f `a8t,([`E2]:`j).Nodup,(`aq:`a8v),o5 0 `a8w,λcl s H ex=>`a8x,(`ok:`j).Nodup,(`aq:`a8z),o5 0 `a8A,λcl s H ex=>`a8B,d7 `aio hr `f `rd,(`a8D),λcl s H ex=>`a8E,U4 Y8 J8 `ed `ee `Q1,(`a8G),uo0 `a8H,w6 `aA `hB,(`a8J),d7 `hF hr `f `a8K,Y5 `aiq u5,P0 `Rc,p7 `cn `hE,tj0 `air,w00 `cH u5,Y5 `ais u5,m9 (jv0 `wT) li0 `ait u5,w6 m8 (w6 m8 v8),(`a8T),Z2 `a8U,zn0 (Q8 `fY `wW),
(`a8W),Y5 `ais `a8X,(`a8Y),pe0 7 `a8Z,p7 `ah `cn,w6 `Rd v8,(`a81),S6 `aiu hr `f `a82,d7 `hF hr `f (w6 `cn `hB),(`a84),Y5 `a85 u5,(`a86),m9 U7 W2 `a87 u5,show `e'=1 by rw[`aM] at hl;simpa using hl,(`a89)]
noncomputable section
open PySem
noncomputable def A0:=@PySem.wpAny_bind
noncomputable def A1:=@PySem.wpAny_pure
noncomputable def A2:=@Nat.le_refl
noncomputable def A3:=@PySem.Heap.lt_size
noncomputable def A4:=@List.mem_cons
noncomputable def A5:=@PySem.Heap.get?_push_of_some
noncomputable def A6:=@Nat.ne_of_lt
noncomputable def A7:=@List.mem_cons_self
noncomputable def A8:=@List.mem_map
noncomputable def A9:=@List.mem_cons_of_mem
noncomputable def B0:=@PySem.Heap.get?_push_size
noncomputable def B1:=@Ne.symm
noncomputable def B2:=@Nat.ne_of_gt
noncomputable def B3:=@PySem.wpAny_field
noncomputable def B4:=@Nat.lt_of_lt_of_le
noncomputable def B5:=@Option.some.inj
noncomputable def B6:=@List.mem_append
noncomputable def B7:=@Bool.false_ne_true
noncomputable def B8:=@PyProof.Rows.wpS_bind
noncomputable def B9:=@Nat.le_trans
noncomputable def C0:=@Nat.le_add_right
noncomputable def C1:=@Nat.zero_le
noncomputable def C3:=@List.getElem?_eq_getElem
noncomputable def C4:=@List.mem_range
noncomputable def C5:=@PySem.wpAny_holding
noncomputable def C6:=@congrArg
noncomputable def C7:=@PyProof.Rows.wpS_pure
noncomputable def C8:=@PySem.wpAny_loadPart_at
noncomputable def C9:=@PySem.wpAny_mono
noncomputable def D0:=@PySem.wpAny_seqItems
noncomputable def D2:=@PySem.PassesOwn.never
noncomputable def D3:=@PySem.W.mg_of
noncomputable def D4:=@List.getElem?_eq_some_iff
noncomputable def D5:=@PySem.W.mg_none_of
noncomputable def D6:=@List.mem_append_left
noncomputable def D7:=@List.mem_append_right
noncomputable def D8:=@PySem.wpAny_call_entry
noncomputable def D9:=@PySem.wpAny_rule
noncomputable def E1:=@PySem.wpAny_setField_rec
noncomputable def E2:=@PySem.F.slot_zip_next
noncomputable def E3:=@Nat.lt_irrefl
noncomputable def E4:=@List.mem_of_getElem?
noncomputable def E5:=@PySem.codeAny_builtin
noncomputable def E6:=@PyProof.Rows.callWith_type1
noncomputable def E7:=@PySem.wpAny_callSpecial?_slot
noncomputable def E8:=@PySem.wpAny_typeOf
noncomputable def E9:=@Nat.lt_trans
noncomputable def G0:=@PySem.wpAny_loadPart'
noncomputable def I0:=@List.mem_iff_getElem
noncomputable def K0:=@PySem.wpAny_newObj_type
noncomputable def K2:=@PySem.Heap.get?_update_other
noncomputable def L0:=@PySem.Heap.get?_update_self
noncomputable def L3:=@List.pairwise_iff_getElem
noncomputable def L4:=@List.length_map
noncomputable def L5:=@PySem.mem_of_lookup
noncomputable def L6:=@PySem.plainId_quiet
noncomputable def L7:=@PySem.wpAny_onRaise
noncomputable def L8:=@List.getElem_mem
noncomputable def L9:=@List.mem_singleton
noncomputable def M0:=@Int.emod_nonneg
noncomputable def M1:=@Int.emod_lt_of_pos
noncomputable def N0:=@PySem.wpAny_pyIter_list
noncomputable def N1:=@PySem.wpAny_Call_Name_kw
noncomputable def N2:=@Nat.lt_of_le_of_lt
noncomputable def N9:=@PySem.W.kia_one
noncomputable def O0:=@Option.map_eq_some_iff
noncomputable def P1:=@List.nodup_nil
noncomputable def P2:=@PySem.wpAny_letGo
noncomputable def P3:=@PySem.wpAny_attempt
noncomputable def P4:=@PySem.Obj.data_mapFields
noncomputable def P5:=@List.nodup_append
noncomputable def P6:=@List.length_range
noncomputable def P7:=@Nat.le_of_lt
noncomputable def P8:=@PySem.wpAny_passesOwn
noncomputable def Q1:=@PySem.Calls.spliced_cons
noncomputable def Q2:=@PySem.codeAny_mono
noncomputable def S0:=@List.nodup_cons
noncomputable def S1:=@List.of_mem_zip
noncomputable def S2:=@PySem.boot_len
noncomputable def S3:=@PySem.wpAny_nextOf_list_item
noncomputable def S4:=@decide_eq_true
noncomputable def T0:=@List.mem_of_mem_take
noncomputable def U1:=@PySem.Calls.spliced_nil
noncomputable def U2:=@Prod.ext
noncomputable def W1:=@PyProof.Rows.slot_tuple_getitem
noncomputable def X0:=@PySem.typeIs_str
noncomputable def X1:=@PySem.call_meets
noncomputable def X2:=@Nat.lt_succ_self
noncomputable def Y1:=@List.length_eq_zero_iff
noncomputable def Y2:=@List.map_congr_left
noncomputable def Y3:=@Nat.lt_succ_of_lt
noncomputable def c6:=@Nat.le_succ
noncomputable def c9:=@PySem.wpAny_nextOf_list_end
noncomputable def d4:=@PySem.F.entry_zip_next
noncomputable def d5:=@PySem.F.args_zip_next_1
noncomputable def d6:=@PySem.wpAny_pyIter_enum
noncomputable def e9:=@PySem.wpAny_updateSeq_pair
noncomputable def h8:=@PySem.wpAny_setField
noncomputable def i0:=@PySem.Obj.isFreed_of_fields
noncomputable def i4:=@PyProof.Rows.wpS_forRange
noncomputable def i5:=@PyProof.Rows.wpS_get
noncomputable def i6:=@List.append_nil
noncomputable def i7:=@List.mem_or_eq_of_mem_set
noncomputable def i8:=@beq_eq_false_iff_ne
noncomputable def i9:=@decide_eq_false
noncomputable def j3:=@PySem.wpAny_truthy_bool
noncomputable def k6:=@PySem.wpAny_standAt
noncomputable def k7:=@PySem.wpAny_pyIter_tuple
noncomputable def k9:=@List.mem_filterMap
noncomputable def l0:=@PySem.SeqAt.EqAt.same
noncomputable def l6:=@PySem.typeIs_int
noncomputable def l7:=@PySem.tupleKind_room_in1
noncomputable def l9:=@PySem.wpAny_specialOf
noncomputable def n9:=@PySem.wpAny_updateSeq
noncomputable def o0:=@PySem.F.plainAttrs_list
noncomputable def o3:=@PySem.wpAny_isInstance
noncomputable def p9:=@Array.getElem?_eq_getElem
noncomputable def r8:=@Array.getElem?_eq_some_iff
noncomputable def r9:=@of_decide_eq_true
noncomputable def t9:=@PySem.codeAny_call_builtin
noncomputable def u7:=@PySem.SeqAt.EqAt.int_str
noncomputable def u8:=@PySem.SeqAt.EqAt.str_int
noncomputable def w4:=@List.mem_filter
noncomputable def w8:=@PySem.concat_meets
noncomputable def x4:=@Nat.le_of_eq
noncomputable def x5:=@PySem.callType_codes
noncomputable def x6:=@PySem.Heap.size_push
noncomputable def x8:=@PySem.wpAny_newTuple
noncomputable def x9:=@PySem.isSubtype_stop
noncomputable def y3:=@PySem.F.plain_extend_loop
noncomputable def y4:=@PySem.wpAny_pyIter_zip
noncomputable def y6:=@PySem.F.slot_tuple_iterator_next
noncomputable def y8:=@Array.perm_iff_toList_perm
noncomputable def A10:=@PyProof.Rows.listItems_at
noncomputable def A20:=@List.map_snd_zip
noncomputable def A30:=@Classical.axiomOfChoice
noncomputable def A40:=@List.length_set
noncomputable def A60:=@PySem.F.typeOf_object_class
noncomputable def A70:=@PySem.call_isinstance
noncomputable def A80:=@PySem.isinstance_outer
noncomputable def A90:=@PySem.wpAny_eqBool_int
noncomputable def Aa0:=@PySem.Paired.length
noncomputable def Ab0:=@List.getElem_inj
noncomputable def Ad0:=@PySem.wpAny_execs_nil
noncomputable def Ae0:=@PySem.wpAny_pyNext_list_item
noncomputable def Af0:=@PySem.wpAny_pyNext_list_end
noncomputable def Ah0:=@PySem.noFill_tuple_add
noncomputable def Ai0:=@PySem.seq_tuple_add
noncomputable def Aj0:=@PySem.F.slot_tuple_add
noncomputable def Ak0:=@PySem.F.entry_tuple_add
noncomputable def Al0:=@PySem.F.args_tuple_add_2
noncomputable def An0:=@PySem.SeqAt.EqAt.none_bool
noncomputable def Ao0:=@PySem.SeqAt.EqAt.none_int
noncomputable def Ap0:=@PySem.SeqAt.EqAt.none_str
noncomputable def Aq0:=@PySem.SeqAt.EqAt.bool_none
noncomputable def Ar0:=@PySem.SeqAt.EqAt.bool_bool
noncomputable def As0:=@PySem.SeqAt.EqAt.bool_int
noncomputable def At0:=@PySem.SeqAt.EqAt.bool_str
noncomputable def Au0:=@PySem.SeqAt.EqAt.int_none
noncomputable def Av0:=@PySem.SeqAt.EqAt.int_bool
noncomputable def Aw0:=@PySem.SeqAt.EqAt.int_int
noncomputable def Ax0:=@PySem.SeqAt.EqAt.str_none
noncomputable def Ay0:=@PySem.SeqAt.EqAt.str_bool
noncomputable def Az0:=@PySem.SeqAt.EqAt.str_str
noncomputable def B00:=@PySem.Calls.callWith_builtin
noncomputable def B10:=@PySem.Calls.evalArgs_plain
noncomputable def B20:=@Nat.add_le_add_left
noncomputable def B60:=@List.mem_map_of_mem
noncomputable def B70:=@List.getElem?_zip_eq_some
noncomputable def B80:=@PySem.wpAny_letOwnedTupleGo_enum
noncomputable def Bb0:=@PySem.F.called_enumerate
noncomputable def Bc0:=@getElem?_pos
noncomputable def Bg0:=@Nat.log2_lt
noncomputable def Bm0:=@PySem.Calls.Name_function_global
noncomputable def By0:=@Nat.min_le_right
noncomputable def C90:=@PySem.wpAny_comprehension_free
noncomputable def Cd0:=@Bool.eq_false_iff
noncomputable def Cg0:=@PySem.F.slot_list_append
noncomputable def Ch0:=@PySem.F.type_list_append
noncomputable def Ct0:=@PySem.SeqAt.RcAt.lists_lengths
noncomputable def Cu0:=@Array.getElem?_eq_none
noncomputable def Cw0:=@Nat.lt_trichotomy
noncomputable def D30:=@PySem.F.slot_int_mul
noncomputable def D70:=@PySem.F.kt_called_dict
noncomputable def D80:=@PySem.F.kt_typeCall_dict_1
noncomputable def D90:=@PySem.F.entry_dict_init
noncomputable def Db0:=@PySem.F.args_dict_init_2
noncomputable def Df0:=@List.contains_iff_mem
noncomputable def Dh0:=@PySem.F.entry_tuple_iterator_next
noncomputable def Di0:=@PySem.F.args_tuple_iterator_next_1
noncomputable def Dp0:=@PySem.wpAny_pyNext_enum_itemD
noncomputable def Dq0:=@PySem.F.slot_dict_setdefault
noncomputable def Ds0:=@List.rel_of_pairwise_cons
noncomputable def Dt0:=@List.pairwise_cons
noncomputable def Dy0:=@List.mem_flatMap
noncomputable def Dz0:=@Nat.eq_zero_or_pos
noncomputable def E00:=@List.length_filter_le
noncomputable def E10:=@List.Nodup.sublist
noncomputable def E20:=@List.Sublist.map
noncomputable def E30:=@List.filter_sublist
noncomputable def E40:=@List.ext_getElem
set_option Elab.async false
set_option linter.all false
set_option maxRecDepth 100000
namespace XC
noncomputable def y90:`j:=[`tj, `Rg, `aix]
variable{b o e iter value elt:`D}{prog:`aa}{A:`a5}{E Q:`Z}{a it l dx sl fa I z i1 i2 l1 l2:`e}{n t' i j m k1 x1:Nat}{y v u dV doc pm cdv ct oc vl vu:`t}{R:`w_}{tk:Tok}{mg:`a7}{root x name qual x2 nx c':Str}{rs N nm N' T:`j}{od an:`a6}{r caps idx S:`l}{xs items ys:`aI}{us:`H}{h' base:`u}{α β κ:Type}{pins:`av}{ch fp:`aJ}{s':`r}{pos pos' p tpos apos p2 cpos py spos px pos2 np p0:Pos}{rest:`dW}{K:`G}{es ifs elts:`bT}{lo:`aT}{sc scope:`dn}{osl:`ff}{oa:Obj}{L M:`_}{q:`dh}{me:`N}
abbrev bmV:`H:=[`aaK,`aZ "Exception",`aaM,`aZ "object"]
inductive Row (h:`u):`aiy
 | end:Row h bmV
 | own {C:`e} {cls:`t} {dd:`a6} {cd:ClassData} {sl:`ff} {m:`a7} {tl:`H} :
   `en C=`a { cls:=cls,dict:=dd,data:=`Lu,slots:=sl }->h.Ns `z_ m->(∀n∈y90,m n=`b)->`Rh->`aiz
structure Cl(h:`u)(C:`e)(tl:`H):Prop where
 obj:∃(nm q:Str) (N:`e) (bs:`H) (hdct:`N) (sn:`j) (sub:`H) (ab:`N) (col:`pK) (dd:`a6) (k0 k1 k2 k3 k5:`gc) (newId:`bj),
  `en C=`a (`aiA nm q C N bs tl hdct sn sub ab col dd k0 k1 k2 k3 k5 newId)
 row:`aiz
theorem Row.has{h:`u}{tl:`H}(r:`Rh){T:`bj}{b:`N}(hb:`Fc):`aiB `fq=b:=by
 induction r with
 | «end»=>exact hb
 | own _ _ _ _ ih=>rw[`aiC,ih];rfl
section
variable{w:`L}{h:`u}{g:`ny}{d:`w0}{t:Nat}{os:`Ri}{C:`e}{o:Obj}{tl:`H}
theorem Row.along{M:`ef}{n:Str}{y:`gc}{Q:`gH}(hn:n∈y90)(hy:`aiD)(hq:Q y `cs)(r:`Rh):`i M A (`aaJ tl n) Q E `cs:=by
 induction r with
 | «end»=>rw[hy];exact A1 hq
 | own h1 h2 h3 _ ih =>
  rw[lookupAlong_cons];refine A0 (wpAny_classOwn_cls h1 h2 ?_);rw[h3 n hn];exact ih
theorem Cl.look{M:`ef}{n:Str}{y:`gc}{Q:`gH}(c:`eg)(hn:n∈y90)(hy:`jB `Fd n=`a2 y)(hq:Q y `cs):`i M A (`jB `dB n) Q E `cs:=by
 obtain⟨nm,q,N,bs,Y,sn,sub,ab,Z,dd,k0,k1,k2,k3,k5,O,hC⟩:=`rf;have J:`aiD:=by
  rw[`aiE,F.excBase_ValueError.mroIs] at hy;exact hy
 rw[`aiE];exact A0 (wpAny_mroOf_exc hC (c.row.along hn J hq))
theorem Cl.sub{M:`ef}{Q:`jW}(c:`eg)(hq:Q (`o' v) `cs):`i M A (isSubtype `dB v) Q E `cs:=by
 obtain⟨nm,q,N,bs,J,sn,sub,ab,O,dd,k0,k1,k2,k3,k5,F,hC⟩:=`rf;exact wpAny_isSubtype_exc hC hq
theorem Cl.isT(c:`eg):`Lq `dB "type" := by
 obtain⟨nm,q,N,bs,J,sn,sub,ab,O,dd,k0,k1,k2,k3,k5,F,hC⟩:=`rf;exact⟨_,hC,rfl⟩
theorem Cl.hasT(c:`eg){T:`bj}{b:`N}(hb:`Fc):`o' `fq=b:=c.row.has hb
theorem Xo0:`jB `Fd `tj=`a2 (`a (`Lr)):=`rg
theorem n1:(`tj : Str)∈y90:=`Lp
theorem n2:(`Rg : Str)∈y90:=`aiF
theorem n3:(`aix : Str)∈y90:=`zX _ (`aiF)
theorem get_class(c:`eg)(hx:`d0)(hc:`fZ)(hq:`aiG) :
  `gm `am A (`pF (`cb "getset_descriptor.__get__") ⟨[`Lr,`a9,`kJ],[]⟩) R `cs:=by
 have ty:`aiH := A60;have J:`o' (`aZ (".".intercalate ("object.__class__".cutAt '.').dropLast))=`d:=by rw[F.owner_object_class];exact `aiI
 refine t9 F.slot_gs_get.plain F.entry_gs_get (F.slot_gs_get.check _ _ _ _ _ _ _ _ ty (F.args_gs_get _ _ _) ?_)
 repeat (any_goals (first|with_reducible assumption|(with_reducible refine `gI;rw[hc])|(with_reducible refine `oo;rw[J])|wp_step))
 refine⟨`aiJ,E5 F.entry_object_class ?_⟩;unfold Builtin.«object.__class__»
 repeat (any_goals (first|with_reducible assumption|(with_reducible refine `gI;rw[hc])|wp_step))
theorem af0{tk:Tok}{Q:`rh}(c:`eg)(hx:`d0)(hc:`fZ)(hq:Q (`lp (`dA `dB)) `cs) :
  `i `am A (Builtin.«object.__getattribute__» `aiK) Q E `cs:=by
 have ty:`aiH := A60;have f5:=A60;have f6:=F.slot_gs_get.lookup;have f7:=F.slot_gs_set.lookup
 repeat (any_goals (first|with_reducible assumption|(with_reducible refine `gI;rw[hc])|with_reducible refine c.look n1 Xo0 ?_|wp_step))
 refine get_class c hx hc ?_
 repeat (any_goals (first|with_reducible assumption|wp_step))
theorem Zt0{M:`ef}{Q:`f_}(c:`eg)(hx:`d0)(hc:`fZ)(hq:Q () `cs):`i M A (`Fe `tk ⟨[`a9,v],[]⟩) Q E `cs:=by
 have k1:builtinKind `tk=`a .slot:=`aq
 have k2:splitId `tk=`a (`aaI, `Rg):=`aq
 have k3:`o' `Ff=`d:=`aiI;have k4:=F.args_bexc_ga `b_ v;simp only[`Fe,k1,k2];refine `co;unfold isInstance
 repeat (first|(with_reducible refine `gI;rw[hc])|(with_reducible refine `oo;rw[k3])|wp_step)
 exact hq
theorem cl0{tk:Tok}(c:`eg)(hx:`d0)(hc:`fZ)(hq:`aiG) :
  `gm `am A (`pF (`cb `tk) `aiK) R `cs :=
 t9 F.attr_ValueError.ga.plain F.entry_bexc_ga (Zt0 c hx hc (af0 c hx hc hq))
theorem Xg0{tk:Tok}{fill expr:`N}(c:`eg)(hx:`d0)(hc:`fZ)(hq:Q `dB `cs) :
  `i `am A (getAttrBy `b_ (`aaL) fill expr) Q E `cs:=by
 have f3:=F.attr_ValueError.ga.bind `b_;have z0:(expr&&onTheHeap (`aaN))=`m:=by cases expr<;>rfl
 have z2:(`aiL)=`m:=`aq
 have z1:(onTheHeap (`kK)&&`aiL)=`m:=by rw[z2];rfl
 repeat (any_goals (first|with_reducible assumption|(with_reducible refine `gI;rw[hc])|with_reducible refine c.look n2 F.attr_ValueError.ga.lookup ?_|with_reducible refine c.look n3 F.attrBase_ValueError.noGetattr ?_|wp_step))
 refine cl0 c hx hc ?_
 repeat (any_goals (first|with_reducible assumption|wp_step))
theorem mm0{Q:`gH}(c:`eg)(hx:`d0)(hc:`fZ)(hq:Q (`z0) ⟨h,g,d,t+1,os⟩):`i `am A (getAttr? `b_ `tj) Q E `cs:=by
 unfold getAttr? getAttrBy?
 repeat (any_goals (first|with_reducible assumption|with_reducible apply Xg0 c hx hc|wp_step))
universe zz
section
variable{w:`L}{h:`u}{g:`ny}{d:`w0}{t:Nat}{os:`Ri}{C W:`e}{o:Obj}{tl tw:`H}
theorem Yt0:`o' `dB=`d:=`aB
theorem gj0{dep:Int}{tk:Tok}{Q:`rh}(c:`eg)(cw:`Rj)(hx:`d0)(hc:`fZ)
  (hq:∀t',Q (`lp `aiM) `aiN) :
  `i `am A (`aiO ⟨[`a9,`Q W,`aiP],[]⟩) Q E `cs:=by
 obtain⟨a6,qW,NW,b2,Z,e1,a2,c5,a5,d2,c1,e2,b0,d1,c8,O,F⟩:=cw.obj;obtain⟨b4,qC,NC,a7,a1,b6,a4,c4,a3,b5,a8,b3,b1,d3,c0,Y,J⟩:=`rf;have hW:=cw.isT (g:=g) (d:=d) (t:=t) (os:=os);have c2:=cw.isT (g:=g) (d:=d) (t:=t+1) (os:=os);have c3:=`aiQ
 by_cases e:C=W
 ·subst e
  rw[Yt0] at hq;have z:=hq t;have s1:(`kK==`kK)=`d:=`aB
  repeat (any_goals (first|with_reducible assumption|(with_reducible refine `gI;rw[hc])|wp_step))
 ·have s1:(`kK==`dz W)=`m:=by simp[e]
  cases hb:`o! with
  | true =>
   rw[hb] at hq;have z:=hq t
   repeat (any_goals (first|with_reducible assumption|(with_reducible refine `gI;rw[hc])|with_reducible refine `Fg|with_reducible refine `Rk|(with_reducible refine `oo;rw[hb])|wp_step))
  | false =>
   rw[hb] at hq;have z:=hq (t+1)
   repeat (any_goals (first|with_reducible assumption|(with_reducible refine `gI;rw[hc])|with_reducible refine `Fg|with_reducible refine `Rk|(with_reducible refine `oo;rw[hb])|with_reducible apply `aiR|wp_step))
theorem Zl0{T:`bj}{b:`N}{dep:Int}{tk:Tok}{Q:`rh}(c:`eg)(hx:`d0)(hc:`fZ)(hty:`Rl)(hT:`Fc)
  (hq:∀t',Q (`lp `aiS) `aiN) :
  `i `am A (`aiO ⟨[`a9,`zW,`aiP],[]⟩) Q E `cs:=by
 obtain⟨a5,qC,NC,a1,O,a8,Z,b1,Y,a6,a2,a4,a3,b2,a7,J,F⟩:=`rf;have b0:=`aiQ;have s1:(`kK==`gs T)=`m:=`aB
 have hb:=c.hasT hT;cases b with
 | true =>
  have z:=hq t
  repeat (any_goals (first|with_reducible assumption|(with_reducible refine `gI;rw[hc])|with_reducible refine `Fg|(with_reducible refine `oo;rw[hb])|wp_step))
 | false =>
  have z:=hq (t+1)
  repeat (any_goals (first|with_reducible assumption|(with_reducible refine `gI;rw[hc])|with_reducible refine `Fg|(with_reducible refine `oo;rw[hb])|with_reducible apply `aiR|wp_step))
universe zz
section
variable{w:`L}{s:`r}{C W:`e}{o:Obj}{tl tw:`H}
theorem Vh0{Q:`Z}(c:`Rm)(cw:Cl `P W tw)(hx:`op)(hc:`fZ)
  (hq:∀t',Q `aaO `ri):`i `am A (`b' `oq `aiT) Q E s:=by
 refine A70 (S:=λ_ R s'=>s'=s/\∀t',R (.ok `aiM) `ri) `Rn `Ro;obtain⟨rfl,hr⟩:=hs;obtain⟨h,g,d,t,os⟩:=s';exact A80 (`aiU) `Rp
theorem Xb0{T:`bj}{b:`N}{Q:`Z}(c:`Rm)(hx:`op)(hc:`fZ)(hty:`Rl)(hT:`Fc)
  (hq:∀t',Q (`o?) `ri):`i `am A (`b' `oq [`a9,`zW]) Q E s:=by
 refine A70 (S:=λ_ R s'=>s'=s/\∀t',R (.ok `aiS) `ri) `Rn `Ro;obtain⟨rfl,hr⟩:=hs;obtain⟨h,g,d,t,os⟩:=s';exact A80 (Zl0 c hx hc hty hT `aaQ) `Rp
noncomputable def p60(h:`u):`aiV
 | []=>`eh
 | `rj=>(∃tw,`Rj)/\p60 h Ws
theorem fy0{h:`u}(c:`eg)(hx:`d0)(hc:`fZ):∀Ws:`aJ,p60 h Ws ->
  AnswersAll (`aiW) `b_ (`zZ) `aiX
 | [],_=>`fE
 | `rj,⟨⟨tw,cw⟩,r⟩=>by
  refine⟨λdep tk P' w' A' R s' hs=>?_,fy0 c hx hc Ws r⟩;obtain⟨rfl,hr⟩:=hs;obtain⟨h,g,d,t,os⟩:=s';exact `aiU
theorem any_map(f:`e->`N):∀Ws:`aJ,((`tm f).any id)=Ws.any f
 | []=>rfl
 | `rj=>by simp[any_map f Ws]
theorem Vp0{Ws:`aJ}{tp:`e}{Q:`Z}(c:`Rm)(hw:p60 `P Ws)(hx:`op)(hc:`fZ)
  (htp:PyProof.Rows.IsTup `P tp `aiY)
  (hq:∀t',Q `aiZ `ri):`i `am A (`b' `oq `ai_) Q E s:=by
 refine A70 (S:=λ_ R s'=>s'=s/\∀t',R (.ok (`dA `aiZ)) `ri) `Rn `Ro;obtain⟨rfl,hr⟩:=hs;refine A80 ?_ `Rp;obtain⟨nm,q,N,bs,a1,sn,sub,ab,a2,dd,k0,k1,k2,k3,k5,Z,O⟩:=`rf;have al:=fy0 c hx hc Ws hw;rw[← any_map] at hr;generalize `aiX=vs at al hr;obtain⟨h,g,d,t,os⟩:=s';obtain⟨⟨J,a3,Y,a5⟩,ht,h2,tn,h3⟩:=htp;obtain rfl:J=`cW := h2;obtain rfl:Y=`a' `aiY tn:=h3;have a4:`Lq (`Q tp) `dC := ⟨_,ht,rfl⟩;have f1:=F.isi_sub_tuple;have s1:(`kK==`dz tp)=`m:=by
  have:C≠tp:=λe=>by
   subst e;rw[O] at ht;exact `X (C6 Obj.cls (B5 ht)) `T
  simp[`B]
 repeat (any_goals (first|with_reducible assumption|(with_reducible refine `gI;rw[hc])|wp_step))
 refine wpAny_arrayLoop ?_;simp only[Option.getD_some,List.toList_toArray];refine isinstance_items (P:=`aiW) (dep:=0) (λs tk e=>e) (`zZ) vs _ _ al rfl λt'=>?_
 have z:=hr t';cases hv:vs.any id with
 | true =>
  rw[hv] at z;simp only[`c7]
  repeat (any_goals (first|with_reducible assumption|wp_step))
 | false =>
  rw[hv] at z;simp only[`hG,`dp]
  repeat (any_goals (first|with_reducible assumption|wp_step))
theorem f50{h:`u}{g:`ny}{d:`w0}{t:Nat}{os:`Ri}{M:`ef}{Q:`jW}(c:`eg)(cw:`Rj)(hx:`d0)(hc:`fZ)
  (hq:Q (`o!) `cs):`i M A (excMatches `b_ (`Q W)) Q E `cs:=by
 obtain⟨a1,qW,NW,a3,O,b0,Y,a5,Z,a8,a4,b1,a2,a7,a6,F,J⟩:=cw.obj;have hB:(`dz W::tw).contains `Ff=`d:=cw.hasT `eT;have f:=tc_notTuple;unfold excMatches
 repeat (first|(with_reducible refine `gI;rw[hc])|with_reducible refine `Rk|(with_reducible refine cw.sub ?_;rw[hB])|with_reducible refine `oo|wp_step)
 cases hb:`o!<;>(rw[hb] at hq;wp_walk;exact hq)
universe zz
universe XC
variable{b o e iter value elt:`D}{prog:`aa}{A:`a5}{E Q:`Z}{a it l dx sl fa I z i1 i2 l1 l2:`e}{n t' i j m k1 x1:Nat}{y v u dV doc pm cdv ct oc vl vu:`t}{R:`w_}{tk:Tok}{mg:`a7}{root x name qual x2 nx c':Str}{rs N nm N' T:`j}{od an:`a6}{r caps idx S:`l}{xs items ys:`aI}{us:`H}{h' base:`u}{α β κ:Type}{pins:`av}{ch fp:`aJ}{s':`r}{pos pos' p tpos apos p2 cpos py spos px pos2 np p0:Pos}{rest:`dW}{K:`G}{es ifs elts:`bT}{lo:`aT}{sc scope:`dn}{osl:`ff}{oa:Obj}{L M:`_}{q:`dh}{me:`N}
namespace XC
open PySem.W
noncomputable def dt0(K:`gJ):`H->`N
 | []=>`m
 | v::r=>(v::r)==bmV||match v with
  | `Q A=>(match `eW A with
   | `a ⟨_,_,`Lu,_⟩=>`ai0&&y90.all (λn=>nsIn K `z_ n==`c8)&&dt0 K r
   | _=>`m)
  | _=>`m
theorem ao0{K:`gJ}{h:`u}(X:`he):∀{l:`H},dt0 K l=`d->Row h l
 | [],e=>by cases e
 | v::r,e=>by
  unfold dt0 at e;rcases Bool.or_eq_true_iff.mp e with q|q
  ·rw[beq_iff_eq.mp q]
   exact .end
  ·split at q
   ·split at q
    ·rename_i ho
     simp only[`cQ,`w1,`rk] at q;exact .own (`Rq) (.of_isNs (`ai1 X q.1.1)) (λn hn=>`ai2 X q.1.1 (q.1.2 n hn)) (ao0 X q.2)
    ·cases q
   ·cases q
noncomputable def clB(K:`gJ)(C:`e)(tl:`H):`N:=match `eW C with
 | `ai3=>(match sl.toList with
  | [_,_,_,_,`a (`cb _),_]=>`ai4&&`ai5&&dt0 K (`Lo)
  | _=>`m)
 | _=>`m
theorem nz0{K:`gJ}{h:`u}{C:`e}{tl:`H}(X:`he)(e:clB K C tl=`d):`eg:=by
 unfold clB at e;split at e
 ·rename_i dd cd sl ho
  split at e
  ·rename_i k0 k1 k2 k3 n k5 hs
   simp only[`cQ,`rk,`Rr] at e;obtain⟨⟨hm,F⟩,hr⟩:=e;obtain⟨nm,bs,mro,ns,qn,hd,sn,sub,ab,O,Y⟩:=cd;dsimp only at hm F;subst hm F;have J:sl=#[k0,k1,k2,k3,`ai6,k5]:=by
    obtain⟨l⟩:=sl;simp only at hs;rw[hs]
   subst J;exact⟨⟨nm,qn,ns,bs,hd,sn,sub,ab,O,dd,k0,k1,k2,k3,k5,_,`Rq⟩,ao0 X hr⟩
  ·cases e
 ·cases e
structure Rs(h:`u)(C:`e)(tl:`H):Prop where
 obj:∃(nm q:Str) (N:`e) (bs:`H) (hdct:`N) (sn:`j) (sub:`H) (ab:`N) (col:`pK) (dd:`a6) (k0 k1 k2 k3 k5:`gc) (mN:`a7),
  `en C=`a (`aiA nm q C N bs tl hdct sn sub ab col dd k0 k1 k2 k3 k5 `Rs)/\h.Ns N mN/\mN `ai7=`b/\OwnTail h bmV tl
noncomputable def rsB(K:`gJ)(C:`e)(tl:`H):`N:=match `eW C with
 | `ai3=>(match sl.toList with
  | [_,_,_,_,`ai6,_]=>`ai4&&n == `Rs&&`ai5&&tailIn K bmV tl&&`ai0&&nsIn K `z_ `ai7==`c8
  | _=>`m)
 | _=>`m
theorem Oa0{K:`gJ}{h:`u}{C:`e}{tl:`H}(X:`he)(e:rsB K C tl=`d):Rs h C tl:=by
 unfold rsB at e;split at e
 ·rename_i dd cd sl ho
  split at e
  ·rename_i k0 k1 k2 k3 n k5 hs
   simp only[`cQ,`rk,`Rr] at e;obtain⟨⟨⟨⟨⟨hm,rfl⟩,F⟩,ht⟩,hok⟩,J⟩:=e;obtain⟨nm,bs,mro,ns,qn,hd,sn,sub,ab,Y,Z⟩:=cd;dsimp only at hm F hok J;subst hm F;have O:sl=#[k0,k1,k2,k3,`a (`cb `Rs),k5]:=by
    obtain⟨l⟩:=sl;simp only at hs;rw[hs]
   subst O;exact⟨⟨nm,qn,ns,bs,hd,sn,sub,ab,Y,dd,k0,k1,k2,k3,k5,_,`Rq,.of_isNs (`ai1 X hok),`ai2 X hok J,tail_of_in X ht⟩⟩
  ·cases e
 ·cases e
noncomputable def Pd0(K:`gJ)(r:`e)(c:Str):`N:=match `tn with
 | `to=>clB K C `Fh
 | _=>`m
noncomputable def Sx0(K:`gJ)(r:`e)(c:Str):`N:=match `tn with
 | `to=>rsB K C `Fh
 | _=>`m
noncomputable def X10(K:`gJ)(root:Str)(cs rs:`j):`N:=match nsIn K `a3 `gd with
 | `a (`a (`z1))=>clB K r bmV&&cs.all (Pd0 K r)&&rs.all (Sx0 K r)&&`ai8 λc=>`ai8 λc'=>c==c'||!(`tn==`ai9)
 | _=>`m
structure At(K:`gJ)(mg:`a7)(c:Str)(C:`e)(tl:`H):Prop where
 mg:mg c=`z0
 ns:`ai'
 cl:∀h:`u,`he->`eg
structure Tab(K:`gJ)(mg:`a7)(root:Str)(r:`e)(cs rs:`j):Prop where
 top:At K mg `gd r bmV
 all:∀c∈cs,∃C,At K mg c C `Fh
 rai:∀c∈rs,∃C,`ai'/\∀h:`u,`he->Rs h C `Fh
 diff:∀c∈`Lv,∀c'∈`Lv,`tn=`ai9->c=c'
theorem tab_of{K:`gJ}{h:`u}{cs:`j}(X:`he)(G:`Fi)(e:X10 K `gd cs rs=`d):∃r,Tab K mg `gd r cs rs:=by
 unfold X10 at e;split at e
 ·rename_i r hr
  simp only[`cQ,`w1] at e;obtain⟨⟨⟨h1,h2⟩,h3⟩,h4⟩:=e;refine⟨r,⟨⟨mg_of X G hr,hr,λh X=>nz0 X h1⟩,`ai!,`ai!,λc hc c' F q=>?_⟩⟩
  ·have q:=h2 c hc
   unfold Pd0 at q;split at q
   ·rename_i C hC
    exact⟨C,mg_of X G hC,hC,λh X=>nz0 X q⟩
   ·cases q
  ·have q:=h3 c hc
   unfold Sx0 at q;split at q
   ·rename_i C hC
    exact⟨C,hC,λh X=>Oa0 X q⟩
   ·cases q
  ·have z:=h4 c hc c' F
   rw[q] at z;simp only[`ai?,`Fj,`w2,`rk] at z;exact z
 ·cases e
universe XC
namespace L2
open Spec PyProof.Rows
abbrev Key:=`Fk
noncomputable def pa0:Key->`aja
 | `w3,v=>`ajb k v
 | `ma,v=>`ajc x v
noncomputable def M00(w:`L):Key->Int
 | `w3=>hashInt k
 | `ma=>hashStr w x
theorem K4:∀{k:Key} {v:`t},pa0 k v=`d->(∃i t,k=`hZ i/\v=`aaT)∨(∃x t,k=`pb x/\v=`z2 x t)
 | `o i,v,h=>by
  obtain⟨t,e⟩:=Value.isInt_shape (k:=i) (v:=v) h;exact `ajd
 | `ma,v,h=>by
  obtain⟨t,e⟩:=Value.isStrOf_shape (x:=x) (v:=v) h;exact `q ⟨x,t,rfl,e⟩
theorem cv0(i:Int)(t:Tok):pa0 (`o i) `tO=`d:=by simp[pa0,`ajb]
theorem cz0(x:Str)(t:Tok):pa0 (`ma) `Fl=`d:=by simp[pa0,`ajc]
theorem S80(a b:Int):`O (`Rt=`hZ b)=(`iY):=by
 by_cases e:a=b
 ·subst e;simp
 ·have h:¬`Rt=`hZ b:=λq=>e (Sum.inl.inj q)
  rw[`fV];exact(i8.mpr e).symm
theorem S90(a b:Str):`O (`Ru=`pb b)=`Rv:=by
 by_cases e:a=b
 ·subst e;simp
 ·have h:¬`Ru=`pb b:=λq=>e (Sum.inr.inj q)
  rw[`fV,`bS e]
theorem Rz0(a:Int)(b:Str):`O (`Rt=`pb b)=`m:=`aje
theorem Sj0(a:Str)(b:Int):`O (`Ru=`hZ b)=`m:=`aje
noncomputable def M3(prog:`aa)(w:`L):PySem.KeyKind `eS w Key where
 is:=pa0
 hash:=M00 w
 inj:=λv a b ha hb=>by
  rcases K4 ha with⟨i,t,rfl,rfl⟩|⟨x,t,rfl,rfl⟩
  ·rcases K4 hb with⟨j,u,rfl,e⟩|⟨y,u,rfl,e⟩
   ·injection e with e1 _;rw[e1]
   ·exact nomatch e
  ·rcases K4 hb with⟨j,u,rfl,e⟩|⟨y,u,rfl,e⟩
   ·exact nomatch e
   ·injection e with e1 _;rw[e1]
 byValue:=λk v h=>by
  rcases K4 h with⟨i,t,rfl,rfl⟩|⟨x,t,rfl,rfl⟩<;>rfl
 pyHash:=λhv h=>by
  rcases K4 hv with⟨i,t,rfl,rfl⟩|⟨x,t,rfl,rfl⟩
  ·exact wpAny_pyHash_int h
  ·exact wpAny_pyHash_str h
 eqBool:=λhu hv h=>by
  rcases K4 hu with⟨i,t,rfl,rfl⟩|⟨x,t,rfl,rfl⟩
  ·rcases K4 hv with⟨j,u,rfl,rfl⟩|⟨y,u,rfl,rfl⟩
   ·rw[S80] at h;exact A90 h
   ·rw[Rz0] at h;exact u7 i t y u _ _ _ _ h
  ·rcases K4 hv with⟨j,u,rfl,rfl⟩|⟨y,u,rfl,rfl⟩
   ·rw[Sj0] at h;exact u8 x t j u _ _ _ _ h
   ·rw[S90] at h;exact wpAny_eqBool_str h
 «strs»:=λk x t v h=>by
  rcases K4 h with⟨i,u,rfl,e⟩|⟨y,u,rfl,e⟩
  ·exact nomatch e
  ·injection e with e1 _
   subst e1;cases v<;>rfl
theorem fe0(prog:`aa)(w:`L)(i:Int)(t:Tok):`ajf (`o i) `tO=`d:=cv0 i t
theorem f90(prog:`aa)(w:`L)(x:Str)(t:Tok):`ajf (`ma) `Fl=`d:=cz0 x t
inductive V where
 | non|bl (b:`N)|int (i:Int)|str (x:Str)|byt (b:`ajg)|flt (b:UInt64)|ref (a:`e)|ty (n:`bj)
 deriving DecidableEq
variable{σ:`ajh}{kvs:`aji}
noncomputable def RelV:V->`adj
 | `z,u=>u=`ik
 | `da,u=>u=`AY b
 | `a4,u=>`Rw
 | `es,u=>`ajj
 | .byt b,u=>∃t,u=Value.bytes b t
 | .flt b,u=>∃t,u=Value.float b t
 | `a9,u=>u=`jR
 | .ty n,u=>u=`gs n
abbrev Vals:`C->`aiy:=`bK `dD
theorem Vals.length{xs:`C}(r:`dq):`aP=`e':=Aa0 r
theorem Vals.get:∀{xs:`C} {us:`H} {i:Nat} {x:V},`dq->`h7->∃u,us[i]?=`bg/\`g2
 | _,_,_,_,`U,e=>`Rx
 | _,_,0,_,`ak r _,e=>`ajk
 | _,_,i+1,x,`rl,e=>by
  obtain⟨u,h1,h2⟩:=Vals.get (i:=i) (x:=x) t `Fm;exact`ajl
theorem Vals.set{x:V}(r:`g2):∀{xs:`C} {us:`H} (i:Nat),`dq->`bm (xs.set i x) (us.set i u)
 | _,_,_,`U=>`U
 | _,_,0,`rl=>`eH
 | _,_,i+1,`Ry=>`ak q (Vals.set r i t)
theorem Vals.append:∀{xs ys:`C} {us ws:`H},`dq->`ajm->`bm `AJ (us++ws)
 | _,_,_,_,`U,s=>s
 | _,_,_,_,`eH,s=>`ak r (`ajn t s)
theorem Vals.take:∀{xs:`C} {us:`H} (n:Nat),`dq->`bm (`qh n) (us.take n)
 | _,_,0,_=>`U
 | _,_,_+1,`U=>`U
 | _,_,n+1,`eH=>`ak r (Vals.take n t)
theorem Vals.drop:∀{xs:`C} {us:`H} (n:Nat),`dq->`bm (`nM n) (us.drop n)
 | _,_,0,r=>r
 | _,_,_+1,`U=>`U
 | _,_,n+1,`rl=>Vals.drop n t
noncomputable def RelO:`c?->`gc->Prop
 | `bo,`bg=>`gh
 | `b,`b=>`eh
 | _,_=>`cK
noncomputable def KV{κ:Type}:`f0->`rm->Prop:=`bK λ(p:`z3) (q:κ×`t)=>p.1=q.1/\`ajo
noncomputable def kV:Key->V
 | `o i=>`a4
 | `ma=>`es
inductive HO where
 | lst (xs:`C)
 | tup (xs:`C)
 | dK (kvs:`gy)|dT (kvs:`rn)
 | set (S:Int->`N) (n:Nat)
 | ins (C dx:`e) (fs:`ajp)
 | own (x:`e)
 | xd (fs:`ajp)
 | met (f x:`e)
 | rng (lo hi:Int)
 | frz (o:Obj) (u:HO)
 | tbl (ps:`aI)
 | ext (φ:`pn)
abbrev Hp:=`e->`Rz
noncomputable def upd(H:Hp)(a:`e)(o:HO):Hp:=λb=>if b=a then `ae else H b
variable{H H' H2 H₀:L2.Hp}
theorem j5{o:HO}:upd H a o a=`ae:=by unfold upd;rw[`cp]
theorem Z0{b:`e}{o:HO}(h:`uL):upd H a o b=H b:=by unfold upd;rw[`hH]
theorem uv0{b:`e}{o u:HO}(h:`uK)(h':`or)(d:o≠u):a≠b:=by
 intro e;subst e;rw[h] at h';exact d (B5 h')
theorem T7{b:`e}{o:HO}(h:`uK)(h':`ct):a≠b:=by
 intro e;subst e;rw[h] at h';cases h'
noncomputable def IsTupN(h:`u)(a:`e)(items:`aI):Prop:=∃o,`d0/\`nR/\∃n,`h3=`ro/\`w4
theorem IsTupN.tup{h:`u}(x:IsTupN h a `al):`tZ h a `al:=let ⟨o,e,c,n,d,_⟩:=x;⟨o,e,c,n,d⟩
theorem IsTupN.new(h:`u)(items:`aI):IsTupN (`uI { cls:=`cW,data:=`a' `al }) `d1 `al:=`RA
section
variable(P:`aa)(w:`L)
noncomputable def ObjOk(H:Hp)(h:`u)(a:`e):HO->Prop
 | `gi=>`iZ/\∃(its:`H) (n:Nat),`mb/\`gS=`Mp
 | `gT=>`iZ/\∃its:`H,`mb/\IsTupN h a `bZ
 | `Ms=>`RB
 | .dT kvs=>`pc/\`mS/\∃xs:`os,
   `bK (λ(p:`ep×V) (q:`aaW)=>`ajq) kvs xs /\
   ∃o es ep,`d0/\`ajr/\`h3=.dict es ep/\es.toList=xs.map (entryOfKey (`Nc))/\(xs.map `bG).Nodup
 | .set S n=>h.SetOf (intKind P w) a S n
 | .ins C dx fs=>H dx=`Fn/\fs.length<=1000/\dx≠a/\`gS=`a (W.instObj C dx) /\
   ∃mA,h.Ns1 dx mA/\(`ajs)/\PySem.Within mA (fs.map `bG)
 | .own _=>`ajt
 | .xd fs=>∃mA,h.Ns1 a mA/\`ajs
 | .rng lo hi=>∃t u v,`gS=`a `L2
 | .frz o u=>`d0/\`cJ H h a u
 | .tbl ps=>`aju
 | .met f x=>`gS=`a (`aa_ `kP (`Q x))
 | `RC=>φ h/\(`ajt)/\`ajv
noncomputable def HOk(H:Hp)(h:`u):Prop:=∀a o,`uK->`RD
universe zz
section
variable{P:`aa}{w:`L}{h:`u}{o:HO}
theorem ObjOk.lt(x:`RD):a<`d1:=by
 cases o with
 | lst xs=>obtain⟨_,_,_,_,e⟩:=x;exact `b9
 | tup xs=>obtain⟨_,_,_,p⟩:=x;exact p.tup.lt
 | dK kvs=>obtain⟨_,_,_,_,o,_,_,e,_⟩:=x;exact `b9
 | dT kvs=>obtain⟨_,_,_,_,o,_,_,e,_⟩:=x;exact `b9
 | set S n=>obtain⟨o,_,_,_,e,_⟩:=x;exact `b9
 | ins C dx fs=>obtain⟨_,_,_,e,_⟩:=x;exact `b9
 | own y=>obtain⟨_,e⟩:=x;exact `b9
 | xd fs=>obtain⟨_,⟨_,_,_,e,_⟩,_⟩:=x;exact `b9
 | rng lo hi=>obtain⟨_,_,_,e⟩:=x;exact `b9
 | frz ob u=>obtain⟨e,_⟩:=x;exact `b9
 | tbl ps=>exact `ajw
 | met f y=>exact `ajw
 | ext φ=>obtain⟨_,⟨_,e⟩,_⟩:=x;exact `b9
theorem Paired.mapP{F G:`mc}:∀{l₁:`bP} {l₂:`md},`bK F l₁ l₂->(`ajx)->`bK G l₁ l₂
 | _,_,`U,_=>`U
 | _,_,`eH,f=>`ak (f _ _ r) (`RE t f)
theorem ObjOk.stay(x:`RD)(k:∀b u,(b=a∨H b=`Fn)->`Lz)
  (ho:∀b,H b=`Fn->`kO=`Fn) (ht:`RF):`cJ P w H' h' a o:=by
 induction o with
 | lst xs=>obtain⟨z,its,n,r,e⟩:=x;exact⟨z,its,n,r,`hI⟩
 | tup xs=>obtain⟨z,its,r,ob,e,c⟩:=x;exact⟨z,its,r,ob,`hI,c⟩
 | dK kvs=>obtain⟨z,y,vs,r,ob,es,ep,e,c⟩:=x;exact⟨z,y,vs,r,ob,es,ep,`hI,c⟩
 | dT kvs =>
  obtain⟨z,y,xs,r,ob,es,ep,e,c⟩:=x;exact⟨z,y,xs,`RE r λp q z=>`ajy,ob,es,ep,`hI,c⟩
 | set S n=>obtain⟨ob,es,ep,t,e,c⟩:=x;exact⟨ob,es,ep,t,`hI,c⟩
 | ins C dx fs =>
  obtain⟨d,z,ne,e,mA,⟨od,es,ep,e2,c⟩,r⟩:=x;exact⟨ho _ d,z,ne,`hI,mA,⟨od,es,ep,k _ _ (`q d) e2,c⟩,r⟩
 | own y=>obtain⟨ob,e⟩:=x;exact⟨ob,`hI⟩
 | xd fs=>obtain⟨mA,⟨od,es,ep,e,c⟩,r⟩:=x;exact⟨mA,⟨od,es,ep,`hI,c⟩,r⟩
 | rng lo hi=>obtain⟨t,u,v,e⟩:=x;exact⟨t,u,v,`hI⟩
 | frz ob u ih=>obtain⟨e,q⟩:=x;exact⟨`hI,ih q⟩
 | tbl ps =>
  have e:`aju:=x;show `uH=`aaY;exact `ajz
 | met f y =>
  have e:`gS=`ajA:=x;show `uH=`ajA;exact `ajz
 | ext φ=>obtain⟨p,⟨o,e⟩,st⟩:=x;exact⟨st _ _ p λo q=>k _ _ `h_ q,⟨o,`hI⟩,st⟩
theorem HOk.lt(x:`gK)(e:`uK):a<`d1:=(x a o e).lt
theorem HOk.fresh(x:`gK)(e:`RG):`rp:=by
 cases q:H a with
 | none=>rfl
 | some u=>exact `X (B4 (x.lt q) e) `kj
theorem HOk.kept(x:`gK)(k:`Fo):HOk P w H h':=λa o e =>
 (x a o e).stay (λb u _ q=>`z9) `tx `mX
theorem HOk.laid(x:`gK)(k:`Fo)(hp:`RG)(new:`cJ P w `kk h' a o):HOk P w `kk h':=λb u e=>by
 have hn:=x.fresh hp
 by_cases hb:b=a
 ·subst hb;rw[j5] at e;cases e;exact new
 ·rw[Z0 hb] at e
  exact(x b u e).stay `ajB (λc q=>`Fp) λc xs q=>`Fp
universe zz
noncomputable def Rd(H:Hp)(a:`e)(u:HO):Prop:=H a=`bg∨∃o,H a=`LA
theorem Rd.ok{P:`aa}{w:`L}{h:`u}{u:HO}(r:Rd H a u)(x:`gK):`ajC:=by
 rcases r with r|⟨o,r⟩
 ·exact x a u r
 ·obtain⟨_,q⟩:=x a _ r
  exact q
noncomputable def Mut:`Rz->Prop
 | `a (`w5)=>`eh
 | `a (.dK _)=>`eh
 | `a (.dT _)=>`eh
 | `a (.set _ _)=>`eh
 | `a (.ins _ _ _)=>`eh
 | `a (.ext _)=>`eh
 | _=>`cK
section
variable{P:`aa}{w:`L}{h:`u}{x e:`e}{o':HO}
theorem HOk.write(ok:`gK)(mu:`RH)(he:`RI)(k:`ajD)(heo:`RJ)
  (new:`cJ P w (upd H x o') h' x o'):HOk P w (upd H x o') h':=λb u q=>by
 have F:∀c y,H c=`a (.own y)->c≠x:=λc y r z=>`ajE
 have J:∀c xs,H c=`tr->c≠x:=λc xs r z=>`ajE
 by_cases hb:b=x
 ·subst hb;rw[j5] at q;cases q;exact new
 ·rw[Z0 hb] at q
  by_cases hbe:b=e
  ·have q':H b=`aa1:=by
    rcases he with z|z
    ·exact `X (hbe.trans z) hb
    ·rw[hbe];exact z
   rw[q] at q';cases q';obtain⟨v,hv⟩:=heo;exact⟨v,by rw[hbe];exact hv⟩
  ·refine(ok b u q).stay (λc v hc r=>k c v ?_ r) (λc r=>by rw[Z0 (F c b r)];exact r) λc xs r=>by rw[Z0 (J c xs r)];exact r
   rcases hc with rfl|hc
   ·exact hbe
   ·rintro rfl
    rcases he with z|z
    ·exact F c b hc z
    ·rw[hc] at z;cases z;exact hb rfl
universe zz
structure Un(fs ex:`aJ)(H H':Hp)(h h':`u):Prop where
 keep:∀b o,`eY->`ct->b∉fs->`w6->`mV
 slot:∀b o,`eY->`ct->b∈fs->`w6->`RK
 free:∀b o,`eY->`ct->`w6->`k0
 there:∀b o,`eY->`w6->`RL
 tups:`RF
 frzs:`ajF
 tbls:`ajG
section
variable{fs fs' ex ex':`aJ}{H1:Hp}{h h1 h2:`u}{x e:`e}{o:HO}
theorem Un.any(u:Un fs ex H H1 h h1){b:`e}{ob:Obj}(q:`tq=`w7)(n:`ct)(hx:`w6):∃sl,h1.get? b=`a { ob with slots:=sl }:=by
 by_cases hb:b∈fs
 ·exact u.slot b ob q n hb hx
 ·exact⟨ob.slots,u.keep b ob q n hb hx⟩
theorem Un.kept(k:`Fo):Un fs ex H H h h' :=
 ⟨λb ob q _ _ _=>`RM,λb ob q _ _ _=>⟨ob.slots,`RM⟩,λ_ _ _ n _=>n,λb ob q _=>⟨ob,`RM⟩,`mX,λ_ _ _ q=>q,λ_ ps q=>⟨#[],`Mw⟩⟩
theorem Un.refl:Un fs ex H H h h:=`Fq `mX
theorem Un.laid(k:`Fo)(hp:`RG)(hn:`rp):Un fs ex H `kk h h' where
 keep:=`ajH
 slot:=`ajI
 free:=λb u q n _=>by rw[Z0 (A6 (B4 `Fr hp))];exact n
 there:=`ajJ
 tups:=λb xs q=>`Fp
 frzs:=λb u xs q=>`Fp
 tbls:=λb ps q=>⟨#[],by rw[`aa0,q];simp⟩
theorem Un.write(mu:`RH)(he:`RI)(k:`ajD)(heo:`RJ):Un fs ex H `RN h h':=by
 have hx:∀b,`ct->b≠x:=λb n z=>by subst z;rw[n] at mu;exact mu
 have hb:∀b,`ct->`z7:=λb n z=>by
  subst z;rcases he with r|r
  ·exact hx b n r
  ·rw[n] at r;cases r
 have hm:∀b u,`or->¬Mut (`bg)->b≠x:=λb u q nm z=>by subst z;rw[q] at mu;exact nm mu
 refine⟨λb u q n _ _=>`ajK,λb u q n _ _=>⟨u.slots,`ajK⟩,λb u q n _=>by rw[Z0 (hx b n)];exact n,λb u q _=>?_,
  λb xs q=>`ajL,λb u xs q=>`ajL,λb ps q=>⟨#[],by rw[`aa2,q];simp⟩⟩
 by_cases hbe:b=e
 ·subst hbe;exact heo
 ·exact⟨u,k b u hbe q⟩
universe zz
noncomputable def trk(h:`u)(H:Hp):`aJ:=(`b5 `d1).filter λa=>(H a).isSome
noncomputable def s80(h:`u)(H:Hp):`u:=W.hideAll h (trk h H)
theorem Yb0(h:`u)(H:Hp):(s80 h H).objs.size=`d1:=W.hideAll_size _ _
theorem Yn0{h:`u}{b:`e}{o:Obj}(e:`eY)(n:`ct):`ajM :=
 W.hideAll_get _ e λhm=>by
  have q:(H b).isSome=`d:=(w4.mp hm).2;rw[n] at q;simp at q
theorem Uz0{h:`u}{b:`e}{o:Obj}(e:`ajM):`eY/\`ct:=by
 have e':`eY:=W.of_hideAll (trk h H) e;refine⟨e',?_⟩;cases q:H b with
 | none=>rfl
 | some x =>
  have hm:b∈trk h H:=w4.mpr ⟨`j6 (A3 e'),by simp[q]⟩;have z:`aa3=`b:=W.hideAll_none (trk h H) hm;rw[z] at e;cases e
structure Mod(K:`G)(mg:`a7)(base:`u):Prop where
 kin:`RO
 glob:`Fs
 blt:∃mb,base.Ns `RP mb/\`ajN
 nolimit:base.NoLimit
structure Cx where
 prog:`aa
 w:`L
 K:`G
 mg:`a7
 base:`u
 A:`a5
 N:`j
 s₀:`r
 H₀:Hp
 env:Env
 outer:`ei
 stack:`ei
 ex:`aJ
 fn:`RQ
 calm:`N
 pn:`av
 xe:`Z
variable{X:L2.Cx}
noncomputable def frs(l:`ei):`aJ:=`ajO `aeh
abbrev Cx.fs(X:Cx):`aJ:=frs `mU
noncomputable def Vis(sc:`dn)(x:Str):Prop:=`aa4∨`LB∨`tt x=`jt
noncomputable def Loc(sc:`dn)(x:Str):Prop:=`RR
noncomputable def Look(env:Env)(h:`u)(m:`a7)(x:Str)(u:`t):Prop :=
 (`A3=`kQ/\m x=`bg)∨((`A3=`h0∨`A3=`jt)/\∃c,`A1 x=`eU/\h.IsCell c (`bg))
structure Cx.Ok(X:Cx):Prop where
 mod:`ajP
 kind:`Ae=`m8
 glob:`LL=`a3
 blt:X.env.builtins=`RP
 above:`kS<=`eV
 inj:∀x y c,`h2->`ajQ->x=y
 has:∀x,(`ud=`h0∨`ud=`jt)->∃c,`h2
 cab:∀x c,`LK->`h2->`kS<=c
 hd:`bQ->X.A.handled=`b
 frames:`RS=`a `gU
 stk:`gU=`mU∨(`Ft/\`ajR)
 exf:∀b∈`ph,`kT/\`aa7
 bs:∀b o,`w8->`z!/\`ajS
 bsz:X.base.objs.size<=`kS
 noex:∀b o,`w8->`RT
 exfs:∀b∈`ph,`rq
 funs:`ajT `dG `mU
 frf:∀b∈`gV,`ajS
structure Inv(X:Cx)(pins:`av)(σ:`RU)(H:Hp)(s:`r):Prop where
 ok:X.Ok
 os:s.os=X.s₀.os
 bare:`tA `rr
 base:Un `gV `ph X.H₀ H X.s₀.heap `P
 loc:∃m,`ajU/\∀(i:Nat) (x:Str) (v:V),`bW->`Fu->`dX->∃u,`gh/\Look `v `P m x u
 cell:∀x c,`h2->∃v,`aa8
 free:H `eV=`b
 freeC:∀x c,`h2->H c=`b
 pin:∀p∈`pk,`ajV
 hok:HOk `a0 X.w H `P
 len:`Aa=X.N.length
section
variable{s:`r}
theorem Cx.Ok.nofr(ok:X.Ok){b:`e}{o:Obj}(e:`w8):`rq:=λhb=>by
 have:=(ok.funs.mem hb).1;rw[e] at this;cases `B
theorem Inv.bs(I:`y):∀b o,`w8->`ajW:=λb o e =>
 ⟨`LG b o (`Fv).1 (`Fv).2 (I.ok.nofr e) `ajX,`tw b o (`Fv).1 (`Fv).2 `ajX⟩
theorem Inv.bk(I:`y):∀b o,`w8->`gf:=λb o e=>(I.bs b o e).1
theorem Inv.mod(I:`y):`ajP:=I.ok.mod
theorem Inv.kIn(I:`y):X.K.In `P:=I.ok.mod.kin.keeps I.bk
theorem Inv.lt(I:`y):`eV<`A:=let ⟨_,hn,_⟩:=I.loc;hn.lt
theorem Inv.sz(I:`y):`kS<=`A:=B9 `z? (P7 I.lt)
theorem Inv.nofs(I:`y)(h:`Fw):a∉`gV:=λhb=>by
 obtain⟨_,o,ho,_⟩:=`ajY;exact `X (B4 (A3 ho) (B9 I.sz h)) `kj
theorem Inv.cne(I:`y):∀x c,`h2->c≠`eV:=λx c e z=>by
 obtain⟨v,o,ho,hd⟩:=`rs;obtain⟨m,⟨o',es,ep,F,J,_⟩,_⟩:=`dH;rw[z,F] at ho;cases ho;rw[J] at hd;cases hd
theorem Inv.funs(I:`y):`vm `dG `mU:=by
 have all:∀(l:`ei),(∀b∈frs l,b∈`gV)->`ajT `dG l->`vm `dG l:=by
  intro l
  induction l with
  | nil=>intro _ _;trivial
  | cons env r ih =>
   intro hs hl;obtain⟨hk,⟨L,o,hf,hn,ho,hd⟩,hr⟩:=hl;have hL:L∈`gV:=hs L (by unfold frs;rw[`w9,hf];exact A7);obtain⟨sl,e⟩:=`LH L o ho (I.ok.frf L hL) hL λz=>I.ok.exfs L z hL
   exact⟨hk,⟨L,_,hf,hn,e,hd⟩,ih (λb hb=>hs b (by unfold frs;rw[`w9,hf];exact `RV)) hr⟩
 exact all `mU (λ_ hb=>hb) I.ok.funs
theorem Inv.stack(I:`y):`vm `dG `gU:=by
 rcases `RW with e|⟨e,hf⟩
 ·rw[e];exact I.funs
 ·rw[e]
  obtain⟨m,hn,_⟩:=`dH;refine `ak (by rw[`gX];decide) hf hn ?_ I.funs;exact `ajZ (B9 I.ok.bsz `z?)
theorem Inv.stkSub(I:`y):∀b∈`rt,b∈`eV::`gV:=λb hb=>by
 rcases `RW with e|⟨e,hf⟩
 ·rw[e] at hb;exact `RV
 ·rw[e] at hb
  unfold frs at hb;rw[`w9,hf] at hb;exact hb
theorem Inv.stkFree(I:`y):∀b∈`rt,`ct:=λb hb=>by
 rcases `b1 (`RX b hb) with e|hb
 ·rw[e];exact `dY
 ·obtain⟨_,o,ho,_⟩:=`ajY
  exact `tw b o ho (I.ok.frf b hb) λz=>I.ok.exfs b z hb
theorem Inv.step{g':`ny}{t':Nat}{d':`w0}{ch:`aJ}(I:`y)
  (hch:∀b∈ch,`RY)
  (keep:∀b o,`kT->`rq->`w'->`gf->`ct->`mV)
  (slot:∀b o,`kT->b∈`gV->`w'->`gf->`ct->`RK) (free:∀b o,`w'->`gf->`ct->`k0)
  (there:∀b o,`w'->`gf->`RL)
  (tups:`RF) (frzs:`ajF) (tbls:`ajG)
  (ns:∀m,`ajU->h'.Ns `eV m) (hok:`RZ) (hg:`tA g') :
  `aj_:=by
 have Y:`R_:=`aj0
 have O:∀b o,`z!->`RT->`w':=λb o e hx hb=>by
  rcases (hch b hb).1 with z|z
  ·exact hx z
  ·exact `X (B4 `kU z) `kj
 have J:`aj1:=λx c e v ⟨o,ho,hd⟩=>by
  have F:c∉ch:=`aj2
  by_cases hc:c∈`gV
  ·obtain⟨sl,q⟩:=slot c o (I.cne x c e) hc F ho (`Fx)
   exact`aj3
  ·exact⟨o,keep c o (I.cne x c e) hc F ho (`Fx),hd⟩
 refine⟨I.ok,`f1,hg,⟨`mZ,`mZ,`aj4,`Af,λb xs e=>tups b xs (`Ag b xs e),λb o xs e=>frzs b o xs (`Ah b o xs e),`aj5⟩,?_,`ru,?_,`ru,`f2,hok,`fu⟩
 ·exact keep b o (Y b o e) hb `Fy `Fz (`FA)
 ·obtain⟨sl,e1⟩:=`FB
  obtain⟨Z,e2⟩:=slot b _ (Y b o e) hb `Fy e1 (`FA);exact⟨Z,e2⟩
 ·obtain⟨o',e1⟩:=`w!
  exact free b o' `Fy e1 (`FA)
 ·obtain⟨o',e1⟩:=`w!
  exact there b o' `Fy e1
 ·obtain⟨m1,e1⟩:=`aj6
  obtain⟨m2,e2⟩:=tbls b _ e1;exact⟨m1++m2,by rw[e2,Array.append_assoc]⟩
 ·obtain⟨m,hn,hl⟩:=`dH
  refine⟨m,ns m hn,`R0⟩;obtain⟨u,r,l⟩:=`aj7;refine`aj8;rcases l with l|⟨k,c,e,z⟩
  ·exact `o l
  ·exact `q ⟨k,c,e,J x c e _ z⟩
 ·obtain⟨v,z⟩:=`rs
  exact⟨v,J x c e v z⟩
 ·obtain⟨m,⟨o,_,_,ho,_⟩,_⟩:=`dH
  exact free _ o (`aj9) ho `dY
 ·obtain⟨v,o,ho,hd⟩:=`rs
  exact free c o (`aj2) ho (`Fx)
 ·obtain⟨e,n,ne,nf,d⟩:=`ot
  have F:p.1∉ch:=λz=>(hch p.1 z).2.2.2 p hp rfl
  exact⟨keep p.1 p.2 ne nf F e n,free p.1 p.2 F e n,ne,nf,d⟩
theorem Inv.un(I:`y)(u:Un `gV [] H H' `P h')(hok:`RZ):Inv X `h σ H' `mW:=by
 obtain⟨m,⟨o,es,ep,ho,r⟩,_⟩:=`R1;obtain⟨sl,hL⟩:=u.any ho `dY `T;exact `FC (g':=`rr) (d':=`FD) (ch:=[]) (λ_ z=>nomatch z) (λb o _ hb _ e n=>u.keep b o e n hb `T) (λb o _ hb _ e n=>u.slot b o e n hb `T) (λb o _ e n=>u.free b o e n `T) (λb o _ e=>u.there b o e `T) u.tups u.frzs u.tbls (λm' hm=>by
  obtain⟨o',O,J,F,r'⟩:=hm;rw[ho] at F;cases F;exact`aj') hok `ej
theorem Inv.call{g':`ny}{t':Nat}{d':`w0}(I:`y)(u:Un (`rt) ch H H' `P h')(hok:`RZ)(hg:`tA g')
  (hch:∀b∈ch,`RY) :
  `aj_:=by
 obtain⟨m,⟨o,es,ep,ho,r⟩,_⟩:=`R1;obtain⟨sl,hL⟩:=u.any ho `dY `aj9
 exact `FC (ch:=ch) hch (λb o hL hb hc e n=>u.keep b o e n (λz=>(`b1 (`RX b z)).elim hL hb) hc) (λb o _ _ hc e n=>u.any e n hc) (λb o hc e n=>u.free b o e n hc) (λb o hc e=>u.there b o e hc) u.tups u.frzs u.tbls (λm' hm=>by
  obtain⟨o',O,J,F,r'⟩:=hm;rw[ho] at F;cases F;exact`aj') hok hg
theorem Inv.turned{t':Nat}(I:`y)(k:∀b o,b≠it->`B1)(hn:H it=`b)(hL:it≠`eV)
  (h1:it∈`ph∨`kS<=it) (h2:∀x c,`h2->c≠it) (h3:∀p∈`pk,p.1≠it):`R2:=by
 have F:∀b u,`or->b≠it:=λb u e z=>by rw[z,hn] at e;cases e
 refine `FC (g':=`rr) (d':=`FD) (ch:=`lw) (`fg) (λb o _ _ hc e _=>`R3) (λb o _ _ hc e _=>⟨`FE,`R3⟩) `aj!
  (λb o hc e=>⟨o,`R3⟩) (`FF) (λ_ _ _ e=>e) `aj? (λm hm=>?_) (`R4) `ej
 ·have e:b=it:=`i_
  subst e;exact⟨h1,hL,h2,h3⟩
 ·obtain⟨o,es,ep,ho,r⟩:=hm
  exact⟨o,es,ep,k _ o (B1 hL) ho,r⟩
 ·refine`aka
  rcases hc with z|z
  ·rw[z];exact F b u e
  ·exact F c _ z
theorem Inv.tok(I:`y)(t:Nat):Inv X `h σ H { s with toks:=t }:=I.un (h':=`P) (t':=t) Un.refl `bh
theorem Inv.kept(I:`y)(k:`R5):`R2:=I.un (`Fq k) (I.hok.kept k)
theorem Inv.laid{o:HO}{t':Nat}(I:`y)(k:`R5)(hp:`Fw)(new:`cJ `a0 X.w `kk h' a o) :
  Inv X `h σ `kk `mW:=I.un (Un.laid k hp (`pz hp)) (I.hok.laid k hp new)
theorem Inv.write{x e:`e}{o:HO}{t':Nat}(I:`y)(mu:`RH)(he:`RI)(k:∀b u,`z7->`aa!)(heo:`RJ)
  (new:`cJ `a0 X.w `RN h' x o):Inv X `h σ `RN `mW:=I.un (Un.write mu he k heo) (I.hok.write mu he k heo new)
theorem Inv.weak{σ':`RU}(I:`y)(hl:`R6)(w:∀(i:Nat) v,σ'[i]?=`pj->`Fu):Inv X `h σ' H s :=
 ⟨I.ok,`f1,`ej,`me,let ⟨m,hn,hl'⟩:=I.loc;⟨m,hn,λi x v e1 e2 e3=>hl' i x v e1 (w i v e2) e3⟩,`fs,`dY,`ft,`gW,`bh,hl.trans `fu⟩
theorem Inv.pins_of{pins':`av}(I:`y)(h:∀p∈pins',`ajV):Inv X pins' σ H s :=
 ⟨I.ok,`f1,`ej,`me,`dH,`fs,`dY,`ft,λp hp=>`akb (λz=>`gW p (D6 _ z)) (h p),`bh,`fu⟩
theorem o20(hN:`FG)(a:N[i]?=`cc)(b:N[j]?=`cc):i=j:=by
 obtain⟨h1,e1⟩:=`gg a;obtain⟨h2,e2⟩:=`gg b;exact(Ab0 hN).mp (e1.trans e2.symm)
theorem kh0{M:`ef}{A:`a5}{E:`Z}{v:V}{Q:`f_}(I:`y)(hN:`f3)(hi:`bW)(hx:`mf)(r:`gh)
  (h:∀s',`akc->(∃a,`tz a `P `k1/\(a=`eV∨`LC x=`nm))->`FH) (hf:`mg:=by first|exact `cd|exact `dr|assumption):`akd:=by
 obtain⟨m,hn,hl⟩:=`R1;have a1:`ake:=`akf
 have hiσ:i<`Aa:=`akg
 have cne:=I.cne;have F:∀{a:`e} {h':`u},(∃o,`op/\`rp)->`akh->`aki:=λ{a h'} ha hs b ob e=>by
  obtain⟨_,_,J⟩:=ha;refine(`bh b ob e).stay (λc w' hc q=>`akj q) `tx `mX
  rintro rfl;rcases hc with rfl|hc
  ·rw[J] at e;cases e
  ·rw[J] at hc;cases hc
 rcases hx with hk|hk
 ·refine wpAny_storeName_local hk hn (λh' a3 hs=>?_) a1
  obtain⟨oL,_,_,a4,_⟩:=id hn;refine h _ ⟨I.ok,`f1,`ej,`akk,⟨_,a3,`R7⟩,`akl,`dY,`ft,`f2,F ⟨oL,a4,`dY⟩ hs,`R8⟩ ⟨_,hs,`cd⟩
  ·exact`R9 `Fz
  ·obtain⟨sl,e1⟩:=`FB
   exact⟨sl,`R9 e1⟩
  ·obtain⟨o',e1⟩:=`w!
   exact⟨o',`R9 e1⟩
  ·by_cases hj:j=i
   ·subst hj
    rw[hi] at e1;cases e1;rw[`FI] at e2;cases e2;exact⟨u,r,`o ⟨hk,`aB⟩⟩
   ·rw[`mh] at e2
    obtain⟨u',r',q⟩:=`akm;refine`R';rcases q with⟨k,e⟩|⟨k,c,e,z⟩
    ·refine `o ⟨k,?_⟩
     have:y≠x:=`akn
     simp[`B,e]
    ·exact `ako
  ·obtain⟨w',z⟩:=`fs y c e
   exact`akp
  ·obtain⟨e,n,ne,nf,d⟩:=`ot
   exact`akq
 ·have O:`LK:=by
   rcases hf with z|z
   ·exact z
   ·rw[z] at hk;cases hk
  obtain⟨c,hc⟩:=`R! x (`o hk);obtain⟨w',z⟩:=`fs x c hc;refine wpAny_storeName_cell `gX hk hc z (`akr);obtain⟨oc,Y,a2⟩:=id z;refine h `dI ⟨I.ok,`f1,`ej,`akk,⟨m,`aks hs (B1 (cne x c hc)),`R7⟩,λy c' e=>?_,`dY,`ft,`f2,F ⟨oc,Y,`ft x c hc⟩ hs,`R8⟩ ⟨c,hs,`q hc⟩
  ·exact`R? `Fz
  ·obtain⟨sl,e1⟩:=`FB
   exact⟨sl,`R? e1⟩
  ·obtain⟨o',e1⟩:=`w!
   exact⟨o',`R? e1⟩
  ·by_cases hj:j=i
   ·subst hj
    rw[hi] at e1;cases e1;rw[`FI] at e2;cases e2;exact⟨u,r,`q ⟨`o hk,c,hc,Z⟩⟩
   ·rw[`mh] at e2
    obtain⟨u',r',q⟩:=`akm;refine`R';rcases q with q|⟨k,c',e,z'⟩
    ·exact `hJ
    ·refine `q ⟨k,c',e,z'.sameBut hs ?_⟩
     rintro rfl;exact hj (o20 hN e1 (I.ok.inj _ _ _ e hc▸hi))
  ·by_cases hcc:c'=c
   ·subst hcc;exact⟨_,Z⟩
   ·obtain⟨w2,z2⟩:=`fs y c' e
    exact⟨w2,z2.sameBut hs hcc⟩
  ·obtain⟨e,n,ne,nf,d⟩:=`ot
   refine⟨(`gY p.1 ?_).trans e,n,ne,nf,d⟩;intro q;rw[q,Y] at e;have q':oc=p.2:=B5 e;exact d w' (by rw[← q'];exact a2)
theorem sn0{M:`ef}{A:`a5}{E:`Z}{v:V}{Q:`f_}(I:`y)(hN:`f3)(hi:`bW)(hx:`mf)(r:`gh)
  (h:∀s',`akc->`FH) (hf:`mg:=by first|exact `cd|exact `dr|assumption):`akd :=
 kh0 I hN hi hx r (λs' I' _=>h s' I') hf
theorem Inv.call'(I:`y)(ho:`Sa)(u:Un (`rt) ch H H' `P `k1)(hok:HOk `a0 X.w H' `k1)(hg:`AW)
  (hch:∀b∈ch,`RY):`kl:=by
 obtain⟨h',g',d',t',o'⟩:=s';have e:o'=s.os:=ho;subst e;exact I.call (g':=g') (t':=t') (d':=d') u hok hg hch
universe zz
abbrev XK:=`t->`a6->`gZ
abbrev St:=`RU
abbrev VK:=`Sb
abbrev TE:=St->`Ao
abbrev TT:=St->Hp->(`w?)->Prop
variable{ta tb te tv ty:L2.TE}
abbrev TA:=St->Hp->(`A6)->Prop
structure Ends where
 nx:`h4
 rt:VK
 bk:`h4:=λ_ _=>`cK
 ct:`h4:=λ_ _=>`cK
abbrev TS:=`mi->`h4
noncomputable def EP(X:Cx)(pins:`av)(σ:St)(Q:VK)(u:`t)(s':`r):Prop:=∃v H',`kl/\`akt
noncomputable def TP(X:Cx)(pins:`av)(σ:St)(Q:`w?)(b:`N)(s':`r):Prop:=∃H',`kl/\Q b H'
noncomputable def AP(X:Cx)(pins:`av)(σ:St)(Q:`A6)(us:`H)(s':`r):Prop:=∃vs H',`kl/\`p6/\Q vs H'
noncomputable def SP(X:Cx)(pins:`av)(D:`mi)(f:Flow)(s':`r):Prop :=
 match f with
 | `A4=>∃σ' H',`kY/\`kX σ' H'
 | .brk=>∃σ' H',`kY/\D.bk σ' H'
 | .cont=>∃σ' H',`kY/\D.ct σ' H'
 | `dA u=>∃v σ' H',`kY/\`gh/\D.rt v H'
noncomputable def PE(X:Cx)(e:`D)(t:TE):Prop :=
 ∀(pins:`av) (s:`r) (σ:St) (H:Hp) (Q:VK),`y->`le->`i `ac X.A `BR `fz `az s
noncomputable def PT(X:Cx)(e:`D)(t:TT):Prop :=
 ∀(pins:`av) (s:`r) (σ:St) (H:Hp) (Q:`w?),`y->`le->`i `ac X.A (`Aj e `v `BR) `Sc `az s
noncomputable def PW(X:Cx)(e:`D)(t:TT):Prop :=
 ∀(whole:`tM) (pins:`av) (s:`r) (σ:St) (H:Hp) (Q:`w?),`y->`le->`i `ac X.A (`abg) `Sc `az s
theorem PW.pt{t:TT}(h:PW X e t):PT X e t:=h _
noncomputable def PA(X:Cx)(es:`bT)(t:TA):Prop :=
 ∀(pos:Pos) (pins:`av) (s:`r) (σ:St) (H:Hp) (Q:`A6),`y->`le->`i `ac X.A (`rv (`Ma)) (AP X `h σ Q) `az s
noncomputable def PS(X:Cx)(st:`a8)(t:TS):Prop :=
 ∀(pins:`av) (s:`r) (σ:St) (H:Hp) (D:`mi),`y->t D σ H->`i `ac X.A (exec st `v) `FJ `az s
noncomputable def PSs(X:Cx)(st:`dW)(t:TS):Prop :=
 ∀(pins:`av) (s:`r) (σ:St) (H:Hp) (D:`mi),`y->t D σ H->`i `ac X.A (execs st `v) `FJ `az s
theorem thn{t:Sem α}{Q Q':α->`dy}{M:`ef}{s:`r}(h:`i M A t Q E s)(hQ:∀a s,Q a s->Q' a s):`i M A t Q' E s:=C9 h hQ `FK
section
noncomputable def M30(i:Nat):TE:=fun σ H Q=>∃v,`Fu/\Q v H
noncomputable def tC(v:V):TE:=λ_ H Q=>Q v H
theorem za0(hN:`bW)(hv:`dX)(hd:`aW:=by decide)(hcd:`eI:=by decide):PE X `kV (M30 i):=by
 intro pins s σ H Q I h;obtain⟨v,e,h⟩:=h;obtain⟨m,hn,hl⟩:=`dH;obtain⟨u,r,l⟩:=hl i x v hN e hv;have J:EP X `h σ Q u s:=`Sd;rcases l with⟨hk,hm⟩|⟨hk,c,hc,F⟩
 ·exact `Se (`aku `gX hk hn hm J) hd
 ·rcases hk with hk|hk
  ·exact `Se (`akv `gX hk hc F J) hd
  ·exact `Se (wpAny_loadName_free `gX hk hc F J hcd) hd
theorem Qo0{i j pos}:PE X (`jZ `dL j pos) (tC `dL):=λ_ _ _ H _ I h=>wpAny_Constant_int ⟨`a4,H,`eu,`au,h⟩
theorem Pz0{b j pos}:PE X (`jZ (`o?) j pos) (tC `qK):=λ_ _ _ H _ I h=>Constant_bool ⟨`da,H,I,rfl,h⟩
theorem Qb0{j pos}:PE X (`jZ `aj j pos) (tC `z):=λ_ _ _ H _ I h=>Constant_none ⟨`z,H,I,rfl,h⟩
theorem Qw0{x j pos}:PE X (`jZ `km j pos) (tC `km):=λ_ _ _ H _ I h=>`akw ⟨`es,H,`eu,`au,h⟩
noncomputable def Gl(X:Cx)(x:Str):Prop:=`ud=`a .globalImplicit
theorem vw0{E:`Z}{s:`r}{σ:St}{pos:Pos}(I:`y)(hg:`cI)(hm:`pl=`bg)(h:Q u s)
  (hd:`aW:=by decide):`akx :=
 Bm0 `gX hg (Calls.loadGlobal_global `aky hm h) hd
theorem z80{E:`Z}{s:`r}{σ:St}{pos:Pos}(I:`y)(hg:`cI)(hm:`mj)(hv:`pg=`bg)(h:Q u s)
  (hn:`jp := by decide) (hd:`aW:=by decide):`akx:=by
 obtain⟨mb,h1,h2⟩:=I.mod.blt;exact Bm0 `gX hg (Calls.loadGlobal_builtin `aky hm (by rw[I.ok.blt];exact h1.keeps I.bk) ((h2 x hn).trans hv) h) hd
theorem fs0{v:V}(hg:`cI)(hm:`pl=`bg)(r:`gh)(hd:`aW:=by decide):`akz :=
 λ_ _ _ H _ I h=>vw0 I hg hm `Sd hd
theorem T30{v:V}(hg:`cI)(hm:`mj)(hv:`pg=`bg)(r:`gh)(hn:`jp := by decide)(hd:`aW:=by decide):`akz :=
 λ_ _ _ H _ I h=>z80 I hg hm hv `Sd hn hd
variable{a:`D}
noncomputable def PC(X:Cx)(op:`mk)(a b:`D)(t:TE):Prop :=
 ∀(pins:`av) (s:`r) (σ:St) (H:Hp) (Q:VK),`y->`le ->
  `i `ac X.A (`L3) (λv s₁=>`i `ac X.A (`L7) (λu s₂=>`i `ac X.A (`gk op v u) `fz `az s₂) `az `dM) `az s
noncomputable def tB(t:TE):TT:=fun σ H Q=>t σ H λx H1=>∃c,x=.bl c/\Q c H1
theorem Qd0{op:`mk}{t:TE}(h:`akA)(h1:`ou:=by first|exact `akB|rfl):PE X `rx t:=λpins s σ H Q I hw=>`akC `akD h1
theorem b40{op:`mk}{t:TE}(h:`akA)(h1:`ou:=by first|exact `akB|rfl):PT X `rx (tB t):=by
 intro pins s σ H Q I hw;refine `akE (thn `Sf λv s1 h1=>thn h1 λu s2 h2=>thn h2 λc s3 ⟨x,H1,I1,r1,q1⟩=>?_) h1;obtain⟨d,rfl,q⟩:=q1;cases r1;exact `akF
theorem P50{t:TE}(h:PE X e t)(he:`akG:=by intro _;rfl):PT X e (tB t):=by
 intro pins s σ H Q I hw;refine isTrue_plain (thn `Sf `tD) (he _);obtain⟨d,rfl,q⟩:=q1;cases r1;exact `akF
variable{tA tB':TT}{rest:`bT}
noncomputable def Nd0(t u:TT):TT:=fun σ H Q=>t σ H λc H1=>if `FL then u σ H1 Q else Q `m H1
noncomputable def tOr(t u:TT):TT:=fun σ H Q=>t σ H λc H1=>if `FL then Q `d H1 else u σ H1 Q
noncomputable def N70(t:TT):TT:=fun σ H Q=>t σ H `akH
theorem Tk0(ha:`xa):PW X `akI tA:=by
 intro wh pins s σ H Q I h;refine `akJ `akK;cases c with
 | true=>exact isTrue_and_nil e
 | false=>exact e
theorem R60(ha:`xa):PW X `akL tA:=by
 intro wh pins s σ H Q I h;refine isTrue_or `akK;cases c with
 | false=>exact isTrue_or_nil e
 | true=>exact e
theorem Rl0(ha:`xa)(hb:PW X `FM tB'):PW X `FN (Nd0 tA tB'):=by
 intro wh pins s σ H Q I h;refine `akJ `akM;cases c with
 | true=>exact `akN
 | false=>exact`akO
theorem Og0(ha:`xa)(hb:PW X `akP tB'):PW X `akQ (tOr tA tB'):=by
 intro wh pins s σ H Q I h;refine isTrue_or `akM;cases c with
 | true=>exact`akO
 | false=>exact `akN
theorem Ss0(ha:`xa):PT X `akR (N70 tA):=by
 intro pins s σ H Q I h;exact isTrue_not (ha `h s σ H (`akH) I h)
noncomputable def Oc0(ta tb:TE):TE:=fun σ H Q=>ta σ H λx H1=>∃c,x=.bl c/\if `FL then `akS else Q `A? H1
theorem Q70{op}{t:TE}(h:PE X a t):PE X `akT t:=λpins s σ H Q I hw=>BoolOp_one `akD
theorem P90(ha:`ml)(hb:PE X `FM tb):PE X `FN (Oc0 ta tb):=by
 intro pins s σ H Q I h;refine BoolOp_and (`akU);obtain⟨c,rfl,q1⟩:=q1;cases r1;refine j3 ?_;cases c with
 | true=>exact `akV
 | false=>exact⟨.bl `m,H1,I1,rfl,q1⟩
noncomputable def tIf(t:TT)(ta tb:TE):TE:=fun σ H Q=>t σ H λc H1=>if `FL then ta σ H1 Q else `akS
theorem Xa0{c:`D}(hc:PT X c tA)(ha:`ml)(hb:`ov):PE X `akW (tIf tA ta tb):=by
 intro pins s σ H Q I h;refine wpAny_IfExp `akX;cases d with
 | true=>exact ha `h s1 σ H1 Q I1 q1
 | false=>exact `akV
universe zz
noncomputable def SqL(K:`G)(H:Hp)(a:`e)(xs:`C):Prop :=
 `akY ∨
  ∃(o:Obj) (its:`aI) (n:Nat),`Sg/\`akZ/\`w4/\`ak_
noncomputable def SqT(K:`G)(H:Hp)(a:`e)(xs:`C):Prop :=
 Rd H a `pf ∨
  ∃(o:Obj) (its:`aI) (n:Nat),`Sg/\`nR/\`ak_
noncomputable def Np0:`t->`c?
 | `aj=>`a `z
 | `o?=>`a `qK
 | `c i _=>`a `dL
 | `J x _=>`a `km
 | .bytes b _=>`a (.byt b)
 | .float b _=>`a (.flt b)
 | `a9=>`nn
 | `aZ n=>`a (.ty n)
 | _=>`b
theorem RelV.abs{x:V}(r:`g2):Np0 u=`cc:=by
 cases x with
 | non=>cases r;rfl
 | bl _=>cases r;rfl
 | int _=>obtain⟨t,rfl⟩:=r;rfl
 | str _=>obtain⟨t,rfl⟩:=r;rfl
 | byt _=>obtain⟨t,rfl⟩:=r;rfl
 | flt _=>obtain⟨t,rfl⟩:=r;rfl
 | ref _=>cases r;rfl
 | ty _=>cases r;rfl
theorem RelV.inj{x y:V}(r:`g2)(q:`ek):x=y:=B5 (r.abs.symm.trans q.abs)
theorem Vals.inj:∀{xs ys:`C} {us:`H},`dq->`bm ys us->xs=ys
 | _,_,_,`U,`U=>rfl
 | _,_,_,`eH,`ak r' t'=>by rw[`Sh,Vals.inj t t']
section
variable{σ:St}{s:`r}{xs ys:`C}
theorem SqT.of(h:H a=`tr):`g_:=`o (`o h)
theorem Inv.list(I:`y)(h:`ak0):∃its:`H,`mb/\PlainL `P a `bZ/\`iZ:=by
 rcases h with h|⟨o,its,n,hk,hc,hd,hs,hz,r⟩
 ·obtain⟨z,its,n,r,e⟩:=`ak1
  exact⟨its,r,⟨_,n,e,rfl,rfl,rfl⟩,z⟩
 ·refine⟨`An,r,⟨o,n,`ak2,hc,hd,`ak3⟩,?_⟩
  have e:=`aL;simp only[`FO] at e;omega
theorem Inv.tuple(I:`y)(h:`ak4):∃its:`H,`mb/\`tZ `P a `bZ/\`iZ:=by
 rcases h with h|⟨o,its,n,hk,hc,hs,hz,r⟩
 ·obtain⟨z,its,r,p⟩:=`ak1
  exact⟨its,r,p.tup,z⟩
 ·refine⟨`An,r,⟨o,`ak2,hc,n,`ak3⟩,?_⟩
  have e:=`aL;simp only[`FO] at e;omega
theorem Inv.list_inj(I:`y)(h:`ak0)(h':SqL X.K H a ys):xs=ys:=by
 obtain⟨its,r,⟨o,n,e,_,_,d⟩,_⟩:=`dK h;obtain⟨F,r',⟨o',n',e',_,_,d'⟩,_⟩:=`dK h';rw[e] at e';cases e';rw[d] at d';injection d' with d1 _
 have:its=F:=`ak5
 subst this;exact `Sh
theorem Inv.tuple_inj(I:`y)(h:`ak4)(h':SqT X.K H a ys):xs=ys:=by
 obtain⟨its,r,⟨o,e,_,n,d⟩,_⟩:=`d4 h;obtain⟨F,r',⟨o',e',_,n',d'⟩,_⟩:=`d4 h';rw[e] at e';cases e';rw[d] at d';injection d' with d1 _
 have:its=F:=`ak5
 subst this;exact `Sh
universe zz
abbrev Cx.wish(X:Cx)(E:`Z):Cx:={ X with xe:=E }
abbrev Cx.nox(X:Cx):Cx:=X.wish `jJ
theorem Cx.Ok.wish(ok:X.Ok)(E:`Z):`ak6 :=
 `ak7
theorem Cx.Ok.unwish(ok:`ak6):X.Ok :=
 `ak7
section
variable{σ:St}{s:`r}
theorem Inv.wish(I:`y)(E:`Z):`ak8:=⟨I.ok.wish E,`f1,`ej,`me,`dH,`fs,`dY,`ft,`gW,`bh,`fu⟩
theorem Inv.unwish(I:`ak8):`y:=⟨I.ok.unwish,`f1,`ej,`me,`dH,`fs,`dY,`ft,`gW,`bh,`fu⟩
theorem SP.unwish{D:`mi}{f:Flow}(h:SP (X.wish E) `h D f s'):SP X `h D f s':=by
 cases f with
 | next=>obtain⟨σ',H',I,q⟩:=h;exact`Si
 | brk=>obtain⟨σ',H',I,q⟩:=h;exact`Si
 | cont=>obtain⟨σ',H',I,q⟩:=h;exact`Si
 | ret u=>obtain⟨v,σ',H',I,r,q⟩:=h;exact⟨v,σ',H',`abk,r,q⟩
theorem PSs.nox{st:`dW}{t:TS}(h:PSs X.nox st t):PSs X st t:=λpins s σ H D I hw =>
 C9 (h `h s σ H D (I.wish _) hw) (λ_ _ q=>q.unwish) λ_ _ z=>`k2 z
universe zz
section
variable{st:`a8}{t u:TS}
noncomputable def Pr0:TS:=λD σ H=>`Sj
noncomputable def Nj0(t u:TS):TS:=λD σ H=>t `ak9 σ H
theorem l80:PSs X [] Pr0:=λ_ _ σ H _ I h=>Ad0 `ak'
theorem z90(h1:PS X st t)(h2:PSs X `d3 u):PSs X (st::`d3) (Nj0 t u):=by
 intro pins s σ H D I h;refine wpAny_execs_cons (thn (h1 `h s σ H `ak9 I h) `Sk);cases f with
 | next =>
  obtain⟨σ',H',I',q⟩:=q;exact h2 `h s1 σ' H' D I' q
 | ret v=>exact q
 | brk=>exact q
 | cont=>exact q
theorem Inv.quiet{σ:St}{s:`r}(I:`y):`ak! `v=`m:=by simp[`ak!,`gX]
noncomputable def Op0(te:TE):TS:=λD σ H=>te σ H λ_ H1=>`ak?
theorem ll0(he:`kn)(hs:`ala:=by rfl):PS X (.Expr e pos) (Op0 te):=by
 intro pins s σ H D I h;exact wpAny_Expr_any (thn `ow λv s1 ⟨x,H1,I1,r1,q1⟩=>⟨σ,H1,I1,q1⟩) I.quiet hs
noncomputable def Nk0(te:TE):TS:=λD σ H=>te σ H D.rt
theorem gn0(he:`kn):PS X `xb (Nk0 te):=by
 intro pins s σ H D I h;exact wpAny_Return_some (thn `ow λv s1 ⟨x,H1,I1,r1,q1⟩=>⟨x,σ,H1,I1,r1,q1⟩)
noncomputable def M60(c:TT)(t u:TS):TS:=λD σ H=>c σ H λb H1=>if b=`d then t D σ H1 else u D σ H1
theorem Wz0{c:`D}{a b:`dW}{tc:TT}(hc:PT X c tc)(ha:PSs X a t)(hb:PSs X b u):PS X (.If c a b pos) (M60 tc t u):=by
 intro pins s σ H D I h;refine wpAny_If `akX;cases d with
 | true=>exact ha `h s1 σ H1 D I1 q1
 | false=>exact hb `h s1 σ H1 D I1 q1
noncomputable def S30:TS:=`mm
theorem zl0{sts:`dW}:PSs X sts S30:=λ_ _ _ _ _ _ h=>`hK
universe zz
abbrev TG:=V->`alb
abbrev TGs:=`C->`alb
noncomputable def PG(X:Cx)(target:`D)(t:TG):Prop :=
 ∀(pins:`av) (s:`r) (σ:St) (H:Hp) (v:V) (u:`t) (Q:`h4),`y->`gh->`alc ->
  `i `ac X.A (`gj `A5 `v u) `ald `az s
noncomputable def PGs(X:Cx)(ts:`bT)(t:TGs):Prop :=
 ∀(pins:`av) (s:`r) (σ:St) (H:Hp) (vs:`C) (us:`H) (Q:`h4),`y->`p6->t vs σ H Q ->
  `i `ac X.A (assignInOrder ((`js ts `v).map `cf) us) `ald `az s
abbrev Xd0:=`Sl
noncomputable def X20(X:Cx)(t:Xd0):Prop :=
 ∀(pins:`av) (s:`r) (σ:St) (H:Hp) (o i v:V) (ov iv u:`t) (Q:`gZ),`y->`dD o ov->`dD i iv->`gh->t o i v H Q ->
  `i `ac X.A (`LT ov iv u) (λ_ s'=>∃H',`kl/\Q H') `az s
abbrev TIp:=V->`ry
noncomputable def PIp(X:Cx)(op:`FP)(t:TIp):Prop :=
 ∀(pins:`av) (s:`r) (σ:St) (H:Hp) (x y:V) (v u:`t) (Q:VK),`y->`hL->`ek->t x y H Q ->
  `i `ac X.A (inplaceOp op v u) `fz `az s
noncomputable def N00(i:Nat):TG:=λv σ H Q=>Q `ty H
theorem tf0(hN:`f3)(hi:`bW)(hx:`mf)(hf:`mg:=by first|exact `cd|exact `dr|assumption):PG X `kV (N00 i):=by
 intro pins s σ H v u Q I r h;exact `ale (sn0 I hN hi hx r (λs' I'=>⟨_,H,I',h⟩) hf)
noncomputable def M20:TGs:=λvs σ H Q=>vs=[]/\Q σ H
noncomputable def O00(t:TG)(u:TGs):TGs:=λvs σ H Q=>∃v r,vs=v::r/\t v σ H fun σ' H'=>u r σ' H' Q
theorem T40:PGs X [] M20:=by
 intro pins s σ H vs us Q I r h;obtain⟨e,h⟩:=h;subst e;cases r;exact assignInOrder_nil `ak'
theorem iu0{t:TG}{u:TGs}(h1:PG X e t)(h2:PGs X es u)
  (hs:(`js `gl `v).map `cf=`gj e `v::(`Sm).map `cf:=by rfl):PGs X `gl (O00 t u):=by
 intro pins s σ H vs us Q I r h;obtain⟨v,vr,e1,h⟩:=h;subst e1;cases r with
 | cons r rr =>
  rw[hs];refine assignInOrder_cons (thn (h1 `h s σ H _ _ _ I r h) λ_ s1 ⟨σ1,H1,I1,q1⟩=>?_);exact h2 `h s1 σ1 H1 _ _ Q I1 rr q1
noncomputable def No0(K:`G)(n:Nat)(t:TGs):TG:=λv σ H Q=>∃a xs,`g8/\`g_/\`aP=n/\t xs σ H Q
theorem Rw0{k:Nat}{t:TGs}{n:Nat}(hc:`bQ)(h:PGs X es t)
  (hn:(`Sm).length=n:=by rfl) (hst:(`Sm).findIdx? `bG=`b:=by rfl):PG X (`nD es k pos) (No0 X.K n t):=by
 intro pins s σ H v u Q I r hw;obtain⟨a,xs,e1,hq,hl,hw⟩:=hw;subst e1;cases r;obtain⟨its,rv,ht,hz⟩:=`hM;refine assign_Tuple_tuple `dZ ht (by simp[hn,← hl,`e7]) hst λh' hx=>?_
 have I1:`it:=`xc (t':=`a1) λb o e=>hx b o `Sn e
 exact h `h _ σ H xs _ Q I1 (`alf) hw
noncomputable def Ny0(to ti:TE)(t:Xd0):TG:=λv σ H Q=>to σ H λo H1=>ti σ H1 λi H2=>t o i v H2 λH3=>Q σ H3
theorem ba0{i:`D}{to ti:TE}{t:Xd0}(ho:`So)(hi:PE X i ti)(hs:X20 X t)
  (ha:∀v,`gj `Sp `v v=(do
   let ov ← `kW [v] `AP
   let iv ← `kW [v,ov] (`bp i `v)
   `Sq
   `Sr
   `Ss):=by intro _;rfl):PG X `Sp (Ny0 to ti t):=by
 intro pins s σ H v u Q I r h;rw[ha];refine A0 (C5 (thn `AQ λov s1 ⟨x,H1,I1,r1,q1⟩=>?_));refine A0 (C5 (thn `alg λiv s2 ⟨y,H2,I2,r2,q2⟩=>?_));refine A0 (k6 (A0 (C5 (thn (hs `h s2 σ H2 x y v ov iv u _ I2 r1 r2 r q2) λ_ s3 ⟨H3,I3,q3⟩=>?_))));exact wpAny_release ⟨σ,H3,I3,q3⟩
noncomputable def Nb0(te:TE)(g:TG):TS:=λD σ H=>te σ H λx H1=>g x σ H1 `kX
theorem nu0{tg:`D}{g:TG}(he:`kn)(hg:PG X tg g)(hs:`St:=by rfl)(hw:`Su:=by rfl)
  (h1:`Sv:=by rfl):PS X `Sw (Nb0 te g):=by
 intro pins s σ H D I h;refine wpAny_Assign_stores (thn `ow `tD) hs hw;rw[h1];exact thn (hg `h s1 σ H1 x v _ I1 r1 q1) λ_ s2 q=>q
noncomputable def N90(i:Nat)(te:TE)(ti:TIp):TS:=λD σ H=>∃x,`LE=`a (`cc)/\te σ H λy H1=>ti x y H1 λz H2=>`kX (`mY i (`vx)) H2
theorem Qe0{op:`FP}{ti:TIp}{pos':Pos}(hN:`f3)(hi:`bW)(hx:`mf)(he:`kn)(ho:PIp X op ti)(hf:`mg:=by first|exact `cd|exact `dr|assumption) :
  PS X (`alh (`a! x pos') op e pos) (N90 i te ti):=by
 intro pins s σ H D I h;obtain⟨v,e1,h⟩:=h;obtain⟨m,hn,hl⟩:=`dH;have vis:`dX:=by rcases hx with k|k;exact `w3;exact `q (`w3)
 obtain⟨u,r,l⟩:=hl i x v hi e1 vis;refine wpAny_AugAssign_Name ?_;have go:`i `ac X.A `BR (λw s₂=>`i `ac X.A (inplaceOp op u w) (λr s₃=>`i `ac X.A (`aa? `v x r) (λ_=>SP X `h D `A4) `az s₃) `az s₂) `az s:=by
  refine thn `ow λw s1 ⟨y,H1,I1,r1,q1⟩=>?_
  refine thn (ho `h s1 σ H1 v y u w _ I1 r r1 q1) λz s2 ⟨zv,H2,I2,r2,q2⟩=>?_
  exact sn0 I2 hN hi hx r2 (λs3 I3=>⟨_,H2,I3,q2⟩) hf
 rcases l with⟨hk,hm⟩|⟨hk,c,hc,F⟩
 ·exact `aku `gX hk hn hm go
 ·rcases hk with hk|hk
  ·exact `akv `gX hk hc F go
  ·rcases hx with k|k
   ·have:`ali:=hk
    rw[k] at this;cases `B
   ·have:`ali:=hk
    rw[k] at this;cases `B
noncomputable def ipI(f:`Sx):TIp:=λx y H Q=>∃i j,`xd/\y=`d6/\Q (`c (f i j)) H
theorem Qj0:PIp X .Add (ipI λi j=>i+j):=by
 intro pins s σ H x y v u Q I r1 r2 h;obtain⟨i,j,e1,e2,q⟩:=h;subst e1;subst e2;obtain⟨t,rfl⟩:=r1;obtain⟨t',rfl⟩:=r2;exact iadd_int `alj
noncomputable def Rq0(c:TT)(tb:TS):TS:=λD σ H=>∃W:`alk,(∃m,W m σ H)/\∀m σ H,W m σ H ->
 c σ H λb H1=>if b=`d then ∃N:`h4,(∀σ' H',N σ' H'->∃m',m'<m/\W m' σ' H')/\tb `all σ H1 else `ak?
theorem Xe0{c:`D}{body:`dW}{tc:TT}{tb:TS}(hp:`FQ)(hc:PT X c tc)(hb:`alm):PS X `aln (Rq0 tc tb):=by
 intro pins s σ H D I h;obtain⟨W,⟨m0,w0⟩,F⟩:=h;refine wpAny_While (codeAny_whileLoop (λn s'=>∃σ' H',`kY/\W n σ' H') ?_ m0 ⟨σ,H,I,w0⟩);rintro n s1 ⟨σ1,H1,I1,w1⟩;refine P8 hp (thn (hc `h s1 σ1 H1 _ I1 (F n σ1 H1 w1)) λb s2 ⟨H2,I2,q2⟩=>?_);cases b with
 | true =>
  obtain⟨N,hN,q2⟩:=q2;rw[`cp];refine P8 hp (thn (hb `h s2 σ1 H2 _ I2 q2) λf s3 q3=>?_);cases f with
  | next =>
   obtain⟨σ3,H3,I3,n3⟩:=q3;obtain⟨m',hm,w3⟩:=`alo;exact`alp
  | cont =>
   obtain⟨σ3,H3,I3,n3⟩:=q3;obtain⟨m',hm,w3⟩:=`alo;exact`alp
  | brk=>exact q3
  | ret v=>exact q3
 | false =>
  rw[`ox];exact Ad0 ⟨σ1,H2,I2,q2⟩
structure It where
 go:`alq
 yld:Nat->Hp->`Sb
 stop:`alq
noncomputable def v40(X:Cx)(pins:`av)(H:Hp)(b:`e):Prop :=
 `ct/\`kT/\`rq/\(`z'∨`kS<=b)/\`LF
theorem Inv.fpOk{σ:St}{s:`r}{b:`e}(I:`y)(hb:`A<=b)(hn:`k0):`Sy:=by
 refine⟨hn,B2 (B4 I.lt hb),I.nofs hb,`q (B9 I.sz hb),`Sz,`SA⟩
 ·obtain⟨v,q⟩:=`rs
  exact `X (B4 q.lt `alr) `kj
 ·exact `X (B4 (A3 (`ot).1) `alr) `kj
structure Turn(P:`aa)(w:`L)(K:`G)(tg:`D)(J:It)(fp:`aJ)(it:`e)(tn:`FR):Prop where
 mem:it∈fp
 obj:∀i h,tn i h->∀b∈fp,∃o,`eY/\`als
 keep:∀i h h',tn i h->(∀b∈fp,∀o,`FS)->tn i h'
 item:∀(X:Cx),`a0=P->X.w=w->X.K=K->`bQ->∀(i:Nat) (pins:`av) (s:`r) (σ:St) (H:Hp) (E:`Z),`y->`alt->`SB->`SC ->
  `i `ch X.A (`p! `h5) (λr s1=>∃u,r=`bg /\
   `i `ch X.A `SD (λ_ s2=>∃x H',`SE/\`g2/\`SF/\tn `cy s2.heap/\∀b∈fp,`k0) E s1) E s
 done:∀(X:Cx),`a0=P->X.w=w->X.K=K->`bQ->∀(i:Nat) (pins:`av) (s:`r) (σ:St) (H:Hp) (E:`Z),`y->`alt->`SB->`SG ->
  `i `ch X.A (`p! `h5) (λr s1=>r=`b/\Inv X `h σ H s1) E s
 self:∀(A:`a5) (i:Nat) (s:`r) (Q:`Z) (E:`Z),`SB->Q `h5 s->`i `ch A (`FT `h5) Q E s
abbrev TI:=St->Hp->(`FU)->Prop
noncomputable def PIE(X:Cx)(pins:`av)(σ:St)(tg:`D)(R:`FU)(itv:`t)(s2:`r):Prop :=
 ∃(it:`e) (fp:`aJ) (tn:`FR) (J:It) (H':Hp),itv=`As/\`SE/\`alu/\`alv/\(∀b∈fp,`Sy)/\R J H'
noncomputable def PI(X:Cx)(tg iter:`D)(wi:TI):Prop :=
 ∀(pins:`av) (s:`r) (σ:St) (H:Hp) (R:`FU),`y->wi σ H R ->
  `i `ac X.A (`bp `k_ `v) (λv s1=>`i `ac X.A (`FT v) `alw `az s1) `az s
theorem jg0{M:`ef}{A:`a5}{E:`Z}{s:`r}{tg:`D}{u:`t}{o:Obj}{n:`bj}{vs:`aI}{Q:`f_}(ho:`eo it=`ae)(hc:`ti=`aZ n)(hd:`h3=`MK)
  (hn:`alx=`m) (hQ:Q () s):`i M A `SD Q E s:=by
 unfold letOwnedTupleGo;cases tg<;>first
  | exact `xe
  | (cases u<;>first
    | exact `xe
    | (refine A0 (`aly ho ?_)
       rw[hc,hd];show `i M A (if (`alx&&vs[0]?==`a (`ew _))=`d then _ else _) Q E s;rw[`ay (by intro h;rw[hn,Bool.false_and] at h;cases h)];exact `xe))
noncomputable def Itl(K:`G)(a:`e):It :=
 ⟨`SH,λi H x H'=>H'=H/\`FV,`SI⟩
noncomputable def Itt(K:`G)(a:`e):It :=
 ⟨`alz,λi H x H'=>H'=H/\`SJ,`alA⟩
noncomputable def Itr(lo:Int)(n:Nat):It:=⟨λi _=>i<n,λi H x H'=>H'=H/\x=`SK,λi _=>n<=i⟩
theorem Z50{P:`aa}{w:`L}{tg:`D}(a it:`e):`h6 P w K tg (Itl K a) `lw it (λi h=>`SL) where
 mem:=`aB
 obj:=λi h st b hb=>by
  have e:b=it:=`i_
  subst e;obtain⟨o,e,c,d⟩:=st;exact`SM
 keep:=`alB
 item:=by
  intro X hP hw hK hc i pins s σ H E I hf st hg;subst hP hw hK;obtain⟨xs,x,hq,hx⟩:=hg;obtain⟨its,rv,p,hz⟩:=`eJ;obtain⟨u,hu,ru⟩:=`xf;obtain⟨f0,f1,f2,f3,f4,f5⟩:=`mn;refine Ae0 st `rz (x:=u) `xg `alC
  have I1:`it:=`alD;obtain⟨o,e,c,d⟩:=id F;exact⟨u,rfl,jg0 (s:=`dI) e c d `f ⟨x,H,I1,ru,⟨rfl,`adS⟩,F,`FW⟩⟩
 done:=by
  intro X hP hw hK hc i pins s σ H E I hf st hg;subst hP hw hK;obtain⟨xs,hq,hx⟩:=hg;obtain⟨its,rv,p,hz⟩:=`eJ;obtain⟨f0,f1,f2,f3,f4,f5⟩:=`mn;have hl:=`e7;exact Af0 `dZ st `rz `lv `xh
 self:=λ_ _ _ _ _ st h=>wpAny_pyIter_listiter st h
theorem cp0{P:`aa}{w:`L}{tg:`D}(a it:`e):`h6 P w K tg (Itt K a) `lw it (λi h=>`alE) where
 mem:=`aB
 obj:=λi h st b hb=>by
  have e:b=it:=`i_
  subst e;obtain⟨o,e,c,d⟩:=st;exact`SM
 keep:=`alB
 item:=by
  intro X hP hw hK hc i pins s σ H E I hf st hg;subst hP hw hK;obtain⟨xs,x,hq,hx⟩:=hg;obtain⟨its,rv,p,hz⟩:=`hM;obtain⟨u,hu,ru⟩:=`xf;obtain⟨f0,f1,f2,f3,f4,f5⟩:=`mn;refine wpAny_pyNext_tuple_item st `alF (x:=u) `xg `alC
  have I1:`it:=`alD;obtain⟨o,e,c,d⟩:=id F;exact⟨u,rfl,jg0 (s:=`dI) e c d `f ⟨x,H,I1,ru,⟨rfl,`alG⟩,F,`FW⟩⟩
 done:=by
  intro X hP hw hK hc i pins s σ H E I hf st hg;subst hP hw hK;obtain⟨xs,hq,hx⟩:=hg;obtain⟨its,rv,p,hz⟩:=`hM;obtain⟨f0,f1,f2,f3,f4,f5⟩:=`mn;have hl:=`e7;exact wpAny_pyNext_tuple_end `dZ st `alF `lv `xh
 self:=λ_ _ _ _ _ st h=>wpAny_pyIter_tupleiter st h
theorem df0{P:`aa}{w:`L}{tg:`D}(it:`e)(lo:Int)(n:Nat):`h6 P w K tg (Itr lo n) `lw it (λi h=>`alH h it (lo+`SN*1) (`bH - `SN) 1) where
 mem:=`aB
 obj:=λi h st b hb=>by
  have e:b=it:=`i_
  subst e;exact⟨_,st,λv z=>by
   have z':`alI _=Data.cell v:=z;cases z'⟩
 keep:=λi h h' st k=>k it `T _ st
 item:=by
  intro X hP hw hK hc i pins s σ H E I hf st hg;subst hP hw hK;obtain⟨f0,f1,f2,f3,f4,f5⟩:=`mn;have W:=Walks.range (prog:=`a0) (w:=X.w) `dZ it lo 1 n;refine W.item i s _ _ hg st λv h' tk hv F kk=>?_
  obtain⟨t,rfl⟩:=hv;have I1:Inv X `h σ H `ir:=`At (λb o hb e=>kk b o (`i_) e) f0 f1 f3 f4 f5;refine⟨_,rfl,jg0 (s:=`ir) (n := "range_iterator") F rfl rfl `f ⟨`SK,H,I1,⟨t,?_⟩,`hb,F,`FW⟩⟩;rw[Int.mul_one]
 done:=by
  intro X hP hw hK hc i pins s σ H E I hf st hg;subst hP hw hK;obtain⟨f0,f1,f2,f3,f4,f5⟩:=`mn;exact wpAny_pyNext_range_end `dZ st (by have:n<=i:=hg;omega) `xh
 self:=λ_ _ _ _ _ st h=>wpAny_pyIter_rangeiter st h
section
variable{tg:`D}
noncomputable def Of0(K:`G)(tl:TE):TI:=fun σ H R=>tl σ H λx H1=>∃a,`f4/\`SO/\R (Itl K a) H1
noncomputable def Nr0(K:`G)(tl:TE):TI:=fun σ H R=>tl σ H λx H1=>∃a,`f4/\`SP/\R (Itt K a) H1
theorem Vu0{l:`D}{tl:TE}(hl:PE X l tl):PI X tg l (Of0 X.K tl):=by
 intro pins s σ H R I h;refine `alJ
 obtain⟨a,e,⟨xs,hq⟩,q⟩:=q1;subst e;cases r1;obtain⟨its,rv,p,hz⟩:=`mo hq;refine N0 `rz ?_;refine⟨`ev,`xi,_,_,H1,rfl,`FX,Z50 a _,`oy,`fg,q⟩;have e:b=`ev:=`i_
 subst e;exact `mp
theorem S60{l:`D}{tl:TE}(hl:PE X l tl):PI X tg l (Nr0 X.K tl):=by
 intro pins s σ H R I h;refine `alJ
 obtain⟨a,e,⟨xs,hq⟩,q⟩:=q1;subst e;cases r1;obtain⟨its,rv,p,hz⟩:=`xj hq;refine k7 (show s1.heap.IsTuple a `bZ from p) ?_;refine⟨`ev,`xi,_,_,H1,rfl,`FX,cp0 a _,`oy,`fg,q⟩;have e:b=`ev:=`i_
 subst e;exact `mp
theorem jr0{σ:St}{s:`r}{R:`FU}{E:`Z}{lo hi:Int}{t u v:Tok}{tk:Nat}(I:`y)(h1:`m4<=lo)(h2:lo<`g1)(h3:`m4<=hi)(h4:hi<`g1)
  (q:R (Itr lo `pr) H):`i `ac X.A (`FT `fH) `alw E `alK:=by
 refine wpAny_pyIter_range (IsRange.new ..) (small_one h1 h2 h3 h4) ?_;have I1:Inv X `h σ H `alK:=`xc `m3
 refine⟨`SQ,[`SQ],_,_,H,rfl,
  `tI (t':=tk) `m3,df0 _ lo `pr,?_,`fg,q⟩
 ·have e1:lo+`tK*1=lo:=`aB
  have e2:`alL=Builtin.Range.rangeSize lo hi 1:=by rw[rangeSize_one];split<;>omega
  show `alH _ _ (lo+`tK*1) (`alL) 1;rw[e1,e2];exact `eq
 ·have e:b=`SQ:=`i_
  subst e;exact `mp
noncomputable def Om0(ta:TA):TI:=fun σ H R=>ta σ H λvs H1=>∃j:Int,vs=[`d6]/\`m4<=j/\j<`g1/\R (Itr 0 `h9) H1
noncomputable def O70(ta:TA):TI:=fun σ H R=>ta σ H λvs H1=>∃i j:Int,vs=`CX/\(`m4<=i/\i<`g1/\`FY)/\R (Itr i (j - i).toNat) H1
theorem cu0{a:`D}{ta:TA}(hg:`FZ)(hm:`F_)(ha:`F0)(hs:`rA:=by rfl):PI X tg `alM (Om0 ta):=by
 intro pins s σ H R I h;refine `Cc (z80 I hg hm `alN `adU);obtain⟨j,e,q1,q2,q⟩:=q1;subst e;cases r1 with
 | cons r rr =>
  cases rr;obtain⟨t,rfl⟩:=r;exact call_range_1 (jr0 I1 `g `g q1 q2 (`F1))
theorem a80{a:`D}{ta:TA}{p pos:Pos}(hg:`FZ)(hm:`F_)(ha:`SR)(hs:`rB:=by rfl)(hs2:`rC:=by rfl) :
  PI X tg `alO (O70 ta):=by
 intro pins s σ H R I h;refine `Cc (z80 I hg hm `alN `ad8);obtain⟨i,j,e,⟨q1,q2,q3,q4⟩,q⟩:=q1;subst e;cases r1 with
 | cons r rr =>
  cases rr with
  | cons r' rr =>
   cases rr;obtain⟨t,rfl⟩:=r;obtain⟨t',rfl⟩:=r';exact call_range_2 (jr0 I1 q1 q2 q3 q4 q)
noncomputable def Nm0(wi:TI)(g:TG)(tb:TS):TS:=λD σ H=>wi σ H λJ H1=>∃W:Nat->`alk,(∃m,W 0 m σ H1)/\∀i m σ H,W i m σ H ->
 (`SG/\`Sj)∨(`SC/\∃N:`h4,(∀σ' H',N σ' H'->∃m',m'<m/\W `cy m' σ' H')/\∀x H',`SF->g x σ H' fun σ2 H2=>tb `all σ2 H2)
noncomputable def rz0(fp:`aJ)(h:`u):`av:=fp.filterMap λb=>(`tq).map λo=>`tL
theorem vt0{h:`u}{b:`e}{o:Obj}(hb:b∈fp)(e:`eY):`tL∈rz0 fp h:=k9.mpr ⟨b,hb,by rw[e];rfl⟩
theorem Yf0{h:`u}{p:`aaH}(hp:p∈rz0 fp h):p.1∈fp/\`en p.1=`tv:=by
 obtain⟨b,hb,e⟩:=k9.mp hp;cases q:`tq with
 | none=>rw[q] at e;cases e
 | some o =>
  rw[q] at e;have e':`tL=p:=B5 e;subst e';exact⟨hb,q⟩
theorem Inv.pinned{σ:St}{s:`r}(I:`y)(hf:∀b∈fp,`Ar)(ho:∀b∈fp,∃o,`gf/\`als):Inv X (`h++rz0 fp `P) σ H s :=
 I.pins_of λp hp=>`akb (λz=>`gW p (D7 _ z)) λz=>by
  obtain⟨hb,e⟩:=Yf0 z;obtain⟨f0,f1,f2,_⟩:=hf p.1 hb;obtain⟨o,e',d⟩:=ho p.1 hb;rw[e] at e';cases e';exact⟨e,f0,f1,f2,d⟩
theorem Inv.unpinned{pl:`av}{σ:St}{s:`r}(I:Inv X (`h++pl) σ H s):`y:=I.pins_of λp hp=>`gW p (D7 _ (D6 _ hp))
theorem Q80{body:`dW}{wi:TI}{g:TG}{tb:TS}{pos:Pos}(hp:`FQ)(hc:`bQ)(hi:`SS)(hg:PG X tg g)(hb:`alm)
  (hs:`i0:=by intro _;rfl):PS X `alP (Nm0 wi g tb):=by
 intro pins s σ H D I h;refine wpAny_For (thn `BJ λv s1 h1=>thn h1 λa5 s2 h2=>?_) hs;obtain⟨it,fp,tn,J,H2,e,I2,T,a4,f2,W,⟨m0,w0⟩,a1⟩:=h2;subst e;have F:∀{H':Hp},`rD->∀b∈fp,`Sy:=λhn b hb=>⟨hn b hb,(`jK).2⟩
 refine codeAny_forLoop_any (λn s'=>∃i σ' H',`kY/\`alQ/\`rD/\W i n σ' H') ?_ m0 ⟨0,σ,H2,I2,a4,λb hb=>(`jK).1,w0⟩;rintro n s3 ⟨i,σ3,H3,I3,Z,Y,w3⟩;rcases a1 i n σ3 H3 w3 with⟨stop,qn⟩|⟨go,N,hN,step⟩
 ·refine P8 hp (thn (T.done X rfl rfl rfl hc i `h s3 σ3 H3 `az I3 (F Y) Z stop) λr s4 ⟨hr,I4⟩=>?_)
  subst hr;exact Ad0 ⟨σ3,H3,I4,qn⟩
 ·refine P8 hp (thn (T.item X rfl rfl rfl hc i `h s3 σ3 H3 `az I3 (F Y) Z go) λr s4 ⟨u,hr,h4⟩=>?_)
  subst hr;refine P8 hp (thn h4 λ_ s5 ⟨x,H5,I5,r5,y5,O,a3⟩=>?_);have a2:=I5.pinned (F a3) (`uc _ _ O);refine P8 hp (thn (hg _ s5 σ3 H5 x u _ a2 r5 (step x H5 y5)) λ_ s6 ⟨σ6,H6,I6,q6⟩=>?_);refine P8 hp (thn (hb _ s6 σ6 H6 _ I6 q6) λf s7 q7=>?_);have again:∀{σ7:St} {H7:Hp},Inv X (`h++rz0 fp s5.heap) σ7 H7 s7->N σ7 H7->∃m,m<n/\∃i σ' H',Inv X `h σ' H' s7/\tn i s7.heap/\`rD/\W i m σ' H':=λ{σ7 H7} I7 n7=>by
   obtain⟨m',hm,w7⟩:=hN σ7 H7 n7;refine⟨m',hm,i+1,σ7,H7,`ST,T.keep _ _ _ O λb hb o e=>(`alR).1,`fg,w7⟩;obtain⟨o,e,d⟩:=`uc _ _ O b hb;exact(`alR).2.1
  cases f with
  | next=>obtain⟨σ7,H7,I7,n7⟩:=q7;exact `alS
  | cont=>obtain⟨σ7,H7,I7,n7⟩:=q7;exact `alS
  | brk=>obtain⟨σ7,H7,I7,q7⟩:=q7;exact⟨σ7,H7,`ST,q7⟩
  | ret v=>obtain⟨x7,σ7,H7,I7,r7,q7⟩:=q7;exact⟨x7,σ7,H7,`ST,r7,q7⟩
universe zz
abbrev R2:=V->`ry
noncomputable def OpR(X:Cx)(f:`rE)(r:R2):Prop :=
 ∀(pins:`av) (s:`r) (σ:St) (H:Hp) (x y:V) (v u:`t) (Q:VK),`y->`hL->`ek->`Aw ->
  `i `ac X.A `SU `fz `az s
noncomputable def UnR(X:Cx)(f:`L8)(r:`ry):Prop :=
 ∀(pins:`av) (s:`r) (σ:St) (H:Hp) (x:V) (v:`t) (Q:VK),`y->`hL->r x H Q ->
  `i `ac X.A (f v) `fz `az s
noncomputable def CallR(X:Cx)(f:`t)(r:`cZ):Prop :=
 ∀(pins:`av) (s:`r) (σ:St) (H:Hp) (xs:`C) (us:`H) (Q:VK),`y->`dq->`F2 ->
  `i `ac X.A (`b' f us) `fz `az s
noncomputable def tOp(r:R2)(ta tb:TE):TE:=fun σ H Q=>ta σ H λx H1=>tb σ H1 λy H2=>r x y H2 Q
noncomputable def tUn(r:`ry)(ta:TE):TE:=fun σ H Q=>ta σ H λx H1=>r x H1 Q
noncomputable def rI(C:`SV)(g:`F3):R2:=λx y H Q=>∃i j,`xd/\y=`d6/\C i j/\Q `jv H
noncomputable def rI0(g:`F3):R2:=λx y H Q=>∃i j,`xd/\y=`d6/\Q `jv H
noncomputable def rU(g:Int->V):`ry:=λx H Q=>∃i,`xd/\Q (g i) H
section
variable{a c:`D}{tc:TE}
theorem W80(ha:`ml)(hb:`ov){s:`r}{σ:St}{R:V->`Sb}(I:`y)
  (h:ta σ H λx H1=>tb σ H1 λy H2=>R x y H2) {Q:`Z} {f:`rE}
  (hf:∀v u s2 x y H2,`alT->`hL->`ek->R x y H2->`i `ac X.A `SU Q `az s2) :
  `i `ac X.A (`L3) (λv s₁=>`i `ac X.A (`L7) (λu s₂=>`i `ac X.A `SU Q `az s₂) `az `dM) `az s:=by
 refine `akU
 refine thn `SW λu s2 ⟨y,H2,I2,r2,q2⟩=>?_
 exact hf v u s2 x y H2 I2 r1 r2 q2
theorem V50{op:`FP}{r:R2}(ho:`alU)(ha:`ml)(hb:`ov):PE X `alV `F4:=by
 intro pins s σ H Q I h;exact wpAny_BinOp `alW
theorem Pu0{op:UnaryOp}{r:`ry}(ho:UnR X (unaryOp op) r)(ha:`ml):PE X (`LO op a pos) (tUn r ta):=by
 intro pins s σ H Q I h;exact UnaryOp_ (thn `tC λv s1 ⟨x,H1,I1,r1,q1⟩=>ho `h s1 σ H1 x v Q I1 r1 q1)
theorem opI{f:`rE}{C:`SV}{g:`Sx}
  (rule:∀(i j:Int) (t u:Tok) (s:`r) (Q:`Z) (E:`Z),C i j->`alX) :
  OpR X f (rI C `alY):=by
 intro pins s σ H x y v u Q I rx ry h;obtain⟨i,j,rfl,rfl,hc,q⟩:=h;obtain⟨t,rfl⟩:=rx;obtain⟨t',rfl⟩:=ry;exact rule i j t t' s _ _ hc `alZ
theorem Qr0{f:`rE}{g:`Sx}
  (rule:∀(i j:Int) (t u:Tok) (s:`r) (Q:`Z) (E:`Z),`alX) :
  OpR X f (rI0 `alY):=by
 intro pins s σ H x y v u Q I rx ry h;obtain⟨i,j,rfl,rfl,q⟩:=h;obtain⟨t,rfl⟩:=rx;obtain⟨t',rfl⟩:=ry;exact rule i j t t' s _ _ `alZ
theorem Rp0{f:`rE}{g:Int->Int->`N}
  (rule:∀(i j:Int) (t u:Tok) (s:`r) (Q:`Z) (E:`Z),Q (`d_ `jv) s->`abx) :
  OpR X f (rI0 λi j=>.bl `jv):=by
 intro pins s σ H x y v u Q I rx ry h;obtain⟨i,j,rfl,rfl,q⟩:=h;obtain⟨t,rfl⟩:=rx;obtain⟨t',rfl⟩:=ry;exact rule i j t t' s _ _ ⟨.bl `jv,H,I,rfl,q⟩
noncomputable def Wf0(i j:Int):Prop:=`SX
noncomputable def Yl0(i j:Int):Prop:=`SY
noncomputable def CMul(i j:Int):Prop:=`M7
theorem CMul.ok{i j:Int}(h:CMul i j):`al_:=by
 rcases h with⟨h1,h2⟩|⟨h1,h2⟩
 ·exact .of_left `al0
 ·exact .of_right `al0
theorem Su0:OpR X `xk (rI0 `al1):=Qr0 λ_ _ _ _ _ _ _ q=>add_int q
theorem Sk0:OpR X (`ju .Sub) (rI0 `al2):=Qr0 λ_ _ _ _ _ _ _ q=>sub_int q
theorem Sb0:OpR X `al3 (rI CMul `F5):=`al4
theorem Ur0:OpR X (`ju .FloorDiv) (rI Wf0 `al5):=opI λi j _ _ _ _ _ hc q=>by
 have h1:`rF<j:=`im;have h2:`aby:=`ls;exact floordiv_int `g (by rw[Int.fdiv_eq_ediv_of_nonneg i `g];exact q) (`o (PyProof.noPylong_small `g))
theorem Qa0:OpR X (`ju .Mod) (rI (`al6) `al7):=opI λi j _ _ _ _ _ hc q=>by
 have h1:`rF<j:=hc;exact mod_int' `g (by rw[Int.fmod_eq_emod_of_nonneg i `g];exact q)
theorem S40:OpR X (`ju .Pow) (rI Yl0 `al8):=opI λ_ _ _ _ _ _ _ hc q=>pow_int_small `im hc.2.1 hc.2.2 q
theorem unI{f:`L8}{g:`abn}
  (rule:∀(i:Int) (t:Tok) (s:`r) (Q:`Z) (E:`Z),Q (`c (g i) `a1) `L9->`i `ac X.A (f `tO) Q E s) :
  UnR X f (rU λi=>`al9):=by
 intro pins s σ H x v Q I rx h;obtain⟨i,rfl,q⟩:=h;obtain⟨t,rfl⟩:=rx;exact rule i t s _ _ ⟨`al9,H,`eu,`au,q⟩
theorem Qp0:UnR X (unaryOp .USub) (rU λi=>`c (-i)):=unI λ_ _ _ _ _ q=>neg_int q
universe zz
noncomputable def Yw0:V->V->`N
 | `z,`z=>`d|`z,`dJ=>`d|`dJ,`z=>`d|`z,`cx=>`d|`cx,`z=>`d|`z,`cj=>`d|`cj,`z=>`d
 | `dJ,`dJ=>`d|`cx,`cx=>`d|`cj,`cj=>`d|.byt _,.byt _=>`d
 | `dJ,`cj=>`d|`cj,`dJ=>`d|`cx,`cj=>`d|`cj,`cx=>`d
 | _,_=>`m
noncomputable def rEq:R2:=λx y H Q=>`SZ/\Q (.bl (`S_)) H
noncomputable def rNe:R2:=λx y H Q=>`SZ/\Q (.bl (!`S_)) H
theorem db0{i j:Int}:`O (`t7 i=`t7 j)=(i==j):=by
 rw[`oz];simp
theorem ag0{i j:`N}:`O (V.bl i=V.bl j)=(i==j):=by
 rw[`oz];simp
theorem dd0{i j:Str}:`O (`Bv i=`Bv j)=(i==j):=by
 rw[`oz];simp
theorem em0{i j:`ajg}:`O (V.byt i=V.byt j)=(i.toList==j.toList):=by
 rw[`oz];cases i;cases j;simp
section
variable{a c:`D}{tc:TE}
theorem V1{σ:St}{s:`r}{Q:VK}{k k':`N}(I:`y)(q:Q (`tQ) H)(e:k=k'):EP X `h σ Q (`d_ k') s:=by
 subst e;exact⟨`tQ,H,I,rfl,q⟩
theorem U7:OpR X (`gk .Eq) rEq:=by
 intro pins s σ H x y v u Q I rx ry h;obtain⟨hs,q⟩:=h;cases x with
 | non =>
  cases rx;cases y with
  | non=>cases ry;exact PySem.EqNone.eq_none_none `cq
  | bl j=>cases ry;exact PySem.EqNone.eq_none_bool `cq
  | int j=>obtain⟨t',rfl⟩:=ry;exact PySem.EqNone.eq_none_int `cq
  | str j=>obtain⟨t',rfl⟩:=ry;exact PySem.EqNone.eq_none_str `cq
  | _=>exact `gL
 | bl i =>
  cases rx;cases y with
  | non=>cases ry;exact PySem.EqNone.eq_bool_none `cq
  | bl j=>cases ry;exact eq_bool (V1 I q ag0)
  | str j=>obtain⟨t',rfl⟩:=ry;exact PySem.EqMixed.eq_bool_str `cq
  | _=>exact `gL
 | int i =>
  obtain⟨t,rfl⟩:=rx;cases y with
  | non=>cases ry;exact PySem.EqNone.eq_int_none `cq
  | int j=>obtain⟨t',rfl⟩:=ry;exact eq_int (V1 I q db0)
  | str j=>obtain⟨t',rfl⟩:=ry;exact PySem.EqMixed.eq_int_str `cq
  | _=>exact `gL
 | str i =>
  obtain⟨t,rfl⟩:=rx;cases y with
  | non=>cases ry;exact PySem.EqNone.eq_str_none `cq
  | bl j=>cases ry;exact PySem.EqMixed.eq_str_bool `cq
  | int j=>obtain⟨t',rfl⟩:=ry;exact PySem.EqMixed.eq_str_int `cq
  | str j=>obtain⟨t',rfl⟩:=ry;exact eq_str (V1 I q dd0)
  | _=>exact `gL
 | byt i =>
  obtain⟨t,rfl⟩:=rx;cases y with
  | byt j=>obtain⟨t',rfl⟩:=ry;exact W.eq_bytes (V1 I q em0)
  | _=>exact `gL
 | _=>cases y<;>exact `gL
theorem dw0:OpR X (`gk .NotEq) rNe:=by
 intro pins s σ H x y v u Q I rx ry h;obtain⟨hs,q⟩:=h;cases x with
 | non =>
  cases rx;cases y with
  | non=>cases ry;exact PySem.EqNone.ne_none_none `cq
  | bl j=>cases ry;exact PySem.EqNone.ne_none_bool `cq
  | int j=>obtain⟨t',rfl⟩:=ry;exact PySem.EqNone.ne_none_int `cq
  | str j=>obtain⟨t',rfl⟩:=ry;exact PySem.EqNone.ne_none_str `cq
  | _=>exact `gL
 | bl i =>
  cases rx;cases y with
  | non=>cases ry;exact PySem.EqNone.ne_bool_none `cq
  | bl j=>cases ry;exact ne_bool (V1 I q (C6 not ag0))
  | str j=>obtain⟨t',rfl⟩:=ry;exact PySem.EqMixed.ne_bool_str `cq
  | _=>exact `gL
 | int i =>
  obtain⟨t,rfl⟩:=rx;cases y with
  | non=>cases ry;exact PySem.EqNone.ne_int_none `cq
  | int j=>obtain⟨t',rfl⟩:=ry;exact ne_int (V1 I q (C6 not db0))
  | str j=>obtain⟨t',rfl⟩:=ry;exact PySem.EqMixed.ne_int_str `cq
  | _=>exact `gL
 | str i =>
  obtain⟨t,rfl⟩:=rx;cases y with
  | non=>cases ry;exact PySem.EqNone.ne_str_none `cq
  | bl j=>cases ry;exact PySem.EqMixed.ne_str_bool `cq
  | int j=>obtain⟨t',rfl⟩:=ry;exact PySem.EqMixed.ne_str_int `cq
  | str j=>obtain⟨t',rfl⟩:=ry;exact ne_str (V1 I q (C6 not dd0))
  | _=>exact `gL
 | byt i =>
  obtain⟨t,rfl⟩:=rx;cases y with
  | byt j=>obtain⟨t',rfl⟩:=ry;exact W.ne_bytes (V1 I q (C6 not em0))
  | _=>exact `gL
 | _=>cases y<;>exact `gL
theorem se0:OpR X (`gk .Lt) (rI0 `S0):=Rp0 λ_ _ _ _ _ _ _ q=>lt_int q
theorem dp0:OpR X (`gk .Gt) (rI0 `S1):=Rp0 λ_ _ _ _ _ _ _ q=>gt_int q
theorem Y10:OpR X (`gk .Is) `al':=by
 intro pins s σ H x y v u Q I rx ry h;obtain⟨rfl,q⟩:=h;cases ry;refine is_none_gen (V1 I q ?_);cases x<;>first
  | (cases rx;rfl)
  | (obtain⟨t,rfl⟩:=rx;rfl)
theorem OpR.or{f:`rE}{r r':R2}(h:OpR X f r)(h':OpR X f r'):OpR X f `al!:=by
 intro pins s σ H x y v u Q I rx ry q;rcases q with q|q
 ·exact h `h s σ H x y v u Q I rx ry q
 ·exact h' `h s σ H x y v u Q I rx ry q
theorem ab0(b:`D){op:`mk}(h:op≠.In:=by decide)(h2:op≠`p5:=by decide):`ou:=by
 have e1:(op==CmpOp.In)=`m:=by cases op<;>first|rfl|exact `X rfl h
 have e2:(op==CmpOp.NotIn)=`m:=by cases op<;>first|rfl|exact `X rfl h2
 cases b<;>simp[`Al,e1,e2]
theorem Us0{op:`mk}{r:R2}(ho:`F6)(ha:`ml)(hb:`ov)(hm:`ou):PE X `rx `F4:=by
 intro pins s σ H Q I h;exact `akC `alW hm
noncomputable def Py0(t:TE):TT:=fun σ H Q=>t σ H λx H'=>∃k,x=`tQ/\Q k H'
theorem U50{op:`mk}{r:R2}(ho:`F6)(ha:`ml)(hb:`ov)(hm:`ou):PT X `rx (Py0 `F4):=by
 intro pins s σ H Q I h;refine `akE (thn `tC λv s1 ⟨x,H1,I1,r1,q1⟩=>thn `SW λu s2 ⟨y,H2,I2,r2,q2⟩ =>
  thn (ho `h s2 σ H2 x y v u _ I2 r1 r2 q2) λc s3 ⟨z,H3,I3,r3,k,e,q3⟩=>?_) hm
 subst e;cases r3;exact j3 ⟨H3,I3,q3⟩
theorem u10:(`R:Nat)<`Mo:=by rw[`S2];decide
theorem ci0:OpR X `xk (λx y H Q=>`al?):=by
 intro pins s σ H x y v u Q I rx ry h;obtain⟨i,j,rfl,rfl,hz,q⟩:=h;obtain⟨t,rfl⟩:=rx;obtain⟨t',rfl⟩:=ry;exact add_str (λt' tk=>⟨`abG,H,`eu,`au,q⟩) hz
theorem vals1{x:V}(r:`ama):`amb:=by
 cases r with
 | cons r1 r2=>cases r2;exact⟨_,rfl,r1⟩
theorem bv0:`cv X (`aZ `hh) `amc:=by
 intro pins s σ H xs us Q I r h;rcases h with⟨i,rfl,q⟩|⟨k,rfl,q⟩
 ·obtain⟨u,rfl,t,rfl⟩:=`ko
  exact call_int_int ⟨`a4,H,I,`au,q⟩
 ·obtain⟨u,rfl,r1⟩:=`ko
  cases r1;exact call_int_bool ⟨`L',H,`eu,`au,q⟩
theorem X70:`cv X (`cb `xl) `amd:=by
 intro pins s σ H xs us Q I r h;obtain⟨x,rfl,hz,q⟩:=h;obtain⟨u,rfl,t,rfl⟩:=`ko;exact ord_of_one hz `alj
universe zz
theorem RelO.some_of{v:V}{o:`gc}(r:RelO `pi o):∃u,o=`bg/\`gh:=by
 cases o with
 | none=>exact`S3
 | some u=>exact⟨u,rfl,r⟩
structure Room(k:Nat)(A:`a5):Prop where
 hd:`cR
 dp:`S4+3*k+5<`ame
 un:`ne+16*k+200<`g5
theorem Room.mono{k:Nat}(r:`xm)(h:j<=k):`h' j A:=⟨r.hd,`amf,`amg⟩
theorem Room.deeper{k:Nat}(r:`h' `e0 A)(env:Env):`h' k (`tU env) :=
 ⟨r.hd,by have:=r.dp;show `S4+1+3*k+5<_;omega,by have:=r.un;show `ne+3+16*k+200<_;omega⟩
theorem Room.depth{k:Nat}(r:`xm):`S4<`ame:=`amf
theorem Room.units{k:Nat}(r:`xm):`ne+64<`g5:=`amg
noncomputable def N60:TA:=λ_ H Q=>Q [] H
noncomputable def Pj0(ta:TE)(tr:TA):TA:=fun σ H Q=>ta σ H λx H1=>tr σ H1 λxs H2=>Q (`rG) H2
section
variable{t:TA}
theorem J7:PA X [] N60:=λ_ _ _ _ H Q I h=>U1 `amh
theorem T4(ha:`kn)(hr:`F7)(hs:`c9:=by rfl):PA X `gl (Pj0 te t):=by
 intro pos pins s σ H Q I h;rw[hs];show `i _ _ (`rv (`pu::`Ma)) _ _ s;refine Q1 (thn `tC `ami);exact thn (hr pos `h s1 σ H1 _ I1 q1) λus s2 ⟨xs,H2,I2,r2,q2⟩=>⟨`rG,H2,I2,`ak r1 r2,q2⟩
noncomputable def Nv0(t:TA):TE:=fun σ H Q=>t σ H λxs H1=>`iZ/\∀p,H1 p=`b->Q `d' (upd H1 p `pf)
noncomputable def Nt0(t:TA):TE:=fun σ H Q=>t σ H λxs H1=>`iZ/\∀p,H1 p=`b->Q `d' (upd H1 p `pm)
theorem bq0{x1}(h:`F7):PE X (`nD es x1 pos) (Nv0 t):=by
 intro pins s σ H Q I hq;refine wpAny_Tuple_spliced `amj;have hf:`amk:=`Av;refine⟨`aml,upd H1 `ev `pf,`amm,rfl,q _ hf⟩;exact⟨z,us,r,`RA⟩
theorem Ya0(h:`F7):PE X `S5 (Nt0 t):=by
 intro pins s σ H Q I hq;refine wpAny_List_spliced `amj;have hf:`amk:=`Av;refine⟨`aml,upd H1 `ev `pm,`amm,rfl,q _ hf⟩;exact⟨z,us,0,r,`eq⟩
universe zz
abbrev Sp:=`C->Hp->VK->XK->Prop
abbrev CXT:=`ei->Hp->`r->XK->`Z
variable{sp:L2.Sp}
structure Env0(P:`aa)(w:`L)(K:`G)(mg:`a7)(base:`u)(A:`a5)(outer:`ei)(s:`r)(H:Hp):Prop where
 frames:`Cr=`a `b0
 mod:Mod K mg `k
 bs:∀b o,base.get? b=`ae->`ajW
 bsz:base.objs.size<=`A
 funs:`vm `k `b0
 frf:∀b∈frs `b0,`ct
 hok:HOk P w H `P
 bare:`tA `rr
variable{CX:L2.CXT}
noncomputable def CE(outer:`ei)(P:`aa)(w:`L)(H:Hp)(s:`r)(Q:VK)(u:`t)(s':`r):Prop :=
 ∃v H',`Sa/\`AW/\`amn/\`amo/\`akt
noncomputable def CR(CX:CXT)(outer:`ei)(P:`aa)(w:`L)(H:Hp)(s:`r)(Q:VK)(E:XK)(r:Result)(s':`r):Prop :=
 match r with
 | .ok (`dA u)=>`amp
 | .ok _=>`cK
 | `adp=>CX `b0 H s E e s'
structure FnOk(P:`aa)(w:`L)(K:`G)(mg:`a7)(base:`u)(CX:CXT)(k:Nat)(f:`e)(fd:`S)(ps:`j)(sp:Sp):Prop where
 len:`F8
 run:∀(A:`a5) (outer:`ei) (s:`r) (H:Hp) (args:Args) (us:`H) (vs:`C) (Q:VK) (E:XK),`xm->`amq->`AU s fd `hN `xn->`p6->`tS ->
  `gm `ch A (`pF `kP `hN) (CR CX `b0 P w H s Q E) s
section
variable{σ:St}{s:`r}
theorem Inv.env0(I:`y):Env0 `a0 X.w X.K `bn `dG X.A `gU s H :=
 ⟨`amr,I.ok.mod,I.bs,B9 I.ok.bsz I.sz,I.stack,I.stkFree,`bh,`ej⟩
theorem Inv.after{Q:VK}(I:`y)(h:CE `gU `a0 X.w H s Q u s'):EP X `h σ Q u s':=by
 obtain⟨v,H',os,bare,un,hok,r,q⟩:=h;obtain⟨hh,g,d,t,F⟩:=s';obtain rfl:F=s.os:=os;exact⟨v,H',I.call (h':=hh) (g':=g) (d':=d) (t':=t) (ch:=[]) un hok bare (λb z=>`X z `T),r,q⟩
universe zz
noncomputable def Ow0(sp:Sp)(dvs:`C)(E:XK)(t:TA):TE:=fun σ H Q=>t σ H λvs H1=>sp `pv H1 Q E
noncomputable def Binds(K:`G)(fd:`S)(ps:`j)(ds:`H):Prop :=
 ∀(s:`r) (us:`H),K.In `P->`S6->`AU s fd `xo (`m6 `Ay)
theorem Binds.all{fd:`S}{ps:`j}(h:∀us:`H,`e'=`M->`re fd `xo=`a2 `xn):`M4:=λs us _ hl=>by
 rw[`f5] at hl ⊢;exact .of_eq (h us hl)
noncomputable def iz0(CX:CXT)(X:Cx)(E:XK):Prop:=∀(pins:`av) (σ:St) (H:Hp) (s:`r) (e:`t) (s':`r),`y->CX `gU H s E e s'->`az e s'
section
variable{k:Nat}{f C:`e}{fd:`S}{ps:`j}{dvs:`C}{ds:`H}{E:XK}{m:Str}{t:TA}
theorem Rc0{pins:`av}{σ:St}{H:Hp}{s:`r}{Q:VK}{us:`H}{vs:`C}(F:`ams)(hr:`F9)(hb:`S7)(hd:`S8)(hx:`amt)
  (I:`y) (r:`p6) (h:sp `pv H Q E):`i `ac X.A (`b' `kP us) `fz `az s:=by
 have r2:`amu:=`xp hd;have hl:`S6:=by rw[← `lm];exact F.len _ _ _ _ h
 refine `S9 (Q2 (F.run X.A `gU s H `xo `Ay `pv Q E hr I.env0 (hb s us `et hl) r2 h) `F');cases r with
 | error e=>exact hx `h σ H s e s' I hq
 | ok fl =>
  cases fl with
  | ret u=>exact I.after hq
  | next=>exact `rH
  | brk=>exact `rH
  | cont=>exact `rH
theorem pn0(F:`ams)(hr:`F9)(hg:`cI)(hm:`amv)(hk:`amw)(hb:`S7)(hd:`S8)(hx:`amt)
  (ha:`rI) (hdb:`aW:=by decide) (he:`c9:=by rfl) (hpl:`f6:=by rfl) :
  PE X `k3 (Ow0 sp dvs E t):=by
 intro pins s σ H Q I h;refine `amx;refine `amy;exact Rc0 F hr hb hd hx I1 r q
universe zz
structure FnScope(N P:`j)(sc:`dn):Prop where
 kind:`amz
 co:`amA
 gen:`amB
 nd:`FG
 pre:`amC
 par:∀x∈P,`RR
 nofree:∀y∈`F!,`amD
theorem kg0{kindOf:`F?}:∀{binds:`MD} {m:`a7},`amE->`xq `hO binds m x=m x
 | [],_,_=>rfl
 | (n,v)::r,m,h=>by
  unfold bindL;rw[kg0 `amF];split
  ·have:x≠n:=`amG
   simp[`B]
  ·rfl
theorem lz0{kindOf:`F?}:∀{binds:`MD} {m:`a7},`amE->`xr `hO binds m x=m x
 | [],_,_=>rfl
 | (n,v)::r,m,h=>by
  unfold bindC;rw[lz0 `amF];split
  ·rfl
  ·have:x≠n:=`amG
   simp[`B]
theorem ke0{kindOf:`F?}:∀{P:`j} {vs:`H} {i:Nat} {m:`a7},P.Nodup->`amH->`S'->`hO x=`kQ ->
  `xq `hO (`Mb) m x=`bo
 | [],_,_,_,_,h,_,_=>`i1
 | `dR,[],_,_,_,_,h,_=>`i1
 | p::P,w::vs,0,m,nd,h1,h2,hk=>by
  simp at h1 h2;subst h1;subst h2;show `xq `hO `Ga m p=_;unfold bindL;rw[kg0 `amI,`rJ];simp
 | p::P,w::vs,i+1,m,nd,h1,h2,hk=>by
  show `xq `hO `Ga m x=_;unfold bindL;exact ke0 (i:=i) (`Mc).2 (`tp) (`Gb) hk
theorem k60{kindOf:`F?}:∀{P:`j} {vs:`H} {i:Nat} {m:`a7},P.Nodup->`amH->`S'->`hO x≠`kQ ->
  `xr `hO (`Mb) m x=`bo
 | [],_,_,_,_,h,_,_=>`i1
 | `dR,[],_,_,_,_,h,_=>`i1
 | p::P,w::vs,0,m,nd,h1,h2,hk=>by
  simp at h1 h2;subst h1;subst h2;show `xr `hO `Ga m p=_;unfold bindC;rw[lz0 `amI,`Gc];simp
 | p::P,w::vs,i+1,m,nd,h1,h2,hk=>by
  show `xr `hO `Ga m x=_;unfold bindC;exact k60 (i:=i) (`Mc).2 (`tp) (`Gb) hk
noncomputable def start(N:`j)(vs:`C):St:=`qk `a++`jP (`xs - `bF) `b
noncomputable def wo0(CX:CXT)(P:`aa)(w:`L)(K:`G)(mg:`a7)(base:`u)(N:`j)(qual:Str)(scope:`dn)(f:`e)(cd:`t)(A:`a5)(outer:`ei)(s:`r)(H:Hp)(E:XK):Cx where
 prog:=P
 w:=w
 K:=K
 mg:=mg
 base:=`k
 A:=`amJ
 N:=N
 s₀:=s
 H₀:=H
 env:=`tV
 outer:=`b0
 stack:=`tV::`b0
 ex:=[]
 calm:=`d
 fn:=`Gd
 pn:=[]
 xe:=λe s'=>`i `ch (`amJ) (leaving (`tV) e) (λ_ s''=>CX `b0 H s E e s'') (λe' s''=>CX `b0 H s E e' s'') s'
theorem g80(h:`LB):∃c,(`abJ n `F! []).lookup x=`eU:=by
 have q:=`amK `F! n [] (`o h);exact Option.isSome_iff_exists.mp q
theorem by0{CX:CXT}{P:`aa}{w:`L}{K:`G}{mg:`a7}{base:`u}{N ps:`j}{qual:Str}{scope:`dn}{f:`e}{cd:`t}{A:`a5}{outer:`ei}{s s1:`r}{H:Hp}{E:XK}{us:`H}{vs:`C}
  (S:`amL) (hd:`cR) (e0:`amq) (hl:`L?) (r:`p6)
  (x:InCallC s `A (`xq `amM `xn `Ge) (`amN) (`xr `amM `xn `Ge) s1) :
  Inv (`amO) [] `AB H s1:=by
 have O:`M<=`xs:=by have:=C6 `Ez S.pre;rw[`cm] at this;omega
 obtain⟨h1,tk,rfl,hk⟩:=x.done;have F:∀b:`e,b∉(`amO).ex:=λb z=>`amP
 refine⟨⟨e0.mod,S.kind,rfl,rfl,`g0,λy z c h1 h2=>?_,λy hy=>?_,λy c _ h=>?_,λ_=>hd,Around.frames_deeper e0.frames,`q `hb,`amQ,e0.bs,e0.bsz,λb _ _=>F b,`amQ,e0.funs,e0.frf⟩,
  rfl,e0.bare,`Fq hk,⟨_,x.toInCall.ns,λi y v h1 h2 h3=>?_⟩,λy c h=>⟨_,x.cell y c h⟩,`amR `aK,λy c h=>?_,λp hp=>`X (show p∈([]:`av) from hp) `T,e0.hok.kept hk,?_⟩
 ·exact name_of_addr x.apart (L5 h1) (L5 h2)
 ·have hy:`A0=`h0∨`A0=`jt:=hy
  rcases hy with hy|hy
  ·exact g80 hy
  ·exact `X rfl (S.nofree _ (L5 hy))
 ·exact `amS
 ·have hi:i<`bF:=by
   unfold start at h2
   by_cases hi:i<`bF
   ·exact hi
   ·rw[`Gf] at h2
    rw[`rK] at h2;split at h2<;>cases h2
  have ha:`S':=by
   unfold start at h2;rw[`xt,`dQ] at h2;cases e:vs[i]? with
   | none=>rw[e] at h2;cases h2
   | some a=>rw[e] at h2;cases h2;rfl
  obtain⟨u,hu,rv⟩:=`xu ha;have hp:ps[i]?=`d8:=by
   rw[← S.pre,List.getElem?_take_of_lt `g];exact h1
  have J:`Gg:=by rw[← S.pre];exact S.nd.sublist (List.take_sublist _ _)
  refine⟨u,rv,?_⟩;rcases S.par y (E4 hp) with k|k
  ·exact `o ⟨k,ke0 J hp hu k⟩
  ·obtain⟨c,e⟩:=g80 (n:=`jw) k
   refine `q ⟨`w3,c,e,?_⟩;have q:=x.cell y c e;rw[k60 J hp hu (by show `A0≠_;rw[k];decide)] at q;exact q
 ·exact `amR (`amS)
 ·unfold start
  show _=`xs;rw[`aM,`F,`amT];omega
theorem c20{CX:CXT}{P:`aa}{w:`L}{K:`G}{mg:`a7}{base:`u}{k:Nat}{f:`e}{name qual:Str}{params:Arguments}{body:`dW}{scope:`dn}{dV kV doc pm cdv ct oc:`t}{an od:`a6}
  {osl:`ff} {N ps:`j} {sp:Sp} (lk:`t!=`a ⟨oc,od,`jI `amU,osl⟩) (hcd:`AZ) (S:`amL)
  (len:`F8)
  (hbody:∀(A:`a5) (outer:`ei) (s:`r) (H:Hp) (vs:`C) (Q:VK) (E:XK),`h' k (`tU (`Az `cX `cY `A f cdv))->`tS ->
   ∃t,PSs `S! `eX t/\`ab8) :
  `Y P w K mg `k CX `e0 f `amU ps sp:=by
 refine⟨len,λA outer s H a1 us vs Q E hr e0 hb r O=>?_⟩;have hl:=len _ _ _ _ O;have KX:K.In `P:=e0.mod.kin.keeps `amV
 have Z:s.heap.NoLimit:=e0.mod.nolimit.keeps `amV
 have F:∀y∈`m6 us,`ab9∨(`pw y.1=`h0/\((`amN).lookup y.1).isSome=`d):=λ⟨n,v⟩ hy=>by
  rcases S.par n (S1 hy).1 with q|q
  ·exact `hJ
  ·exact `q ⟨q,`amK _ _ _ (`hJ)⟩
 refine codeAny_call_function hr.depth (KX _ _ lk) rfl S.co S.gen rfl (W.codeRec_of KX hcd) (hb _ _ _ _ ?_);refine wpAny_newFunctionEnv_cells S.kind F λenv he s1 x=>?_
 subst he;refine⟨Z.keeps x.toInCall.keep,codeAny_func ?_⟩;obtain⟨t,ht,hq⟩:=hbody A `b0 s H vs Q E (hr.deeper _) O;have I:Inv `S! [] `AB H s1:=by0 S hr.hd e0 hl r x;refine C9 (ht [] s1 `AB H _ I hq) (λfl s' hs=>?_) λe s' hs=>hs
 have Y:∀{σ':St} {H':Hp} {v:V} {u:`t},Inv `S! [] σ' H' s'->`gh->`Ai->`amp :=
  λ{σ' H' v u} J rv q=>⟨v,H',J.os,J.bare,J.base,J.hok,rv,q⟩
 cases fl with
 | ret u =>
  obtain⟨v,σ',H',J,rv,q⟩:=hs;exact Y J rv q
 | next =>
  obtain⟨σ',H',J,q⟩:=hs;exact Y (v:=V.non) (u:=`ik) J rfl q
 | brk =>
  obtain⟨_,_,_,q⟩:=hs;exact `k2 q
 | cont =>
  obtain⟨_,_,_,q⟩:=hs;exact `k2 q
section
variable{t:TA}{id T:`bj}{r:`cZ}
noncomputable def tCB(r:`cZ)(t:TA):TE:=fun σ H Q=>t σ H λvs H1=>r vs H1 Q
theorem wz0(hc:`amW)(hg:`cI)(hm:`mj)(hv:`amX)(ha:`rI)(hn:`jp := by decide)(hdb:`aW:=by decide)
  (he:`c9:=by rfl) (hpl:`f6:=by rfl):`amY:=by
 intro pins s σ H Q I h;refine `amZ;exact PyProof.Rows.callWith_builtin1 `am_ he hpl
theorem ve0(hc:`am0)(hg:`cI)(hm:`mj)(hv:`S?)(ha:`rI)(hn:`jp := by decide)(hdb:`aW:=by decide)
  (he:`c9:=by rfl) (hpl:`f6:=by rfl):`amY:=by
 intro pins s σ H Q I h;refine `amZ;exact E6 `am_ he hpl
universe zz
universe L2
variable{H H' H2 H₀:L2.Hp}{X:L2.Cx}{σ:`ajh}{ta tb te tv ty:L2.TE}{CX:L2.CXT}{sp:L2.Sp}{kvs:`aji}
namespace HT
open PyProof.Rows
section
variable{w:`L}{s:`r}
theorem Ue0{t b:`e}{vs ws:`H}{Q:`Z}(ht:`tZ `P t `fB)(hb:`tZ `P b `rL)(hv:vs≠[])
  (h1:ws=[]->Q `k4 s) (h2:ws≠[]->Q `fH { s with heap:=`eZ { cls:=`cW,data:=`a' `am1 } })
  (hsz:`bF+`nJ<=`R):`i `am A (`ju .Add `k4 `xv) Q E s:=by
 obtain⟨⟨cls,dd,data,sl⟩,ho,hc,n,hd⟩:=id ht;obtain⟨⟨a1,O,data2,J⟩,F,Y,n2,Z⟩:=id hb;simp only at hc hd Y Z;subst hc hd Y Z;have e:`fB++`rL=`am1:=`aB
 by_cases hw:ws=[]
 ·exact w8 `Gh `Ta Ah0 Ai0 Aj0 Ak0 (Al0 _ _)
   (tuple_addW1 t b `fB `rL n n2 dd O sl J `Tb (by simp[hw])) ⟨ho,F,h1 hw⟩
 ·refine w8 `Gh `Ta Ah0 Ai0 Aj0 Ak0 (Al0 _ _)
   (tuple_addW2 t b `fB `rL n n2 dd O sl J `Tb `AL (by rw[`a?,`a?];exact hsz)) ⟨ho,F,?_⟩
  rw[e];exact h2 hw
noncomputable def sIx(n d:Nat):`am2
 | `b=>d
 | `bo=>`Gi
theorem P00(n d:Nat)(hd:d<=n)(o:`aT):sIx n d o<=n:=by
 cases o with
 | none=>exact hd
 | some v =>
  show (`Gi)<=n
  by_cases hv:v<0
  ·rw[`I hv];omega
  ·rw[`ay hv];exact By0 _ _
theorem ef0(v:Int)(n d:Nat):`am3=((sIx n d `pi:Nat):Int):=by
 show `am3=(((`Gi):Nat):Int)
 by_cases hv:v<0
 ·simp only[`I hv];omega
 ·simp only[`ay hv];omega
theorem ca0(lo hi:`aT)(n:Nat):`am4=(`Gj,`am5):=by
 have h1:¬(`px<0):=`p
 unfold Builtin.Slice.sliceAdjust;simp only[h1,`dp];refine U2 ?_ ?_
 ·cases lo with
  | none=>rfl
  | some v=>exact ef0 v n 0
 ·cases hi with
  | none=>rfl
  | some v=>exact ef0 v n n
theorem dl0(i j:Nat):`Tc `jz `br 1=j - i:=by
 unfold Builtin.Slice.slicePlaces;have h1:`ab1:=`p
 simp only[h1,`c7,Int.ediv_one];split<;>omega
theorem me0{o:`aT}{Q:`aT->`dy}(p:`tY v o)(h:Q o s):`i `am A (Builtin.Slice.slicePartIndex v) Q E s:=by
 cases p with
 | none=>exact `am6 h
 | int i t=>exact slicePart_int h
theorem uh0{hi:`aT}{n:Nat}{Q:Int×Int×Nat->`dy}(hs:`Gk)(pl:`Gl)(pu:`Gm)
  (h:Q (`Gj,1,`abO - `abN) s):`i `am A (Builtin.Slice.sliceApplied `AE (`a2 `bH)) Q E s:=by
 obtain⟨os,J,O,F⟩:=id hs;unfold Builtin.Slice.sliceApplied Builtin.Slice.sliceFields;refine A0 (A0 (B3 J F (x:=vl) rfl (A0 (B3 J F (x:=vu) rfl (A0 (B3 J F (x:=`aj) rfl `jy))))));refine A0 (`am6 ?_);show `i _ _ (if (`px==0)=`d then _ else _) _ _ s;rw[`rM];refine A0 (me0 pl (A0 (me0 pu (`rN))));show `i _ _ (match `am4 with|(lo,hi)=>`a2 (lo,`px,`Tc lo hi 1)) _ _ s;rw[ca0 lo hi n];show `i _ _ (`a2 (`Gj,`px,`Tc `Gj `am5 1)) _ _ s;rw[dl0];exact A1 h
theorem X00(xs:`aI)(i k:Nat):((`b5 k).filterMap `am7).toArray=((xs.toList.drop i).take k).toArray:=by
 have e:(`am7)=`am8:=by
  funext m
  have:(`abP).toNat=i+m:=`p
  rw[`B]
 rw[e];have:=pick_run xs i k;rw[List.filterMap_map] at this;have e2:((λx=>xs[x]?) ∘ λx=>i+x)=`am8:=rfl
 rw[e2] at this;rw[`B]
theorem pr0{t:`e}{hi:`aT}{Q:`Z}(ht:`am9)(hs:`Gk)(pl:`Gl)(pu:`Gm)
  (hw:¬(`am'))
  (h:Q `fH { s with heap:=`eZ { cls:=`cW,data:=`am! } })
  (hsz:`d7<=`R):`am?:=by
 have F:sizeOk (`am!):=by
  show (`abQ).toArray.size<=`R;rw[`a?,`cm,`i2,`FO];omega
 have hj:`Mf<=`d7:=P00 _ _ `aK hi;obtain⟨os,O,Y,a1⟩:=id hs;have Z:`ana := ⟨os,O,Y⟩;unfold getItem
 try with_reducible refine `uZ
 first|refine `rN|skip
 refine `anb;refine A0 (E7 (name:=`anc) `m? W1
  `and)
 show `ane;refine `anf;refine A0 (E8 Z ?_);rw[`oA];refine `ang;have J:¬(`Mh):=by
  intro q;rw[`cQ,`cQ] at q;have q1:`abS=0:=eq_of_beq q.1.1;have q2:`Mg=`d7:=eq_of_beq q.2;exact hw `aeX
 show `anh;rw[`ay J,X00]
 first
  | exact `ani
  | exact A0 (m:=`AG _) (K0 (A0 `anj) F)
  | exact A0 (A0 (m:=`AG _) (K0 `anj F))
  | exact A0 (`ani)
universe zz
universe HT
namespace L2
open Spec PyProof.Rows
abbrev TO:=St->Hp->(`ank)->Prop
noncomputable def PO(X:Cx)(e:`p0)(t:TO):Prop :=
 ∀(pins:`av) (s:`r) (σ:St) (H:Hp) (Q:`ank),`y->`le ->
  `i `ac X.A (evalPart e `v) (λu s'=>∃o H',`kl/\`tY u o/\Q o H') `az s
noncomputable def Tr0:TO:=λ_ H Q=>Q `b H
noncomputable def O10(t:TE):TO:=fun σ H Q=>t σ H λx H1=>∃i,`xd/\Q (`Gn) H1
section
variable{lo hi:`p0}{tl th:TO}
theorem V90:PO X `b Tr0:=by
 intro pins s σ H Q I h;rw[`anl];exact A1 ⟨`b,H,I,`aj,h⟩
theorem U20(h:`kn):PO X `LS (O10 te):=by
 intro pins s σ H Q I hw;rw[evalPart_some];refine thn `Sf `ami
 obtain⟨i,rfl,q⟩:=q1;obtain⟨t,rfl⟩:=r1;exact⟨`Gn,H1,I1,`Lw,q⟩
noncomputable def SlR(X:Cx)(r:`oB):Prop :=
 ∀(pins:`av) (s:`r) (σ:St) (H:Hp) (x:V) (v vl vu:`t) (lo hi:`aT) (sl:`e) (Q:VK),`y->`hL->`Gk->`Gl->`Gm->`anm ->
  ∃T id,`ann/\`jA v T/\`i `ac X.A (`m! v `AE) `fz `az s
theorem SlR.or{r r':`oB}(h:SlR X r)(h':SlR X r'):SlR X (λx lo hi H Q=>`anm∨r' x lo hi H Q):=by
 intro pins s σ H x v vl vu lo hi sl Q I rx hs pl pu q;rcases q with q|q
 ·exact h `h s σ H x v vl vu lo hi sl Q I rx hs pl pu q
 ·exact h' `h s σ H x v vl vu lo hi sl Q I rx hs pl pu q
noncomputable def tSl(r:`oB)(te:TE)(tl th:TO):TE:=fun σ H Q=>te σ H λx H1=>tl σ H1 λl H2=>th σ H2 λu H3=>r x l u H3 Q
theorem Xc0{r:`oB}(hr:SlR X r)(he:`kn)(hl:PO X lo tl)(hu:PO X hi th):PE X `ano (tSl r te tl th):=by
 intro pins s σ H Q I h;refine `Td (thn `ow `tD);refine wpAny_Slice (thn (hl `h s1 σ H1 _ I1 q1) λvl s2 ⟨l,H2,I2,pl,q2⟩=>thn (hu `h s2 σ H2 _ I2 q2) λvu s3 ⟨u,H3,I3,pu,q3⟩=>?_);rw[`anl];refine `cw;have I4:Inv X `h σ H3 `Te:=I3.kept (t':=s3.toks) `Go
 obtain⟨T,id,hT,ht,hg⟩:=hr `h `Te σ H3 x v vl vu l u `py Q I4 r1 (Heap.IsSliceOf.new ..) pl pu q3;show `i `ac X.A (`anp e `abT v (`anq)) `fz `az `Te;exact tail_any (ops:=[`anq,v]) ht hT hg (by with_unfolding_all rfl)
noncomputable def q30(xs:`C)(lo hi:`aT):`C:=(`nM (`t_)).take (`Mj - `t_)
theorem px0(xs:`C)(lo hi:`aT):(`AI).length<=`aP:=by
 unfold q30;rw[`cm,`i2];omega
noncomputable def Na0(K:`G):`oB:=λx lo hi H Q=>∃a xs,`f4/\`g_ /\
 ¬`anr/\∀p,`e3->Q `d' (upd H p (`ans))
theorem Sy0:SlR X (Na0 X.K):=by
 intro pins s σ H x v vl vu lo hi sl Q I rx hs pl pu h;obtain⟨a,xs,rfl,hx,hw,q⟩:=h;cases rx;obtain⟨its,r,ht,hz⟩:=`d4 hx;have F:`fA=`aP:=`ant
 refine⟨`dC,_,W1.lookup,`m?,?_⟩;refine HT.pr0 ht hs pl pu `anu ?_ (by rw[F];exact hz);rw[F];refine⟨`cu,_,`gx (t':=`a1) (o:=`ans) (`Go) `aK ?_,rfl,`Tf⟩;exact⟨`anv,_,`anw,`Tg⟩
noncomputable def Wm0(K:`G):R2:=λx y H Q=>∃a b xs ys,`f4/\`xw/\`g_/\`anx/\xs≠[]/\`M6 /\
 (ys=[]->Q `b_ H)/\(ys≠[]->∀p,`e3->Q `d' (upd H p (`Th)))
theorem Vals.nil_iff{xs:`C}(r:`dq):us=[]↔xs=[]:=by
 cases r with
 | nil=>simp
 | cons _ _=>simp
theorem Tx0:OpR X `xk (Wm0 X.K):=by
 intro pins s σ H x y v u Q I rx ry h;obtain⟨a,b,xs,ys,rfl,rfl,ha,hb,hx,hz,q1,q2⟩:=h;cases rx;cases ry;obtain⟨its,r1,p1,_⟩:=`d4 ha;obtain⟨F,r2,p2,_⟩:=`d4 hb;refine HT.Ue0 p1 p2 (λz=>hx (r1.nil_iff.mp z)) (λz=>⟨`a9,H,I,rfl,q1 (r2.nil_iff.mp z)⟩) (`gD) (by rw[← `us,← `lm];exact hz);refine⟨`cu,_,`gx (t':=`a1) (o:=`Th) (`Go) `aK ?_,rfl,q2 (λw=>z (r2.nil_iff.mpr w)) _ (`fx)⟩;exact⟨`any,_,`Gp,`Tg⟩
universe zz
noncomputable def ixN(n:Nat)(i:Int):`CR:=`anz
noncomputable def atI{α:Type}(xs:`bP)(i:Int):`aH α:=`anA
theorem ev0{i:Int}(h:ixN n i=`oC):seqIndex? i n=`oC/\j<n/\`Mm/\i<n:=by
 unfold ixN at h
 by_cases h0:`na
 ·rw[`I h0] at h
  by_cases h1:i<n
  ·rw[`Gq] at h
   have e:`g4=j:=`p7;exact⟨by rw[`Ti h0 h1,e],`p,`p,h1⟩
  ·rw[`ay h1] at h;cases h
 ·rw[`ay h0] at h
  by_cases h1:`Mm
  ·rw[`Gq] at h
   have e:`abW=j:=`p7;exact⟨by rw[`Tj `g h1,e],`p,h1,`p⟩
  ·rw[`ay h1] at h;cases h
theorem lh0{xs:`bP}{i:Int}{v:α}(h:`t0=`bo):∃j,seqIndex? i `aP=`oC/\`pA=`bo/\j<`aP/\-(`aP:Int)<=i/\`Gr:=by
 unfold atI at h;cases e:`abX with
 | none=>rw[e] at h;cases h
 | some j =>
  rw[e] at h;obtain⟨h1,h2,h3,h4⟩:=ev0 e;exact⟨j,h1,h,h2,h3,h4⟩
noncomputable def l50(b:`D):Prop:=∀o i,`Gs b `m o i=`Tk [o,i] (`m! o i)
noncomputable def IxR(X:Cx)(r:R2):Prop :=
 ∀(value slice:`D) (pins:`av) (s:`r) (σ:St) (H:Hp) (x y:V) (v u:`t) (Q:VK),`y->`hL->`ek->`Aw ->
  `Gs `mq `m v u=`Tk [v,u] (`m! v u)->`i `ac X.A (`anp `rO `mq v u) `fz `az s
noncomputable def MtR(X:Cx)(id:`bj)(r:`i3):Prop :=
 ∀(pins:`av) (s:`r) (σ:St) (H:Hp) (x:V) (xs:`C) (v:`t) (us:`H) (Q:VK),`y->`hL->`dq->`anB ->
  `anC
section
variable{a:`D}
theorem IxR.or{r r':R2}(h:`Tl)(h':IxR X r'):IxR X `al!:=by
 intro value slice pins s σ H x y v u Q I rx ry q hs;rcases q with q|q
 ·exact h `rO `mq `h s σ H x y v u Q I rx ry q hs
 ·exact h' `rO `mq `h s σ H x y v u Q I rx ry q hs
theorem Oi0{r:R2}(hr:`Tl)(ha:`ml)(hb:`ov)(hs:l50 b):PE X `Gt `F4:=by
 intro pins s σ H Q I h;exact `Td (W80 ha hb I h λv u s2 x y H2 I2 rx ry q=>hr a b `h s2 σ H2 x y v u Q I2 rx ry q (hs _ _))
noncomputable def Sq0(K:`G):R2:=λx y H Q=>∃p xs i v,x=`e_/\y=`a4/\`Gu/\`anD
noncomputable def Sm0(K:`G):R2:=λx y H Q=>∃p xs i v,x=`e_/\y=`a4/\`Tm/\`anD
noncomputable def Qf0:R2:=λx y H Q=>∃z i c,x=`k6/\y=`a4/\`pC/\`anE=`eU/\Q (`nh) H
theorem Tq0:IxR X (Sq0 X.K):=by
 intro value slice pins s σ H x y v u Q I rx ry h hs;obtain⟨p,xs,i,z,rfl,rfl,hq,he,q⟩:=h;cases rx;obtain⟨t,rfl⟩:=ry;obtain⟨its,r,pl,hz⟩:=`eJ;obtain⟨j,h1,h2,h3,h4,h5⟩:=lh0 he;obtain⟨w,ew,J⟩:=`xu h2;have hl:=`aL;have hn:=u10;have F:`anF:=⟨z,H,I,J,q⟩
 by_cases h0:`na
 ·have hj:`g4=j:=by
   rw[`Ti h0 h5] at h1;exact B5 h1
  exact item_listR `fI h0 `g `anG F hs
 ·have hj:(i+`anH).toNat=j:=by
   rw[`Tj `g h4] at h1;rw[`a?,← hl];exact B5 h1
  exact `anI (x:=w) `anJ `anK
   (wpAny_getItem_list_neg (Q:=`anL) `fI `g `anM `g `anG ⟨rfl,F⟩) hs
theorem Rs0:IxR X (Sm0 X.K):=by
 intro value slice pins s σ H x y v u Q I rx ry h hs;obtain⟨p,xs,i,z,rfl,rfl,hq,he,q⟩:=h;cases rx;obtain⟨t,rfl⟩:=ry;obtain⟨its,r,pl,hz⟩:=`hM;obtain⟨j,h1,h2,h3,h4,h5⟩:=lh0 he;obtain⟨w,ew,F⟩:=`xu h2;have hl:=`aL;have hn:=u10;have J:`anF:=⟨z,H,I,F,q⟩;exact `anI (x:=w) pl.typeIs slot_tuple_getitem.lookup
  (getItem_tuple (j:=j) (Q:=`anL) pl `g `g (by rw[`a?,← hl];exact h1) (by simpa using ew) ⟨rfl,J⟩) hs
theorem Ry0:IxR X Qf0:=by
 intro value slice pins s σ H x y v u Q I rx ry h hs;obtain⟨z,i,c,rfl,rfl,hz,he,q⟩:=h;obtain⟨t,rfl⟩:=rx;obtain⟨t',rfl⟩:=ry;obtain⟨j,h1,h2,h3,h4,h5⟩:=lh0 he;have hl:`anN=`AK:=by simp[Str.length]
 rw[hl] at h1 h4 h5;have hn:=u10;exact tail_any (X0 s z t) slot_str_getitem.lookup (getItem_str (c:=c) (by
  have e1:`O (i < `anO)=`m:=`Tn;have e2:`O (i ≥ 2 ^ 63)=`m:=`Tn;rw[e1,e2,`w2]) (by rw[h1];simpa using h2) ⟨`nh,H,`eu,`au,q⟩) hs
noncomputable def rIx(K:`G):R2:=λx y H Q=>Sq0 K x y H Q∨Sm0 K x y H Q∨Qf0 x y H Q
theorem Rk0:IxR X (rIx X.K):=Tq0.or (Rs0.or Ry0)
theorem cq0(its:`H)(n j:Nat)(u:`t):`e8 (`qf j u) `Ly={ cls:=`c!,data:=`a' (its.set j u).toArray n }:=by
 simp[`e8]
theorem Inv.lst{σ:St}{s:`r}{p:`e}{xs:`C}(I:`y)(h:`Gv) :
  ∃(its:`H) (n:Nat),`mb/\`anP/\`iZ:=by
 obtain⟨z,its,n,r,e⟩:=`bh p _ h;exact⟨its,n,r,e,z⟩
theorem Inv.lstUpd{σ:St}{s:`r}{p:`e}{xs ys:`C}{its its':`H}{n n':Nat}{f:Obj->Obj}(I:`y)(h:`Gv)
  (ho:`anP) (hf:f `Ly=`anQ) (r:`anR) (hz:`Gw) (t:Nat) :
  Inv X `h σ (upd H p `pD) { s with heap:=`jY p f,toks:=t }:=by
 have e:(`jY p f).get? p=`a `anQ:=by
  rw[Heap.get?_update_self f ho (by rw[hf]<;>rfl),hf]
 refine `To (x:=p) (e:=p) (by rw[h];trivial) `h_ (λb u hb q=>`B0 q) ⟨_,e⟩ ?_;exact⟨hz,its',n',r,e⟩
noncomputable def Oz0:`Sl:=λo i v H Q=>∃p xs k j,o=`e_/\i=`df/\`Gv/\ixN `aP k=`oC/\Q `anS
theorem set_list:X20 X Oz0:=by
 intro pins s σ H o i v ov iv u Q I ro ri rv h;obtain⟨p,xs,k,j,rfl,rfl,hp,hj,q⟩:=h;cases ro;obtain⟨t,rfl⟩:=ri;obtain⟨its,n,r,ho,hz⟩:=I.lst hp;obtain⟨h1,h2,h3,h4⟩:=ev0 hj;have hl:=`aL;have hn:=u10;have I':Inv X `h σ `anS { s with heap:=`jY p (`e8 (`qf j u)) } :=
  I.lstUpd hp ho (cq0 its n j u) (r.set rv j) (by rw[List.length_set];exact hz) `a1
 by_cases h0:`fb
 ·have hk:`i4=j:=by
   rw[`Ti h0 h4] at h1;exact B5 h1
  exact W.ki_setAt ho h0 `g (by rw[`a?,← hl];exact h4) `anT
 ·have hk:(k+`anH).toNat=j:=by
   rw[`Tj `g h3] at h1;rw[`a?,← hl];exact B5 h1
  exact W.ki_setBack ho `g (by rw[`a?,← hl];exact h3) `g `anT
theorem ix0(lo hi:`aT)(n:Nat):(`Tp).1=((`g3 n 0 lo:Nat):Int)/\(`Tp).2.1=((`g3 n n hi:Nat):Int)/\(`Tp).2.2=1:=by
 refine⟨?_,?_,rfl⟩
 ·cases lo with
  | none=>simp[`t3,`g3]
  | some i =>
   simp only[`t3,`g3,`anU,`anV,`c7]
   by_cases h:i<0
   ·simp only[h,`c7]<;>omega
   ·simp only[h,`dp]<;>omega
 ·cases hi with
  | none=>simp[`t3,`g3]
  | some i =>
   simp only[`t3,`g3,`anU,`anV,`c7]
   by_cases h:i<0
   ·simp only[h,`c7]<;>omega
   ·simp only[h,`dp]<;>omega
theorem j50(its:`H)(lo hi:`aT):slicePick `bZ lo hi `b=((its.drop (`anW)).take (`g3 `k5 `k5 hi - `anW)).toArray:=by
 obtain⟨h1,h2,h3⟩:=ix0 lo hi `fA;unfold slicePick;rw[h1,h2,h3];simp only[sliceRange_one,pick_run,`a?]<;>rfl
noncomputable def Ns0(K:`G):`oB:=λx lo hi H Q=>∃a xs,`f4/\`m0/\∀p,`e3->Q `d' (upd H p (`anX))
theorem Up0:SlR X (Ns0 X.K):=by
 intro pins s σ H x v vl vu lo hi sl Q I rx hs pl pu h;obtain⟨a,xs,rfl,hx,q⟩:=h;cases rx;obtain⟨its,r,ht,hz⟩:=`dK hx;have F:=`aL;refine⟨`dE,_,`anK,ht.isList.typeIs,?_⟩;refine wpAny_getItem_list_slice ht.isList hs pl pu `aj `T ?_ `anM;rw[j50,← F];refine⟨`cu,_,`gx (t':=`a1) (o:=`anX) (`Go) `aK ?_,rfl,`Tf⟩;exact⟨`anv,_,0,`anw,`eq⟩
noncomputable def we0:V->`N
 | `z=>`d
 | `cx=>`d
 | `dJ=>`d
 | `cj=>`d
 | _=>`m
noncomputable def eqV:V->V->`N
 | `z,`z=>`d
 | `rP,`da=>`iY
 | `rP,`eC=>`Tq
 | `hd,`da=>`Tr
 | `hd,`eC=>`iY
 | `J a,`rQ=>`iY
 | _,_=>`m
theorem Qx0{s:`r}{y x:V}(ry:`ek)(rx:`hL)(fy:`anY)(fx:`Ts):`BU A s u v (`Mq):=by
 cases y with
 | non =>
  cases ry;cases x with
  | non=>cases rx;exact l0 _
  | bl b=>cases rx;exact An0 b
  | int b=>obtain⟨t,rfl⟩:=rx;exact Ao0 b t
  | str b=>obtain⟨t,rfl⟩:=rx;exact Ap0 b t
  | _=>exact `Gx
 | bl a =>
  cases ry;cases x with
  | non=>cases rx;exact Aq0 a
  | bl b=>cases rx;exact Ar0 a b
  | int b=>obtain⟨t,rfl⟩:=rx;exact As0 a b t
  | str b=>obtain⟨t,rfl⟩:=rx;exact At0 a b t
  | _=>exact `Gx
 | int a =>
  obtain⟨t',rfl⟩:=ry;cases x with
  | non=>cases rx;exact Au0 a t'
  | bl b=>cases rx;exact Av0 a t' b
  | int b=>obtain⟨t,rfl⟩:=rx;exact Aw0 a t' b t
  | str b=>obtain⟨t,rfl⟩:=rx;exact u7 a t' b t
  | _=>exact `Gx
 | str a =>
  obtain⟨t',rfl⟩:=ry;cases x with
  | non=>cases rx;exact Ax0 a t'
  | bl b=>cases rx;exact Ay0 a t' b
  | int b=>obtain⟨t,rfl⟩:=rx;exact u8 a t' b t
  | str b=>obtain⟨t,rfl⟩:=rx;exact Az0 a t' b t
  | _=>exact `Gx
 | _=>exact `X (show `pt from fy) B7
noncomputable def eqU(x:V)(u:`t):`N:=match u with
 | `aj=>eqV `z x
 | `o?=>eqV `qK x
 | `c i _=>eqV `dL x
 | `J z _=>eqV `CE x
 | _=>`m
theorem Zf0{x y:V}(r:`ek)(f:`anY):eqU x u=`Mq:=by
 cases y with
 | non=>cases r;rfl
 | bl b=>cases r;rfl
 | int i=>obtain⟨t,rfl⟩:=r;rfl
 | str z=>obtain⟨t,rfl⟩:=r;rfl
 | _=>exact `X (show `pt from f) B7
theorem l90{x:V}:∀{xs:`C} {us:`H},`dq->`Gy->us.any `t4=`anZ
 | _,_,`U,_=>rfl
 | y::xs,u::us,`eH,f=>by
  rw[`oD,`cQ] at f;rw[`i5,`i5,Zf0 r f.1,l90 t f.2]
theorem sk0{s:`r}{x:V}(rx:`hL)(fx:`Ts):∀{xs:`C} {us:`H},`dq->`Gy->∀u∈us,`BU A s u v (eqU x u)
 | _,_,`U,_=>λu hu=>by cases hu
 | y::xs,u::us,`eH,f=>λu' hu=>by
  rw[`oD,`cQ] at f;rcases `b1 hu with rfl|hu
  ·rw[Zf0 r f.1];exact Qx0 r rx f.1 fx
  ·exact sk0 rx fx t f.2 u' hu
noncomputable def inV(x:V)(xs:`C):`N:=`anZ
noncomputable def rIn(K:`G)(neg:`N):R2:=λx y H Q=>∃p xs,y=`e_/\(`Gu∨`Tm)/\`Ts/\`Gy/\Q (.bl (if neg then !inV x xs else inV x xs)) H
theorem jy0:OpR X (`gk `p5) (rIn X.K `d):=by
 intro pins s σ H x y v u Q I rx ry h;obtain⟨p,xs,rfl,hq,fx,fs,q⟩:=h;cases ry;rcases hq with hq|hq
 ·obtain⟨its,r,pl,hz⟩:=`eJ
  refine SeqAt.notIn_listAt `t4 `fI `an_ `an0;rw[`an1,l90 r fs];exact q
 ·obtain⟨its,r,pl,hz⟩:=`hM
  refine SeqAt.notIn_tupleAt `t4 pl `an_ `an0;rw[`an1,l90 r fs];exact q
theorem i90:`cv X `Tt (λxs H Q=>∃p ys,`hg/\(`Gz∨`Tu)/\`an2):=by
 intro pins s σ H xs us Q I r h;obtain⟨p,ys,rfl,hq,q⟩:=h;obtain⟨u,rfl,rx⟩:=`ko;cases rx;have hn:=u10;rcases hq with hq|hq
 ·obtain⟨its,r',pl,hz⟩:=`eJ
  have F:=`xx;exact Calls.call_len_list `fI `xy `an3
 ·obtain⟨its,r',pl,hz⟩:=`hM
  have F:=`xx;exact len_tuple pl `xy `an3
theorem ho0:`cv X `Tt (λxs H Q=>`an4):=by
 intro pins s σ H xs us Q I r h;obtain⟨z,rfl,hz,q⟩:=h;obtain⟨u,rfl,t,rfl⟩:=`ko;have hn:=u10;exact len_str `g ⟨`Mr,H,`eu,`au,q⟩
theorem CallR.or{f:`t}{r r':`cZ}(h:`cv X f r)(h':`cv X f r'):`cv X f (λxs H Q=>`F2∨r' xs H Q):=by
 intro pins s σ H xs us Q I rs q;rcases q with q|q
 ·exact h `h s σ H xs us Q I rs q
 ·exact h' `h s σ H xs us Q I rs q
theorem rp0:`cv X `uV (λxs H Q=>∃p ys,`hg/\(`Gz∨`Tu)/\`an5):=by
 intro pins s σ H xs us Q I r h;obtain⟨p,ys,rfl,hq,q⟩:=h;obtain⟨u,rfl,rx⟩:=`ko;cases rx;have F:∀(its:`H),`Tv->`Gw->∀(h':`u) (c':Nat),(∀b o',`kR=`z8->`mT=`z8) ->
   `an6=`a { cls:=`c!,dict:=`b,data:=`a' `bZ c',slots:=#[] }->EP X `h σ Q `fH `dI:=λits r' hz h' c' kp e =>
  ⟨`cu,_,`gx (t':=`a1) kp `aK (show `cJ `a0 X.w _ h' _ `pD from ⟨hz,its,c',r',e⟩),rfl,`Tf⟩
 rcases hq with hq|hq
 ·obtain⟨its,r',pl,hz⟩:=`eJ
  have J:=`xx;obtain⟨o,ho,hc,n,hd⟩:=`fI;exact `an7 p `h_ ho hc hd `an8 `xy
 ·obtain⟨its,r',pl,hz⟩:=`hM
  have J:=`xx;obtain⟨o,ho,hc,n,hd⟩:=pl;exact `an7 p (`dr) ho hc hd `an8 `xy
theorem Y8:`cv X `GA (λxs H Q=>∃p ys,`hg/\((`Gz/\`an9)∨(`Tu/\Q `d' H))):=by
 intro pins s σ H xs us Q I r h;obtain⟨p,ys,rfl,h⟩:=h;obtain⟨u,rfl,rx⟩:=`ko;cases rx;rcases h with⟨hq,q⟩|⟨hq,q⟩
 ·obtain⟨its,r',pl,hz⟩:=`eJ
  have F:=`xx;refine call_tuple_list `fI (λh' kp=>?_) `xy;have I1:`it:=`xc (t':=`a1) kp;have I2:Inv X `h σ (upd H `nb `t5) { s with heap:=`Tw { cls:=`cW,data:=`a' `bZ } } :=
   `L! (t':=`a1) (`m3) `aK (show `cJ `a0 X.w _ _ _ `t5 from ⟨hz,its,r',`Tg⟩)
  exact⟨`an',_,I2,rfl,q _ (`Av)⟩
 ·obtain⟨its,r',pl,hz⟩:=`hM
  exact call_tuple_same pl ⟨`e_,H,I,rfl,q⟩
noncomputable def tyV(K:`G)(T:`bj)(x:V)(H:Hp):Prop:=match x with
 | `cj=>T = `i6
 | `dJ=>T = `hh
 | `e_=>(T = `dE/\∃xs,`Gu)∨(T = `dC/\∃o,`eW p=`ae/\`nR/\`w4) ∨
   (T = `gq/\((∃kvs,H p=`pZ)∨∃kvs,H p=`BH))∨(T = "set"/\∃S n,H p=`a (.set S n))
 | _=>`cK
theorem ak0{σ:St}{s:`r}{T:`bj}{x:V}(I:`y)(r:`hL)(ty:tyV X.K T x H) :
  `jA v T/\∀a,`g8->∃ob,`kL=`w7/\`an!:=by
 cases x with
 | str z =>
  obtain⟨t,rfl⟩:=r;cases (show T = `i6 from ty);exact⟨X0 s z t,λ_ e=>nomatch e⟩
 | int i =>
  obtain⟨t,rfl⟩:=r;cases (show T = `hh from ty);exact⟨l6 s i t,λ_ e=>nomatch e⟩
 | ref p =>
  cases r;rcases ty with⟨rfl,xs,hq⟩|⟨rfl,o,hk,hc,hd⟩|⟨rfl,hk⟩|⟨rfl,S,n,hk⟩
  ·obtain⟨its,_,pl,_⟩:=`eJ
   refine⟨`anJ,λa e=>?_⟩;cases e;obtain⟨o,n,e,c,hd,_⟩:=pl;exact⟨o,e,hd⟩
  ·refine⟨⟨o,`et p o hk,hc⟩,λa e=>?_⟩
   cases e;exact⟨o,`et _ o hk,hd⟩
  ·have z:∃o,`eo p=`ae/\`ajr:=by
    rcases hk with⟨kvs,hk⟩|⟨kvs,hk⟩
    ·obtain⟨_,_,_,_,o,_,_,e,ex,_⟩:=`Tx
     exact`an?
    ·obtain⟨_,_,_,_,o,_,_,e,ex,_⟩:=`Tx
     exact`an?
   obtain⟨o,e,ex⟩:=z;refine`aoa;cases e2;exact`aob
  ·obtain⟨o,_,_,_,e,ex,_⟩:=`Tx
   refine`aoa;cases e2;exact`aob
 | _=>exact `k2 ty
noncomputable def Nf0(K:`G)(T:`bj)(r:`i3)(to:TE):TE:=fun σ H Q=>to σ H λx H1=>`aoc/\r x [] H1 Q
noncomputable def tBM(K:`G)(T:`bj)(r:`i3)(to:TE)(t:TA):TE:=fun σ H Q=>to σ H λx H1=>`aoc/\t σ H1 λxs H2=>r x xs H2 Q
variable{to:TE}{t:TA}{T id:`bj}{r:`i3}
theorem Q10(pa:PlainAttrs T)(slot:`aod)(hty:`aoe)(hm:`aof)(ho:`So)
  (hbase:`aog:=by rfl) (hline:`hP:=by rfl):PE X (`bi `aoh [] [] `cg) (Nf0 X.K T r to):=by
 intro pins s σ H Q I h;refine wpAny_Call_method0_late `hQ `i7 `aoi;obtain⟨h1,h2⟩:=`aoj;exact⟨T,id,pa,slot,hty,h1,h2,B00 rfl (PySem.evalArgs_none (hm `h s1 σ H1 x [] v [] Q I1 r1 `U q1))⟩
theorem p80(pa:PlainAttrs T)(slot:`aod)(hty:`aoe)(hm:`aof)(ho:`So)(ha:`rI)
  (hbase:`aog:=by rfl)
  (hfew:((`d2 `cg (`abH)).all `BA&&`BB
  &&`O (`Ty+`uC+`uD<30))=`d:=by rfl)
  (hline:`hP:=by rfl) (hs:`c9:=by rfl) (hplain:`aok=`m:=by rfl) :
  PE X (`bi `aoh `gl [] `cg) (tBM X.K T r to t):=by
 intro pins s σ H Q I h;refine wpAny_Call_method_late `hQ `mr `i7 rfl `aoi;obtain⟨h1,h2⟩:=`aoj;refine⟨T,id,pa,slot,hty,h1,h2,?_⟩;have hA:=ha `cg `h s1 σ H1 _ I1 q1;rw[hs] at hA ⊢;refine B00 (by show (`m||`aok)=`m;rw[`oE]<;>rfl) (B10 ?_);exact thn hA λus s2 ⟨vs,H2,I2,r2,q2⟩=>hm `h s2 σ H2 x vs v us Q I2 r1 r2 q2
universe zz
noncomputable def MtM(X:Cx)(id:`bj)(r:`i3):Prop :=
 ∀(pins:`av) (s:`r) (σ:St) (H:Hp) (x:V) (xs:`C) (v:`t) (us:`H) (Q:VK),`y->`hL->`dq->`anB ->
  `anC
theorem Vals.one:∀{x:V} {us:`H},`ama->`amb
 | _,_,`Tz=>`aaU
theorem Vals.two:∀{x y:V} {us:`H},`bm `vb us->∃u v,us=[u,v]/\`g2/\`dD y v
 | _,_,_,`ak r (`ak q `U)=>⟨_,_,rfl,r,q⟩
theorem Vals.zero:∀{us:`H},`bm [] us->us=[]
 | _,`U=>rfl
theorem Vals.dropLast{xs:`C}(h:`dq):`bm `GB us.dropLast:=by
 induction h with
 | nil=>exact `U
 | cons r t ih =>
  cases t with
  | nil=>exact `U
  | cons q t'=>exact `aol
theorem Vals.reverse{xs:`C}(h:`dq):`bm `GC us.reverse:=by
 induction h with
 | nil=>exact `U
 | cons r t ih=>rw[`ms,`ms];exact `ajn ih (`Tz)
theorem dq0(l:`bP):l.eraseIdx (`cO - 1)=l.dropLast:=by
 induction l with
 | nil=>rfl
 | cons a r ih =>
  cases r with
  | nil=>rfl
  | cons b r =>
   have e:`aom - 1=(`aon - 1)+1:=by
    have h1:`aom=`aL+2:=rfl;have h2:`aon=`aL+1:=rfl;omega
   rw[e,List.eraseIdx_cons_succ,ih]
   all_goals rfl
section
variable{σ:St}{s:`r}{b:`e}{xs ys zs:`C}
theorem Inv.lset{its its':`H}{n:Nat}{f:`aI->`aI}{t':Nat}(I:`y)(hH:`rR)
  (e:`aoo) (hf:f `bZ=`abZ) (hv:`anR) (hz:`Gw) :
  Inv X `h σ (upd H l `pD) { s with heap:=`jY l (`e8 f),toks:=t' }:=by
 have q:=PySem.IsL.update e f;rw[hf] at q;refine `To (x:=l) (e:=l) (by rw[hH];exact `fE) `h_ (λb' u hb hu=>(K2 `P (`e8 f) (B1 hb)).trans hu) `i8 ?_;exact⟨hz,its',_,hv,q⟩
theorem Inv.lnew{its:`H}{t':Nat}(I:`y)(hv:`Tv)(hz:`Gw) :
  Inv X `h σ (upd H `A `pD) { s with heap:=`eZ { cls:=`c!,data:=`a' `bZ },toks:=t' } :=
 `gx `vs `aK ⟨hz,its,0,hv,`eq⟩
theorem Inv.fresh(I:`y):`rS:=`fx
theorem Inv.lstM(I:`y)(hH:`rR):`iZ/\∃(its:`H) (n:Nat),`mb/\`aP=`k5/\`aoo:=by
 obtain⟨z,its,n,r,e⟩:=`bh l _ hH;exact⟨z,its,n,r,`aL,e⟩
theorem W50(h:`xz):`TA n=`m:=by
 unfold Builtin.List.listTooLong;exact `Tn
universe zz
noncomputable def Um0:`i3:=λx vs H Q=>∃l xs y,`xA/\vs=[y]/\`rR/\`aP<`R/\Q `z (upd H l (`n (xs++[y])))
theorem rt0:MtM X `aop Um0:=by
 intro pins s σ H x vs v us Q I rx rv h;obtain⟨l,xs,y,rfl,rfl,hH,hz,q⟩:=h;cases rx;obtain⟨u,rfl,ru⟩:=rv.one;obtain⟨z,its,n,r,hl,e⟩:=`GD;refine X1 F.slot_list_append `GE F.entry_list_append (F.args_list_append_2 _ _) (PySem.list_append l `bZ n u `xB) `TB;refine⟨`z,_,`GF (its':=its++[u]) hH e `T (`xp (`ak ru `U)) ?_,rfl,q⟩;rw[`aM,`jV];omega
noncomputable def Nz0:`i3:=λx vs H Q=>∃l xs y,`xA/\vs=[]/\`rR/\xs[`aP - 1]?=`d8/\Q y (upd H l (`n `GB))
theorem Q40:MtM X "list.pop" Nz0:=by
 intro pins s σ H x vs v us Q I rx rv h;obtain⟨l,xs,y,rfl,rfl,hH,hy,q⟩:=h;cases rx;have J:=rv.zero;subst J;obtain⟨z,its,n,r,hl,e⟩:=`GD;obtain⟨u,hu,ru⟩:=`xu hy;have O:`bZ[`fA - 1]?=`bg:=by
  show `bZ[`k5 - 1]?=`bg;rw[← `aoq,← hl];exact hu
 refine X1 F.slot_list_pop `GE F.entry_list_pop (F.args_list_pop_1 _) (MeetsSeq.list_pop_last l `bZ n u O `xB) `TB;refine⟨y,_,`GF (its':=its.dropLast) hH e ?_ r.dropLast ?_,ru,q⟩
 ·show its.toArray.eraseIdxIfInBounds (`fA - 1)=its.dropLast.toArray
  rw[`a?,List.eraseIdxIfInBounds_toArray,dq0]
 ·rw[List.length_dropLast]
  omega
universe L2
namespace Att
open PySem.W PySem.Calls PyProof.Rows
theorem nq0{P:Params}{h:`u}:∀(ns:`aG) (vs:`H),WellAll P h vs (`nd WData.int)->`xC:=by
 intro ns
 induction ns with
 | nil =>
  intro vs w;rw[`uB] at w;cases w;exact `U
 | cons n ns ih =>
  intro vs w;rw[`aC] at w;cases w with
  | cons a b =>
   cases a;exact `ak _ _ (ih _ b)
theorem Y80{l:`TC}(hn:`TD){P:Params}{h:`u}{args:`aor}{vals:`H}
  (hpre:l.row.toRowW.claim.pre `hN=`d) (hwl:WellAll P h vals `hN) :
  ∃a vs ns,vals=[`jR]/\`hN=[WData.list (`nd WData.int)]/\`gS=`ab5/\`xC/\`GG:=by
 have J:WShape.hasAll [] `hN [.list `c]=`d:=(`aos).1;have hc:l.pre.holds [] { args:=`hN }=`d:=(`aos).2;obtain⟨d,r,rfl,h1,h2⟩:=hasAllW_cons J;obtain rfl:=hasAllW_nil h2;obtain⟨xs,rfl,h3⟩:=hasW_list h1;obtain⟨ns,rfl⟩:=items_int h3;have F:`GG:=by
  unfold OpenLaw.pre at hc;have h4:(WTm.not (.lt (.lit (`lP)) (.len (.arg 0)))).holds [] { args:=[`TE] }=`d:=by
   have h4:=(holds_andW hc).1;rw[hn] at h4;exact h4
  have h5:=condW_of h4 (w_not (w_lt w_lit (w_len_list (w_arg rfl))));rw[`F] at h5;refine Nat.le_of_not_lt λq=>?_
  have q':`bH<((`nc:Nat):Int):=`p
  first
   | (rw[`bv q'] at h5;exact `X h5 `f)
   | (simp at h5;omega)
 cases hwl with
 | cons w1 w2 =>
  cases w2;cases w1 with
  | list ho hall=>exact⟨_,_,ns,rfl,rfl,ho,nq0 ns _ hall,F⟩
theorem Y00(l:`TC)(args:`aor):l.row.toRowW.claim.post `hN `t9 `hN=`d :=
 postW_of (r:=`TF) (X:=`aot)
  (show `aou [] `t9 `d_=`d by first|rfl|decide|simp[`aou,WShape.arms,WShape.armsAll])
  (show (WTm.eq .res (.lit `t9)).value [] { args:=`hN,res:=`a `t9,after:=`hN }=`a (`d_ `aot) from w_eq_bool (w_res rfl) w_lit) rfl
universe Att
namespace L2
open Spec PyProof.Rows
theorem ku0:∀{vs:`H} {ns:`aG},`xC->`bm `AV vs
 | _,_,`U=>`U
 | _,_,`ak n t h=>`ak `TG (ku0 h)
noncomputable def Only(H:Hp):Prop:=∀b,`ct∨∃o xs,H b=`a (.frz o `pm)
theorem X80{P:`aa}{w:`L}{K:`G}{mg mb:`a7}{CX:CXT}{k:Nat}{fa a:`e}{fd:`S}{x:Str}{sp:Sp}{s₁:`r}{vs:`H}{ns:`aG}
  (KX:K.In `pE) (hns:`TH `a3 mg) (hb:`TH `RP mb) (hbb:`ajN) (hlim:s₁.heap.NoLimit) (hg:`aov)
  (ha:`aow) (hi:`xC) (hl:`nc<=`R) (hr:`aox)
  (F:∀base:`u,`RO->`Fs->`Y P w K mg `k CX k fa fd [x] sp) (hbind:`aoy)
  (hsp:∀H:Hp,Only H->`GH->sp `jG H `TI `mm)
  (hCX:∀H e s',CX [] H `dM (`mm) e s'->`cK) :
  `aoz:=by
 have rv:=ku0 hi;have a2:=hi.length;have Y:∀H:Hp,Only H->`GH->HOk P w H `pE->(∀b,H b≠`b->b=a)->(`pP->`eW a=`b) ->
   `aoz:=by
  intro H hO hS hok hA hK;have J:∀{b:`e} {o:Obj},`AT b=`ae->`ct->(`xD).get? b=`ae:=λe n=>Yn0 e n
  have a3:∀{b:`e} {o:Obj} {es:`o9 DictEntry} {ep:Nat},`AT b=`ae->`h3=.dict es ep->`ct:=λ{b o es ep} e d=>by
   cases q:H b with
   | none=>rfl
   | some u =>
    have e':b=a:=`aoA;subst e';rw[ha] at e;cases e;have d':Data.seq `fB _=Data.dict es ep:=d;cases d'
  have O:∀{b:`e} {m:`a7},`TH b m->(`xD).Ns b m:=λ{b m} ⟨o,es,ep,e,d,r⟩=>⟨o,es,ep,J e (a3 e d),d,r⟩
  have Z:K.In (`xD):=λb o e=>J (KX b o e) (by
   cases q:H b with
   | none=>rfl
   | some u =>
    have e':b=a:=`aoA;subst e';rw[hK (`Mw)] at e;cases e)
  have hM:Mod K mg (`xD):=⟨Z,O hns,⟨mb,O hb,hbb⟩,let ⟨mc,h1,h2⟩:=hlim;⟨mc,O h1,h2⟩⟩;have e0:Env0 P w K mg (`xD) `t8 [] `dM H:=⟨rfl,hM,λb o e=>Uz0 e,x4 (Yb0 _ _),`fE,λb hb=>`X (show `Md from hb) `T,hok,.of_eq hg⟩;refine Q2 ((F _ Z (O hns)).run `t8 [] `dM H `AX `jG `jG _ _ hr e0 (hbind `dM `b_) (`ak rfl `U) (hsp H hO hS)) λr s' h=>?_
  cases r with
  | error e=>exact(hCX H e s' h).elim
  | ok fl =>
   cases fl with
   | next=>exact `k2 h
   | brk=>exact `k2 h
   | cont=>exact `k2 h
   | ret u =>
    obtain⟨v,H',os,bare,un,a1,r',q⟩:=h;have q':v=`jF:=q;subst q';obtain rfl:u=`GI:=r';refine⟨rfl,OldK.of_keep `aoB,os,bare⟩;cases q:H b with
    | none=>exact un.keep b o e q (by intro z;exact `amP) `T
    | some u =>
     rcases hO b with z|⟨ob,xs,z⟩
     ·rw[q] at z;cases z
     ·have z2:=un.frzs b ob _ z
      obtain⟨e1,_⟩:=hok b _ z;obtain⟨e2,_⟩:=a1 b _ z2;rw[e] at e1;cases e1;exact e2
 cases hk:`eW a with
 | some o =>
  have e:=KX a o hk;rw[ha] at e;cases e;refine Y (`Ge) (λ_=>`cd) (`q ⟨_,`fB,_,hk,rfl,rfl,rfl,by rw[`a?,a2];exact hl,`alf⟩) (λb u z=>by have z':(`b:`Rz)=`bg:=z;cases z') (λb z=>`aoC) λz=>`aoC
 | none =>
  refine Y (λb=>if b=a then `a (.frz `Mu (`n `AV)) else `b) (λb=>?_) (`o (`q ⟨`Mu,`cp⟩)) (λb u z=>?_) (`Nf) λ_=>hk
  ·by_cases hb:b=a
   ·exact `q ⟨_,_,`I hb⟩
   ·exact `o (`ay hb)
  ·by_cases hb:b=a
   ·have z':=(`I hb).symm.trans z
    cases z';subst hb;exact⟨ha,`aoD,vs,_,rv,ha⟩
   ·have z':=(`ay hb).symm.trans z
    cases z'
  ·by_cases hb:b=a
   ·exact hb
   ·exact `X (`ay hb) z
noncomputable def R5(s:`a8):Arguments:=match s with
 | `TJ _ a _ _ _ _ _ _ _ _=>a
 | _=>{ posonlyargs:=[],args:=[],vararg:=`b,kwonlyargs:=[],kw_defaults:=[],kwarg:=`b,defaults:=[] }
noncomputable def W3(s:`a8):`dW:=match s with
 | `TJ _ _ b _ _ _ _ _ _ _=>b
 | _=>[]
noncomputable def t7(s:`a8):`dn:=match s with
 | `TJ _ _ _ _ _ _ sc _ _ _=>sc
 | _=>{ kind:=`m8,names:=[],isGenerator:=`m,isCoroutine:=`m }
abbrev CX0:CXT:=λ_ _ _ _ _ _=>`cK
abbrev E0:XK:=`mm
theorem jd0:iz0 CX0 X E0:=λ_ _ _ _ _ _ _ h=>`hK
structure Fun(K:`G)(x qual:Str)(st:`a8)(f:`e)(fd:`S):Prop where
 ex:∃(oc:`t) (od:`a6) (kV doc pm:`t) (an:`a6) (cdv ct:`t) (osl:`ff),
  fd=`GJ/\`aoE
 kp:`xE
section
variable{P:`aa}{w:`L}
theorem Fun.ok{st:`a8}{f:`e}{fd:`S}{ps:`j}{k:Nat}(F:`aoF)(S:`mt)(len:`F8)
  (hbody:∀(cdv:`t) (A:`a5) (outer:`ei) (s:`r) (H:Hp) (vs:`C) (Q:VK) (E:XK),`aoG->`tS ->
   `aoH):`aoI:=by
 obtain⟨oc,od,kV,doc,pm,an,cdv,ct,osl,rfl,lk,O⟩:=F.ex;refine `aoJ
 obtain⟨t,h,q⟩:=`aoK;exact`aoL
theorem Fun.binds{st:`a8}{f:`e}{fd:`S}{ps:`j}(F:`aoF)
  (h:∀(kV doc pm:`t) (an:`a6) (cdv ct:`t) (us:`H),`e'=`M->`re (`GJ) `xo=`a2 `xn):`M4:=by
 obtain⟨oc,od,kV,doc,pm,an,cdv,ct,osl,rfl,lk,J⟩:=F.ex;exact .all (h kV doc pm an cdv ct)
theorem Zu0{st:`a8}{f:`e}{kV:`t}(l:`t!=`a ⟨oc,od,`jI (`GJ),osl⟩)
  (c:`AZ) (k:`xE):Fun K x `cX st f (`GJ):=`aoM
universe zz
theorem J3{k:Nat}(hr:`xm):`oF:=N2 (B20 (`ai:1<=64) _) `wT
noncomputable def Same(H H':Hp):Prop:=∀b o,`aoN
theorem Same.refl(H:Hp):`e1 H H:=λ_ _ h=>h
theorem Same.trans{H1:Hp}(a:`e1 H H1)(b:`TK):`e1 H H2:=λc o h=>b c o (a c o h)
theorem Same.free(e:`ci)(h:H' l=`aoO):H l=`aoO:=by
 cases q:H l with
 | none=>rfl
 | some o =>
  rw[e l o q] at h;cases h
noncomputable def Its(x:Str):It:=⟨λi _=>i<`xF,λi H v H'=>H'=H/\∃c,`TL=`eU/\v=`nh,λi _=>`xF<=i⟩
theorem gb0{P:`aa}{w:`L}{K:`G}{tg:`D}(it:`e)(T:`bj)(hT:T = `aoP∨T = `aoQ)(x:Str)(t:Tok) :
  `h6 P w K tg (Its x) `lw it (λi h=>h.IsStrIter it T x t i) where
 mem:=`aB
 obj:=λi h st b hb=>by
  have e:b=it:=`i_
  subst e;obtain⟨o,e,c,d⟩:=st;exact`SM
 keep:=λi h h' st k=>by
  obtain⟨o,e,r⟩:=st;exact⟨o,`abp,r⟩
 item:=by
  intro X hP hw hK hc i pins s σ H E I hf st hg;subst hP hw hK;have O:i<`xF:=hg;have hx:`TL=`a x.cps[i]:=by simp[O]
  obtain⟨f0,f1,f2,f3,f4,f5⟩:=`mn;have J:∀h',h'.IsStrIter it T x t `cy->`aoR ->
    ∃u,(`a (`z2 `aoS `a1))=`bg/\`i `ac X.A `SD (λ_ s2=>∃x_1 H',`SE/\`dD x_1 u/\(Its x).yld i H x_1 H'/\s2.heap.IsStrIter it T x t `cy/\∀b∈`lw,`k0) E `A_:=by
   intro h' F sb;have I1:`aoT:=`At `LY f0 f1 f3 f4 f5;obtain⟨o,e,c,d⟩:=id F;refine⟨_,rfl,jg0 (s:=`A_) (n:=T) e c d (by rcases hT with rfl|rfl<;>decide) ⟨`J `aoS,H,I1,`au,⟨rfl,_,hx,rfl⟩,F,`FW⟩⟩
  rcases hT with rfl|rfl
  ·exact wpAny_pyNext_ascii_item st hx `aoU
  ·exact wpAny_pyNext_wide_item st hx `aoU
 done:=by
  intro X hP hw hK hc i pins s σ H E I hf st hg;subst hP hw hK;have Y:`xF<=i:=hg;have hx:`TL=`b:=by simp[Y]
  obtain⟨f0,f1,f2,f3,f4,f5⟩:=`mn;rcases hT with rfl|rfl
  ·exact wpAny_pyNext_ascii_end `dZ st hx `xh
  ·exact wpAny_pyNext_wide_end `dZ st hx `xh
 self:=λ_ _ _ _ _ st h=>by
  rcases hT with rfl|rfl
  ·exact wpAny_pyIter_striter_ascii st h
  ·exact wpAny_pyIter_striter_wide st h
noncomputable def Nw0(te:TE):TI:=fun σ H R=>te σ H λv H1=>∃x,v=`es/\R (Its x) H1
theorem Ql0{tg:`D}(he:`kn):PI X tg e (Nw0 te):=by
 intro pins s σ H R I h;refine thn `ow λv s1 ⟨y,H1,I1,r1,q1⟩=>?_
 obtain⟨x,rfl,q⟩:=q1;obtain⟨t,rfl⟩:=r1;have fp:∀(o:Obj),∀b∈`xi,v40 X `h H1 b:=λo b hb=>by
  have e:b=`ev:=`i_
  subst e;exact `mp
 cases ha:x.cps.all (·<128) with
 | true =>
  exact wpAny_pyIter_ascii ha ⟨`ev,`xi,_,_,H1,rfl,`FX,gb0 _ `aoP `h_ x t,`oy,`aoV,q⟩
 | false =>
  exact wpAny_pyIter_wide ha ⟨`ev,`xi,_,_,H1,rfl,`FX,gb0 _ `aoQ (`dr) x t,`oy,`aoV,q⟩
noncomputable def W7(X:Cx)(scope:`dn)(cl:`oG)(N':`j)(s:`r)(H:Hp)(ex:`aJ):Cx :=
 { X with N:=N',s₀:=s,H₀:=H,env:=compEnvC `cY cl `A `v,outer:=`gU,ex:=ex,fn:=λ_=>`m,pn:=[],xe:=`jJ }
structure CompOk(sc scope:`dn)(N N':`j)(n:Nat)(caps:`l):Prop where
 kind:scope.kind=`m8
 nocell:∀y∈`fw,`aoW
 loc:∀y∈`fw,`aoX
 free:∀y∈`fw,`aoY
 nd:N'.Nodup
 len:`aoZ
 cap:∀k∈`b5 `pH,`ao_
noncomputable def J4(n:Nat)(caps:`l)(σ:St):St:=`jP n `b++`ao0
theorem bb0(n:Nat)(caps:`l)(σ:St):`ao1=n+`pH:=by simp[J4]
theorem ui0{env:Env}:∀(names:`ao2),(∀x∈names,`ao3)->∀acc:`oG,
  ∃cl:`oG,(`qg names acc (λ(x:`aca) (cs:`oG)=>if (x.2==`h1)=`d then do let a ← cellOf env x.1;`a2 (`ub ((x.1,a)::cs)) else `a2 (`ub cs)):Sem (`oG))=`a2 cl /\
   (∀y c,`TM->`A1 y=`eU∨`ao4)/\(∀x∈names,`TN)/\(∀y c,`ao4->∃c',`t? y=`a c')
 | [],_,acc=>⟨acc,rfl,λ_ _ h=>`rT,(λ_ h=>nomatch h),λ_ c h=>⟨c,h⟩⟩
 | `TO,h,acc=>by
  cases hk:(`MB) with
  | true =>
   have hk':k=`h1:=by simpa using hk
   obtain⟨c,hc⟩:=h `A2 A7 hk';obtain⟨cl,e,h1,h2,h3⟩:=ui0 r (`TP) ((n,c)::acc);refine⟨cl,?_,`ao5,`ao6,`ao5⟩
   ·rw[`i9]
    simp only[hk,`c7,cellOf,hc,`GK];exact e
   ·rcases h1 y d hy with z|z
    ·exact `lh
    ·rw[`oH] at z
     cases q:(y==n) with
     | true =>
      rw[q] at z;cases z;have:y=n:=`F1
      subst this;exact `o hc
     | false =>
      rw[q] at z;exact `q z
   ·rcases `xG with rfl|hx
    ·exact h3 n c (by simp[`oH])
    ·exact `ao7
   ·by_cases q:y=n
    ·subst q
     exact h3 y c (by simp[`oH])
    ·refine h3 y d ?_
     have:(y==n)=`m:=`F1
     rw[`oH,`B];exact hy
  | false =>
   obtain⟨cl,e,h1,h2,h3⟩:=ui0 r (`TP) acc;refine⟨cl,?_,h1,`ao6,h3⟩
   ·rw[`i9]
    simp only[hk,`hG,`dp,`GK];exact e
   ·rcases `xG with rfl|hx
    ·have:k=`h1:=hf
     rw[`B] at hk;exact `X hk `f
    ·exact `ao7
theorem uu0{env:Env}(h:∀x∈`fw,`ao3) :
  ∃cl:`oG,`ao8 `cY env=`a2 cl/\(∀y c,`TM->`A1 y=`eU)/\∀x∈`fw,`TN:=by
 obtain⟨cl,e,h1,h2,_⟩:=ui0 `fw h [];refine⟨cl,?_,λy c hy=>(h1 y c hy).elim id `gp,h2⟩;simp only[`ao8];rw[← bind_pure (`qg _ _ _)] at e
 first
  | exact e
  | (refine Eq.trans ?_ e;rfl)
theorem wn0{env:Env}:∀(names:`ao2) (x:Str),
  (names.map `TQ).lookup x =
   (names.lookup x).map λk=>`TR
 | [],_=>rfl
 | `TO,x=>by
  have ih:=@wn0 env r x;have l1:`ao9 x ((`TO).map `TQ) =
    `ao9 x ((if `ao' then (n,`ua) else `A2)::r.map `TQ):=rfl
  rw[l1,`oH (as:=r)]
  by_cases hc:`ao'
  ·rw[`rU,`oH]
   cases hx:x==n with
   | true =>
    have e:x=n:=`ao!
    subst e;show `a `ua=`a (`TR);rw[`rU]
   | false=>exact ih
  ·rw[`rV,`oH]
   cases hx:x==n with
   | true =>
    have e:x=n:=`ao!
    subst e;show `fU=`a (`TR);rw[`rV]
   | false=>exact ih
section
variable{w:`L}{s:`r}
theorem h00{elt target iter:`D}{ifs:`bT}{scope:`dn}{pos:Pos}{it acc:`t}{env:Env}(I:`TS)
  (turn:∀n s,I n s->`i `am A (`p! it) (λr s₁=>match r with
   | `b=>R `ao? `dM
   | `bo=>`i `am A (`abo `A5 it v) (λ_ s₁'=>`i `am A (`gj `A5 env v) (λ_ s₂ =>
     `i `am A (`qg ifs `d λc r=>if r=`d then do let ok ← `Aj c env (`bp c env);`apa else `apb) (λok s₃ =>
      if ok=`d then `i `am A (`bp elt env) (λx s₄ =>
       `i `am A (`b' (`cb `aop) [acc,x]) (λ_ s₅=>∃m,m<n/\I m s₅) `mu s₄) `mu s₃
      else ∃m,m<n/\I m s₃) `mu s₂) `mu s₁') `mu `dM) `mu s)
  (n:Nat) (h:I n s) :
  `gm `am A (.compLoop `apc 0 it acc env) R s:=by
 refine codeAny_loop rfl I (λn s hI=>?_) n h;show `i _ A ((compTurn `apc 0 it acc env).onRaise (λx=>do `GL x env;theTreesLotGoes x)) _ _ s;refine wpAny_noted ?_;rw[compTurn_list];refine A0 (k6 (A0 (C9 (turn n s hI) (λr s₁ h₁=>?_) `rW)));cases r with
 | none=>exact A1 h₁
 | some v =>
  refine A0 (C9 h₁ (λ_ s₁' F=>?_) `rW);refine A0 (C9 F (λ_ s₂ h₂=>A0 (C9 h₂ (λok s₃ h₃=>?_) `rW)) `rW);cases ok with
  | false=>exact A1 ⟨rfl,h₃⟩
  | true =>
   exact A0 (A0 (C9 h₃ (λx s₄ h₄=>A0 (C9 h₄ (λ_ s₅ h₅=>A1 (A1 ⟨rfl,h₅⟩)) `rW)) `rW))
universe zz
noncomputable def PF(X:Cx)(ifs:`bT)(t:TT):Prop :=
 ∀(pins:`av) (s:`r) (σ:St) (H:Hp) (Q:`w?),`y->`le ->
  `i `ac X.A (`qg ifs `d λc r=>if r=`d then do let ok ← `Aj c `v (`bp c `v);`apa else `apb) `Sc `az s
theorem Rn0:PF X [] λ_ H Q=>Q `d H:=λ_ _ _ H _ I h=>wpAny_tests_nil ⟨H,I,h⟩
theorem Sf0{c:`D}{t:TT}(h:PT X c t):PF X [c] t:=λpins s σ H Q I q=>wpAny_tests_one (h `h s σ H Q I q)
noncomputable def Wk(σ σ':St):Prop:=`R6/\∀(j:Nat) (v:V),`apd->σ'[j]?=`pj
noncomputable def dr0(n:Nat)(caps:`l)(wi:TI)(g:TG)(tt:TT)(te:TE):TE:=fun σ H Q=>wi σ H λJ H1=>∀D,H1 D=`b ->
 ∃W:`ape,(∃m,W 0 m [] (upd H1 D `qJ))/\∀i m ys H2,`apf ->
  `apg∨(J.go i H2/\∀x H3,`aph->g x `fC H3 fun σ4 H4=>`api/\tt σ4 H4 λb H5 =>
   `apj)
section
variable{tg:`D}{wi:TI}{g:TG}{tt:TT}
noncomputable def Pi0(X:Cx)(pins:`av)(H:Hp)(C:`e):Prop :=
 H C=`b/\C≠`eV/\`kS<=C/\(∀x c,`h2->c≠C)/\∀p∈`pk,p.1≠C
theorem ka0{pins:`av}{σ:St}{H2:Hp}{s2:`r}{it:`e}{fp:`aJ}{tn:`FR}{J:It}{cl:`oG}{Q:VK}{RR:`t->`e->`w_}{E:`Z}
  (hc:`bQ) (hsc:`kp) (ok:`rX)
  (hcl1:∀y c,`TM->`ajQ) (hcl2:∀x∈`fw,`TN)
  (hg:∀s H ex,`acj) (ht:∀s H ex,`ack) (he:∀s H ex,`acl)
  (I2:`alT) (T:`alu) (st2:`alv) (f2:∀b∈fp,v40 X `h H2 b)
  (q:∀D,H2 D=`b->∃W:`ape,(∃m,W 0 m [] (upd H2 D `qJ))/\∀i m ys H2,`apf ->
   `apg∨(J.go i H2/\∀x H3,`aph->g x `fC H3 fun σ4 H4=>`api/\tt σ4 H4 λb H5 =>
    `apj))
  (hend:∀(D C:`e) (H':Hp) (s':`r) (m:`a7),`kl->Pi0 X `h H' C->s'.heap.Ns C m->Q `nf H'->RR `nf C `ao? s') :
  `i `ac X.A (`TT) (λacc s₃=>`i `ac X.A (newFunctionEnv `cY `LL cl [] X.env.qual `b `aj (`a `v)) (λcenv s₄ =>
   `gm `ac X.A (.compStart `k8 0 `h5 acc { cenv with scope:=`acg }) (RR acc cenv.locals) s₄) E s₃) E s2:=by
 refine K0 (wpAny_newFunctionEnv ok.nocell (by intro y hy;simp at hy) (λh₁ Z a3=>?_) `tE);dsimp only at Z a3 ⊢;obtain⟨D,hD⟩:∃D,D=`rY:=`au;have I3:Inv X `h σ (upd H2 `rY `qJ) `apk:=I2.lnew (its:=[]) (t':=`A9) `U `xH;have e7:H2 `rY=`b:=I2.fresh;obtain⟨W,⟨m0,w0⟩,b6⟩:=q `rY e7;generalize hs3:(`apk:`r)=s3 at *;have b3:`ace=s3.heap:=`GM
 have h7:`A9=s3.toks:=`GM
 rw[b3] at Z a3 ⊢;generalize hH3:upd H2 `rY (HO.lst [])=H3 at *;rw[← hD] at b6 hH3 e7 ⊢;have Y:∀b o,`apl->`TU:=λb o e=>a3.extBut b o `Sn `Ch
 have b5:∀b o,s2.heap.get? b=`ae->`apl:=λb o e=>by rw[← b3];exact `m2
 have d2:∀b∈fp,b<`py:=λb hb=>by
  obtain⟨o,e,_⟩:=`apm;exact A3 `apn
 have g3:∀b∈fp,b≠D:=λb hb z=>by
  obtain⟨o,e,_⟩:=`apm;rw[z,hD] at e;exact `X `kU `kj
 obtain⟨X',F⟩:∃X',X'=`apo:=`au;have okX:X'.Ok:=by
  subst F;refine⟨I3.ok.mod,`tE,I3.ok.glob,I3.ok.blt,`g0,λx y c h1 h2=>I3.ok.inj x y c (hcl1 x c h1) (hcl1 y c h2),`rZ,λx c h _=>`X h (by simp[W7]),I3.ok.hd,I3.ok.frames,`cd,
   λb hb=>⟨`app,`apq⟩,λb o e=>I3.bs b o e,B9 I3.ok.bsz I3.sz,λb o e hb=>?_,λb hb hf=>?_,I3.stack,I3.stkFree⟩
  ·have a6:(`ue=`h0)∨(`ue=`jt):=hx
   have q2:=wn0 (env:=`v) `fw x;have q3:`apr:=q2
   cases e:`pw x with
   | none =>
    rw[q3,e] at a6;rcases a6 with z|z<;>cases z
   | some k =>
    have hk:k=`h1:=by
     rw[q3,e] at a6;have nc:=ok.nocell (x,k) (L5 e);cases k<;>first
      | rfl
      | exact `X rfl nc
      | (rcases a6 with z|z<;>simp at z)
    subst hk;exact hcl2 `TV (L5 e) rfl
  ·rcases `aps with z|z
   ·exact I3.ok.noex b o e z
   ·exact `X (B4 (A3 (I3.ok.bs b o e).1) z) `kj
  ·rcases `apt with z|z
   ·exact`TW z
   ·exact(`jK).2.2.1 z
 have I4:Inv X' [] `fC H3 `apu:=by
  refine⟨okX,?_,?_,?_,?_,`ru,?_,`ru,`f2,(by subst F;exact I3.hok.kept Y),?_⟩
  ·subst F;rfl
  ·exact I3.bare
  ·subst F;exact `Fq Y
  ·subst F
   refine⟨_,Z,`R0⟩;have hi:n<=i:=by
    by_cases hi:i<n
    ·unfold J4 at e2
     rw[`xt,`rK,`I hi] at e2;cases e2
    ·omega
   obtain⟨k,rfl⟩:∃k,i=n+k:=⟨i - n,`p⟩;have hk:k<`pH:=by
    have:=(`gg e1).1;have e5:(`apo).N.length=n+`pH:=ok.len;omega
   obtain⟨c1,c2⟩:=ok.cap k (`j6 hk);have c5:`My=`cc:=e1;unfold J4 at e2;rw[`apv,`amT,Nat.add_sub_cancel_left,`dQ] at e2;obtain⟨j,hj⟩:∃j,`dN[k]?=`oC:=⟨`dN[k],by simp[hk]⟩;rw[hj] at e2 c1;have g6:X.N[j]?=`cc:=by rw[← c5,c1];rfl
   have a7:`Mz=`bo:=B5 e2;have e8:`apd:=by
    cases q:`pI with
    | none=>rw[q] at a7;cases a7
    | some o=>rw[q] at a7;rw[show o=`bo from a7]
   rw[c5] at c2;have O:`pw x=`jt:=by simpa using c2
   have b4:=ok.free `TV (L5 O) rfl;obtain⟨m,hn,hl⟩:=I3.loc;obtain⟨u,ru,l⟩:=hl j x v g6 e8 (by
    rcases b4 with z|z
    ·exact `q (`o `apw)
    ·exact `q (`q `apw))
   refine⟨u,ru,`q ⟨?_,?_⟩⟩
   ·have q3:`apr:=wn0 `fw x
    rw[O] at q3;show `ue=_∨`ue=_;rw[q3]
    by_cases hcc:(`MA==`MA&&`ach&&`aci)=`d
    ·left;simp only[`ds,`I hcc]
    ·right;simp only[`ds,`ay hcc]
   ·obtain⟨c',c4⟩:=hcl2 `TV (L5 O) rfl
    rcases l with⟨g9,_⟩|⟨_,c,g4,c0⟩
    ·have a8:`Ad:=g9
     rw[hsc] at a8;rcases b4 with z|z<;>(rw[a8] at z;cases z)
    ·have:=hcl1 x c' c4
     rw[g4] at this;cases `B;obtain⟨o,ho,hd⟩:=c0;exact⟨_,c4,o,Y _ o ho,hd⟩
  ·have e':`t? x=`eU:=`apx
   obtain⟨v,o,ho,hd⟩:=I3.cell x c (hcl1 x c e');exact⟨v,o,Y _ o ho,hd⟩
  ·subst F;exact I3.hok.fresh `aK
  ·have e':`t? x=`eU:=`apx
   exact I3.freeC x c (hcl1 x c e')
  ·subst F;exact `apy
  ·subst F
   show _=`ab';rw[bb0,ok.len]
 have b1:X'.calm=`d:=by subst F;exact hc
 have a2:∀{H':Hp},`rD->∀b∈fp,v40 X' [] H' b:=λ{H'} hn b hb=>by
  subst F;refine⟨hn b hb,`app,λhf=>?_,`o hb,`apq,λp hp=>`apy⟩;rcases `apt with z|z
  ·exact`TW z
  ·exact(`jK).2.2.1 z
 have f5:∀b∈fp,H3 b=`b:=λb hb=>by rw[← hH3,Z0 (g3 b hb)];exact(`jK).1
 have c3:tn 0 h₁:=T.keep _ _ _ st2 λb hb o e=>Y b o `apn
 have loop:∀s4:`r,s4=`apu ->
   `gm `ac X.A (.compLoop `k8 0 `h5 `nf X'.env) (RR `nf `py) s4:=by
  rintro s4 rfl;refine h00 (λk s'=>∃i ys H',Inv X' [] `fC H' s'/\`alQ/\`rD/\W i k ys H') ?_ m0 ⟨0,[],H3,I4,c3,f5,w0⟩;rintro k s5 ⟨i,ys,H5,I5,c8,d1,w5⟩;have eP:X'.prog=`a0:=`xI
  have ew:X'.w=X.w:=`xI
  have eK:X'.K=X.K:=`xI
  have eA:X'.A=X.A:=`xI
  rcases b6 i k ys H5 w5 with⟨stop,qe⟩|⟨go,step⟩
  ·have T':=T.done X' eP ew eK b1 i [] s5 `fC H5 `mu I5 (a2 d1) c8 stop
   rw[eA] at T';refine thn T' λr s6 ⟨hr,I6⟩=>?_
   subst hr;have f7:Un (`rt) fp H3 H5 s3.heap s6.heap:=by have:=I6.base;subst F;exact `B
   have h4:s6.os=s3.os:=by have:=I6.os;subst F;exact `B
   have f3:HOk `a0 X.w H5 s6.heap:=by have:=I6.hok;subst F;exact `B
   have IX:Inv X `h σ H5 s6:=I3.call' h4 f7 f3 I6.bare λb hb=>⟨`aps,`TW,`acf,(`jK).2.2.2.2.2⟩
   obtain⟨m6,g5,_⟩:=I6.loc;have f4:s6.heap.Ns `py m6:=by subst F;exact g5
   refine `nA D `py H5 s6 m6 IX ⟨by have:=I6.free;subst F;exact `B,B2 I3.lt,I3.sz,`Sz,`SA⟩ f4 qe
   ·obtain⟨v,qc⟩:=I3.cell x c e
    exact `X (B4 qc.lt `apz) `kj
   ·exact `X (B4 (A3 (I3.pin p hp).1) `apz) `kj
  ·have T':=T.item X' eP ew eK b1 i [] s5 `fC H5 `mu I5 (a2 d1) c8 go
   rw[eA] at T';refine thn T' λr s6 ⟨u,hr,h6⟩=>?_
   subst hr;refine thn h6 λ_ s7 ⟨x,H7,I7,r7,y7,b2,f9⟩=>?_
   have g7:=I7.pinned (a2 f9) (`uc _ _ b2);have d3:=hg s3 H3 fp;have e4:=ht s3 H3 fp;have e6:=he s3 H3 fp;rw[← F] at d3 e4 e6;have g1:=d3 _ s7 `fC H7 x u _ g7 r7 (step x H7 y7);rw[eP,ew,eA] at g1;have a5:X'.xe=`jJ:=`xI
   rw[a5] at g1;refine thn g1 λ_ s8 ⟨σ8,H8,I8,a4,q8⟩=>?_
   have t1:=e4 _ s8 σ8 H8 _ I8 q8;rw[eP,ew,eA,a5] at t1;refine thn t1 λb s9 ⟨H9,I9,q9⟩=>?_
   have back:∀{σa:St} {Ha:Hp} {sa:`r} {b0:`C} {ma:Nat},Inv X' ([]++rz0 fp s7.heap) σa Ha sa->σa.length=`ao1->(∀(j:Nat) v,`fC[j]?=`pj->σa[j]?=`pj)->W `cy ma b0 Ha ->
     ∃i ys H',Inv X' [] `fC H' sa/\tn i sa.heap/\`rD/\W i ma ys H':=λ{σa Ha sa b0 ma} Ia hl hw wa=>by
    refine⟨i+1,b0,Ha,(Ia.weak hl.symm hw).unpinned,T.keep _ _ _ b2 λb hb o e=>(`apA).1,`fg,wa⟩;obtain⟨o,e,d⟩:=`uc _ _ b2 b hb;exact(`apA).2.1
   cases b with
   | false =>
    rw[`ox];rw[`ox] at q9;obtain⟨m',hm,w9⟩:=q9;exact⟨m',hm,back I9 a4.1 a4.2 w9⟩
   | true =>
    rw[`cp];rw[`cp] at q9;have e1:=e6 _ s9 σ8 H9 _ I9 q9;rw[eP,ew,eA,a5] at e1;refine thn e1 λv h0 ⟨y,f6,g8,f8,f1,f0,m',hm,g2⟩=>?_
    have a1:=rt0 (X:=X') _ h0 σ8 f6 `nf [y] `nf [v] (λ_ H'=>W `cy m' (ys++[y]) H') g8 rfl (`ak f8 `U) ⟨D,ys,y,rfl,rfl,f1,f0,g2⟩;rw[eP,ew,eA,a5] at a1;refine thn a1 λ_ i3 ⟨_,h9,h5,_,h3⟩=>?_
    exact⟨m',hm,back h5 a4.1 a4.2 h3⟩
 subst F;exact codeAny_compStart_list (loop _ (`GM)) (T.self X.A 0 _ _ _ c3 (loop _ (`GM)))
theorem Tt0(hc:`bQ)(hsc:`kp)(ok:`rX)(hi:`SS)
  (hg:`apB) (ht:`apC) (he:`apD)
  (hs:`i0:=by intro _;rfl) :
  PE X `k8 (dr0 n `dN wi g tt te):=by
 intro pins s σ H Q I h;obtain⟨cl,F,Y,O⟩:=uu0 (env:=`v) (scope:=`cY) λx hx hf=>`R! x.1 (by
  rcases `apE with z|z
  ·exact `apF
  ·exact `apG)
 rw[eval_ListComp];refine C90 (use:=`b) rfl hs F `tE ok.loc (thn `BJ λv s1 h1=>thn h1 λa2 s2 h2=>?_);obtain⟨it,fp,tn,J,H2,rfl,I2,T,a1,f2,q2⟩:=h2;refine ka0 (Q:=Q) (RR:=λZ C=>compPost `ac X.A `az `b `fz Z C) hc hsc ok Y O (hg cl) (ht cl) (he cl) I2 T a1 f2 q2 ?_;intro D C H' s' m IX as hn qe;refine⟨m,hn,λh' sb=>⟨`Q D,H',IX.turned (t':=s'.toks) `LY as.1 as.2.1 (`q as.2.2.1) `TX `apH,rfl,qe⟩⟩
theorem cc0{y:Str}{py spos:Pos}(hN:`f3)(hiN:`xJ)(hy:`xK)(hc:`bQ)(hsc:`kp)(ok:`rX)(hi:`SS)
  (hg:`apB) (ht:`apC) (he:`apD)
  (hsw:`TY:=by rfl)
  (hs:`i0:=by intro _;rfl)
  (hf:`xL:=by first|exact `cd|exact `dr|assumption) :
  PS X `acM (λD σ H=>dr0 n `dN wi g tt te σ H `apI):=by
 intro pins s σ H D I h;obtain⟨cl,F,Y,O⟩:=uu0 (env:=`v) (scope:=`cY) λx hx hf=>`R! x.1 (by
  rcases `apE with z|z
  ·exact `apF
  ·exact `apG)
 rw[exec_Assign_Name_used _ _ _ _ hsw];refine A0 (k6 (`co));show `i _ X.A (do let _ ← comprehension `k8 `cY `v _ (`TT) `m (`bp `k_ `v) (`TZ)) _ _ s;refine A0 (C9 (C90 (use:=`TZ) (Q:=`apJ) rfl hs F `tE ok.loc
  (thn `BJ λv s1 h1=>thn h1 λa6 s2 h2=>?_)) (λ_ s' hq=>A1 (A1 hq)) `FF)
 obtain⟨it,fp,tn,J,H2,rfl,I2,T,a3,f2,q2⟩:=h2;refine ka0 (Q:=`apI) (RR:=λa1 C=>compPost `ac X.A `az (`TZ) (`apJ) a1 C) hc hsc ok Y O (hg cl) (ht cl) (he cl) I2 T a3 f2 q2 ?_;intro Da C H' s' m IX as hn qe;show `i _ X.A (`gj (`A!) `v (`Q Da)) _ _ _;refine `ale (kh0 IX hN hiN hy (v:=`Q Da) rfl (λa5 Z ⟨a,sb,ha⟩=>?_) hf);have a2:C≠a:=by
  rcases ha with z|z
  ·rw[z];exact as.2.1
  ·exact B1 (`TX y a z)
 refine⟨m,`aks sb a2,λh' a4=>⟨_,H',Z.turned (t':=a5.toks) (λb o hb e=>(a4.2 b hb).trans e) as.1 as.2.1 (`q as.2.2.1) `TX `apH,qe⟩⟩
universe zz
universe L2
namespace DL
open Spec PyProof.Rows
inductive D where
 | non|bl (b:`N)|int (i:Int)|str (x:Str)|tup (ds:`s)|lst (ds:`s)|dct (ks:Sum (`ab (`Fk)) (`ab (`ab (`Fk)))) (ds:`s)
 deriving Inhabited
variable{vs ds:`ng}{d0:`k9}
@[simp] noncomputable def unl:D->D
 | `w [_,d]=>d
 | d=>d
@[simp] noncomputable def isL:`eK
 | `GN=>`d
 | _=>`m
inductive Sl where
 | un|sh (d:D)|ow (d:D)
 | ex (c:Str) (n:`aT)
abbrev Ds:=`ab Sl
inductive Res where
 | nx (δ:Ds)|rt (d:D)|bk (δ:Ds)|ct (δ:Ds)|rf (d:D)
variable{g ge ga gb:`apK}{δ δ':`uf}{G:`apL}{gi gA:`apM}
abbrev GE:=`el
abbrev GB:=`fh
variable{g0:DL.GE}
abbrev GA:=`fi
variable{g1:DL.GB}
abbrev GS:=`fj
@[simp] noncomputable def asB:D->`pK
 | `da=>`fD
 | _=>`b
@[simp] noncomputable def asI:D->`aT
 | `a4=>`Gn
 | _=>`b
@[simp] noncomputable def gv(i:Nat):GE:=fun δ=>match `cA with
 | `MM=>`bb
 | _=>`b
@[simp] noncomputable def gc(d:D):GE:=λ_=>`bb
@[simp] noncomputable def o2(ga gb:GE)(f:`b?):GE:=fun δ=>(`hR).bind λx=>(`hS).bind λy=>f x y
@[simp] noncomputable def ob(g:GE):GB:=fun δ=>`cS asB
@[simp] noncomputable def v60(g:GB):GB:=fun δ=>`r_ (!·)
@[simp] noncomputable def yc0(gt gu:GB):GB:=fun δ=>`Bb λt=>if `ug then gu δ else `dk
@[simp] noncomputable def ob0(gt gu:GB):GB:=fun δ=>`Bb λt=>if `ug then `g7 else gu δ
@[simp] noncomputable def qn0(ga gb:GE):GE:=fun δ=>(ob ga δ).bind λt=>if `ug then `hS else `GO
@[simp] noncomputable def ifG(gt:GB)(ga gb:GE):GE:=fun δ=>`Bb λt=>if `ug then `hR else `hS
@[simp] noncomputable def v6:GA:=λ_=>`r0
@[simp] noncomputable def z9(g:GE)(gA:GA):GA:=fun δ=>`cS λd=>(`bI).map λds=>`aE
@[simp] noncomputable def j9(gA:GA):GE:=fun δ=>`f7 λds=>if `kq then `GP else `b
@[simp] noncomputable def W8(gA:GA):GE:=fun δ=>`f7 λds=>if `kq then `mv else `b
@[simp] noncomputable def oA(gA:GA)(f:`K):GE:=fun δ=>`f7 f
@[simp] noncomputable def K7(f:`eK)(g:GE):GE:=fun δ=>`r_ λd=>.bl (f d)
@[simp] noncomputable def zr0(d:D):`db:=match d with
 | `a4=>`a (`c (-i))
 | _=>`b
@[simp] noncomputable def unG(f:D->`db)(g:GE):GE:=fun δ=>`cS f
@[simp] noncomputable def u6(G1 G2:GS):GS:=fun δ=>match `h? with
 | `dO=>`xM
 | r=>r
@[simp] noncomputable def t6:GS:=fun δ=>`Bt
@[simp] noncomputable def Z5(g:GE):GS:=fun δ=>`r_ .rt
@[simp] noncomputable def gN(i:Nat):`aX:=λd δ=>`a `GQ
@[simp] noncomputable def b7(f:`aX)(g:GE):GS:=fun δ=>`cS λd=>(`pM).map .nx
@[simp] noncomputable def ifD(gt:GB)(Ga Gb:GS):GS:=`apN
noncomputable def N7(f:`aX)(G:GS):`s->`fj
 | [],δ=>`Bt
 | `aE,δ=>match (`pM).bind G with
  | `dO=>`apO
  | `xN=>`apO
  | `xO=>`dO
  | r=>r
@[simp] noncomputable def G3(gi:GA)(f:`aX)(G:GS):GS:=fun δ=>`apP λitems=>`T_
@[simp] noncomputable def uw0:`GR
 | `dc=>`la
 | _=>`b
@[simp] noncomputable def Wk0:`GR
 | `cz=>`la
 | _=>`b
noncomputable def signs(x:Str):`s:=x.cps.toList.map `apQ
@[simp] noncomputable def es0:`GR
 | `es=>`a (`xP x)
 | _=>`b
@[simp] noncomputable def zt0(g:GE):GA:=fun δ=>`cS uw0
@[simp] noncomputable def tupI(g:GE):GA:=fun δ=>`cS Wk0
@[simp] noncomputable def Xy0(g:GE):GA:=fun δ=>`cS es0
noncomputable def R9(lo hi:Int):`s:=(`b5 `pr).map λk=>`c (lo+(k:Nat))
@[simp] noncomputable def cs0(ds:`s):`pL:=match ds with
 | [`d6]=>if `FY then `a (R9 0 j) else `b
 | _=>`b
@[simp] noncomputable def c60(ds:`s):`pL:=match ds with
 | `CX=>if (`apR)/\`FY then `apS else `b
 | _=>`b
@[simp] noncomputable def zm0(gA:GA):GA:=fun δ=>`f7 cs0
@[simp] noncomputable def n70(gA:GA):GA:=fun δ=>`f7 c60
@[simp] noncomputable def noT:GB:=λ_=>`g7
@[simp] noncomputable def jj0:`aH Sl->Sl
 | `MM=>`jL
 | _=>.un
@[simp] noncomputable def xq0(n:Nat)(caps:`l)(δ:Ds):Ds:=`jP n .un++`apT
noncomputable def R6(f:`aX)(gt:GB)(ge:GE)(δ:Ds):`cP
 | []=>`r0
 | `aE=>match `pM with
  | `b=>`b
  | `nj=>match `pN with
   | `b=>`b
   | `dk=>`apU
   | `g7=>match `uj with
    | `b=>`b
    | `d8=>(`apU).map λr=>y::r
@[simp] noncomputable def Z9(n:Nat)(caps:`l)(gi:GA)(f:`aX)(gt:GB)(ge:GE):GE :=
 fun δ=>`apP λitems=>if `GS then `apV `n else `b
@[simp] noncomputable def Z8(N:`j)(ds:`s):Ds:=`apW++`jP (`xs - `bJ) .un
@[simp] noncomputable def isStr:`eK
 | `cj=>`d|_=>`m
@[simp] noncomputable def isTup:`eK
 | `GN=>`d|_=>`m
@[simp] noncomputable def ii(f:Int->Int->`db):`b?
 | `a4,`d6=>f i j
 | _,_=>`b
@[simp] noncomputable def u40:`b?:=ii λi j=>`a (`abC)
@[simp] noncomputable def G6:`b?:=ii λi j=>if `SX then `a (`abD) else `b
@[simp] noncomputable def b8:`b?:=ii λi j=>if 0<j then `apX else `b
@[simp] noncomputable def o90:`b?:=ii λi j=>if `SY then `a (`abF) else `b
@[simp] noncomputable def ltD:`b?:=ii λi j=>`a (.bl (`O (i<j)))
@[simp] noncomputable def gtD:`b?:=ii λi j=>`a (.bl (`O (j<i)))
@[simp] noncomputable def eqS:D->D->`pK
 | `z,`z=>`g7
 | `z,`dJ=>`dk|`dJ,`z=>`dk|`z,`cx=>`dk|`cx,`z=>`dk|`z,`cj=>`dk|`cj,`z=>`dk
 | `a4,`d6=>`T0
 | .bl i,.bl j=>`T0
 | `J i,`J j=>`T0
 | `dJ,`cj=>`dk|`cj,`dJ=>`dk|`cx,`cj=>`dk|`cj,`cx=>`dk
 | _,_=>`b
@[simp] noncomputable def eqD(x y:D):`db:=`apY .bl
@[simp] noncomputable def neD(x y:D):`db:=`apY λb=>.bl (!b)
@[simp] noncomputable def Ox0:`eK
 | `z=>`d|_=>`m
@[simp] noncomputable def mu0(x y:D):`db:=match y with
 | `z=>`a (.bl (Ox0 x))
 | _=>`b
noncomputable def ixN(n:Nat)(i:Int):`CR:=`anz
noncomputable def atI{α:Type}(xs:`bP)(i:Int):`aH α:=`anA
@[simp] noncomputable def ixD:`b?
 | `gi,`a4=>`t0
 | `gT,`a4=>`t0
 | `k6,`a4=>if `pC then (`anE).map `apQ else `b
 | _,_=>`b
noncomputable def sIx(n d:Nat):`am2
 | `b=>d
 | `bo=>`Gi
noncomputable def cutD(xs:`s)(lo hi:`aT):`s:=(`nM (`T1)).take (`apZ - `T1)
abbrev GO:=`GT
@[simp] noncomputable def W6:GO:=λ_=>`c8
@[simp] noncomputable def someO(g:GE):GO:=fun δ=>`cS λd=>(asI d).map `a
@[simp] noncomputable def V2:`K
 | `AM=>if `pC then `a (`Mr) else `b
 | [`gi]=>`ap_
 | [`gT]=>`ap_
 | _=>`b
noncomputable def su0:`s->`aH (`j)
 | []=>`r0
 | `rQ::ds=>(su0 ds).map λr=>b::r
 | _=>`b
@[simp] noncomputable def m30(d:D)(ds:`s):`db:=match d,ds with
 | `J sep,[`gi]=>(su0 xs).bind λys=>if `ap0 then `a `ap1 else `b
 | _,_=>`b
@[simp] noncomputable def ur0(g:GE)(gA:GA):GE:=fun δ=>`cS λd=>`f7 λds=>m30 d ds
@[simp] noncomputable def V4:`K
 | `mw=>`GP
 | [`cz]=>`GP
 | _=>`b
theorem uk0{f:`aX}{gt:GB}{ge:GE}(p:`eK)(h:D->D):∀{items:`s},(∀d∈`al,∃δ',`T2/\`pN=`a (p d)/\(p d=`d->`ap2)) ->
  `ap3=`a ((items.filter p).map h)
 | [],_=>rfl
 | `aE,H=>by
  obtain⟨δ',e1,e2,e3⟩:=H d A7;have ih:=uk0 p h λd hd=>H d (A9 _ hd)
  unfold R6;rw[e1];dsimp only;rw[e2];cases hp:p d with
  | false =>
   dsimp only;rw[`ap4 (by simp[hp])];exact ih
  | true =>
   dsimp only;rw[e3 hp,ih,`ap5 hp];rfl
theorem R8{f:`aX}{gt:GB}{ge:GE}(h:D->D){items:`s}(H:∀d∈`al,∃δ',`T2/\`T3/\`ap2):`ap3=`a (items.map h):=by
 have:=uk0 (f:=f) (gt:=gt) (ge:=ge) (δ:=δ) (`Gd) h (items:=`al) λd hd=>by
  obtain⟨δ',a,b,c⟩:=H d hd;exact`ap6
 rw[`ap7] at this;exact `B
theorem strs_map(h:α->Str):∀l:`bP,`ap8=`ap9
 | []=>rfl
 | a::l=>by
  show (`ap8).map (λr=>h a::r)=_;rw[`agp h l];rfl
theorem M9{f:`aX}{G:GS}(P:Nat->Ds->Prop):∀(items:`s) (i:Nat) (δ:Ds),(∀j d δ,`al[j]?=`bb->P (i+j) δ->∃δ1 δ2,`pM=`a δ1/\G δ1=`a (.nx δ2)/\P (i+j+1) δ2)->P i δ ->
  ∃δ',`T_=`dO/\P (i+`g6) δ'
 | [],i,δ,_,h=>⟨δ,rfl,h⟩
 | `aE,i,δ,H,h=>by
  obtain⟨δ1,δ2,e1,e2,h2⟩:=H 0 d δ rfl h;obtain⟨δ',e3,h3⟩:=M9 P ds `cy δ2 (λj d δ hj hp=>by
   have q:i+`eD=i+1+j:=`p
   obtain⟨a,b,c,d',e⟩:=H `eD d δ `xQ (by rw[q];exact hp);exact⟨a,b,c,d',by rw[q] at e;exact e⟩) h2
  have q:i+`T4=i+1+`bJ:=`ap'
  refine⟨δ',?_,by rw[q];exact h3⟩;unfold N7;rw[e1];simp only[`E,e2];exact e3
theorem Q00{G1 G2:GS}(h:`ap!):`GU=`xM:=`T5
theorem m7{G1 G2:GS}{d:D}(h:`h?=`uw):`GU=`uw:=`T5
theorem Z7{g:GE}{d:D}(h:`oI):Z5 g δ=`uw:=by unfold Z5;rw[h];rfl
theorem j8{g:GE}{d:D}(h:`oI):b7 `MU g δ=`a (.nx `GQ):=by unfold b7;rw[h];rfl
theorem W9{g:GB}{Ga Gb:GS}(h:`as=`g7):`ap?=Ga δ:=`aqa
theorem j6{g:GB}{Ga Gb:GS}(h:`as=`dk):`ap?=`uh:=`aqa
theorem Y9{gi:GA}{f:`aX}{gt:GB}{ge:GE}{items out:`s}(h1:`ui=`a `al)(h2:`GS)(h3:`MF=`a out):`aqb=`a (`n out):=by
 unfold Z9;rw[h1];show (if `GS then `apV `hf else `b)=_;rw[`T6,h3];rfl
theorem J0{gi:GA}{f:`aX}{G:GS}{items:`s}{r:`ME}(h1:`ui=`a `al)(h2:`T_=r):G3 gi f G δ=r:=by
 unfold G3;rw[h1];exact h2
theorem cons_of{g:GE}{gA:GA}{d:D}(h1:`oI)(h2:`r1):z9 g gA δ=`a `GV:=by unfold z9;rw[h1,h2];rfl
theorem o4{gA:GA}{f:`K}(h:`r1):oA gA f δ=`ld:=by unfold oA;rw[h];rfl
theorem p6{ga gb:GE}{x y:D}{f:`b?}(h1:`hR=`cc)(h2:`hS=`d8):`aqc=f x y:=by unfold o2;rw[h1,h2];rfl
theorem de0{g:GE}{gA:GA}{x:D}(h1:`as=`cc)(h2:`r1):ur0 g gA δ=m30 x ds:=by unfold ur0;rw[h1,h2];rfl
theorem ys0{xs:`bP}{i:Int}(h0:`na)(h1:`Gr)(d:α):`t0=`a (xs.getD `g4 d):=by
 unfold atI ixN;rw[`I h0,`Gq];show xs[i.toNat]?=_;have:`g4<`aP:=`p
 simp[`ec,`B]
universe DL
variable{g ge ga gb:`apK}{vs ds:`ng}{δ δ':`uf}{G:`apL}{gi gA:`apM}{d0:`k9}{g0:DL.GE}{g1:DL.GB}
namespace DL
open Spec PyProof.Rows L2
abbrev BS:=`oJ
abbrev St:=L2.St
variable{B B' B₀:DL.BS}
abbrev noH:Hp:=`Ge
noncomputable def SqT'(K:`G)(H:Hp)(B:BS)(a:`e)(xs:`C):Prop:=`jM/\H a=`tr
noncomputable def SqL'(K:`G)(H:Hp)(B:BS)(a:`e)(xs:`C):Prop:=(`jM/\`akY)∨SqL K noH a xs
section
variable{xs:`C}
theorem Oy0{u:HO}(h:Rd noH a u):`cK:=by
 rcases h with h|⟨o,h⟩<;>cases h
theorem SqT'.to(h:`MI):`g_:=`o (`o h.2)
theorem SqL'.to(h:`MJ):`m0:=by
 rcases h with h|h|h
 ·exact `o h.2
 ·exact(Oy0 h).elim
 ·exact `rT
noncomputable def Gr(H H':Hp)(B B':BS):Prop:=∀b o,¬B b->H b=`ae->¬B' b/\`kO=`ae
theorem SqT'.mono(g:`kr)(h:`MI):SqT' K H' B' a xs:=g _ _ h.1 h.2
theorem SqL'.mono(g:`kr)(h:`MJ):SqL' K H' B' a xs:=by
 rcases h with⟨n,h|⟨o,h⟩⟩|h
 ·exact `o ⟨(`GW).1,`o (`GW).2⟩
 ·exact `o ⟨(`GW).1,`q ⟨o,(`GW).2⟩⟩
 ·exact `rT
theorem Gr.same(s:`ci):`aqd:=λb o n h=>⟨n,s b o h⟩
theorem Gr.less(h:`xR):Gr H H B B':=λb o n e=>⟨λz=>n (h b z),e⟩
universe zz
abbrev KS:=Sum (`ep) (`ab (`ep))
noncomputable def dOb:KS->`C->HO
 | `um,xs=>`T7
 | `r2,xs=>`T8
noncomputable def dLn:KS->Nat
 | `um=>`gn
 | `r2=>`gn
mutual
noncomputable def Rp(K:`G)(H:Hp)(B:BS):D->V->Prop
 | `z,v=>v=`z
 | `da,v=>v=`da
 | `a4,v=>v=`a4
 | `es,v=>v=`es
 | `cz,v=>`aqe
 | `dc,v=>`aqf
 | `r3,v=>`aqg
noncomputable def Rps(K:`G)(H:Hp)(B:BS):`s->`C->Prop
 | [],xs=>xs=[]
 | `aE,xs=>`aqh
end
mutual
theorem Rp.mono(g:`kr):∀{d:D} {v:V},`dt->`aqi
 | `z,_,h=>`GX
 | `cx,_,h=>`GX
 | `dJ,_,h=>`GX
 | `cj,_,h=>`GX
 | `cz,_,h=>by
  unfold Rp at h ⊢;obtain⟨a,xs,e,q,r⟩:=h;exact`aqj
 | `dc,_,h=>by
  unfold Rp at h ⊢;obtain⟨a,xs,e,q,r⟩:=h;exact`aqj
 | `r3,_,h=>by
  unfold Rp at h ⊢;obtain⟨a,xs,e,n,q,l,r⟩:=h;exact⟨a,xs,e,(g _ _ n q).1,(g _ _ n q).2,l,`Bd g r⟩
theorem Rps.mono(g:`kr):∀{ds:`s} {xs:`C},`aqk
 | [],_,h=>by unfold Rps at h ⊢;exact h
 | `aE,_,h=>by
  unfold Rps at h ⊢;obtain⟨x,r,e,h1,h2⟩:=h;exact⟨x,r,e,Rp.mono g h1,`Bd g h2⟩
end
section
variable{v:V}
theorem U8:Rp K H B `z v=(v=`z):=`GY
theorem W4{b:`N}:Rp K H B `qK v=(v=`da):=`GY
theorem n6{i:Int}:Rp K H B `dL v=(v=`a4):=`GY
theorem X6:Rp K H B `km v=(v=`es):=`GY
theorem W0:Rp K H B (`cz) v=`aqe:=`T9
theorem Y7:Rp K H B `Ba v=`aqf:=`T9
theorem tl0{ks:KS}:Rp K H B (`r3) v=`aqg:=`T9
theorem un0{ks:`ep}:Rp K H B (`GZ) v=∃a xs,`g8/\`jM/\H a=`a (`T7)/\`aql:=tl0
theorem p70{ks:`ab (`ep)}:Rp K H B (`bk (`r2) ds) v=∃a xs,`g8/\`jM/\H a=`a (`T8)/\`aql:=tl0
theorem o8{xs:`C}:Rps K H B [] xs=(xs=[]):=by unfold Rps;rfl
theorem o7{d:D}{xs:`C}:Rps K H B `GV xs=`aqh:=by conv=>lhs;unfold Rps
theorem Rps.length:∀{ds:`s} {xs:`C},`bc->`aP=`bJ
 | [],_,h=>by rw[o8] at h;subst h;rfl
 | `aE,_,h=>by
  rw[o7] at h;obtain⟨x,r,rfl,_,h2⟩:=h;simp[Rps.length h2]
theorem Rps.get:∀{ds:`s} {xs:`C} {i:Nat} {d:D},`bc->ds[i]?=`bb->∃x,`h7/\`ul
 | [],_,_,_,_,e=>`Rx
 | `aE,_,0,d',h,e=>by
  rw[o7] at h;obtain⟨x,r,rfl,h1,_⟩:=h;simp at e;subst e;exact`T'
 | `aE,_,i+1,d',h,e=>by
  rw[o7] at h;obtain⟨x,r,rfl,_,h2⟩:=h;obtain⟨y,e1,e2⟩:=Rps.get (i:=i) h2 `Fm;exact⟨y,`G_,e2⟩
theorem Rps.snoc:∀{ds:`s} {xs:`C} {d:D} {x:V},`bc->`ul->Rps K H B (ds++[d]) (xs++[x])
 | [],_,_,_,h,r=>by
  rw[o8] at h;subst h;rw[`oK,`oK,o7];exact⟨_,[],rfl,r,`go⟩
 | `aE,_,_,_,h,r=>by
  rw[o7] at h;obtain⟨y,t,rfl,h1,h2⟩:=h;rw[`r4,`r4,o7];exact⟨y,_,rfl,h1,`nv h2 r⟩
theorem Rps.append:∀{ds es:`s} {xs ys:`C},`bc->`aqm->Rps K H B `ac1 `AJ
 | [],_,_,_,h,r=>by rw[o8] at h;subst h;exact r
 | `aE,_,_,_,h,r=>by
  rw[o7] at h;obtain⟨y,t,rfl,h1,h2⟩:=h;rw[`r4,`r4,o7];exact⟨y,_,rfl,h1,`aqn h2 r⟩
theorem Rps.drop:∀{ds:`s} {xs:`C} (n:Nat),`bc->Rps K H B (ds.drop n) (`nM n)
 | _,_,0,h=>h
 | [],_,n+1,h=>by rw[o8] at h;subst h;simpa [o8]
 | `aE,_,n+1,h=>by
  rw[o7] at h;obtain⟨y,t,rfl,h1,h2⟩:=h
  simpa using Rps.drop n h2
theorem Rps.take:∀{ds:`s} {xs:`C} (n:Nat),`bc->Rps K H B (ds.take n) (`qh n)
 | _,_,0,h=>`aqo
 | [],_,n+1,h=>`G0
 | `aE,_,n+1,h=>by
  rw[o7] at h;obtain⟨y,t,rfl,h1,h2⟩:=h;rw[`T!,`T!,o7];exact⟨y,_,rfl,h1,Rps.take n h2⟩
theorem Rps.same{xs:`C}(s:`ci)(h:`bc):Rps K H' B ds xs:=`Bd (`Br s) h
theorem Rp.same{d:D}{v:V}(s:`ci)(h:`dt):`acy:=Rp.mono (`Br s) h
universe zz
noncomputable def RpO(K:`G)(H:Hp)(B:BS)(d:D)(a:`e):Prop:=match d with
 | `dc=>`aqp
 | `r3=>∃xs,`acs
 | _=>`cK
theorem RpO.same{d:D}(s:`ci)(h:`oL):RpO K H' B d a:=by
 cases d<;>try exact `hK
 ·obtain⟨xs,e,r⟩:=h;exact⟨xs,`T?,`pV s⟩
 ·obtain⟨xs,e,l,r⟩:=h;exact⟨xs,`T?,l,`pV s⟩
theorem RpO.rp{d:D}(l:`xR)(n:¬`nk)(h:`oL):Rp K H B' d `b_:=by
 cases d<;>try exact `hK
 ·obtain⟨xs,e,r⟩:=h
  rw[Y7];exact⟨a,xs,rfl,`o ⟨n,`r5⟩,`aqq⟩
 ·obtain⟨xs,e,q,r⟩:=h
  rw[tl0];exact⟨a,xs,rfl,n,e,q,`aqq⟩
theorem RpO.live{d:D}(h:`oL):`pP:=by
 cases d<;>try exact `hK
 ·obtain⟨xs,e,r⟩:=h;rw[e];exact λz=>nomatch z
 ·obtain⟨xs,e,q,r⟩:=h;rw[e];exact λz=>nomatch z
noncomputable def RpL(K:`G)(H:Hp)(B:BS)(d:D)(a:`e):Prop:=match d with
 | `w es=>∃ds,es=[`fO,`dc]/\`aqp
 | d=>`oL
theorem RpO.toL{d:D}(h:`oL):`nl:=by
 cases d with
 | tup es=>exact(show `cK from h).elim
 | _=>exact h
theorem RpL.toO{d:D}(n:`MV)(h:`nl):`oL:=by
 cases d with
 | tup es=>cases n
 | _=>exact h
theorem RpL.same{d:D}(s:`ci)(h:`nl):`aqr:=by
 cases d with
 | tup es=>obtain⟨ds,q,xs,e,r⟩:=h;exact⟨ds,q,xs,`T?,`pV s⟩
 | _=>exact(RpO.same s `G1).toL
theorem RpL.rp{d:D}(l:`xR)(n:¬`nk)(h:`nl):Rp K H B' `Ua `b_:=by
 cases d with
 | tup es=>obtain⟨ds,rfl,xs,e,r⟩:=h;exact RpO.rp (d:=`dc) l n ⟨xs,e,r⟩
 | _=>exact RpO.rp l n `G1
theorem RpL.live{d:D}(h:`nl):`pP:=by
 cases d with
 | tup es=>obtain⟨ds,q,xs,e,r⟩:=h;rw[e];exact λz=>nomatch z
 | _=>exact RpO.live `G1
noncomputable def sm0(a C:`e)(od:`a6):`pn:=λh=>∃oe,`gS=`G2/\oe.cls=`kJ/\(∀dx,`G3->`Ub=`a dx)/\∃vs,`Uc
noncomputable def X60(H:Hp)(B:BS)(od:`a6):`Ud
 | `b=>`eh
 | `a n=>∃dx,`G3/\¬B dx/\H dx=`a (.xd [("at",`G4)])
noncomputable def XcR(K:`G)(H:Hp)(B:BS)(c:Str)(n:`aT)(a:`e):Prop:=∃C od,`jM/\`aqs/\`G5/\`aqt
theorem XcR.mono{c:Str}{n:`aT}(g:`kr)(h:`aqu):XcR K H' B' c n a:=by
 obtain⟨C,od,h1,h2,h3,h4⟩:=h;refine⟨C,od,(`aqv).1,(`aqv).2,h3,?_⟩;cases n with
 | none=>trivial
 | some n=>obtain⟨dx,e,q1,q2⟩:=h4;exact⟨dx,e,(`aqw).1,(`aqw).2⟩
noncomputable def SlR(K:`G)(H:Hp)(B:BS)(o:`c?):Sl->Prop
 | .un=>`eh
 | `jL=>∃v,o=`bo/\`dt
 | `pX=>∃a,o=`nn/\`aqx
 | `mx=>∃a,o=`nn/\`aqu
theorem Pd.get{F:`mc}:∀{l:`bP} {m:`md} {i:Nat} {b:β},`pO->`aqy->∃a,`G6/\`z6
 | _,_,_,_,`U,e=>`Rx
 | _,_,0,_,`ak r _,e=>`ajk
 | _,_,i+1,b,`rl,e=>by
  obtain⟨u,h1,h2⟩:=`no (i:=i) (b:=b) t `Fm;exact`ajl
theorem Pd.imp{F G:`mc}(h:`ajx):∀{l:`bP} {m:`md},`aqz
 | _,_,`U=>`U
 | _,_,`eH=>`ak (h _ _ r) (`oM h t)
theorem Pd.set{F:`mc}{a:α}{b:β}(r:`z6):∀{l:`bP} {m:`md} (i:Nat),`pO->`bK F (l.set i a) `aqA
 | _,_,_,`U=>`U
 | _,_,0,`rl=>`eH
 | _,_,i+1,`Ry=>`ak q (`xS r i t)
theorem Pd.len{F:`mc}:∀{l:`bP} {m:`md},`pO->`cO=m.length
 | _,_,`U=>rfl
 | _,_,`rl=>by simp[Pd.len t]
theorem Pd.app{F:`mc}:∀{l l':`bP} {m m':`md},`pO->`bK F l' m'->`bK F (l++l') (m++m')
 | _,_,_,_,`U,s=>s
 | _,_,_,_,`eH,s=>`ak r (`uz t s)
structure Env(K:`G)(H:Hp)(B:BS)(σ:St)(δ:Ds):Prop where
 all:`aqB
 bad:`un
 own:∀(i j:Nat) (a:`e) (ds es:D),`acE->`k?=`aqC->`ie->`pI=`acv->i=j
section
variable{σ σ':St}
theorem SlR.same{o:`c?}{s:Sl}(q:`ci)(h:`G7):SlR K H' B o s:=by
 cases s with
 | un=>trivial
 | sh d=>obtain⟨v,e,r⟩:=h;exact⟨v,e,`pV q⟩
 | ow d=>obtain⟨a,e,b,r⟩:=h;exact⟨a,e,b,`pV q⟩
 | ex c n=>obtain⟨a,e,r⟩:=h;exact⟨a,e,`e2 (`Br q)⟩
theorem Env.same(q:`ci)(e:`bC):Env K H' B σ δ :=
 ⟨`oM (λ_ _ h=>h.same q) `ib,(λa b z=>by
  cases h:H a with
  | none=>exact `hT a b h
  | some o=>rw[q a o h] at z;cases z),`lc⟩
theorem Env.free(e:`bC){p:`e}(h:`e3):¬B p:=λz=>`hT p z h
theorem Env.get(e:`bC){d:D}(h:`aqD):∃v,`Fu/\`dt:=by
 obtain⟨o,h1,v,rfl,r⟩:=`aqE;exact⟨v,h1,r⟩
theorem Env.set(e:`bC)(i:Nat){d:D}{v:V}(r:`dt):Env K H B `ty `GQ:=by
 refine⟨`xS `aqF i `ib,`hT,`aqG⟩;have hj:j≠i:=by
  rintro rfl
  by_cases hl:j<`G8
  ·rw[`xT] at h1;cases h1
  ·rw[`xU] at h1;cases h1
 have hk:k≠i:=by
  rintro rfl
  by_cases hl:k<`G8
  ·rw[`xT] at h2;cases h2
  ·rw[`xU] at h2;cases h2
 rw[`mh] at h1 h3;rw[`aqH] at h2 h4;exact `aqI
universe zz
theorem Z3{p:`e}{o:HO}(h:`e3):`e1 H `Ue:=λb u e=>by rw[Z0 (T7 e h)];exact e
noncomputable def tD(K:`G)(B:BS)(δ:Ds)(g:`el):TE:=fun σ H Q=>∃d,`bC/\`oI/\`xV
structure PD(X:Cx)(e:`D)(g:`el):Prop where
 mk::go:`aqJ
instance{X:Cx}{e:`D}{g:`el}:`f8 (`bf) (λ_=>`aqJ):=⟨PD.go⟩
noncomputable def tDT(K:`G)(B:BS)(δ:Ds)(g:`fh):TT:=fun σ H Q=>∃b,`bC/\`as=`fD/\∀H',`ci->Q b H'
structure PTD(X:Cx)(e:`D)(g:`fh):Prop where
 mk::go:`aqK
instance{X:Cx}{e:`D}{g:`fh}:`f8 (PTD X e g) (λ_=>`aqK):=⟨PTD.go⟩
structure PWD(X:Cx)(e:`D)(g:`fh):Prop where
 mk::go:`aqL
instance{X:Cx}{e:`D}{g:`fh}:`f8 (PWD X e g) (λ_=>`aqL):=⟨PWD.go⟩
noncomputable def tDA(K:`G)(B:BS)(δ:Ds)(g:`fi):TA:=fun σ H Q=>∃ds,`bC/\`as=`la/\∀vs H',`ci->Rps K H' B ds vs->Q vs H'
structure PDA(X:Cx)(es:`bT)(g:`fi):Prop where
 mk::go:`aqM
instance{X:Cx}{es:`bT}{g:`fi}:`f8 (PDA X es g) (λ_=>`aqM):=⟨PDA.go⟩
theorem Y60{d:D}{b:`N}(h:asB d=`fD):d=`da:=by
 cases d<;>simp[asB] at h
 subst h;rfl
noncomputable def Op2(K:`G)(r:R2)(f:`b?):Prop:=∀(H:Hp) (B:BS) (x y:V) (dx dy d:D) (Q:VK),`r6->`Uf->`aqN->f dx dy=`bb->(`xV)->`Aw
noncomputable def FnR(K:`G)(r:`cZ)(f:`K):Prop:=∀(H:Hp) (B:BS) (xs:`C) (ds:`s) (d:D) (Q:VK),`r6->`bc->`ux->(`xV)->`F2
section
variable{a c:`D}{gt gu:`fh}{rest:`bT}
theorem _root_.L2.PE.imp{t t':TE}(h:PE X e t)(q:`G9):PE X e t':=`aqO
theorem _root_.L2.PT.imp{t t':TT}(h:PT X e t)(q:`G9):PT X e t':=`aqO
theorem _root_.L2.PW.imp{t t':TT}(h:PW X e t)(q:`G9):PW X e t':=λw pins s σ H Q I z=>h w `h s σ H Q I `MO
theorem _root_.L2.PA.imp{t t':TA}(h:`F7)(q:`G9):PA X es t':=λp pins s σ H Q I z=>h p `h s σ H Q I `MO
theorem Oq0{d:D}(h:gv i δ=`bb):`aqD:=by
 unfold gv at h;split at h
 ·cases h;assumption
 ·cases h
theorem v4(i:Nat)(hN:`bW:=by rfl)(hv:`dX:=by first|exact `b3|exact `eL|exact `eM)(hd:`aW:=by decide)
  (hcd:`eI:=by decide):PD X `kV (gv i):=.mk λB δ=>(`acz).imp fun σ H Q ⟨d,en,h,k⟩=>by
 obtain⟨v,e,r⟩:=en.get (Oq0 h);exact⟨v,e,k v H `dd r⟩
theorem u5{i:Int}:PD X (`jZ `dL j pos) (gc `dL):=.mk λB δ=>Qo0.imp `aqP
theorem xo0{i:`N}:PD X (`jZ (`d_ i) j pos) (gc (.bl i)):=.mk λB δ=>Pz0.imp fun σ H Q ⟨d,en,h,k⟩=>by cases h;exact `acV
theorem v80:PD X (`jZ `aj j pos) `nW:=.mk λB δ=>Qb0.imp fun σ H Q ⟨d,en,h,k⟩=>by cases h;exact k _ H `dd `uA
theorem m8:PD X (`jZ `km j pos) (gc `km):=.mk λB δ=>Qw0.imp fun σ H Q ⟨d,en,h,k⟩=>by cases h;exact `Ug
theorem vv0{i:Int}(hm:∃t,`pl=`a `tO)(hg:`cI:=by rfl)(hd:`aW:=by decide):PD X `kV (gc `dL):=.mk λB δ=>by
 obtain⟨t,hm⟩:=hm;exact(fs0 (v:=`a4) hg hm `TG hd).imp `aqP
theorem or0{r:R2}{f:`b?}(hf:Op2 K r f){σ:St}{Q:VK}(h:tD K B δ `xW σ H Q):tOp r (tD K B δ ga) (tD K B δ gb) σ H Q:=by
 obtain⟨d,en,h,k⟩:=h;unfold o2 at h;cases e1:`hR with
 | none=>rw[e1] at h;cases h
 | some x =>
  cases e2:`hS with
  | none=>rw[e1,e2] at h;cases h
  | some y =>
   rw[e1,e2] at h;refine`r7;exact hf H2 B v1 v2 x y d Q (`Uh).bad (`lg) r2 h λv H' s r=>k v H' (`Ui s) r
theorem sl0{op:`FP}{r:R2}{f:`b?}(ho:`alU)(hf:`G')(ha:`cT)(hb:`c'):PD X `alV `xW:=.mk λB δ=>(V50 ho `bd `fF).imp `Uj
theorem Zz0{op:`mk}{r:R2}{f:`b?}(ho:`F6)(hf:`G')(ha:`cT)(hb:`c')(hm:`ou:=by first|exact ab0 _|with_unfolding_all rfl):PD X `rx `xW :=
 .mk λB δ=>(Us0 ho `bd `fF hm).imp `Uj
theorem N30{r:R2}{f:`b?}(ho:`Tl)(hf:`G')(ha:`cT)(hb:`c')(hs:l50 b:=by exact `oN):PD X `Gt `xW :=
 .mk λB δ=>(Oi0 ho `bd `fF hs).imp `Uj
theorem m9{op:`mk}{r:R2}{f:`b?}(ho:`F6)(hf:`G')(ha:`cT)(hb:`c')(hm:`ou:=by first|exact ab0 _|with_unfolding_all rfl):PTD X `rx (ob `xW) :=
 .mk λB δ=>(U50 ho `bd `fF hm).imp fun σ H Q ⟨t,en,h,k⟩=>by
  unfold ob at h;cases e:`aqc with
  | none=>rw[e] at h;cases h
  | some d =>
   rw[e] at h;cases Y60 h;exact or0 hf `aqQ
theorem M7(h:`bf)(he:`akG:=by intro _;rfl):PTD X e (ob g) :=
 .mk λB δ=>(P50 `b4 he).imp fun σ H Q ⟨t,en,h,k⟩=>by
  unfold ob at h;cases e:`as with
  | none=>rw[e] at h;cases h
  | some d =>
   rw[e] at h;cases Y60 h;exact`aqQ
theorem d80(h:`xX):PTD X `akR (v60 gt) :=
 .mk λB δ=>(Ss0 `b4).imp fun σ H Q ⟨t,en,h,k⟩=>by
  unfold v60 at h;cases e:`k! with
  | none=>rw[e] at h;cases h
  | some b =>
   rw[e] at h;cases h;exact⟨b,en,e,λH' s=>`Bl⟩
theorem on0(h:`xX):PWD X `akI gt:=.mk λB δ=>Tk0 `b4
theorem fq0(h:`xX):PWD X `akL gt:=.mk λB δ=>R60 `b4
theorem p30(ha:`xX)(hb:PWD X `FM gu):PWD X `FN (yc0 gt gu) :=
 .mk λB δ=>(Rl0 `bd `fF).imp fun σ H Q ⟨t,en,h,k⟩=>by
  unfold yc0 at h;cases e:`k! with
  | none=>rw[e] at h;cases h
  | some b =>
   rw[e] at h;refine`aqR;cases b with
   | true=>exact`aqS
   | false =>
    simp at h;subst h;rw[`ox];exact `Bl
theorem bx0(ha:`xX)(hb:PWD X `akP gu):PWD X `akQ (ob0 gt gu) :=
 .mk λB δ=>(Og0 `bd `fF).imp fun σ H Q ⟨t,en,h,k⟩=>by
  unfold ob0 at h;cases e:`k! with
  | none=>rw[e] at h;cases h
  | some b =>
   rw[e] at h;refine`aqR;cases b with
   | false=>exact`aqS
   | true =>
    simp at h;subst h;rw[`cp];exact `Bl
theorem PWD.pt(h:PWD X e gt):`aqT:=.mk λB δ=>(`MQ).pt
theorem f00{op}(h:PD X a g):PD X `akT g:=.mk λB δ=>Q70 `b4
theorem gm0(ha:`cT)(hb:PD X `FM gb):PD X `FN (qn0 ga gb) :=
 .mk λB δ=>(P90 `bd `fF).imp fun σ H Q ⟨d,en,h,k⟩=>by
  unfold qn0 ob at h;cases e:`hR with
  | none=>rw[e] at h;cases h
  | some x =>
   rw[e] at h;refine⟨x,en,e,λv H' s r=>?_⟩;cases x with
   | bl c =>
    rw[W4] at r;refine⟨c,r,?_⟩;cases c with
    | true=>exact`Uk
    | false =>
     simp[asB] at h;rw[`ox];exact k _ H' s (by rw[← h,W4])
   | _=>simp[asB] at h
theorem cj0(hc:`xY)(ha:`cT)(hb:`c'):PD X `akW (ifG gt ga gb) :=
 .mk λB δ=>(Xa0 (hc B δ) `bd `fF).imp fun σ H Q ⟨d,en,h,k⟩=>by
  unfold ifG at h;cases e:`k! with
  | none=>rw[e] at h;cases h
  | some t =>
   rw[e] at h;refine⟨t,en,e,`acC⟩;cases t with
   | true=>exact`Uk
   | false=>exact`Uk
theorem v8:PDA X [] v6:=.mk λB δ=>J7.imp fun σ H Q ⟨ds,en,h,k⟩=>by cases h;exact `aqU
theorem w6(ha:`bf)(hr:`G!)(hs:`c9:=by rfl):PDA X `gl (z9 g gA) :=
 .mk λB δ=>(T4 `bd (hr B δ) hs).imp fun σ H Q ⟨ds,en,h,k⟩=>by
  unfold z9 at h;cases e1:`as with
  | none=>rw[e1] at h;cases h
  | some d =>
   cases e2:`bI with
   | none=>rw[e1,e2] at h;cases h
   | some es' =>
    rw[e1,e2] at h;cases h;refine⟨d,en,e1,λv H1 s1 r1=>⟨es',`g9,e2,λvs H2 s2 r2=>k _ H2 `ih ?_⟩⟩;rw[o7];exact`aqV
theorem Z2{x1}(h:`G!):PD X (`nD es x1 pos) (j9 gA) :=
 .mk λB δ=>(bq0 `b4).imp fun σ H Q ⟨d,en,h,k⟩=>by
  unfold j9 at h;cases e1:`bI with
  | none=>rw[e1] at h;cases h
  | some ds =>
   rw[e1] at h
   by_cases hl:`kq
   ·simp only[`E,`ks] at h
    cases h;refine`aqW;rw[W0];exact⟨p,vs,rfl,⟨(`g9).free hp,j5⟩,r1.same `id⟩
   ·simp only[`E,`Ul] at h
    cases h
theorem tb0(h:`G!):PD X `S5 (W8 gA) :=
 .mk λB δ=>`aqX fun σ H Q ⟨d,en,h,k⟩=>by
  unfold W8 at h;cases e1:`bI with
  | none=>rw[e1] at h;cases h
  | some ds =>
   rw[e1] at h
   by_cases hl:`kq
   ·simp only[`E,`ks] at h
    cases h;refine`aqW;rw[Y7];exact⟨p,vs,rfl,`o ⟨(`g9).free hp,`o j5⟩,r1.same `id⟩
   ·simp only[`E,`Ul] at h
    cases h
theorem g70{r:`cZ}{f:`K}(hf:FnR K r f){σ:St}{Q:VK}(h:tD K B δ `Bm σ H Q):tCB r (tDA K B δ gA) σ H Q:=by
 obtain⟨d,en,h,k⟩:=h;unfold oA at h;cases e1:`bI with
 | none=>rw[e1] at h;cases h
 | some ds =>
  rw[e1] at h;exact⟨ds,en,e1,λvs H1 s1 r1=>hf H1 B vs ds d Q `G? r1 h `Um⟩
theorem y70{id:`bj}{p:Pos}{r:`cZ}{f:`K}(hc:`amW)(hf:`Un)(hm:`mj)(hv:`amX)(ha:`kt)(hg:`cI:=by rfl)
  (hn:`jp := by decide) (hdb:`aW:=by decide) (he:`c9:=by rfl) (hpl:`f6:=by rfl) :
  `xZ:=.mk λB δ=>(wz0 hc hg hm hv `bd hn hdb he hpl).imp `Uo
theorem U4{T:`bj}{p:Pos}{r:`cZ}{f:`K}(hc:`am0)(hf:`Un)(hm:`mj)(hv:`S?)(ha:`kt)(hg:`cI:=by rfl)
  (hn:`jp := by decide) (hdb:`aW:=by decide) (he:`c9:=by rfl) (hpl:`f6:=by rfl) :
  `xZ:=.mk λB δ=>(ve0 hc hg hm hv `bd hn hdb he hpl).imp `Uo
noncomputable def spD(K:`G)(f:`K):Sp:=λvs H Q _=>∃(B:BS) (ds:`s) (d:D),`r6/\`x_/\`ux/\`xV
theorem Un0{k:Nat}{fd:`S}{ps:`j}{p:Pos}{f:`K}(F:`Y `a0 X.w X.K `bn `dG CX0 k fa fd ps (spD X.K f))(hr:`F9)(hm:`pl=`BC)(hk:`m7 X.K `t'=`d)(hb:`Ax X.K fd ps [])
  (ha:`kt) (hg:`cI:=by rfl) (hdb:`aW:=by decide) (he:`c9:=by rfl) (hpl:`f6:=by rfl) :
  `xZ:=.mk λB δ=>(pn0 (E:=E0) F hr hg hm hk hb `U jd0 `bd hdb he hpl).imp fun σ H Q h=>by
 obtain⟨d,en,h,k⟩:=h;unfold oA at h;cases e1:`bI with
 | none=>rw[e1] at h;cases h
 | some ds =>
  rw[e1] at h;refine`Up;show spD X.K f `Uq H1 Q E0;rw[`f5];exact⟨B,ds,d,`G?,r1,h,`Um⟩
universe zz
universe DL
variable{B B' B₀:DL.BS}
namespace DL
open Spec PyProof.Rows L2
structure EnvS(K:`G)(H₀:Hp)(B₀:BS)(H:Hp)(σ:St)(δ:Ds):Prop where
 same:`Ha
 ex:∃B:BS,`Hb/\`Hc/\`bC
 fr:`aqY
 b0:`Ur
noncomputable def W10(K:`G)(H₀:Hp)(B₀:BS)(D:`mi):Res->Prop
 | .nx δ=>∀σ H,`du->`Sj
 | .rt d=>∀v H,`Ha->Rp K H `ad d v->D.rt v H
 | .bk δ=>∀σ H,`du->D.bk σ H
 | .ct δ=>∀σ H,`du->D.ct σ H
 | .rf d=>∀p H,`aqZ->`Ha->RpL K H (λa=>`pR∨a=p) d p->D.rt `d' H
noncomputable def tDS(K:`G)(H₀:Hp)(B₀:BS)(δ:Ds)(G:`fj):TS:=λD σ H=>∃r,`du/\`Us/\W10 K `af `ad D r
structure PSD(X:Cx)(st:`a8)(G:`fj):Prop where
 mk::go:`aq_
instance{X:Cx}{st:`a8}{G:`fj}:`f8 (`Ut) (λ_=>`aq_):=⟨PSD.go⟩
structure PSsD(X:Cx)(st:`dW)(G:`fj):Prop where
 mk::go:`aq0
instance{X:Cx}{st:`dW}{G:`fj}:`f8 (`jO X st G) (λ_=>`aq0):=⟨PSsD.go⟩
section
variable{σ:St}
theorem EnvS.grow(e:`du)(s:`ci):`cB K `af `ad H' σ δ:=⟨`Uu s,let ⟨B,b1,b2,en⟩:=e.ex;⟨B,b1,b2,`ic s⟩,e.fr,e.b0⟩
universe zz
structure Wr(idx:`l)(σ σ':St)(δ δ':Ds):Prop where
 len:`R6
 oth:∀j,j∉idx->σ'[j]?=`pI/\δ'[j]?=`k?
 own:∀j∈idx,∀ds,δ'[j]?≠`Bi
noncomputable def tDG(K:`G)(idx:`l)(f:`aX)(B:BS)(d:D)(δ:Ds):TG:=λv σ H Q=>∃δ',`dt/\`bC/\`T2/\∀σ',`aq1->Env K H B σ' δ'->Q σ' H
structure PGD(X:Cx)(tg:`D)(idx:`l)(f:`aX):Prop where
 mk::go:`aq2
instance{X:Cx}{tg:`D}{idx:`l}{f:`aX}:`f8 (`Hd) (λ_=>`aq2):=⟨PGD.go⟩
theorem _root_.L2.PG.imp{tg:`D}{t t':TG}(h:PG X tg t)(q:∀v σ H Q,t' v σ H Q->`alc):PG X tg t':=λpins s σ H v u Q I r z=>h `h s σ H v u Q I r (q v σ H Q z)
theorem i60{σ:St}{v:V}{d:D}:Wr [i] σ `ty δ `GQ:=by
 refine⟨`aB,`Uv,λj hj ds h=>?_⟩
 ·have:j≠i:=`uk
  rw[`aq3,`aq3];exact`hb
 ·have:j=i:=`uk
  subst this
  by_cases hl:j<`G8
  ·rw[`xT] at h;cases h
  ·rw[`xU] at h;cases h
theorem o5(i:Nat){pos:Pos}(hN:`f3)(hi:`bW:=by rfl)(hx:`mf:=by first|exact `b3|exact `jN)
  (hf:`mg:=by first|exact `cd|exact `dr|assumption):PGD X `kV [i] `MU:=.mk λB d δ=>(`He).imp λv σ H Q ⟨δ',r,en,e,k⟩=>by
 cases e;exact k _ i60 (en.set i r)
section
variable{tg:`D}{st:`a8}{G1 G2 Ga Gb:`fj}{gt:`fh}{c:`D}{as bs body:`dW}
theorem u9:`jO X [] t6:=.mk λH₀ B₀ δ pins s σ H D I ⟨r,en,e,k⟩=>by
 cases e;exact `aq4
theorem v5(h1:PSD X st G1)(h2:`jO X `d3 G2):`jO X (st::`d3) (u6 G1 G2):=.mk λH₀ B₀ δ pins s σ H D I ⟨r,en,e,k⟩=>by
 unfold u6 at e;cases e1:`h? with
 | none=>rw[e1] at e;cases e
 | some r1 =>
  rw[e1] at e;cases r1 with
  | nx δ'=>exact z90 (h1 `af `ad δ) (h2 `af `ad δ') `h s σ H D I `aq5
  | rt d=>cases e;exact `Hf
  | bk δ'=>cases e;exact `Hf
  | ct δ'=>cases e;exact `Hf
  | rf d=>cases e;exact `Hf
theorem j7(h:`bf):PSD X `xb (Z5 g):=.mk λH₀ B₀ δ pins s σ H D I ⟨r,en,e1,k⟩=>by
 unfold Z5 at e1;obtain⟨B,b1,b2,env⟩:=`bX;cases e2:`as with
 | none=>rw[e2] at e1;cases e1
 | some d =>
  rw[e2] at e1;cases e1;exact gn0 `b4 `h s σ H D I ⟨d,env,e2,λv H' s' r=>k v H' (`Hg s') (`e2 (`lb b1))⟩
theorem EnvS.wr{σ σ':St}(e:`du)(b1:`pS)(b2:`pT)(s:`ci)(w:`aq1)(en:Env K H' B σ' δ'):`aq6:=by
 refine⟨`Uu s,⟨B,b1,b2,en⟩,`aq7,e.b0⟩
 by_cases hi:i∈idx
 ·exact `X h1 (w.own i hi ds)
 ·rw[(`aq8).2] at h1
  rw[(`aq8).1] at h2;exact `aq9
theorem c7{f:`aX}(h:`bf)(hg:`Hd)(hs:`St:=by rfl)(hw:`Su:=by rfl)
  (h1:`Sv:=by rfl):PSD X `Sw (b7 f g):=.mk λH₀ B₀ δ pins s σ H D I ⟨r,en,e1,k⟩=>by
 unfold b7 at e1;obtain⟨B,b1,b2,env⟩:=`bX;cases e2:`as with
 | none=>rw[e2] at e1;cases e1
 | some d =>
  rw[e2] at e1;simp only[`E] at e1;cases e3:`pM with
  | none=>rw[e3] at e1;cases e1
  | some δ' =>
   rw[e3] at e1;cases e1;exact nu0 `b4 (hg B d δ) hs hw h1 `h s σ H D I ⟨d,env,e2,λv H' s' r=>⟨δ',r,`Uw,e3,fun σ' w en'=>k σ' H' (en.wr b1 b2 s' w en')⟩⟩
theorem d8(hc:`xY)(ha:`jO X as Ga)(hb:`jO X bs Gb):PSD X `aq' (ifD gt Ga Gb):=.mk λH₀ B₀ δ pins s σ H D I ⟨r,en,e1,k⟩=>by
 unfold ifD at e1;obtain⟨B,b1,b2,env⟩:=`bX;cases e2:`k! with
 | none=>rw[e2] at e1;cases e1
 | some t =>
  rw[e2] at e1;refine Wz0 (hc B δ) (ha `af `ad δ) (hb `af `ad δ) `h s σ H D I `aq!;cases t with
  | true=>exact`Hh
  | false=>exact`Hh
structure ItD(K:`G)(B:BS)(J:It)(items:`s)(H₁:Hp):Prop where
 go:∀i H,`Ux->`Hi->`SC
 yld:∀i H x H',`Ux->`SF->`Hi->`ci/\∃d,`x0=`bb/\∀B':BS,Gr H₁ H' B B'->(∀a,`nk->`pP)->Rp K H' B' d x
 stop:∀i H,`Ux->`g6<=i->`SG
noncomputable def tDI(K:`G)(B:BS)(δ:Ds)(g:`fi):TI:=fun σ H R=>∃items,`bC/\`as=`a `al/\∀J H',`ci->ItD K B J `al H'->R J H'
structure PID(X:Cx)(tg e:`D)(g:`fi):Prop where
 mk::go:`aq?
instance{X:Cx}{tg e:`D}{g:`fi}:`f8 (PID X tg e g) (λ_=>`aq?):=⟨PID.go⟩
theorem _root_.L2.PI.imp{t t':TI}(h:PI X tg e t)(q:∀σ H R,t' σ H R->t σ H R):PI X tg e t':=λpins s σ H R I z=>h `h s σ H R I (q σ H R z)
theorem N6(h:`bf):PID X tg e (zt0 g):=.mk λB δ=>`i' (Vu0 `b4) fun σ H R ⟨`al,en,e1,k⟩=>by
 unfold zt0 at e1;cases e2:`as with
 | none=>rw[e2] at e1;cases e1
 | some d =>
  rw[e2] at e1;cases d<;>simp[uw0] at e1
  subst e1;refine`Uy;rw[Y7] at r;obtain⟨a,xs,rfl,q,rs⟩:=r;refine`ara
  ·have:`Gr:=`MT
   exact`arb
  ·obtain⟨e3,y⟩:=y
   obtain⟨x',e4,r'⟩:=`arc;have:=`ard;rw[e4] at this;cases `B;subst e3;exact`are
  ·exact`arf
theorem xd0(h:`bf):PID X tg e (tupI g):=.mk λB δ=>`i' (S60 `b4) fun σ H R ⟨`al,en,e1,k⟩=>by
 unfold tupI at e1;cases e2:`as with
 | none=>rw[e2] at e1;cases e1
 | some d =>
  rw[e2] at e1;cases d<;>simp[Wk0] at e1
  subst e1;refine`Uy;rw[W0] at r;obtain⟨a,xs,rfl,q,rs⟩:=r;refine`ara
  ·have:`Gr:=`MT
   exact`arb
  ·obtain⟨e3,y⟩:=y
   obtain⟨x',e4,r'⟩:=`arc;have:=`ard;rw[e4] at this;cases `B;subst e3;exact`are
  ·exact`arf
theorem kc0(x:Str):(`xP x).length=`xF:=by simp[`xP]
theorem Tz0(h:`bf):PID X tg e (Xy0 g):=.mk λB δ=>`i' (Ql0 `b4) fun σ H R ⟨`al,en,e1,k⟩=>by
 unfold Xy0 at e1;cases e2:`as with
 | none=>rw[e2] at e1;cases e1
 | some d =>
  rw[e2] at e1;cases d<;>simp[es0] at e1
  subst e1;refine`Uy;rw[X6] at r;refine⟨_,r,`acI⟩
  ·rw[kc0] at hi;exact hi
  ·obtain⟨e3,c,hc,rfl⟩:=y
   subst e3;refine⟨`Bp,`nh,?_,λB' gB _=>`Bk⟩;unfold signs;rw[`dQ,`aoq,hc];rfl
  ·rw[kc0] at hi;exact hi
theorem o60(lo hi:Int):(R9 lo hi).length=`pr:=by simp[R9]
theorem e50(lo hi:Int):ItD K B (Itr lo `pr) (R9 lo hi) H:=by
 refine`acH
 ·rw[o60] at hi;exact hi
 ·obtain⟨e3,rfl⟩:=y
  rw[o60] at hi;subst e3;exact⟨`Bp,`SK,by simp[R9,hi],λB' gB _=>`pQ⟩
 ·rw[o60] at hi;exact hi
theorem G4{a:`D}(hm:`F_)(ha:`Hj)(hg:`FZ := by rfl)(hs:`rA:=by rfl):PID X tg `alM (zm0 gA) :=
 .mk λB δ=>`i' (cu0 hg hm `bd hs) fun σ H R ⟨`al,en,e1,k⟩=>by
 unfold zm0 at e1;cases e2:`bI with
 | none=>rw[e2] at e1;cases e1
 | some ds =>
  rw[e2] at e1;simp only[`E] at e1;unfold cs0 at e1;split at e1
  ·split at e1
   ·rename_i j hj
    cases e1;refine`r8;rw[o7] at r;obtain⟨x,t,rfl,r1,r2⟩:=r;rw[o8] at r2;subst r2;rw[n6] at r1;subst r1;refine⟨j,rfl,hj.1,hj.2,k _ H' s' ?_⟩;have:=e50 (K:=X.K) (B:=B) (H:=H') 0 j;rw[Int.sub_zero] at this;exact `B
   ·cases e1
  ·cases e1
theorem dz0{a:`D}{p:Pos}(hm:`F_)(ha:`Uz)(hg:`FZ := by rfl)(hs:`rB:=by rfl)(hs2:`rC:=by rfl) :
  PID X tg `alO (n70 gA):=.mk λB δ=>`i' (a80 hg hm `bd hs hs2) fun σ H R ⟨`al,en,e1,k⟩=>by
 unfold n70 at e1;cases e2:`bI with
 | none=>rw[e2] at e1;cases e1
 | some ds =>
  rw[e2] at e1;simp only[`E] at e1;unfold c60 at e1;split at e1
  ·split at e1
   ·rename_i i j hj
    cases e1;refine`r8;rw[o7] at r;obtain⟨x,t,rfl,r1,r2⟩:=r;rw[o7] at r2;obtain⟨y,t',rfl,r2,r3⟩:=r2;rw[o8] at r3;subst r3;rw[n6] at r1 r2;subst r1 r2;exact⟨i,j,rfl,⟨hj.1.1,hj.1.2,hj.2.1,hj.2.2⟩,k _ H' s' (e50 i j)⟩
   ·cases e1
  ·cases e1
theorem EnvS.lower{H₁:Hp}{σ:St}(e:`cB K H₁ `ad H σ δ)(s:`e1 `af H₁)(b0:`Ur):`du:=by
 obtain⟨B,b1,b2,en⟩:=e.ex;exact⟨s.trans e.same,⟨B,b1,λa z=>(b2 a z).imp id λq=>s.free q,en⟩,λi ds a h1 h2=>s.free (`aq9),b0⟩
open Classical in
theorem M8{f:`aX}(hp:`FQ)(hc:`bQ)(hi:`oO)(hg:`Hd)(hb:`arg)
  (hs:`i0:=by intro _;rfl):PSD X `alP (G3 gi f G):=.mk λH₀ B₀ δ pins s σ H D I ⟨r,en,e1,k⟩=>by
 unfold G3 at e1;obtain⟨B,b1,b2,env⟩:=`bX;cases e2:`ui with
 | none=>rw[e2] at e1;cases e1
 | some items =>
  rw[e2] at e1;simp only[`E] at e1;have b3:PG X tg (`UA):=λpins s σ H v u Q I r ⟨B,d,δ,h⟩=>hg B d δ `h s σ H v u Q I r h
  have a6:PSs X `eX (λD σ H=>∃H₀ B₀ δ,`arh):=λpins s σ H D I ⟨`af,`ad,δ,h⟩=>`ari
  refine Q80 hp hc (hi B δ) b3 a6 hs `h s σ H D I ⟨`al,env,e2,λJ H1 s1 it=>?_⟩;obtain⟨Hh,a1⟩:∃Hh:Hp,Hh=λb=>`arj:=`au
  have Z:∀b,¬B b->Hh b=H1 b:=λb n=>by rw[a1];exact `ay λz=>n z.1
  have Y:∀b,B b->¬`ad b->Hh b=`b:=λb n n'=>by rw[a1];exact `I ⟨n,n'⟩
  have a3:∀b,`ad b->Hh b=H1 b:=λb n=>by rw[a1];exact `ay λz=>z.2 n
  have a7:`e1 Hh H1:=λb o h=>by
   by_cases z:`acJ
   ·rw[Y b z.1 z.2] at h;cases h
   ·rw[a1] at h
    have h':(`arj)=`ae:=h;rw[`ay z] at h';exact h'
  have hS:`e1 `af Hh:=λb o h=>by
   have h1:=s1 b o (`ic b o h)
   by_cases z:B b
   ·rcases b2 b z with q|q
    ·rw[a3 b q];exact h1
    ·rw[h] at q;cases q
   ·rw[Z b z];exact h1
  have O:=`uR;have start:`cB X.K Hh `ad H1 σ δ:=by
   refine⟨a7,⟨B,b1,`g',O⟩,`aq7,`g'⟩
   ·by_cases q:`pR
    ·exact `hJ
    ·exact `q (Y a z q)
   ·have hn:=`nt i ds a h1 h2
    have nb:¬`pR:=λz=>`lk a z hn
    obtain⟨o,e3,a',e4,hB,_⟩:=`no O.all h1;rw[h2] at e3;cases e3;cases e4;exact Y a hB nb
   ·rw[a3 a z]
    exact O.bad a `Nj
  refine⟨λi m σ H=>m=`g6 - i/\i<=`g6/\∃δi,`cB X.K Hh `ad H σ δi/\N7 f G (`ut i) δi=`bL,⟨_,rfl,`c_,δ,start,e1⟩,?_⟩;rintro i m σi Hi ⟨rfl,b4,δi,F,ei⟩;have gr:Gr H1 Hi B B:=λb o n h=>⟨n,`Hk b o (`ark)⟩
  by_cases hlt:`Hi
  ·refine `q ⟨it.go i Hi gr hlt,fun σ' H'=>∃δn,`cB X.K Hh `ad H' σ' δn/\N7 f G (`Hl) δn=`bL,fun σ' H' ⟨δn,en',e'⟩=>⟨`UB,`p,rfl,hlt,δn,en',e'⟩,λx H' y=>?_⟩
   obtain⟨sm,d,hd,rd⟩:=it.yld i Hi x H' gr y hlt;obtain⟨B',c1,c2,env0⟩:=F.ex;have a5:Rp X.K H' B' d x:=rd B' (λb o n h=>by
    have h':Hh b=`ae:=`ark
    refine⟨`gD,sm b o (`Hk b o h')⟩;rcases c2 b z with q|q
    ·exact n (b1 b q)
    ·rw[h'] at q;cases q) env0.bad
   have a4:=env0.same sm
   replace F:=F.grow sm
   have a2:`ut i=d::`Hl:=by
    rw[`x1 hlt];congr 1;rw[`iv hlt] at hd;exact B5 hd
   rw[a2] at ei;unfold N7 at ei;cases e3:f d δi with
   | none=>rw[e3] at ei;cases ei
   | some δ2 =>
    rw[e3] at ei;simp only[`E] at ei;refine⟨B',d,δi,δ2,a5,a4,e3,fun σ' w en'=>?_⟩;have a8:`cB X.K Hh `ad H' σ' δ2:=F.wr c1 c2 `CA w en';cases e4:G δ2 with
    | none=>rw[e4] at ei;cases ei
    | some rb =>
     rw[e4] at ei;refine⟨Hh,`ad,δ2,rb,a8,e4,?_⟩;cases rb with
     | nx δn=>exact `arl
     | ct δn=>exact `arl
     | bk δn =>
      cases ei;exact fun σ' H' en'=>k σ' H' (en'.lower hS `lk)
     | rt d' =>
      cases ei;exact λv H' s' r'=>k v H' (hS.trans s') r'
     | rf d' =>
      cases ei;exact λp H' hp s' r'=>k p H' (hS.free hp) (hS.trans s') r'
  ·have e:i=`g6:=`p
   subst e;refine `o ⟨it.stop _ Hi gr `aK,?_⟩;rw[`arm] at ei;cases ei;exact k σi Hi (F.lower hS `lk)
structure PFD(X:Cx)(ifs:`bT)(g:`fh):Prop where
 mk::go:`arn
instance{X:Cx}{ifs:`bT}{g:`fh}:`f8 (PFD X ifs g) (λ_=>`arn):=⟨PFD.go⟩
theorem T6:PFD X [] noT:=.mk λB δ pins s σ H Q I ⟨b,en,e,k⟩=>by
 cases e;exact Rn0 `h s σ H Q I (k H `dd)
theorem ld0(h:`xY):PFD X [c] gt:=.mk λB δ=>Sf0 `b4
theorem W60{σ:St}(h:j<n):`fC[j]?=`c8:=by
 unfold J4;rw[`AA `n5,`rK,`f9]
theorem vb0:∀n:Nat,`bK `Bh (`jP n (`b:`c?)) (`aro)
 | 0=>`U
 | n+1=>`ak `fE (vb0 n)
theorem hf0{σ:St}(en:`bC):∀caps:`l,`bK `Bh (`ao0) (`apT)
 | []=>`U
 | j::`dN=>by
  refine `ak ?_ (hf0 en `dN);show SlR K H B `Mz (jj0 `k?);cases h:`k? with
  | none=>trivial
  | some sl =>
   cases sl with
   | un=>trivial
   | ow ds=>trivial
   | ex c n=>trivial
   | sh d =>
    obtain⟨v,e,r⟩:=en.get h;rw[e];exact`aqF
theorem W30{o:`aH Sl}{ds:D}(h:jj0 o=`ML):`cK:=by
 cases o with
 | none=>cases h
 | some s=>cases s<;>cases h
theorem o70{ds:D}(h:`ni[i]?=`Bi):`cK:=by
 unfold xq0 at h
 by_cases hi:i<n
 ·rw[`xt,`rK,`I hi] at h
  cases h
 ·rw[`Gf,`dQ] at h
  cases q:`dN[i - (`aro).length]? with
  | none=>rw[q] at h;cases h
  | some j =>
   rw[q] at h;exact W30 (`p7)
theorem Env.comp{σ:St}(en:`bC)(n:Nat)(caps:`l):Env K H B `fC `ni :=
 ⟨`uz (vb0 n) (hf0 en `dN),en.bad,`arp⟩
theorem SlR.gr{o:`c?}{s:Sl}(g:`kr)(no:∀ds,s≠`ML)(h:`G7):SlR K H' B' o s:=by
 cases s with
 | un=>trivial
 | sh d=>obtain⟨v,e,r⟩:=h;exact`UC
 | ow ds=>exact `X rfl (no ds)
 | ex c n=>obtain⟨a,e,r⟩:=h;exact⟨a,e,`uu⟩
theorem Pd.impG(g:`kr):∀{σ:St} {δ:Ds},(∀(i:Nat) (ds:D),`cA≠`Bi)->`aqB->`bK (SlR K H' B') σ δ
 | _,_,_,`U=>`U
 | _,_,no,`eH=>`ak (r.gr g λds z=>no 0 ds (by rw[← z];rfl)) (Pd.impG g (λi ds z=>no `cy ds `arq) t)
noncomputable def tDF(K:`G)(B:BS)(δ:Ds)(g:`el):TE:=fun σ H Q=>∃d,`bC/\`oI/\`arr
structure PDF(X:Cx)(e:`D)(g:`el):Prop where
 mk::go:`ars
instance{X:Cx}{e:`D}{g:`el}:`f8 (`r9) (λ_=>`ars):=⟨PDF.go⟩
theorem tD.toF{σ:St}{Q:VK}(h:tD K B δ g σ H Q):tDF K B δ g σ H Q:=by
 obtain⟨d,en,e,k⟩:=h;exact⟨d,en,e,λp H' hp s r=>k _ H' s (r.rp (λa z=>`lh) (en.free hp))⟩
theorem PDF.pd(h:`r9):`bf:=.mk λB δ=>(`MQ).imp fun σ H Q z=>z.toF
theorem lv0{K:`G}{B:BS}{δ:Ds}{σ:St}{H:Hp}{Q:VK}{caps:`l}{gi:`fi}{f:`aX}{gt:`fh}{ge:`el}(hidx:∀j∈idx,j<n)
  (h:tDF K B δ `Bs σ H Q) :
  dr0 n `dN (tDI K B δ gi) (λv σ H Q=>∃B d δ,tDG K idx f B d δ v σ H Q) (fun σ H Q=>∃B δ,tDT K B δ gt σ H Q) (fun σ H Q=>∃B δ,tD K B δ ge σ H Q) σ H Q:=by
 obtain⟨d,en,h,k⟩:=h;unfold Z9 at h;cases e1:`ui with
 | none=>rw[e1] at h;cases h
 | some items =>
  rw[e1] at h;simp only[`E] at h
  by_cases hsz:`GS
  ·rw[`I hsz] at h
   cases e2:`MF with
   | none=>rw[e2] at h;cases h
   | some out =>
    rw[e2] at h;cases h;refine⟨`al,en,e1,λJ H1 s1 it=>λL hL=>?_⟩;have Y:=`g9;have b0:¬B L:=Y.free hL;obtain⟨Bp,O⟩:∃Bp:BS,Bp=λa=>B a∨a=L:=`au
    have a6:Bp L:=by rw[O];exact `dr
    have b1:∀a,B a->Bp a:=λa z=>by rw[O];exact `lh
    have a2:∀a,Bp a->B a∨a=L:=λa z=>by rw[O] at z;exact z
    have gr:∀{H2:Hp},`TK->Gr H1 H2 B Bp:=λ{H2} s2 b o nb hb=>⟨(λz=>by
     rcases a2 b z with q|q
     ·exact nb q
     ·subst q;rw[hL] at hb;cases hb),s2 b o hb⟩
    refine⟨λi m ys H2=>m=`g6 - i/\i<=`g6/\H2 L=`MC/\`TK/\`fy<=i/\∃pre rest,out=pre++`d3/\Rps K H2 Bp pre ys/\R6 f gt ge `ni (`ut i)=`a `d3,
     ⟨_,rfl,`c_,j5,Z3 hL,`g0,[],out,rfl,`go,e2⟩,?_⟩
    rintro i m ys H2 ⟨rfl,a8,hD,s2,b2,pre,rest,ho,rp,ec⟩;have F:Env K H2 Bp `fC `ni:=by
     refine⟨Pd.impG (gr s2) (λi ds z=>o70 z) (Y.comp n `dN).all,`g',`arp⟩;rcases a2 a z with q|q
     ·exact(Y.same s2).bad a q
     ·subst q;rw[hD];exact λz=>nomatch z
    by_cases hlt:`Hi
    ·refine `q ⟨it.go i H2 `UD hlt,λx H3 y=>?_⟩
     obtain⟨sm,dx,a1,rx⟩:=it.yld i H2 x H3 `UD y hlt;have a5:Rp K H3 Bp dx x:=rx Bp (gr (`UE sm)) F.bad
     replace F:=`Hk sm
     replace s2:=`UE sm
     replace hD:=sm _ _ hD
     replace rp:=rp.same sm
     have Z:`ut i=dx::`Hl:=by
      rw[`x1 hlt];congr 1;rw[`iv hlt] at a1;exact B5 a1
     rw[Z] at ec;unfold R6 at ec;cases e3:f dx `ni with
     | none=>rw[e3] at ec;cases ec
     | some δ' =>
      rw[e3] at ec;dsimp only at ec;refine⟨Bp,dx,`acn,δ',a5,F,e3,fun σ4 w en4=>⟨⟨w.len,λj v z=>?_⟩,?_⟩⟩
      ·by_cases hj:j∈idx
       ·rw[W60 (hidx j hj)] at z;cases z
       ·rw[(w.oth j hj).1];exact z
      ·cases e4:`pN with
       | none=>rw[e4] at ec;cases ec
       | some t =>
        rw[e4] at ec;refine⟨Bp,δ',t,en4,e4,λH5 s5=>?_⟩;cases t with
        | false =>
         rw[`ox];exact⟨`UB,`p,rfl,hlt,s5 _ _ hD,`UE s5,`p,pre,`d3,ho,rp.same s5,ec⟩
        | true =>
         rw[`cp];dsimp only at ec;cases e5:`uj with
         | none=>rw[e5] at ec;cases ec
         | some yd =>
          rw[e5] at ec;dsimp only at ec;cases e6:R6 f gt ge `ni (`Hl) with
          | none=>rw[e6] at ec;cases ec
          | some rest' =>
           rw[e6] at ec;cases ec;refine⟨Bp,δ',yd,en4.same s5,e5,λv H6 s6 r6=>?_⟩;have a7:H6 L=`MC:=s6 _ _ (s5 _ _ hD);have g6:Gr H6 (upd H6 L (`n (ys++[v]))) Bp Bp:=λb o nb hb=>⟨nb,by
            rw[Z0 (λz=>nb (by rw[z];exact a6))];exact hb⟩
           refine⟨a7,`p,`UB,`p,rfl,hlt,j5,λb o hb=>?_,`pp,pre++[yd],rest',by rw[ho];simp,?_,e6⟩
           ·have a4:b≠L:=λz=>by rw[z,hL] at hb;cases hb
            rw[Z0 a4];exact s6 _ _ (s5 _ _ (s2 _ _ hb))
           ·exact(`nv ((rp.same s5).same s6) r6).mono g6
    ·have e:i=`g6:=`p
     subst e;refine `o ⟨it.stop _ H2 `UD `aK,?_⟩;rw[`arm] at ec;have a3:([]:`s)=`d3:=B5 ec;subst a3;rw[`f5] at ho;subst ho;refine k L H2 (`p4 hL) `ih ⟨ys,hD,?_⟩;rw[O] at rp;exact rp
  ·rw[`ay hsz] at h;cases h
theorem jx0{sc scope:`dn}{elt iter:`D}{ifs:`bT}{N':`j}{n:Nat}{caps:`l}{gi:`fi}{idx:`l}{f:`aX}{ge:`el}
  (hc:`bQ) (hsc:`kp) (ok:`rX) (hidx:∀j∈idx,j<n) (hi:`oO)
  (hg:`r') (ht:`r!) (he:`r?)
  (hs:`i0:=by intro _;rfl) :
  `art:=.mk λB δ =>
 (Tt0 hc hsc ok (hi B δ) (g:=`UA) (tt:=`UF) (te:=`aru)
  `arv
  `arw
  `arx hs).imp fun σ H Q h=>lv0 hidx h
theorem Tl0{sc scope:`dn}{elt iter:`D}{ifs:`bT}{N':`j}{n:Nat}{caps:`l}{gi:`fi}{idx:`l}{f:`aX}{ge:`el}
  (hc:`bQ) (hsc:`kp) (ok:`rX) (hidx:∀j∈idx,j<n) (hi:`oO)
  (hg:`r') (ht:`r!) (he:`r?)
  (hs:`i0:=by intro _;rfl) :
  `ary:=(jx0 hc hsc ok hidx hi hg ht he hs).pd
theorem fd0(i:Nat){y:Str}{py spos:Pos}{sc scope:`dn}{elt iter:`D}{ifs:`bT}{N':`j}{n:Nat}{caps:`l}{gi:`fi}{idx:`l}{f:`aX}{ge:`el}
  (hN:`f3) (hc:`bQ) (hsc:`kp) (ok:`rX) (hidx:∀j∈idx,j<n) (hi:`oO)
  (hg:`r') (ht:`r!) (he:`r?)
  (hiN:`xJ:=by rfl) (hy:`xK:=by first|exact `b3|exact `jN)
  (hsw:`TY:=by rfl)
  (hs:`i0:=by intro _;rfl)
  (hf:`xL:=by first|exact `cd|exact `dr|assumption) :
  `arz:=.mk λH₀ B₀ δ pins s σ H D I ⟨r,en,e1,k⟩=>by
 unfold b7 at e1;obtain⟨B,b1,b2,env⟩:=`bX;cases e2:`aqb with
 | none=>rw[e2] at e1;cases e1
 | some d =>
  rw[e2] at e1;cases e1;refine cc0 (i:=i) hN hiN hy hc hsc ok (hi B δ) (g:=`UA) (tt:=`UF) (te:=`aru)
   `arv
   `arw
   `arx hsw hs hf `h s σ H D I (lv0 hidx (tD.toF ⟨d,env,e2,λv H' s' r'=>k _ H' (en.wr b1 b2 s' i60 ((`Uw).set i r'))⟩))
universe zz
theorem yx0{N:`j}:∀{ds:`s} {vs:`C},`x_->`bK `Bh (`qk `a) (ds.map Sl.sh)
 | [],_,h=>by rw[o8] at h;subst h;exact `U
 | `aE,_,h=>by
  rw[o7] at h;obtain⟨x,r,rfl,h1,h2⟩:=h;exact `ak `T' (yx0 (N:=N) h2)
theorem G7{es:D}(h:`uv[i]?=`aqC):`cK:=by
 unfold Z8 at h
 by_cases hi:`Hm
 ·rw[`xt,`dQ] at h
  cases q:ds[i]? with
  | none=>rw[q] at h;cases h
  | some d=>rw[q] at h;cases h
 ·rw[`Gf,`rK] at h
  split at h<;>cases h
section
variable{P:`aa}{w:`L}
theorem okD{st:`a8}{fd:`S}{ps:`j}{k:Nat}{f:`K}{G:`fj}(F:`Hn)(S:`mt)
  (body:`x2)
  (hf:`arA) :
  `arB:=by
 refine `Ho
 ·rw[`aL];exact`Hp
 ·refine`Hq
  have en:`x3:=by
   refine`Hr;unfold L2.start Z8;rw[`aL];exact `Hs
  rcases (`uy).2 with e|⟨rfl,δ,e⟩|⟨e,hn⟩
  ·exact`UG
  ·exact`arC
  ·exact`arD
noncomputable def spN(K:`G)(f:`K):Sp:=λvs H Q _=>∃(B:BS) (ds:`s) (d:D),`r6/\`x_/\`ux/\`arr
theorem okN{st:`a8}{fd:`S}{ps:`j}{k:Nat}{f:`K}{G:`fj}(F:`Hn)(S:`mt)
  (body:`x2)
  (hf:`arE) :
  `arF:=by
 refine `Ho
 ·rw[`aL];exact`Hp
 ·refine`Hq
  have en:`x3:=by
   refine`Hr;unfold L2.start Z8;rw[`aL];exact `Hs
  exact`arG
universe zz
universe DL
namespace L2
open Spec PyProof.Rows
theorem gk0:∀{ys:`j} {us:`H},`arH->StrsAre us ys
 | [],_,r=>`arI
 | `x4,_,r=>by
  rw[`aC] at r;cases r with
  | cons r1 r2 =>
   obtain⟨t,e⟩:=r1;subst e;exact `ak y t (gk0 r2)
theorem Vv0:MtR X "str.join" (λx xs H Q=>∃(sep:Str) (p:`e) (ys:`j),x=`J sep/\`hg/\SqL X.K H p `Bw/\`ap0/\Q `ap1 H):=by
 intro pins s σ H x xs v us Q I rx rs h;obtain⟨sep,p,ys,rfl,rfl,hq,hz,q⟩:=h;obtain⟨t,rfl⟩:=rx;obtain⟨u,rfl,ru⟩:=rs.one;cases ru;obtain⟨its,rv,pl,_⟩:=`eJ;exact join_list `fI (by simpa using gk0 rv) hz `arJ
theorem part_of{o:`aT}(p:`tY u o):∃l:`aH (Int×Tok),u=partValue l/\`d9 `bG=o:=by
 cases p with
 | none=>exact⟨`b,rfl,rfl⟩
 | int i t=>exact⟨`a (i,t),rfl,rfl⟩
theorem Rh0:SlR X (λx lo hi H Q=>∃z,x=`k6/\`pC/\Q `arK H):=by
 intro pins s σ H x v vl vu lo hi sl Q I rx hs pl pu h;obtain⟨z,rfl,hz,q⟩:=h;obtain⟨t,rfl⟩:=rx;obtain⟨l,rfl,rfl⟩:=part_of pl;obtain⟨u,rfl,rfl⟩:=part_of pu;refine⟨`i6,_,F.slot_str_getitem.lookup,X0 _ _ _,wpAny_getItem_str_slice (l:=l) (u:=u) (st:=`b) ?_ rfl (post_val_or_str ⟨B9 `arL hz,`arJ⟩)⟩;obtain⟨o,h1,h2,h3⟩:=hs;exact⟨o,h1,h2,h3⟩
universe L2
namespace DL
open Spec PyProof.Rows L2
noncomputable def tyD:D->`bj
 | `z => "NoneType"|`cx => "bool"|`dJ => `hh|`cj => `i6|`GN => `dC|`w5 => `dE|`my => `gq
noncomputable def okT(T:`bj)(f:`eK):Prop:=∀(K:`G) (d:D),W.kitOne K (`aZ (tyD d)) `fq=`a (f d)
theorem e80:okT `i6 isStr:=`arM
theorem zp0:okT `dC `gA:=`arM
section
theorem Wd0{T:`bj}{f:`eK}(hT:okT T f):`cv X `oq (λxs H Q=>∃B d x,xs=[x,`x5]/\`BT/\Q (.bl (f d)) H):=by
 intro pins s σ H xs us Q I rs h;obtain⟨B,d,x,rfl,r,q⟩:=h;obtain⟨u,c,rfl,ru,rc⟩:=rs.two;obtain rfl:c=`gs T:=rc;have F:∀tk,EP X `h σ Q (`d_ (f d)) { s with toks:=tk }:=λtk=>⟨`cx,H,`Ak tk,rfl,q⟩
 have e:=hT X.K d;cases d with
 | non=>rw[U8] at r;subst r;cases (show u=`ik from ru);exact N9 W.kitx_none `et `ns e `gp F
 | bl y=>rw[W4] at r;subst r;cases (show u=`AY y from ru);exact N9 W.kitx_bool `et `ns e `gp F
 | int i=>rw[n6] at r;subst r;obtain⟨t,rfl⟩:=(show `Rw from ru);exact N9 W.kitx_int `et `ns e `gp F
 | str y=>rw[X6] at r;subst r;obtain⟨t,rfl⟩:=(show ∃t,u=`z2 y t from ru);exact N9 W.kitx_str `et `ns e `gp F
 | tup ds =>
  rw[W0] at r;obtain⟨a,xs,rfl,hq,_⟩:=r;cases `UH;obtain⟨its,_,p,_⟩:=`d4 `hc;obtain⟨o,h1,h2,_⟩:=p;exact N9 W.kitx_tuple `et `arN e `gp F
 | lst ds =>
  rw[Y7] at r;obtain⟨a,xs,rfl,hq,_⟩:=r;cases `UH;obtain⟨its,_,p,_⟩:=`dK `hc;obtain⟨o,n,h1,h2,_⟩:=p;exact N9 W.kitx_list `et `arN e `gp F
 | dct ks ds =>
  rw[tl0] at r;obtain⟨a,xs,rfl,_,hq,_⟩:=r;cases `UH;cases ks with
  | inl ks =>
   obtain⟨_,_,vs,_,p⟩:=(show `cJ `a0 X.w H `P a (`T7) from `arO);obtain⟨o,es,ep,h1,h2,_⟩:=p;exact `arP
  | inr ks =>
   obtain⟨_,_,vs,_,o,es,ep,h1,h2,_⟩:=(show `cJ `a0 X.w H `P a (`T8) from `arO);exact `arP
theorem yr0{T:`bj}{f:`eK}{Tn:Str}{p p2 pos:Pos}(hT:okT T f)(hb:`dF Tn=`a `fq)(hm:`Ht)(hmT:`bn Tn=`b)(h:`bf)(hg:`Hu := by rfl)(hgT:Gl X Tn:=by rfl)
  (hn:Tn ≠`ts := by decide) (hd:(Tn==`jr)=`m:=by decide)
  (he:`ce [e,`Bx] `v=`pu::`UI:=by rfl) (he2:`UI=(`m,`bp (`Bx) `v)::`li:=by rfl)
  (hpl:(`d2 pos (`UI)).any `bG=`m:=by rfl) :
  PD X (`bi `Hv [e,`Bx] [] pos) (K7 f g) :=
 .mk λB δ=>(wz0 (Wd0 hT) hg hm PyProof.Rows.boot_isinstance (T4 `b4 (T4 (T30 (v:=`x5) hgT hmT hb rfl hn hd) J7 he2) he) `f `f he hpl).imp fun σ H Q ⟨d,en,h,k⟩=>by
  unfold K7 at h;cases e1:`as with
  | none=>rw[e1] at h;cases h
  | some x =>
   rw[e1] at h;cases h;exact⟨x,en,e1,λv H1 s1 r1=>⟨B,x,v,rfl,r1,k _ H1 s1 `uq⟩⟩
theorem qk0{C:`SV}[∀i j,`ku (C i j)]{g:`F3}{g':`arQ}(hg:`arR):Op2 K (rI C g) (ii λi j=>if C i j then `a `M1 else `b):=by
 intro H B x y dx dy d Q hb rx ry h k;cases dx<;>cases dy<;>simp only[ii] at h<;>try cases h
 rename_i i j;split at h
 ·cases h
  rw[n6] at rx ry;subst rx ry;exact⟨i,j,rfl,rfl,`x6,`arS⟩
 ·cases h
theorem g90{g:`F3}{g':`arQ}(hg:`arR):Op2 K (rI0 g) (ii λi j=>`a `M1):=by
 intro H B x y dx dy d Q hb rx ry h k;cases dx<;>cases dy<;>simp only[ii] at h<;>try cases h
 rename_i i j;rw[n6] at rx ry;subst rx ry;exact⟨i,j,rfl,rfl,`arS⟩
instance decDiv(i j:Int):`ku (Wf0 i j):=inferInstanceAs (`ku (`SX))
instance decPow(i j:Int):`ku (Yl0 i j):=inferInstanceAs (`ku (`SY))
variable{a:`D}
theorem wf0(ha:`cT)(hb:`c'):PD X (`m5 a .Sub b pos) (o2 ga gb u40):=sl0 Sk0 (g90 (g':=`al2) `sa) ha hb
theorem w00(ha:`cT)(hb:`c'):PD X (`m5 a .FloorDiv b pos) (o2 ga gb G6):=sl0 Ur0 (qk0 (C:=Wf0) (g':=`al5) `sa) ha hb
theorem Y5(ha:`cT)(hb:`c'):PD X (`m5 a .Mod b pos) (o2 ga gb b8):=sl0 Qa0 (qk0 (C:=`al6) (g':=`al7) `sa) ha hb
theorem h90(ha:`cT)(hb:`c'):PD X (`m5 a .Pow b pos) (o2 ga gb o90):=sl0 S40 (qk0 (C:=Yl0) (g':=`al8) `sa) ha hb
universe zz
universe DL
namespace L2
open Spec PyProof.Rows
noncomputable def Wn0(K:`G):R2:=λx y H Q=>∃l b xs zs,`xA/\`xw/\SqL K H l xs/\`arT/\`arU/\∀p,`e3->Q `d' (upd H p `UJ)
theorem d10:OpR X `xk (Wn0 X.K):=by
 intro pins s σ H x y v u Q I rx ry h;obtain⟨l,b,xs,zs,rfl,rfl,hH,hB,hz,q⟩:=h;cases rx;cases ry;obtain⟨its,r,p1,z1⟩:=`dK hH;obtain⟨J,r2,p2,z2⟩:=`dK hB;obtain⟨⟨cls,dd,data,sl⟩,ho,hc,n,hd⟩:=`gw;obtain⟨⟨a4,a3,data2,a2⟩,O,Z,n2,Y⟩:=`i!;simp only at hc hd Z Y;subst hc hd Z Y;have e:`bZ++`UK=(its++J).toArray:=`aB
 have a1:`arV:=by
  rw[`a?,`a?,← `aL,← `lm];exact hz
 refine w8 `Gh ⟨_,O,rfl⟩ noFill_list_add seq_list_add PySem.F.slot_list_add PySem.F.entry_list_add (PySem.F.args_list_add_2 _ _) (list_addW l b `bZ `UK n n2 dd a3 sl a2 a1) ⟨ho,O,?_⟩;rw[e];exact⟨`Q _,_,I.lnew (t':=`a1) (`xp r2) (`any),rfl,q _ I.fresh⟩
universe L2
namespace DL
open Spec PyProof.Rows L2
section
variable{a:`D}
theorem lu0(hb:`un){p:`e}(h:`e3):¬B p:=λz=>hb p z h
theorem pb0{p:`e}{xs:`C}(hb:`un)(h:`e3)(r:`bc):Rp K (upd H p `pm) B `Ba `d':=by
 rw[Y7];exact⟨p,xs,rfl,`o ⟨lu0 hb h,`o j5⟩,`arW⟩
theorem mr0{p:`e}{xs:`C}(hb:`un)(h:`e3)(r:`bc):Rp K (upd H p `pf) B (`cz) `d':=by
 rw[W0];exact⟨p,xs,rfl,⟨lu0 hb h,j5⟩,`arW⟩
theorem uc0:Op2 K (rI0 `S0) ltD:=g90 (g':=`S0) `arX
theorem jz0:Op2 K (rI0 `S1) gtD:=g90 (g':=`S1) `arX
theorem Zy0{x y:V}{dx dy:D}{b:`N}(rx:`Uf)(ry:`aqN)(h:`UL=`fD):`SZ/\`S_=b:=by
 cases dx<;>cases dy<;>simp only[eqS] at h<;>try cases h
 all_goals
  simp only[U8,W4,n6,X6] at rx ry;subst rx ry;refine`vj;simp
theorem W2:Op2 K rEq eqD:=by
 intro H B x y dx dy d Q hb rx ry h k;unfold eqD at h;cases e:`UL with
 | none=>rw[e] at h;cases h
 | some b =>
  rw[e] at h;cases h;obtain⟨h1,h2⟩:=`arY;exact`arZ
theorem gu0:Op2 K rNe neD:=by
 intro H B x y dx dy d Q hb rx ry h k;unfold neD at h;cases e:`UL with
 | none=>rw[e] at h;cases h
 | some b =>
  rw[e] at h;cases h;obtain⟨h1,h2⟩:=`arY;exact`arZ
theorem ey0:Op2 K `al' mu0:=by
 intro H B x y dx dy d Q hb rx ry h k;have hy:dy=`z:=by cases dy<;>first|rfl|cases h
 subst hy;cases h;rw[U8] at ry;refine⟨ry,`UM⟩;rw[W4];cases dx<;>simp only[U8,W4,n6,X6,W0,Y7,tl0] at rx
 all_goals first
  | (subst rx;rfl)
  | (obtain⟨a,xs,rfl,_⟩:=rx;rfl)
theorem Sa0(xs:`bP)(i:Int):`ar_=DL.atI xs i:=rfl
theorem tp0(n d:Nat)(o:`aT):`g3 n d o=sIx n d o:=by cases o<;>rfl
theorem d40{xs:`C}{i:Int}{d:D}(r:`bc)(h:DL.atI ds i=`bb):∃v,`ar_=`bo/\`dt:=by
 rw[Sa0];unfold DL.atI at h ⊢;rw[`aL];cases e:DL.ixN `bJ i with
 | none=>rw[e] at h;cases h
 | some j =>
  rw[e] at h;exact `xu h
theorem Rr0:Op2 K (rIx K) ixD:=by
 intro H B x y dx dy d Q hb rx ry h k;cases dx<;>cases dy<;>simp only[ixD] at h<;>try cases h
 ·split at h
  ·rename_i hz
   rw[X6] at rx;rw[n6] at ry;subst rx ry;obtain⟨c,hc,rfl⟩:=`x7;exact `q (`q ⟨_,_,c,rfl,rfl,hz,hc,`Ug⟩)
  ·cases h
 ·rw[W0] at rx
  rw[n6] at ry;subst ry;obtain⟨a,xs,rfl,q,r⟩:=rx;obtain⟨v,hv,rv⟩:=d40 r h;exact `q (`ar0)
 ·rw[Y7] at rx
  rw[n6] at ry;subst ry;obtain⟨a,xs,rfl,q,r⟩:=rx;obtain⟨v,hv,rv⟩:=d40 r h;exact `ar0
theorem p7(ha:`cT)(hb:`c')(hs:l50 b:=by exact `oN):PD X `Gt (o2 ga gb ixD):=N30 Rk0 Rr0 ha hb hs
structure PDO(X:Cx)(e:`p0)(g:`GT):Prop where
 mk::go:`ar1
instance{X:Cx}{e:`p0}{g:`GT}:`f8 (PDO X e g) (λ_=>`ar1):=⟨PDO.go⟩
theorem O1:PDO X `b W6:=.mk λB δ pins s σ H Q I ⟨o,en,h,k⟩=>by
 cases h;exact V90 `h s σ H Q I (k H `dd)
theorem P0(h:`bf):PDO X `LS (`e? g):=.mk λB δ pins s σ H Q I ⟨o,en,hq,k⟩=>by
 unfold someO at hq;cases e1:`as with
 | none=>rw[e1] at hq;cases hq
 | some d =>
  rw[e1] at hq;cases d<;>simp[asI] at hq
  subst hq;exact U20 `b4 `h s σ H Q I ⟨_,en,e1,λv H' s' r=>⟨_,`ar2,k H' s'⟩⟩
theorem ei0{xs:`C}(r:`bc)(lo hi:`aT):Rps K H B (`e5 ds lo hi) (`AI):=by
 unfold cutD q30;rw[`aL,tp0,tp0];exact(`Mk _).take _
theorem z30{d:D}{xs:`C}(h:Rps K H B [d] xs):∃v,xs=[v]/\`dt:=by
 rw[o7] at h;obtain⟨x,r,rfl,h1,h2⟩:=h;rw[o8] at h2;subst h2;exact`T'
theorem Qh0:FnR K (λxs H Q=>(`an4)∨∃p ys,`hg/\(`UN∨`UO)/\`an2) V2:=by
 intro H B xs ds d Q hb r h k;unfold V2 at h;split at h
 ·split at h
  ·cases h
   obtain⟨v,rfl,r1⟩:=`gM;rw[X6] at r1;subst r1;exact `o ⟨_,rfl,`x6,`up⟩
  ·cases h
 ·cases h
  obtain⟨v,rfl,r1⟩:=`gM;rw[Y7] at r1;obtain⟨a,ys,rfl,q,rr⟩:=r1;exact `q ⟨a,ys,rfl,`UP,`ar3⟩
 ·cases h
  obtain⟨v,rfl,r1⟩:=`gM;rw[W0] at r1;obtain⟨a,ys,rfl,q,rr⟩:=r1;exact `q ⟨a,ys,rfl,`UQ,`ar3⟩
 ·cases h
theorem Q8(hm:`bn `pB=`b)(ha:`UR)(hg:Gl X `pB := by rfl)(he:`fk:=by rfl)(hpl:`i?:=by rfl) :
  PD X (`bi (`a! `pB p) [e] [] pos) (oA gA V2):=y70 (ho0.or i90) Qh0 hm S2 ha hg `f `f he hpl
theorem ic0:∀{ds:`s} {xs:`C} {bs:`j},`bc->su0 ds=`a bs->xs=bs.map `Bv
 | [],_,_,r,h=>by
  cases h;rw[o8] at r;exact r
 | `aE,_,bs,r,h=>by
  rw[o7] at r;obtain⟨x,t,rfl,r1,r2⟩:=r;cases d<;>simp only[su0] at h<;>try cases h
  obtain⟨t',e,rfl⟩:=`x7;rw[X6] at r1;rw[r1,ic0 r2 e];rfl
theorem et0{apos cpos:Pos}(ho:PD X o g)(ha:`UR)(hbase:`jD o "join" `v `AP=`Ap:=by rfl)
  (hfew:(`x8
  &&`ar4)=`d:=by rfl)
  (hline:`hP:=by rfl) (hs:`fk:=by rfl) (hplain:`x9:=by rfl) :
  PD X (`bi (`jE o "join" `h!) [e] [] `cg) (ur0 g gA):=.mk λB δ =>
 (p80 F.plainAttrs_str F.slot_str_join F.type_str_join Vv0 (ho B δ) `bd `hQ `mr `i7 hs `oE).imp fun σ H Q ⟨d,en,h,k⟩=>by
  unfold ur0 at h;cases e1:`as with
  | none=>rw[e1] at h;cases h
  | some x =>
   cases e2:`bI with
   | none=>rw[e1,e2] at h;cases h
   | some ds =>
    rw[e1,e2] at h;simp only[`E] at h;unfold m30 at h;split at h
    ·cases e3:su0 _ with
     | none=>rw[e3] at h;cases h
     | some ys =>
      rw[e3] at h;simp only[`E] at h;split at h
      ·cases h
       refine⟨_,en,e1,`BW⟩;rw[X6] at r1;subst r1;refine⟨rfl,_,`g9,e2,`US⟩;obtain⟨w,rfl,r3⟩:=z30 r2;rw[Y7] at r3;obtain⟨a,zs,rfl,q,rr⟩:=r3;have:=ic0 rr e3;subst this;exact⟨_,a,ys,rfl,rfl,`dP,`x6,k _ H2 `ih (`Bk)⟩
      ·cases h
    ·cases h
theorem J8:FnR K (λxs H Q=>∃p ys,`hg/\((`UN/\`an9)∨(`UO/\Q `d' H))) V4:=by
 intro H B xs ds d Q hb r h k;unfold V4 at h;split at h
 ·cases h
  obtain⟨v,rfl,r1⟩:=`gM;rw[Y7] at r1;obtain⟨a,ys,rfl,q,rr⟩:=r1;exact⟨a,ys,rfl,`o ⟨`dP,λl hl=>k _ _ `BV (mr0 hb hl rr)⟩⟩
 ·cases h
  obtain⟨v,rfl,r1⟩:=`gM;have F:=r1;rw[W0] at r1;obtain⟨a,ys,rfl,q,rr⟩:=r1;exact⟨a,ys,rfl,`q ⟨`dP,k _ H `dd F⟩⟩
 ·cases h
universe zz
section
variable{a:`D}
theorem yf0(h:`cT):PD X (`LO .USub a pos) (unG zr0 ga):=.mk λB δ=>(Pu0 Qp0 `b4).imp fun σ H Q ⟨d,en,h,k⟩=>by
 unfold unG at h;cases e1:`hR with
 | none=>rw[e1] at h;cases h
 | some x =>
  rw[e1] at h;cases x<;>simp[zr0] at h
  subst h;exact⟨_,en,e1,λv H' s r=>⟨_,`ar2,k _ H' s `uo⟩⟩
theorem Xp0:PD X `UT `qq:=.mk λB δ pins s σ H Q I ⟨d,en,h,k⟩=>by
 cases h;have hb:`sb:=`x';have hf:`rS:=`fx;refine `ar5 ⟨`cu,_,`gx (a:=`A) (o:=`BK) (t':=`a1) `vs `aK
  ⟨`c_,`Hw,[],`U,`ar6 `P⟩,rfl,k _ _ (Z3 hf) ?_⟩
 rw[un0];exact⟨_,[],rfl,en.free hf,j5,rfl,`go⟩
noncomputable def FnD(P:`aa)(w:`L)(K:`G)(mg:`a7)(base:`u)(x:Str)(k:Nat)(ps:`j)(f:`K):Prop :=
 ∃(fa:`e) (fd:`S),`ar7/\`Hx
theorem d7{k:Nat}{ps:`j}{f:`K}(C:FnD `a0 X.w X.K `bn `dG x k ps f)(hr:`sc)(hk:k<=m)(ha:`kt)(hg:`cI:=by rfl)(hdb:`aW:=by decide)
  (he:`c9:=by rfl) (hpl:`f6:=by rfl):`xZ:=by
 obtain⟨fa,fd,F,hm,kp,hb⟩:=C;exact Un0 F `x! hm kp hb ha hg hdb he hpl
theorem zi0{sc scope:`dn}{elt iter tg:`D}{ifs:`bT}{N N':`j}{n:Nat}{caps:`l}{gi:`fi}{idx:`l}{f:`aX}{gt:`fh}{ge:`el}
  (ok:`Hy) (hidx:∀j∈idx,j<n) (hi:`oO)
  (hg:`r') (ht:`r!) (he:`r?)
  (hc:`bQ:=by rfl) (hsc:`kp:=by rfl) (hN:X.N=N:=by rfl) (hs:`i0:=by intro _;rfl) :
  `ary:=Tl0 hc hsc (hN▸ok) hidx hi hg ht he hs
theorem u70(i:Nat){y:Str}{py spos:Pos}{sc scope:`dn}{elt iter tg:`D}{ifs:`bT}{N N':`j}{n:Nat}{caps:`l}{gi:`fi}{idx:`l}{f:`aX}{gt:`fh}{ge:`el}
  (hnd:`FG) (ok:`Hy) (hidx:∀j∈idx,j<n) (hi:`oO)
  (hg:`r') (ht:`r!) (he:`r?)
  (hc:`bQ:=by rfl) (hsc:`kp:=by rfl) (hN:X.N=N:=by rfl)
  (hiN:`xJ:=by rfl) (hy:`xK:=by first|exact `b3|exact `jN)
  (hsw:`TY:=by rfl)
  (hs:`i0:=by intro _;rfl)
  (hf:`xL:=by first|exact `cd|exact `dr|assumption) :
  `arz:=fd0 i (hN▸hnd) hc hsc (hN▸ok) hidx hi hg ht he hiN hy hsw hs hf
universe zz
universe DL
namespace DL
open Spec PyProof.Rows
@[simp] noncomputable def zc0:Sl->Sl
 | `pX=>.sh `Ua
 | s=>s
@[simp] noncomputable def frz(δ:Ds):Ds:=δ.map zc0
@[simp] noncomputable def flat:`eK
 | `z=>`d|`cx=>`d|`dJ=>`d|`cj=>`d|_=>`m
@[simp] noncomputable def S7(g:GE):GE:=fun δ=>`UU λd=>if `Hz then `bb else `b
@[simp] noncomputable def xj0(g:GB):GB:=`ar8
@[simp] noncomputable def sj0(g:GE):GE:=`ar8
@[simp] noncomputable def frzAt(i:Nat)(δ:Ds):Ds:=match `cA with
 | `a s=>`bq i `UV
 | `b=>δ
@[simp] noncomputable def ux0(i:Nat)(G:GS):GS:=fun δ=>G (frzAt i δ)
@[simp] noncomputable def R0(i:Nat)(g:GE):GS:=fun δ=>`r_ λd=>.nx `nP
abbrev GX:=Ds->`aH (D×Ds)
@[simp] noncomputable def W5(g:GE):GX:=fun δ=>`r_ λd=>(d,δ)
variable{gx:DL.GX}
@[simp] noncomputable def V0(gx:GX)(ft:`aX):GS:=fun δ=>(`sd).bind λr=>(ft r.1 r.2).map .nx
@[simp] noncomputable def Y0(gx:GX):GS:=fun δ=>(`sd).map λr=>.nx r.2
@[simp] noncomputable def owL(i:Nat)(δ:Ds):`pL:=match `cA with
 | `ar9=>`la
 | _=>`b
@[simp] noncomputable def zf0(i:Nat)(g:GE):GX:=fun δ=>`x? λds=>`cS λd=>if `bJ<`R then `a (`z,`ar') else `b
@[simp] noncomputable def yk0(i:Nat)(g:GE):GX:=fun δ=>`x? λds=>`cS λd=>match d with
 | `Nv=>if `bJ+`g!<=`R then `a (`z,`ar!) else `b
 | _=>`b
@[simp] noncomputable def uy0(i:Nat):GX:=fun δ=>`x? λds=>(`ar?).map λd=>(d,`asa)
@[simp] noncomputable def setAt(i:Nat)(g:GE):`aX:=λv δ=>`x? λds=>`cS λd=>match d with
 | `df=>(ixN `bJ k).map λj=>`bq i (.ow (`n (ds.set j v)))
 | _=>`b
abbrev X5:=`Fk
@[simp] noncomputable def J2:D->`aH X5
 | `a4=>`a (`o i)
 | `es=>`a (`ma)
 | _=>`b
variable{ks:`asb}
noncomputable def rl0:`s->`aH (`de)
 | []=>`r0
 | `aE=>`UW λk=>(`HA).map (k::·)
@[simp] noncomputable def yw0:D->`aH (`de)
 | `cz=>`HA
 | _=>`b
noncomputable def yb0{κ:Type}[`kv]:`kw->`s->κ->`db
 | `mz,`aE,q=>if k=q then `bb else `asc
 | _,_,_=>`b
noncomputable def T9{κ:Type}[`kv](ks:`kw)(k:κ):`N:=ks.any λq=>`O (q=k)
noncomputable def U6{κ:Type}[`kv](ks:`kw)(k:κ):`kw:=if `PC then ks else ks++[k]
noncomputable def V6{κ:Type}[`kv](ks:`kw)(ds:`s)(q:κ)(v:D):`s:=if `se=`d then `asd (`adv) else ds++[v]
@[simp] noncomputable def qf0(i:Nat)(δ:Ds):`ase:=match `cA with
 | `a (.ow (`GZ))=>`a (ks,ds)
 | _=>`b
@[simp] noncomputable def putAt(i:Nat)(g:GE):`aX:=λv δ=>`asf λr=>`cS λd=>`UW λk =>
 if `aeg<`R then `a (`bq i (.ow (`bk (`o (U6 r.1 k)) (V6 r.1 r.2 k v)))) else `b
@[simp] noncomputable def ym0:`b?
 | `r3,d=>match ks with
  | `um=>`UW `asg
  | `r2=>(yw0 d).bind `asg
 | _,_=>`b
@[simp] noncomputable def V3(neg:`N):`b?
 | d,`r3=>match ks with
  | `um=>(J2 d).map `ash
  | `r2=>(yw0 d).map `ash
 | _,_=>`b
noncomputable def U3(gt:GB)(G:GS):Nat->`fj
 | 0,_=>`b
 | n+1,δ=>match `k! with
  | `dk=>`Bt
  | `g7=>match G δ with
   | `dO=>`asi
   | `xN=>`asi
   | `xO=>`dO
   | r=>r
  | `b=>`b
@[simp] noncomputable def yj0(i j:Nat):`aX
 | `mA,δ=>`a ((`bq i (.sh a)).set j (.sh b))
 | _,_=>`b
mutual
noncomputable def deq:D->`eK
 | `z,`z=>`d
 | `rP,`da=>`iY
 | `rP,`eC=>`Tq
 | `hd,`da=>`Tr
 | `hd,`eC=>`iY
 | `J a,`rQ=>`iY
 | `gT,`AO=>`UX
 | `gi,`t2=>`UX
 | _,_=>`m
noncomputable def y60:`s->`UY
 | [],[]=>`d
 | `rG,`x4=>`UZ&&`UX
 | _,_=>`m
end
mutual
noncomputable def lean:D->`U_
 | `my,_=>`m
 | `gT,n+1=>`U0
 | `gi,n+1=>`U0
 | `GN,0=>`m
 | `w5,0=>`m
 | _,_=>`d
noncomputable def leans:`s->`U_
 | [],_=>`d
 | `rG,n=>`bx x n&&`U0
end
@[simp] noncomputable def wp0(x y:D):`db:=if `asj then `a (.bl (`UZ)) else `b
@[simp] noncomputable def zg0(x y:D):`db:=if `asj then `a (.bl (!`UZ)) else `b
@[simp] noncomputable def eqF:D->`eK
 | `z,`z=>`d
 | `rP,`da=>`iY
 | `rP,`eC=>`Tq
 | `hd,`da=>`Tr
 | `hd,`eC=>`iY
 | `J a,`rQ=>`iY
 | _,_=>`m
@[simp] noncomputable def v70(neg:`N):`b?
 | x,`t2=>`ask
 | x,`AO=>`ask
 | _,_=>`b
@[simp] noncomputable def intOfD:`K
 | [`a4]=>`a `dL
 | [`tQ]=>`a (`L')
 | _=>`b
@[simp] noncomputable def yu0:`K
 | `mw=>`mv
 | [`cz]=>`mv
 | _=>`b
noncomputable def mkF(n:Nat)(N:`j)(G:GS)(ds:`s):`db:=if `ja then (match `jQ with
 | `uw=>`bb
 | `nq=>`asl
 | `a (.nx _)=>`a `z
 | _=>`b) else `b
theorem U0{G:GS}{d:D}(h:`asm):`ja/\`acR:=by
 unfold mkF at h;split at h
 ·rename_i hl
  refine`ya;split at h
  ·rename_i e;cases h;exact `r5
  ·rename_i e
   split at h
   ·cases h
   ·rename_i hn
    cases h;exact `q (`q `asn)
  ·rename_i e;cases h;exact `q (`o ⟨rfl,_,e⟩)
  ·cases h
 ·cases h
noncomputable def mkN(n:Nat)(N:`j)(G:GS)(ds:`s):`db:=if `ja then (match `jQ with
 | `nq=>`asl
 | _=>`b) else `b
theorem M5{G:GS}{d:D}(h:`aso):`ja/\`MW:=by
 unfold mkN at h;split at h
 ·rename_i hl
  refine`ya;split at h
  ·rename_i e
   split at h
   ·cases h
   ·rename_i hn
    cases h;exact`asn
  ·cases h
 ·cases h
theorem X4{G:GS}{d:D}(hl:`ja)(h:`acP)(hn:`MV:=by rfl):`aso:=by
 unfold mkN;rw[`ks,h];simp only[];rw[hn];rfl
@[simp] noncomputable def Q7(g:GE):GS:=fun δ=>`r_ .rf
@[simp] noncomputable def my0(i:Nat):GS:=fun δ=>match `cA with
 | `p1=>`nq
 | _=>`b
theorem Y4{G1 G2:GS}{d:D}(h:`h?=`nq):`GU=`nq:=`T5
theorem V7{g:GE}{d:D}(h:`oI):Q7 g δ=`nq:=by unfold Q7;rw[h];rfl
theorem Z1{G:GS}{d:D}(hl:`ja)(h:`acQ):`asm:=by
 unfold mkF;rw[`ks,h]
theorem v9{G1 G2:GS}{r:`ME}(h:`ap!)(k:`xM=r):`GU=r:=(Q00 h).trans k
@[simp] noncomputable def o9:`b?
 | `a4,`d6=>`a (`abB)
 | `es,`J y=>if `tR+y.length<=`R then `a (`J (x++y)) else `b
 | `gi,`t2=>`asp
 | `gT,`AO=>if `M6 then `a (`Th) else `b
 | _,_=>`b
@[simp] noncomputable def K6:`b?
 | `a4,`d6=>`asq
 | _,_=>`b
@[simp] noncomputable def slA(d:D)(lo hi:`aT):`db:=match d with
 | `k6=>if `pC then `a `arK else `b
 | `gi=>`a (`n (`U1))
 | `gT=>`a (`w (`U1))
 | _=>`b
@[simp] noncomputable def U9(g:GE)(gl gh:GO):GE:=fun δ=>`cS λd=>(gl δ).bind λl=>(gh δ).bind λh=>slA d l h
universe DL
variable{ks:`asb}{gx:DL.GX}
namespace L2
open Spec PyProof.Rows
section
variable[`kv]
noncomputable def zx0(kvs:`f0)(k:κ):`c?:=(kvs.find? `M9).map `cf
noncomputable def putK(kvs:`f0)(k:κ)(v:V):`f0 :=
 if `HB=`d then kvs.map (λkv=>if `BE then (kv.1,v) else kv) else kvs++[(k,v)]
theorem ul0{p:`z3}{r:`f0}{k:κ}(e:`oP):`asr=`tv:=`ass
theorem u60{p:`z3}{r:`f0}{k:κ}(e:¬`oP):`asr=zx0 r k:=`ass
theorem jp0(k:κ):∀kvs:`f0,`HB=(`jT).isSome
 | []=>rfl
 | p::r=>by
  rw[`i5]
  by_cases e:`oP
  ·simp only[ul0 e,`bv e,Bool.true_or,Option.isSome_some]
  ·rw[`yb,`bS e,Bool.false_or];exact jp0 k r
theorem zv0(kvs:`f0)(k:κ)(v:V):`ac7<=`kM+1:=by
 unfold putK;split
 ·rw[`F];omega
 ·rw[`aM,`ba,`ix];omega
theorem RelO.isSome_eq{o:`c?}{u:`gc}(r:RelO o u):`yc=u.isSome:=by
 cases o with
 | none=>cases u with
  | none=>rfl
  | some _=>exact`S3
 | some _=>cases u with
  | none=>exact`S3
  | some _=>rfl
theorem KV.val{kvs:`f0}{vs:`rm}(r:`kN)(k:κ):RelO `HC (`ast):=by
 unfold KV at r
 induction r with
 | nil=>exact `ns
 | @cons p q ps qs h t ih =>
  obtain⟨h1,h2⟩:=h
  by_cases e:`oP
  ·have e':q.1=k:=`M?
   have b:`asu=`a q.2:=`asv
   rw[ul0 e,b];exact h2
  ·have e':¬q.1=k:=`Na
   have b:`asu=`BF qs k:=`asv
   rw[`yb,b];exact ih
theorem KV.any{kvs:`f0}{vs:`rm}(r:`kN)(k:κ):`HB=`asw:=by
 unfold KV at r
 induction r with
 | nil=>rfl
 | cons h t ih=>rw[`i5,`i5,ih,h.1]
theorem KV.repl{kvs:`f0}{vs:`rm}(r:`kN)(k:κ){y:V}(ry:`ek) :
  KV `asx (`qk λkv=>if `BE then (kv.1,u) else kv):=by
 unfold KV at r ⊢
 induction r with
 | nil=>exact `U
 | @cons p q ps qs h t ih =>
  rw[`aC,`aC];refine `asy;obtain⟨h1,h2⟩:=h
  by_cases e:`oP
  ·rw[`hU,`asz];exact⟨h1,ry⟩
  ·rw[`gN,`asA];exact`BZ
theorem KV.put{kvs:`f0}{vs:`rm}(r:`kN)(k:κ){y:V}(ry:`ek):KV (`ig kvs k y) (stored vs k u):=by
 unfold putK stored;rw[r.any k]
 by_cases e:(`asw)=`d
 ·rw[`hU,`hU];exact `asB
 ·rw[`gN,`gN];exact `asC r ⟨rfl,ry⟩
theorem KV.length{kvs:`f0}{vs:`rm}(r:`kN):`kM=`bF:=Aa0 r
universe zz
theorem s70{P:`aa}{w:`L}{k:Key}(r:`U2):(M3 P w).is k u=`d:=by
 cases k with
 | inl i=>obtain⟨t,e⟩:=(show `Rw from r);subst e;exact fe0 P w i t
 | inr x=>obtain⟨t,e⟩:=(show `ajj from r);subst e;exact f90 P w x t
theorem k40{P:`aa}{w:`L}:∀{ks:`ep} {us:`H},`bm (`Nb) us->ItemsAre `z5 ks us
 | [],_,r=>`arI
 | `mz,_,r=>by
  rw[`aC] at r;cases r with
  | cons h t=>exact `ak (s70 h) (k40 t)
abbrev KT(H:Hp):`rn->`os->Prop:=`bK λp q=>`ajq
theorem KT.val{xs:`os}(r:`uG)(k:`ep):RelO `HC (`asD):=by
 induction r with
 | nil=>exact `ns
 | @cons p q ps qs h t ih =>
  obtain⟨h1,_,h2⟩:=h
  by_cases e:`oP
  ·have e':q.1=k:=`M?
   have b:`asE=`a q.2:=`asF
   rw[ul0 e,b];exact h2
  ·have e':¬q.1=k:=`Na
   have b:`asE=`BG qs k:=`asF
   rw[`yb,b];exact ih
theorem KT.repl{xs:`os}(r:`uG)(k:`ep){y:V}(ry:`ek) :
  KT H `asx (xs.map (`ii k u)):=by
 induction r with
 | nil=>exact `U
 | @cons p q ps qs h t ih =>
  rw[`aC,`aC];refine `asy;obtain⟨h1,h2,h3⟩:=h;unfold putAt
  by_cases e:`oP
  ·rw[`hU,`asz];exact⟨h1,h2,ry⟩
  ·rw[`gN,`asA];exact⟨h1,h2,h3⟩
theorem KT.put{xs:`os}(r:`uG)(k:`ep){b:`e}{y:V}(hb:`sf)(ry:`ek) :
  KT H (`ig kvs k y) (storedH xs k b u):=by
 have e:`HB=`asG:=by
  rw[jp0,(r.val k).isSome_eq,`U3]
 unfold putK storedH;rw[e]
 by_cases q:`asG=`d
 ·rw[`I q,`I q];exact `asB
 ·rw[`ay q,`ay q];exact `asC r ⟨rfl,hb,ry⟩
theorem KT.keeps{xs:`os}(r:`uG)(ht:∀b ys,H b=`a `t5->`kO=`a `t5):KT H' kvs xs :=
 `RE r λ_ _ z=>`ajy
section
variable{P:`aa}{w:`L}{h:`u}
theorem Wl0{u:HO}(ok:`gK)(e:Rd H a u):`ajC:=e.ok ok
theorem ph0{kvs:`gy}(ok:`gK)(e:`U4):`RB :=
 show `cJ P w H h a `t6 from Wl0 ok e
theorem je0{kvs:`gy}(ok:`gK)(e:`sg):`RB:=ph0 ok (`r5)
theorem tu0{ks:`ep}(ok:`gK)(e:H a=`a `asH):`asI h ks a:=by
 obtain⟨_,its,r,o,h1,h2,n,h3,_⟩:=(show `cJ P w H h a `asH from ok a _ e);exact⟨o,`bZ,n,h1,h2,h3,by simpa using k40 r⟩
theorem pj0(ok:`gK)(e:`U5):`pc/\`mS /\
  `asJ:=by
 obtain⟨z,y,xs,r,o,es,ep,h1,h2,h3,h4,h5⟩:=(show `cJ P w H h a (.dT kvs) from Wl0 ok e);refine⟨z,y,xs,r,o,es,ep,h1,h2,h3,h4,`rZ,h5⟩;have all:∀{l:`rn} {m:`os},KT H l m->∀x∈m,`asI h x.1 x.2.1:=by
  intro l m q
  induction q with
  | nil=>intro x hx;exact nomatch hx
  | @cons p q ps qs hq t ih =>
   intro x hx;rcases `xG with e|hx
   ·subst e
    exact tu0 ok (by rw[← hq.1];exact hq.2.1)
   ·exact ih x hx
 exact all r x hx
theorem Wy0(ok:`gK)(e:`U6):`pc/\`mS /\
  `asJ:=pj0 ok (`r5)
universe zz
noncomputable def DGet(H:Hp)(a:`e)(y:V)(r:`c?):Prop :=
 (∃kvs k,`U4/\y=kV k/\r=`jT)∨∃kvs k b,`U5/\`xw/\`sf/\r=`jT
noncomputable def DPut(H:Hp)(a:`e)(y v:V)(H':Hp):Prop :=
 (∃kvs k,`sg/\y=kV k/\`oQ/\H'=`U7) ∨
 ∃kvs k b,`U6/\`xw/\`sf/\`oQ/\H'=upd H a `asK
theorem DGet.k{kvs:`gy}{k:Key}(e:`sg):`p_ H a (kV k) `HC:=`o ⟨kvs,k,`r5,rfl,rfl⟩
theorem DGet.t{b:`e}{k:`ep}(e:`U6)(eb:`sf):`p_ H a `xv `HC:=`q ⟨kvs,k,b,`r5,rfl,eb,rfl⟩
theorem DPut.k{kvs:`gy}{k:Key}{v:V}(e:`sg)(hl:`oQ):DPut H a (kV k) v (`U7):=`o ⟨kvs,k,e,rfl,hl,rfl⟩
section
variable{σ:St}{s:`r}{y v:V}{r:`t}{o:`c?}
theorem Inv.big(I:`y):`sb:=by
 have h:`acZ:=`acY;exact E9 `f h
theorem Zk0(hu:`oF)(I:`y)(g:`p_ H a y `pi)(ry:`ek)(h:∀w' s',`HD->`dD v w'->Q w' s') :
  `i `ac A (`m! `b_ u) Q E s:=by
 rcases g with⟨kvs,k,e,ey,l⟩|⟨kvs,k,b,e,ey,eb,l⟩
 ·subst ey
  obtain⟨z,hd,vs,rel,dd⟩:=`yd;obtain⟨w',hw,F⟩:=`asL (v:=v) (o:=`ast) `asM;exact wpAny_getItem_of `ye `U8 hw (`asN)
 ·subst ey
  cases `HE;obtain⟨z,hd,xs,rel,dd⟩:=`yf;obtain⟨w',hw,F⟩:=`asL (v:=v) (o:=`asD) `asM;obtain⟨p,hp,J⟩:=`By hw;refine wpAny_getItem_heap `yg `yh dd hp ?_;rw[J];exact `asN
theorem Nc0(hu:`oF)(I:`y)(g:`U9)(ry:`ek)(h:∀s',`HD->Q (`d_ `yc) s') :
  `i `ac A (`gk .In u `b_) Q E s:=by
 rcases g with⟨kvs,k,e,ey,l⟩|⟨kvs,k,b,e,ey,eb,l⟩
 ·subst ey
  obtain⟨z,hd,vs,rel,dd⟩:=`yd;refine wpAny_in_of `ye hd `U8 ?_;rw[← `HF,← l];exact `HG
 ·subst ey
  cases `HE;obtain⟨z,hd,xs,rel,dd⟩:=`yf;refine wpAny_in_heap `yg `yh hd dd ?_;have q:=`HF;rw[`U3] at q;rw[← q,← l];exact `HG
theorem Th0(hu:`oF)(I:`y)(g:`U9)(ry:`ek)(h:∀s',`HD->Q (`d_ (!`yc)) s') :
  `i `ac A (`gk `p5 u `b_) Q E s:=by
 rcases g with⟨kvs,k,e,ey,l⟩|⟨kvs,k,b,e,ey,eb,l⟩
 ·subst ey
  obtain⟨z,hd,vs,rel,dd⟩:=`yd;refine wpAny_notIn_of `ye hd `U8 ?_;rw[← `HF,← l];exact `HG
 ·subst ey
  cases `HE;obtain⟨z,hd,xs,rel,dd⟩:=`yf;refine wpAny_notIn_heap `yg `yh hd dd ?_;have q:=`HF;rw[`U3] at q;rw[← q,← l];exact `HG
theorem t60{t':Nat}{ob:HO}(I:`y)(mu:Mut (H a))(hs:`akh)(he:`U')(new:`cJ `a0 X.w (upd H a ob) h' a ob) :
  Inv X `h σ (upd H a ob) `mW :=
 `To (x:=a) (e:=a) mu `h_ (λb q hb z=>(`gY b hb).trans z) he new
theorem ii0{P:`aa}{w:`L}{H':Hp}{kvs:`gy}{vs:`ab (Key×`t)}(z:`pc)(hd:`mS)(rel:`kN)(dd:h'.DictOf `z5 a vs) :
  `cJ P w H' h' a `t6:=⟨z,hd,vs,rel,dd⟩
theorem Zm0{Q:`f_}(hu:`oF)(I:`y)(g:DPut H a y v H')(ry:`ek)(rv:`HH)(h:∀s',`kl->`FH) :
  `i `ac A (`LT `b_ u r) Q E s:=by
 rcases g with⟨kvs,k,e,ey,l,eH⟩|⟨kvs,k,b,e,ey,eb,l,eH⟩
 ·subst ey eH
  obtain⟨z,hd,vs,rel,dd⟩:=`U!;have hz:`U?:=`Va
  have hl:`yi:=`yj
  refine wpAny_setItem_pairs (hsz:=hz) `ye dd `asO
  have he:`U':=`asP
  exact `asQ
 ·subst ey eH
  cases `HE;obtain⟨z,hd,xs,rel,dd⟩:=`asR;have hz:`iZ:=`asS
  have hl:`yi:=`yj
  refine wpAny_setItem_heap (hsz:=hz) `yg `yh dd `asO
  obtain⟨q,es,ep,hq,h2,h3,h4,_,h5⟩:=F;refine `asT;rw[`asU];exact ec
universe zz
noncomputable def W20(i:`D):Prop:=∀ov iv,`Gs i `m ov iv=`Tk [ov,iv] (`m! ov iv)
theorem Tv0{prog:`aa}{w:`L}{A:`a5}{E:`Z}{s:`r}{env:Env}{value slice:`D}{pos:Pos}{T id:`bj}{Q:`Z}
  (hl:`ann) (hs:W20 `mq)
  (h:`i `am A (`bp `rO env) (λo s₁=>`i `am A (`bp `mq env) (λi s₂=>s₂.TypeIs o T/\`i `am A (`m! o i) Q E s₂) E `dM) E s) :
  `i `am A (`bp (`tH `rO `mq pos) env) Q E s:=by
 refine `Td (C9 h (λo s₁ h₁=>C9 h₁ (λi s₂ h₂=>?_) `FK) `FK);obtain⟨hT,h₂⟩:=h₂;unfold subscriptTail;refine `co;rw[getitemInPython_of_ne hT.not_modules];refine A0 (l9 hT hl ?_);have F:`i `am A (`Gs `mq `m o i) (λr s₃=>`i `am A (letTemporaryGo `rO o r>>=λ_=>`a2 r) Q E s₃) E s₂:=by
  rw[hs o i];exact wpAny_operating (C9 h₂ (λr s₃ h₃=>A0 (wpAny_letTemporaryGo (A1 h₃))) `FK)
 first
  | exact A1 (A0 F)
  | exact A0 (A1 (A0 F))
  | exact A0 F
theorem fp0{σ:St}{s:`r}{y:V}{o:`c?}(I:`y)(g:`U9):`asV := by
 rcases g with⟨kvs,k,e,_,_⟩|⟨kvs,k,b,e,_,_,_⟩
 ·obtain⟨_,_,vs,_,dd⟩:=`yd
  exact `BM
 ·obtain⟨_,_,xs,_,dd⟩:=`yf
  exact `BM
noncomputable def Ph0(td ty:TE):TE:=fun σ H Q=>td σ H λx H1=>ty σ H1 λy H2=>∃a v,`f4/\`p_ H2 a y `pi/\Q v H2
noncomputable def Ni0(ty td:TE):TE:=fun σ H Q=>ty σ H λy H1=>td σ H1 λx H2=>∃a o,`f4/\`asW/\Q (.bl `yc) H2
noncomputable def Tg0(ty td:TE):TE:=fun σ H Q=>ty σ H λy H1=>td σ H1 λx H2=>∃a o,`f4/\`asW/\Q (.bl (!`yc)) H2
section
variable{i:`D}{td:TE}
theorem V70(hu:`kx)(ho:`HI)(hi:`Vb)(hs:W20 i):PE X `Sp (Ph0 td ty):=by
 intro pins s σ H Q I h;refine Tv0 PySem.F.slot_dict_getitem.lookup hs (thn `AQ λu s1 ⟨x,H1,I1,rx,q1⟩=>thn `alg λiv s2 ⟨y,H2,I2,ry,a,v,ex,g,q2⟩=>?_);subst ex;obtain rfl:u=`jR:=rx;exact⟨fp0 I2 g,Zk0 hu I2 g ry λw' s3 I3 J=>⟨v,H2,I3,J,q2⟩⟩
theorem Se0(hu:`kx)(hi:`Vb)(ho:`HI):PC X .In i o (Ni0 ty td):=by
 intro pins s σ H Q I h;refine `asX
 subst ex;obtain rfl:u=`jR:=rx;exact Nc0 hu I2 g ry λs3 I3=>⟨.bl ov.isSome,H2,I3,rfl,q2⟩
theorem lw0(hu:`kx)(hi:`Vb)(ho:`HI):PC X `p5 i o (Tg0 ty td):=by
 intro pins s σ H Q I h;refine `asX
 subst ex;obtain rfl:u=`jR:=rx;exact Th0 hu I2 g ry λs3 I3=>⟨.bl (!ov.isSome),H2,I3,rfl,q2⟩
universe zz
theorem ol0{P:`aa}{w:`L}(h:`u)(hb:`z4<`d1):`cJ P w H `asY `d1 `vr :=
 ⟨`c_,`Hw,[],`U,`ar6 h⟩
theorem Xf0{P:`aa}{w:`L}(h:`u)(hb:`z4<`d1):`cJ P w H `asY `d1 `Cn :=
 ⟨`c_,`Hw,[],`U,_,#[],0,`eq,⟨rfl,rfl,rfl⟩,rfl,rfl,P1⟩
noncomputable def Qs0:TE:=λ_ H Q=>∀p,`e3->Q `d' (upd H p `vr)
theorem Xw0:PE X `UT Qs0:=λpins s σ H Q I h =>
 `ar5 ⟨`cu,_,`gx (a:=`A) (o:=`BK) (t':=`a1) `vs `aK (ol0 `P I.big),rfl,h _ (`fx)⟩
noncomputable def Y50:`Vc->St->Hp->(`asZ)->Prop
 | [],_,H,Q=>Q [] H
 | (tk,tv)::r,σ,H,Q=>tk σ H λx H1=>tv σ H1 λy H2=>Y50 r σ H2 λps H3=>Q ((x,y)::ps) H3
abbrev VV:`uJ->`ab (`t×`t)->Prop:=`bK λp q=>`dD p.1 q.1/\`ajo
noncomputable def PPs(X:Cx)(pos:Pos)(keys:`as_)(values:`bT)(trs:`Vc):Prop :=
 ∀(pins:`av) (s:`r) (σ:St) (H:Hp) (Q:`asZ),`y->Y50 trs σ H Q ->
  `i `ac X.A (evalPairs (pairTrees keys values `v pos)) (λvs s'=>∃ps H',`kl/\VV ps vs/\Q ps H') `az s
theorem Vo0:PPs X pos [] [] []:=λpins s σ H Q I h=>pairTrees_nil_walk `amh
theorem Xr0{k v:`D}{ks:`as_}{vs:`bT}{tk:TE}{trs:`Vc}(hk:PE X k tk)(hv:PE X v tv)(hr:PPs X pos ks vs trs) :
  PPs X pos (`fU::ks) (`sh) ((tk,tv)::trs):=λpins s σ H Q I h =>
 pairTrees_cons_walk (thn (hk `h s σ H _ I h) λu s1 ⟨x,H1,I1,rx,q1⟩=>thn (hv `h s1 σ H1 _ I1 q1) λw2 s2 ⟨y,H2,I2,ry,q2⟩ =>
  thn (hr `h s2 σ H2 _ I2 q2) λws s3 ⟨ps,H3,I3,rel,q3⟩=>⟨(x,y)::ps,H3,I3,`ak ⟨rx,ry⟩ rel,q3⟩)
structure M2(X:Cx)(o:`D)(m:Str)(apos:Pos)(e f:`D)(cpos:Pos):Prop where
 base:`jD o m `v `AP=`Ap
 few:(`as0
 &&`as1)=`d
 line:`hP
 trees:`as2
noncomputable def IsD(H:Hp)(a:`e):Prop:=(∃kvs,`U4)∨∃kvs,`U5
theorem R70{σ:St}{s:`r}(I:`y)(d:IsD H a) :
  `asV/\(∀b,`jR=`m'->∃ob,`kR=`w7/\`an!)/\`mS:=by
 rcases d with⟨kvs,e⟩|⟨kvs,e⟩
 ·obtain⟨_,hd,vs,_,dd⟩:=`yd
  refine`as3;cases q;obtain⟨ob,_,_,h1,h2,_⟩:=dd;exact`as4
 ·obtain⟨_,hd,xs,_,dd⟩:=`yf
  refine`as3;cases q;obtain⟨ob,_,_,h1,h2,_⟩:=dd;exact`as4
universe L2
namespace DL
open Spec PyProof.Rows L2
section
variable{σ σ':St}
theorem Gr.fresh{p:`e}{o:HO}(h:`e3):Gr H `Ue B `Bq:=λb u n e=>by
 have hb:b≠p:=T7 e h;exact⟨λz=>`cU n hb,by rw[Z0 hb];exact e⟩
theorem Gr.own{o:HO}(h:B a):Gr H `kk B B:=λb u n e=>⟨n,by rw[Z0 (λz=>n (by rw[z];exact h))];exact e⟩
theorem RpO.mono{d:D}(s:`as5)(g:`kr)(h:`oL):RpO K H' B' d a:=by
 cases d<;>try exact `hK
 ·obtain⟨xs,e,r⟩:=h;exact⟨xs,s _ e,`uu⟩
 ·obtain⟨xs,e,l,r⟩:=h;exact⟨xs,s _ e,l,`uu⟩
theorem RpL.mono{d:D}(s:`as5)(g:`kr)(h:`nl):RpL K H' B' d a:=by
 cases d with
 | tup es=>obtain⟨ds,q,xs,e,r⟩:=h;exact⟨ds,q,xs,s _ e,`uu⟩
 | _=>exact(RpO.mono s g `G1).toL
theorem Pd.impI{F G:`mc}:∀{l:`bP} {m:`md},(∀(i:Nat) a b,`G6->`aqy->`aaZ)->`aqz
 | _,_,_,`U=>`U
 | _,_,h,`eH=>`ak (h 0 _ _ rfl rfl r) (`BN (λi a b e1 e2=>h `cy a b (`G_) (by simpa using e2)) t)
theorem u30:∀{l:`bP} {i:Nat} {a:α},`G6->l.set i a=l
 | [],_,_,h=>`i1
 | x::l,0,a,h=>by simp at h;subst h;rfl
 | x::l,i+1,a,h=>by rw[`Vd,u30 `n5]
theorem Pd.setR{F:`mc}{a:α}{b:β}(r:`z6){l:`bP}{m:`md}(e:`G6)(h:`pO):`bK F l `aqA:=by
 have:=`xS r i h
 rwa [u30 e] at this
theorem get_set{l:`bP}{a b:α}(h:(l.set i a)[j]?=`fD):(i=j/\a=b/\j<`cO)∨(i≠j/\l[j]?=`fD):=by
 by_cases e:i=j
 ·subst e
  by_cases hl:i<`cO
  ·rw[`xT] at h
   exact `o ⟨rfl,`p7,hl⟩
  ·rw[`xU] at h;cases h
 ·rw[`jq e] at h
  exact `q ⟨e,h⟩
theorem Env.at(e:`bC){d:D}(h:`ac!):∃a,`ie/\`aqx:=by
 obtain⟨o,h1,a,rfl,hb,r⟩:=`aqE;exact⟨a,h1,hb,r⟩
theorem Env.mut(e:`bC){d:D}{o:HO}(hi:`yk)(hs:`ie)(r:RpL K `kk B d a):Env K `kk B σ `nP:=by
 obtain⟨a',h1,hb,_⟩:=e.at hi;rw[hs] at h1;cases h1;refine`as6
 ·
  have h0:`bK (λ(o':`c?) (s:Sl)=>SlR K `kk B o' s∨`Ve) σ δ:=`oM (λo' s h=>by
   cases s with
   | un=>exact `Vf
   | ex c n=>obtain⟨v,e,r⟩:=h;exact `as7
   | sh d=>obtain⟨v,e,r⟩:=h;exact `as7
   | ow d =>
    obtain⟨b,e,J,r⟩:=h
    by_cases z:b=a
    ·subst z;exact `Vg
    ·exact `o ⟨b,e,J,`e2 (λo h=>by rw[Z0 z];exact h) `gr⟩) `ib
  have h1:=`as8;refine `as9;rcases h with h|⟨d',rfl,rfl⟩
  ·exact h
  ·rcases `Vh with⟨rfl,e3,_⟩|⟨F,e3⟩
   ·cases e3;exact`Ng
   ·exact `as'
 ·by_cases z':b=a
  ·subst z';rw[j5];exact λz=>nomatch z
  ·rw[Z0 z'];exact `hT b z
 ·have q1:`as!:=by
   rcases `oR with⟨rfl,_,_⟩|⟨_,h⟩
   ·exact`HJ
   ·exact`HK
  have q2:`as?:=by
   rcases `yl with⟨rfl,_,_⟩|⟨_,h⟩
   ·exact`HJ
   ·exact`HK
  obtain⟨d1,q1⟩:=q1;obtain⟨d2,q2⟩:=q2;exact `ata
theorem EnvS.mut(en:`du)(s:`ci)(b1:`pS)(b2:`pT){d:D}{o:HO}(hi:`yk)(hs:`ie)
  (env:Env K (upd H' a o) B σ `nP):`cB K `af `ad (upd H' a o) σ `nP:=by
 have h0:=`atb;refine`atc
 ·have:`uL:=λz=>by rw[z,h0] at h;cases h
  rw[Z0 `B];exact s _ _ `atd
 ·rcases `oR with⟨rfl,_,_⟩|⟨_,h⟩
  ·rw[hs] at h2;cases h2;exact h0
  ·exact `ate
theorem EnvS.take(en:`du)(b1:`pS)(b2:`pT)(e:`bC)(i:Nat){d:D}{p:`e}(hp:`e3)(s:`ci)
  (r:`acL):`cB K `af `ad H' (`mY i (`a `d')) `nP:=by
 have g:Gr H H' B `Bq:=λb u n h=>⟨λz=>`cU n (T7 h hp),`Vi⟩
 have F:`aqZ:=en.same.free hp;have live:∀{j:Nat} {d':D} {b:`e},`k?=`a (.ow d')->`pI=`a (`a `xv)->b≠p:=λ{j d' b} h1 h2=>by
  obtain⟨a,q1,q2,q3⟩:=e.at h1;rw[h2] at q1;cases q1;exact λz=>`hT _ q2 (by rw[z];exact hp)
 refine⟨`Hg s,⟨`acK,λa z=>`o `Nj,`g',?_,`g',`aqG⟩,`atf,`lk⟩
 ·rcases z with z|rfl
  ·exact b2 a z
  ·exact `q F
 ·refine `xS ⟨p,rfl,`dr,r.toL⟩ i (`oM (λo sl h=>?_) `ib)
  cases sl with
  | un=>trivial
  | ex c n=>obtain⟨v,e,r⟩:=h;exact`UC
  | sh d=>obtain⟨v,e,r⟩:=h;exact`UC
  | ow d=>obtain⟨b,e,J,r⟩:=h;exact⟨b,e,`o J,`e2 (λo h=>`Vi) g⟩
 ·rcases z with z|rfl
  ·intro q
   cases h:H a with
   | none=>exact `hT a z h
   | some u=>rw[`Vi] at q;cases q
  ·exact r.live
 ·rcases `oR with⟨rfl,_,_⟩|⟨n1,h1⟩
  ·rcases `yl with⟨rfl,_,_⟩|⟨n2,h2⟩
   ·rfl
   ·rcases `jU h3 with⟨_,e3,_⟩|⟨n3,_⟩
    ·cases e3
     rw[`jq n2] at h4;exact `X rfl (live h2 h4)
    ·exact `atg
  ·rcases `yl with⟨rfl,_,_⟩|⟨n2,h2⟩
   ·rcases `jU h4 with⟨_,e4,_⟩|⟨n4,_⟩
    ·cases e4
     rw[`Vj] at h3;exact `X rfl (live h1 h3)
    ·exact `X rfl n4
   ·rw[`Vj] at h3
    rw[`jq n2] at h4;exact `aqI
 ·rcases `oR with⟨rfl,_,_⟩|⟨n1,h1⟩
  ·rcases `yl with⟨_,e3,_⟩|⟨n3,_⟩
   ·cases e3;exact F
   ·exact `atg
  ·rw[`Vj] at h2
   exact `ath
theorem Env.frz(e:`bC):∃B':BS,(`xR)/\(∀a,B a->`nk∨`Ni)/\Env K H B' σ `ati:=by
 refine⟨`atj,`BO,`g',?_,λa z=>`hT a z.1,λi j a ds es h1 _ _ _=>?_⟩
 ·by_cases q:`Ni
  ·exact `ym
  ·exact `HL
 ·have:`bK (λo s=>SlR K H (`atj) o `UV) σ δ:=`BN (λi o s e1 e2 h=>by
   cases s with
   | un=>trivial
   | ex c n=>obtain⟨v,e,r⟩:=h;exact`Nk
   | sh d=>obtain⟨v,e,r⟩:=h;exact`Nk
   | ow d =>
    obtain⟨a,rfl,hb,r⟩:=h;exact⟨_,rfl,r.rp (`BO) λz=>z.2 ⟨i,d,e2,e1⟩⟩) `ib
  have mp:∀{l:St} {m:Ds} {F:`c?->Sl->Prop},`bK (λo s=>F o `UV) l m->`bK F l (m.map zc0):=by
   intro l m F h
   induction h with
   | nil=>exact `U
   | cons r t ih=>exact `aol
  exact mp `B
 ·unfold DL.frz at h1
  rw[`dQ] at h1;cases q:`cA with
  | none=>rw[q] at h1;cases h1
  | some s=>rw[q] at h1;cases s<;>cases h1
theorem EnvS.frz(en:`du):`cB K `af `ad H σ `ati:=by
 obtain⟨B,b1,b2,env⟩:=`bX;obtain⟨B',c1,c2,F⟩:=env.frz;refine⟨`ic,`atk,λi ds a h1 _=>?_,`lk⟩
 ·rcases `atl with q|⟨i,d,q1,q2⟩
  ·exact q
  ·exact `atm
 ·unfold DL.frz at h1
  rw[`dQ] at h1;cases q:`cA with
  | none=>rw[q] at h1;cases h1
  | some s=>rw[q] at h1;cases s<;>cases h1
theorem Env.frzAt(e:`bC)(i:Nat):∃B':BS,(`xR)/\(∀a,B a->`nk∨∃(d:D),`ac?)/\Env K H B' σ (DL.frzAt i δ):=by
 unfold DL.frzAt;cases h:`cA with
 | none=>exact`HM
 | some s =>
  cases s with
  | un=>dsimp only [zc0];rw[u30 h];exact`HM
  | ex c n=>dsimp only [zc0];rw[u30 h];exact`HM
  | sh d=>dsimp only [zc0];rw[u30 h];exact`HM
  | ow d =>
   obtain⟨a,h1,hb,r⟩:=e.at h;refine⟨`atn,`ato,`Nf,?_,λb z=>`hT b z.1,λj k b ds es J O h3 h4=>?_⟩
   ·by_cases q:b=a
    ·subst q;exact `q ⟨d,rfl,h1⟩
    ·exact `HL
   ·have h0:`bK (λ(o':`c?) (s:Sl)=>SlR K H (`atn) o' s∨`Ve) σ δ:=`oM (λo' s h=>by
     cases s with
     | un=>exact `Vf
     | ex c n=>obtain⟨v,e,r⟩:=h;exact `atp
     | sh d=>obtain⟨v,e,r⟩:=h;exact `atp
     | ow d =>
      obtain⟨b,e,Y,r⟩:=h
      by_cases z:b=a
      ·subst z;exact `Vg
      ·exact `o ⟨b,e,⟨Y,z⟩,`e2 `Vk (`lb `BO)⟩) `ib
    have h2:=Pd.setR (i:=i) (b:=Sl.sh `Ua) (`o ⟨`a9,rfl,r.rp (`ato) λz=>z.2 rfl⟩) h1 h0;refine `BN (λj o' s e1 e2 hh=>?_) h2;rcases hh with hh|⟨d',rfl,rfl⟩
    ·exact hh
    ·rcases `Vh with⟨rfl,e3,_⟩|⟨F,e3⟩
     ·cases e3
     ·exact `X (`lc i j a d d' h e3 h1 e1) F
   ·rcases `jU J with⟨_,q,_⟩|⟨_,q1⟩
    ·cases q
    ·rcases `jU O with⟨_,q,_⟩|⟨_,q2⟩
     ·cases q
     ·exact `lc j k b ds es q1 q2 h3 h4
theorem EnvS.frzAt(en:`du)(i:Nat):`cB K `af `ad H σ (DL.frzAt i δ):=by
 obtain⟨B,b1,b2,env⟩:=`bX;obtain⟨B',c1,c2,F⟩:=env.frzAt i;refine⟨`ic,`atk,`atf,`lk⟩
 ·rcases `atl with q|⟨d,q1,q2⟩
  ·exact q
  ·exact `atm
 ·unfold DL.frzAt at h1
  cases q:`cA with
  | none=>rw[q] at h1;exact `ath
  | some s =>
   rw[q] at h1;rcases `oR with⟨rfl,q',_⟩|⟨_,q1⟩
   ·cases s<;>cases q'
   ·exact `nt j ds a q1 h2
theorem e30{d:D}{v:V}(h:`Hz)(r:`dt):`aqi:=by
 cases d<;>simp[`e4] at h
 ·rw[U8] at r ⊢;exact r
 ·rw[W4] at r ⊢;exact r
 ·rw[n6] at r ⊢;exact r
 ·rw[X6] at r ⊢;exact r
universe zz
section
variable{tg:`D}{st:`a8}{g:GE}{gt:GB}{G:GS}
theorem zn0(h:`bf):PD X e (S7 g):=.mk λB δ pins s σ H Q I ⟨d,en,hq,k⟩=>by
 obtain⟨B',c1,c2,F⟩:=`uM;unfold S7 at hq;cases e1:`nr with
 | none=>rw[e1] at hq;cases hq
 | some x =>
  rw[e1] at hq
  by_cases hf:`ac3
  ·simp only[`E,`HN] at hq
   cases hq;exact h B' `lj `h s σ H Q I ⟨_,F,e1,λv H' s' r=>k v H' s' (e30 hf r)⟩
  ·simp only[`E,`Vl] at hq
   cases hq
theorem t80(h:`aqT):PTD X e (xj0 gt):=.mk λB δ pins s σ H Q I ⟨d,en,hq,k⟩=>by
 obtain⟨B',c1,c2,F⟩:=`uM;exact h B' `lj `h s σ H Q I ⟨d,F,hq,k⟩
theorem wm0(i:Nat)(h:`Ut):PSD X st (ux0 i G):=.mk λH₀ B₀ δ pins s σ H D I ⟨r,en,hq,k⟩=>h `af `ad _ `h s σ H D I ⟨r,en.frzAt i,hq,k⟩
theorem uo0(h:`bf):PSD X `xb (Z5 (sj0 g)):=.mk λH₀ B₀ δ pins s σ H D I ⟨r,en,hq,k⟩ =>
 j7 h `af `ad `lj `h s σ H D I `atq
theorem Q6{gA:GA}(h:`G!):PDF X `S5 (W8 gA) :=
 .mk λB δ=>`aqX fun σ H Q ⟨d,en,h,k⟩=>by
  unfold W8 at h;cases e1:`bI with
  | none=>rw[e1] at h;cases h
  | some ds =>
   rw[e1] at h
   by_cases hl:`kq
   ·simp only[`E,`ks] at h
    cases h;refine⟨ds,en,e1,λvs H1 s1 r1=>⟨`acD,λp hp=>k _ _ (`p4 hp) (`lf `id) ⟨vs,j5,r1.mono `Cp⟩⟩⟩
   ·simp only[`E,`Ul] at h
    cases h
theorem xy0:PDF X `UT `qq:=.mk λB δ=>Xw0.imp fun σ H Q ⟨d,en,h,k⟩=>by
 cases h;exact λp hp=>k p _ hp `id ⟨[],j5,rfl,`go⟩
theorem V8(i:Nat){px:Pos}(h:`r9)(hN:`f3)(hi:`bW:=by rfl)(hx:`mf:=by first|exact `b3|exact `jN)
  (hs:`LU `HO e `LR `v=`tF:=by rfl) (hw:`LV `HO e `v=`kZ:=by rfl)
  (h1:(`js `HO `v).map `cf=[`gj `e6 `v]:=by rfl)
  (hf:`mg:=by first|exact `cd|exact `dr|assumption):PSD X (`Aq `HO e pos) (R0 i g):=.mk λH₀ B₀ δ pins s σ H D I ⟨r,en,e1,k⟩=>by
 unfold R0 at e1;obtain⟨B,b1,b2,env⟩:=`bX;cases e2:`as with
 | none=>rw[e2] at e1;cases e1
 | some d =>
  rw[e2] at e1;cases e1;exact nu0 `b4 (`He) hs hw h1 `h s σ H D I ⟨d,env,e2,λp H' hp s' r=>k _ H' (en.take b1 b2 env i hp s' r)⟩
universe zz
universe DL
namespace L2
open Spec PyProof.Rows
open PySem.AutoSeq1 (wpAny_loadPart')
theorem c00(p:`e)(xs:`aI)(k:Nat)(q:`e)(ys:`aI)(m:Nat)(dq:`a6)(sq:`ff)(h0:¬(!xs.isEmpty&&`TA (`nB+`p?))=`d)(h1:`nB<=`R)(h2:`nB+`p?<=`R+1) :
  `oS (Builtin.«list.extend» ⟨[`e_,`Q q],[]⟩) (λ_ R s=>`eo p=`a { cls:=`c!,dict:=`b,data:=`a' xs k,slots:=#[] }/\`eo q=`a { cls:=`c!,dict:=dq,data:=`a' ys m,slots:=sq }/\R (.ok (`dA `ik)) { s with heap:=`jY p (`e8 λz=>z++ys) }) :=
 `yn λprog w A R s h=>by
  obtain⟨hp,g,d,tk,os⟩:=s;obtain⟨hl,hb,h⟩:=h;have f1:=`atr;have f2:=AutoSeq1.sub_tuple_tuple;have f3:=AutoSeq1.sub_list_list;have f4:=AutoSeq1.sub_tuple_list;have f5:=AutoSeq1.sub_list_tuple;have F:(xs++ys).size<=`R+1:=by rw[`ats];exact h2
  wp_walk using (n9 hl rfl (hz:=h1) (_hz':=F)),`jb,G0 hb
  exact`ky
noncomputable def Yu0(K:`G):`i3:=λx vs H Q=>∃l b xs zs,`xA/\vs=[`m']/\`rR/\`arT/\`arU/\Q `z (upd H l `UJ)
theorem ce0:MtM X "list.extend" (Yu0 X.K):=by
 intro pins s σ H x vs v us Q I rx rv h;obtain⟨l,b,xs,zs,rfl,rfl,hH,hB,hz,q⟩:=h;cases rx;obtain⟨u,rfl,ru⟩:=rv.one;cases ru;obtain⟨z,its,n,r,hl,e⟩:=`GD;obtain⟨J,r2,p2,z2⟩:=`dK hB;obtain⟨⟨a5,a4,data2,a3⟩,a1,Z,n2,Y⟩:=`i!;simp only at Z Y;subst Z Y;have hl2:=`lm;have a2:`arV:=`att
 have O:¬(!its.toArray.isEmpty&&`TA (`acU))=`d:=by
  rw[W50 a2,`Vm];exact B7
 refine X1 F.slot_list_extend `GE F.entry_list_extend (F.args_list_extend_2 _ _)
  (c00 l `bZ n b `UK n2 a4 a3 O `xB `g) ⟨e,a1,?_⟩
 refine⟨`z,_,`GF (its':=its++J) hH e `T (`xp r2) ?_,rfl,q⟩;rw[`aM];omega
noncomputable def Qn0:`Sl:=λo i v H Q=>∃a H',o=`a9/\DPut H a i v H'/\Q H'
theorem set_dict(hu:`kx):X20 X Qn0:=by
 intro pins s σ H o i v ov iv u Q I ro ri rv h;obtain⟨a,H',rfl,g,q⟩:=h;cases ro;exact Zm0 hu I g ri rv λs3 I3=>⟨H',I3,q⟩
universe L2
namespace DL
open Spec PyProof.Rows L2
section
variable{σ σ':St}
theorem Rps.set:∀{ds:`s} {xs:`C} {d:D} {v:V} (j:Nat),`bc->`dt->Rps K H B (ds.set j d) `ab_
 | [],_,_,_,_,h,_=>`G0
 | `aE,_,_,_,0,h,r=>by
  rw[o7] at h;obtain⟨y,t,rfl,h1,h2⟩:=h;rw[`atu,`atu,o7];exact⟨_,_,rfl,r,h2⟩
 | `aE,_,_,_,j+1,h,r=>by
  rw[o7] at h;obtain⟨y,t,rfl,h1,h2⟩:=h;rw[`Vd,`Vd,o7];exact⟨_,_,rfl,h1,Rps.set j h2 r⟩
theorem Rps.dropLast{xs:`C}(h:`bc):Rps K H B `ac2 `GB:=by
 rw[`atv,`atv,h.length];exact h.take _
structure EnvV(K:`G)(H₀:Hp)(B₀:BS)(H:Hp)(σ:St)(δ:Ds)(d:D)(v:V):Prop where
 same:`Ha
 ex:∃B:BS,`Hb/\`Hc/\`bC/\`dt
 fr:`aqY
 b0:`Ur
theorem EnvV.s{d:D}{v:V}(h:`Vn):`du:=⟨h.same,let ⟨B,b1,b2,e,_⟩:=h.ex;⟨B,b1,b2,e⟩,h.fr,h.b0⟩
theorem EnvV.mk'{d:D}{v:V}(h:`du)(b1:`pS)(b2:`pT)(e:`bC)(r:`dt):`Vn:=⟨h.same,⟨B,b1,b2,e,r⟩,h.fr,h.b0⟩
universe zz
noncomputable def tX(K:`G)(H₀:Hp)(B₀:BS)(δ:Ds)(gx:GX):TE:=fun σ H Q=>∃r,`du/\`sd=`bL/\∀v H',EnvV K `af `ad H' σ r.2 r.1 v->`Ai
structure PX(X:Cx)(e:`D)(gx:GX):Prop where
 mk::go:`atw
instance{X:Cx}{e:`D}{gx:GX}:`f8 (`Vo) (λ_=>`atw):=⟨PX.go⟩
noncomputable def tTG(K:`G)(H₀:Hp)(B₀:BS)(ft:`aX)(d:D)(δ:Ds):TG:=λv σ H Q=>∃δ',`Vn/\ft d δ=`nj/\∀σ' H',`aq6->`abl
structure PTG(X:Cx)(tg:`D)(ft:`aX):Prop where
 mk::go:`atx
instance{X:Cx}{tg:`D}{ft:`aX}:`f8 (`aty) (λ_=>`atx):=⟨PTG.go⟩
section
variable{tg:`D}{st:`a8}{g:GE}{gt:GB}{G:GS}
theorem z00(h:`bf):PX X e (W5 g):=.mk λH₀ B₀ δ pins s σ H Q I ⟨r,en,e1,k⟩=>by
 unfold W5 at e1;obtain⟨B,b1,b2,env⟩:=`bX;cases e2:`as with
 | none=>rw[e2] at e1;cases e1
 | some d =>
  rw[e2] at e1;cases e1;exact h B δ `h s σ H Q I ⟨d,env,e2,λv H' s' r=>k v H' (`nw (`Bn s') b1 b2 (`Uw) r)⟩
theorem qw0(h:`jS=`la):`cA=`ar9:=by
 unfold owL at h;split at h
 ·cases h;assumption
 ·cases h
theorem da0{r:`BD}(h:`uE=`bL):`cA=`a (.ow (`atz)):=by
 unfold qf0 at h;split at h
 ·cases h;assumption
 ·cases h
theorem wd0(i:Nat)(h:`bf)(hN:`bW:=by rfl)(hv:`dX:=by first|exact `b3|exact `eL|exact `eM)(hd:`aW:=by decide)(hcd:`eI:=by decide)
  (hbase:`atA:=by rfl)
  (hfew:(`x8
  &&`Vp)=`d:=by rfl)
  (hline:`hP:=by rfl) (hs:`fk:=by rfl) (hplain:`x9:=by rfl) :
  PX X `atB (zf0 i g):=.mk λH₀ B₀ δ pins s σ H Q I ⟨r,en,e1,k⟩=>by
 unfold zf0 at e1;obtain⟨B,b1,b2,env⟩:=`bX;cases e2:`jS with
 | none=>rw[e2] at e1;cases e1
 | some ds =>
  cases e3:`as with
  | none=>rw[e2,e3] at e1;cases e1
  | some d =>
   rw[e2,e3] at e1;simp only[`E] at e1;split at e1
   ·rename_i hz
    cases e1;have hi:=`yo;obtain⟨a,J,hb,xs,hx,rx⟩:=`jc;refine p80 o0 Cg0 Ch0 rt0 `jd `Vq `hQ `mr `i7 hs `oE `h s σ H Q I
     `atC
    have F:Env X.K `atD B σ (`ar'):=`yp hi J ⟨_,j5,`atE⟩;exact `atF
   ·cases e1
theorem mi0(i:Nat)(h:`bf)(hN:`bW:=by rfl)(hv:`dX:=by first|exact `b3|exact `eL|exact `eM)(hd:`aW:=by decide)(hcd:`eI:=by decide)
  (hbase:`jD `e6 "extend" `v `p2=`nu:=by rfl)
  (hfew:(`x8
  &&`Vp)=`d:=by rfl)
  (hline:`hP:=by rfl) (hs:`fk:=by rfl) (hplain:`x9:=by rfl) :
  PX X (`bi (`jE `e6 "extend" `h!) [e] [] `cg) (yk0 i g):=.mk λH₀ B₀ δ pins s σ H Q I ⟨r,en,e1,k⟩=>by
 unfold yk0 at e1;obtain⟨B,b1,b2,env⟩:=`bX;cases e2:`jS with
 | none=>rw[e2] at e1;cases e1
 | some ds =>
  cases e3:`as with
  | none=>rw[e2,e3] at e1;cases e1
  | some d =>
   rw[e2,e3] at e1;simp only[`E] at e1;cases d<;>try cases e1
   rename_i es;dsimp only at e1;split at e1
   ·rename_i hz
    cases e1;have hi:=`yo;obtain⟨a,O,hb,xs,hx,rx⟩:=`jc;refine p80 o0 PySem.F.slot_list_extend PySem.F.type_list_extend ce0 `jd `Vq `hQ `mr `i7 hs `oE `h s σ H Q I
     ⟨_,O,`BP,_,env,e3,`BW⟩
    rw[Y7] at r1;obtain⟨b,zs,rfl,hq,rz⟩:=r1;refine⟨a,b,xs,zs,rfl,rfl,`uQ,`hc,by rw[`p3,rz.length];exact hz,?_⟩;have J:Env X.K (upd H1 a `UJ) B σ (`ar!):=`yp hi O ⟨_,j5,(`aqn `uS rz).mono `gr⟩;exact k _ _ (`nw (`uT s1 b1 b2 hi O J) b1 b2 J `uA)
   ·cases e1
theorem bg0(i:Nat)(hN:`bW:=by rfl)(hv:`dX:=by first|exact `b3|exact `eL|exact `eM)(hd:`aW:=by decide)(hcd:`eI:=by decide)
  (hbase:`jD `e6 "pop" `v `p2=`nu:=by rfl) (hline:`hP:=by rfl) :
  PX X (`bi (`jE `e6 "pop" `h!) [] [] `cg) (uy0 i):=.mk λH₀ B₀ δ pins s σ H Q I ⟨r,en,e1,k⟩=>by
 unfold uy0 at e1;obtain⟨B,b1,b2,env⟩:=`bX;cases e2:`jS with
 | none=>rw[e2] at e1;cases e1
 | some ds =>
  rw[e2] at e1;simp only[`E] at e1;cases e3:`ar? with
  | none=>rw[e3] at e1;cases e1
  | some d =>
   rw[e3] at e1;cases e1;have hi:=`yo;obtain⟨a,O,hb,xs,hx,rx⟩:=`jc;rw[List.getLast?_eq_getElem?] at e3;obtain⟨y,hy,ry⟩:=rx.get e3;refine Q10 o0 PySem.F.slot_list_pop PySem.F.type_list_pop Q40 `jd `hQ `i7 `h s σ H Q I
    ⟨_,O,`BP,a,xs,y,rfl,rfl,hx,by rw[`p3];exact hy,?_⟩
   have J:Env X.K (upd H a (`n `GB)) B σ (`asa):=env.mut hi O ⟨_,j5,rx.dropLast.mono `gr⟩;exact k _ _ (`nw (`uT `CA b1 b2 hi O J) b1 b2 J (`Cj `gr))
theorem gp0{f:`aX}(h:`Hd):PTG X tg f:=.mk λH₀ B₀ d δ pins s σ H v u Q I r ⟨δ',en,e1,k⟩=>by
 obtain⟨B,b1,b2,env,rv⟩:=`bX;exact h B d δ `h s σ H v u Q I r ⟨δ',rv,env,e1,fun σ' w en'=>k σ' H (en.s.wr b1 b2 `CA w en')⟩
theorem pe0(i:Nat)(h:`bf)(hN:`bW:=by rfl)(hv:`dX:=by first|exact `b3|exact `eL|exact `eM)(hd:`aW:=by decide)(hcd:`eI:=by decide)
  (ha:∀v,`atG=(do
   let ov ← `atH
   let iv ← `atI
   `Sq
   `Sr
   `Ss):=by intro _;rfl):PTG X `Nn (`vS i g):=.mk λH₀ B₀ d δ pins s σ H v u Q I r ⟨δ',en,e1,k⟩=>by
 unfold setAt at e1;obtain⟨B,b1,b2,env,rv⟩:=`bX;cases e2:`jS with
 | none=>rw[e2] at e1;cases e1
 | some ds =>
  cases e3:`as with
  | none=>rw[e2,e3] at e1;cases e1
  | some dk =>
   rw[e2,e3] at e1;simp only[`E] at e1;cases dk<;>try cases e1
   rename_i kk;dsimp only at e1;cases e4:ixN `bJ kk with
   | none=>rw[e4] at e1;cases e1
   | some j =>
    rw[e4] at e1;cases e1;have hi:=`yo;obtain⟨a,F,hb,xs,hx,rx⟩:=`jc;refine ba0 `jd `b4 set_list ha `h s σ H v u Q I r `atJ;rw[n6] at r1;subst r1;refine⟨a,xs,kk,j,rfl,rfl,`uQ,by rw[`p3];exact e4,?_⟩;have J:Env X.K (upd H1 a `ab0) B σ (`bq i (.ow (`n (ds.set j d)))):=`yp hi F ⟨_,j5,(Rps.set j `uS `Vr).mono `gr⟩;exact `atK
theorem O9{ft:`aX}(h:`Vo)(hg:`aty)(hs:`St:=by rfl)(hw:`Su:=by rfl)
  (h1:`Sv:=by rfl):PSD X `Sw (V0 gx ft):=.mk λH₀ B₀ δ pins s σ H D I ⟨r,en,e1,k⟩=>by
 unfold V0 at e1;cases e2:`sd with
 | none=>rw[e2] at e1;cases e1
 | some q =>
  rw[e2] at e1;simp only[`E] at e1;cases e3:ft q.1 q.2 with
  | none=>rw[e3] at e1;cases e1
  | some δ' =>
   rw[e3] at e1;cases e1;exact nu0 (h `af `ad δ) (hg `af `ad q.1 q.2) hs hw h1 `h s σ H D I ⟨q,en,e2,λv H' F=>⟨δ',F,e3,fun σ' H'' en''=>k σ' H'' en''⟩⟩
theorem S8(h:`Vo)(hs:`ala:=by rfl):PSD X (.Expr e pos) (Y0 gx):=.mk λH₀ B₀ δ pins s σ H D I ⟨r,en,e1,k⟩=>by
 unfold Y0 at e1;cases e2:`sd with
 | none=>rw[e2] at e1;cases e1
 | some q =>
  rw[e2] at e1;cases e1;exact ll0 (h `af `ad δ) hs `h s σ H D I ⟨q,en,e2,λv H' F=>k σ H' F.s⟩
theorem vf0(n:Nat){c:`D}{body:`dW}(hp:`FQ)(hc:`xY)(hb:`arg):PSD X `aln (U3 gt G n):=.mk λH₀ B₀ δ pins s σ H D I ⟨r,en,e1,k⟩=>by
 have O:PT X c (`UF):=λpins s σ H Q I ⟨B,δ,h⟩=>hc B δ `h s σ H Q I h
 have J:PSs X `eX (λD σ H=>∃δ,`arh):=λpins s σ H D I ⟨δ,h⟩=>`ari
 refine Xe0 hp O J `h s σ H D I ⟨λm σ H=>∃δ',`cB X.K `af `ad H σ δ'/\`atL,⟨n,δ,en,e1⟩,?_⟩;rintro m σ1 H1 ⟨δ1,F,e2⟩;cases m with
 | zero=>cases e2
 | succ m =>
  unfold U3 at e2;obtain⟨B,b1,b2,env⟩:=F.ex;cases e3:gt δ1 with
  | none=>rw[e3] at e2;cases e2
  | some t =>
   rw[e3] at e2;refine⟨B,δ1,t,env,e3,λH2 s2=>?_⟩;cases t with
   | false =>
    rw[`ox];cases e2;exact k σ1 H2 (F.grow s2)
   | true =>
    rw[`cp];dsimp only at e2;refine⟨fun σ' H'=>∃δ',`cB X.K `af `ad H' σ' δ'/\`atL,fun σ' H' z=>⟨m,X2 m,z⟩,δ1,?_⟩;cases e4:G δ1 with
    | none=>rw[e4] at e2;cases e2
    | some rb =>
     rw[e4] at e2;refine⟨rb,F.grow s2,e4,?_⟩;cases rb with
     | nx δn=>exact `atM
     | ct δn=>exact `atM
     | bk δn=>cases e2;exact fun σ' H' en'=>k σ' H' en'
     | rt d'=>cases e2;exact λv H' s' r'=>k v H' s' r'
     | rf d'=>cases e2;exact λp H' hp s' r'=>k p H' hp s' r'
theorem xu0(i j:Nat){y:Str}{p2 p3:Pos}{kk}(hN:`f3)(hij:i≠j)(hc:`bQ:=by rfl)(hi:`bW:=by rfl)(hj:X.N[j]?=`d8:=by rfl)
  (hx:`mf:=by first|exact `b3|exact `jN) (hy:`xK:=by first|exact `b3|exact `jN)
  (hf:`mg:=by first|exact `cd|exact `dr|assumption) (hf2:`xL:=by first|exact `cd|exact `dr|assumption)
  (hs1:(`Vs).map `cf=`gj (`adc) `v::`atN:=by rfl) (hs2:`atN=`gj (`No) `v::(`js [] `v).map `cf:=by rfl)
  (hn:(`Vs).length=2:=by rfl) (hst:(`Vs).findIdx? `bG=`b:=by rfl) :
  PGD X (`nD `add kk pos) [i,j] (yj0 i j):=.mk λB d δ=>(Rw0 hc (iu0 (`He) (iu0 (tf0 (i:=j) hN hj hy hf2) T40 hs2) hs1) hn hst).imp λv σ H Q ⟨δ',r,en,e1,k⟩=>by
 unfold yj0 at e1;split at e1
 ·rename_i da db
  cases e1;rw[W0] at r;obtain⟨p,xs,rfl,hq,rs⟩:=r;rw[o7] at rs;obtain⟨va,t1,rfl,ra,rs⟩:=rs;rw[o7] at rs;obtain⟨vb,t2,rfl,rb,rs⟩:=rs;rw[o8] at rs;subst rs;refine⟨p,_,rfl,`hc,rfl,va,[vb],rfl,vb,[],rfl,rfl,k _ ?_ ((en.set i ra).set j rb)⟩;refine⟨`aB,`yq,λq hq ds h=>?_⟩
  ·have h1:q≠i:=λz=>hq (by rw[z];exact A7)
   have h2:q≠j:=λz=>hq (by rw[z];exact A9 _ A7)
   rw[`atO,`atP,`atO,`atP];exact`hb
  ·rcases `jU h with⟨rfl,e3,_⟩|⟨n1,e3⟩
   ·cases e3
   ·rcases `jU e3 with⟨rfl,e4,_⟩|⟨n2,e4⟩
    ·cases e4
    ·simp at hq
     rcases hq with z|z
     ·exact n2 `A'
     ·exact n1 `A'
 ·cases e1
universe zz
universe DL
namespace HT
open PyProof.Rows
section
variable{w:`L}{s:`r}
theorem rg0{t:`e}{hi:`aT}{Q:`Z}(ht:`am9)(hs:`Gk)(pl:`Gl)(pu:`Gm)
  (hw:`am') (h:Q `k4 s):`am?:=by
 obtain⟨os,J,O,Z⟩:=id hs;have Y:`ana := ⟨os,J,O⟩;unfold getItem
 try with_reducible refine `uZ
 first|refine `rN|skip
 refine `anb;refine A0 (E7 (name:=`anc) `m? W1
  `and)
 show `ane;refine `anf;refine A0 (E8 Y ?_);rw[`oA];refine `ang;have F:`Mh:=by
  rw[hw.1,hw.2];simp
 show `anh;rw[`I F];unfold Builtin.Tuple.tupleIsExact;refine A0 (A0 (E8 `m? `jy));rw[`oA];exact A0 (D9 `Mi)
universe zz
universe HT
namespace L2
open Spec PyProof.Rows
noncomputable def Pl0(K:`G):`oB:=λx lo hi H Q=>∃a xs,`f4/\`g_/\`anr/\Q `b_ H
theorem Vf0:SlR X (Pl0 X.K):=by
 intro pins s σ H x v vl vu lo hi sl Q I rx hs pl pu h;obtain⟨a,xs,rfl,hx,hw,q⟩:=h;cases rx;obtain⟨its,r,ht,hz⟩:=`d4 hx;have F:`fA=`aP:=`ant
 exact⟨`dC,_,W1.lookup,`m?,HT.rg0 ht hs pl pu `anu ⟨`a9,H,I,rfl,q⟩⟩
noncomputable def Z40(K:`G):R2:=λx y H Q=>∃a b ys,`f4/\`xw/\SqT K H a []/\`anx/\Q `xv H
theorem X90:OpR X `xk (Z40 X.K):=by
 intro pins s σ H x y v u Q I rx ry h;obtain⟨a,b,ys,rfl,rfl,ha,hb,q⟩:=h;cases rx;cases ry;obtain⟨its,r1,p1,_⟩:=`d4 ha;obtain⟨Y,r2,p2,_⟩:=`d4 hb;have e:its=[]:=r1.zero;subst e;obtain⟨⟨cls,dd,data,sl⟩,ho,hc,n,hd⟩:=id p1;obtain⟨⟨a2,a1,data2,Z⟩,F,O,n2,J⟩:=id p2;simp only at hc hd O J;subst hc hd O J;exact w8 `Gh `Ta Ah0 Ai0 Aj0 Ak0 (Al0 _ _)
  (tuple_addW0 a b _ Y.toArray n n2 dd a1 sl Z rfl) ⟨ho,F,⟨`m',H,I,rfl,q⟩⟩
universe L2
namespace DL
open Spec PyProof.Rows L2
mutual
theorem oi0:`atQ
 | `z,_,_=>`atR
 | `da,_,_=>`si
 | `eC,_,_=>`si
 | `rQ,_,_=>`si
 | `cz,0,h=>by unfold lean at h;cases h
 | `cz,n+1,h=>`atS
 | `dc,0,h=>by unfold lean at h;cases h
 | `dc,n+1,h=>`atS
 | `my,n,h=>by unfold lean at h;cases h
theorem ql0:`atT
 | [],_,_=>`atU
 | `aE,n,h=>by
  unfold leans at h;rw[`cQ] at h;unfold y60;rw[oi0 d n h.1,ql0 ds n h.2];rfl
end
theorem wc0:∀ds es:`s,y60 ds es=((`b5 (`atV)).all (`oT)&&`atW)
 | [],[]=>`Vt
 | [],`dR=>`Vt
 | `dR,[]=>`Vt
 | `aE,`tG=>by
  unfold y60;rw[wc0 ds es];have h1:min `T4 `Ty=`atV+1:=by simp only[`ba];omega
  rw[h1,`atX,`oD,`HP];have h2:(`T4==`Ty)=(`atW):=by
   rw[`oz];simp
  rw[h2,Bool.and_assoc];rfl
theorem qj0:∀{ds:`s} {n j:Nat} {d:D},`BS->ds[j]?=`bb->`ll
 | [],_,_,_,_,h=>`i1
 | `aE,n,0,_,h,e=>by
  unfold leans at h;rw[`cQ] at h;simp at e;subst e;exact h.1
 | `aE,n,j+1,_,h,e=>by
  unfold leans at h;rw[`cQ] at h;exact qj0 (j:=j) h.2 `Fm
section
variable{σ:St}{s:`r}
mutual
theorem Rp.inj(I:`y):∀{d e:D} {n m:Nat} {v:V},`ll->`Nq->Rp X.K H B d v->Rp X.K H B' e v->d=e
 | `z,e,_,m,v,_,le,h,h'=>by
  rw[U8] at h;subst h;cases e with
  | non=>rfl
  | bl b=>rw[W4] at h';cases h'
  | int b=>rw[n6] at h';cases h'
  | str b=>rw[X6] at h';cases h'
  | tup b=>rw[W0] at h';obtain⟨_,_,z,_⟩:=h';cases z
  | lst b=>rw[Y7] at h';obtain⟨_,_,z,_⟩:=h';cases z
  | dct a b=>unfold lean at le;cases le
 | .bl c,e,_,m,v,_,le,h,h'=>by
  rw[W4] at h;subst h;cases e with
  | non=>rw[U8] at h';cases h'
  | bl b=>rw[W4] at h';cases h';rfl
  | int b=>rw[n6] at h';cases h'
  | str b=>rw[X6] at h';cases h'
  | tup b=>rw[W0] at h';obtain⟨_,_,z,_⟩:=h';cases z
  | lst b=>rw[Y7] at h';obtain⟨_,_,z,_⟩:=h';cases z
  | dct a b=>unfold lean at le;cases le
 | `a_,e,_,m,v,_,le,h,h'=>by
  rw[n6] at h;subst h;cases e with
  | non=>rw[U8] at h';cases h'
  | bl b=>rw[W4] at h';cases h'
  | int b=>rw[n6] at h';cases h';rfl
  | str b=>rw[X6] at h';cases h'
  | tup b=>rw[W0] at h';obtain⟨_,_,z,_⟩:=h';cases z
  | lst b=>rw[Y7] at h';obtain⟨_,_,z,_⟩:=h';cases z
  | dct a b=>unfold lean at le;cases le
 | `mB,e,_,m,v,_,le,h,h'=>by
  rw[X6] at h;subst h;cases e with
  | non=>rw[U8] at h';cases h'
  | bl b=>rw[W4] at h';cases h'
  | int b=>rw[n6] at h';cases h'
  | str b=>rw[X6] at h';cases h';rfl
  | tup b=>rw[W0] at h';obtain⟨_,_,z,_⟩:=h';cases z
  | lst b=>rw[Y7] at h';obtain⟨_,_,z,_⟩:=h';cases z
  | dct a b=>unfold lean at le;cases le
 | `cz,e,0,m,v,ld,_,_,_=>by unfold lean at ld;cases ld
 | `cz,e,n+1,m,v,ld,le,h,h'=>by
  rw[W0] at h;obtain⟨a,xs,rfl,q,r⟩:=h;unfold lean at ld;cases e with
  | non=>rw[U8] at h';cases h'
  | bl b=>rw[W4] at h';cases h'
  | int b=>rw[n6] at h';cases h'
  | str b=>rw[X6] at h';cases h'
  | tup es =>
   cases m with
   | zero=>unfold lean at le;cases le
   | succ m =>
    unfold lean at le;rw[W0] at h';obtain⟨a',ys,z,q',r'⟩:=h';cases z;have:=`L0 `dP q'.to;subst this;rw[`atY]
  | lst es =>
   rw[Y7] at h';obtain⟨a',ys,z,q',r'⟩:=h';cases z;obtain⟨_,_,⟨o,e1,c1,_⟩,_⟩:=`d4 `dP;obtain⟨_,_,p,_⟩:=`dK q'.to;obtain⟨o',e2,c2,_⟩:=`rz;rw[e1] at e2;cases e2;rw[c1] at c2;injection c2 with z
   exact `atZ
  | dct a b=>unfold lean at le;cases le
 | `dc,e,0,m,v,ld,_,_,_=>by unfold lean at ld;cases ld
 | `dc,e,n+1,m,v,ld,le,h,h'=>by
  rw[Y7] at h;obtain⟨a,xs,rfl,q,r⟩:=h;unfold lean at ld;cases e with
  | non=>rw[U8] at h';cases h'
  | bl b=>rw[W4] at h';cases h'
  | int b=>rw[n6] at h';cases h'
  | str b=>rw[X6] at h';cases h'
  | lst es =>
   cases m with
   | zero=>unfold lean at le;cases le
   | succ m =>
    unfold lean at le;rw[Y7] at h';obtain⟨a',ys,z,q',r'⟩:=h';cases z;have:=`Au `dP q'.to;subst this;rw[`atY]
  | tup es =>
   rw[W0] at h';obtain⟨a',ys,z,q',r'⟩:=h';cases z;obtain⟨_,_,⟨o,e1,c1,_⟩,_⟩:=`d4 q'.to;obtain⟨_,_,p,_⟩:=`dK `dP;obtain⟨o',e2,c2,_⟩:=`rz;rw[e1] at e2;cases e2;rw[c1] at c2;injection c2 with z
   exact `atZ
  | dct a b=>unfold lean at le;cases le
 | `bk a b,e,n,m,v,ld,_,_,_=>by unfold lean at ld;cases ld
theorem Rps.inj(I:`y):∀{ds es:`s} {n m:Nat} {xs:`C},`BS->`at_->`HQ->Rps X.K H B' es xs->ds=es
 | [],es,_,_,_,_,_,h,h'=>by
  rw[o8] at h;subst h;have:=h'.length;cases es with
  | nil=>rfl
  | cons a b=>simp at this
 | `aE,es,n,m,_,ld,le,h,h'=>by
  rw[o7] at h;obtain⟨x,r,rfl,h1,h2⟩:=h;cases es with
  | nil=>rw[o8] at h';cases h'
  | cons e es =>
   rw[o7] at h';obtain⟨x',r',z,F,J⟩:=h';cases z;unfold leans at ld le;rw[`cQ] at ld le;rw[Rp.inj I ld.1 le.1 h1 F,Rps.inj I ld.2 le.2 h2 J]
end
theorem view(I:`y){d:D}{x:V}(l:`ll)(h:`BT)(r:`g2) :
  (d=`z/\u=`aj)∨(∃b,d=`da/\u=`o?)∨(∃i t,d=`a4/\u=`Lw)∨(∃z t,d=`k6/\u=`J z t) ∨
  (∃m ds a xs its,n=m+1/\`at0/\d=`cz/\`f4/\u=`a9/\`HQ/\`mb/\`abr) ∨
  (∃m ds a xs its,n=m+1/\`at0/\d=`dc/\`f4/\u=`a9/\`HQ/\`mb/\`p9 a `bZ):=by
 cases d with
 | non=>rw[U8] at h;subst h;exact `o ⟨rfl,r⟩
 | bl b=>rw[W4] at h;subst h;exact `q (`o ⟨b,rfl,r⟩)
 | int i=>rw[n6] at h;subst h;obtain⟨t,e⟩:=r;exact `q (`q (`ajd))
 | str z=>rw[X6] at h;subst h;obtain⟨t,e⟩:=r;exact `q (`q (`q (`o ⟨z,t,rfl,e⟩)))
 | tup ds =>
  cases n with
  | zero=>unfold lean at l;cases l
  | succ m =>
   unfold lean at l;rw[W0] at h;obtain⟨a,xs,rfl,q,rr⟩:=h;obtain⟨its,rv,p,_⟩:=`d4 `dP;exact `q (`q (`q (`q (`o ⟨m,ds,a,xs,its,rfl,l,rfl,rfl,r,rr,rv,p⟩))))
 | lst ds =>
  cases n with
  | zero=>unfold lean at l;cases l
  | succ m =>
   unfold lean at l;rw[Y7] at h;obtain⟨a,xs,rfl,q,rr⟩:=h;obtain⟨its,rv,p,_⟩:=`dK `dP;exact `q (`q (`q (`q (`q ⟨m,ds,a,xs,its,rfl,l,rfl,rfl,r,rr,rv,`rz⟩))))
 | dct a b=>unfold lean at l;cases l
theorem in1_units:`Ns=`ne+1:=rfl
theorem sq0{es:`s}{xs ys:`C}{ws:`H}{A:`a5}(ld:`BS)(le:`at_)(r1:`HQ)(r2:Rps X.K H B' es ys)(v1:`dq)(v2:`ajm)
  (ih:∀d e x y u w,`at1) :
  ∀j (h1:j<`at2) (h2:j<ws.toArray.size),`BU A s `sj[j] `rL[j] (`adf):=by
 intro j h1 h2;have l1:j<`bJ:=by rw[← `us,v1.length];simpa using h1
 have l2:j<`g!:=by rw[← `lm,v2.length];simpa using h2
 obtain⟨x,ex,rx⟩:=r1.get (C3 l1);obtain⟨y,ey,ry⟩:=r2.get (C3 l2);obtain⟨u,eu,ru⟩:=v1.get ex;obtain⟨w,ew,F⟩:=v2.get ey;have hu:`sj[j]=u:=by
  have:us[j]?=`bg:=eu;simp at h1;rw[`iv h1] at this
  simpa using `va
 have hw:`rL[j]=w:=by
  have:ws[j]?=`a w:=ew;simp at h2;rw[`iv h2] at this
  simpa using `va
 rw[hu,hw];have e1:`Np=ds[j]:=by simp[`ec,l1]
 have e2:`ade=es[j]:=by simp[`ec,l2]
 rw[e1,e2];exact ih _ _ _ _ _ _ (qj0 ld (C3 l1)) (qj0 le (C3 l2)) rx ry ru F
theorem ae0(I:`y):∀(n m:Nat) (d e:D) (x y:V) (u w:`t) (A:`a5),`at3->`at1:=by
 intro n
 induction n with
 | zero =>
  intro m d e x y u w A hu ld le hx hy rx ry;have F:`Vu:=`p
  rcases `Vv with⟨rfl,rfl⟩|⟨b,rfl,rfl⟩|⟨i,t,rfl,rfl⟩|⟨z,t,rfl,rfl⟩|⟨n',_,_,_,_,hn,_⟩|⟨n',_,_,_,_,hn,_⟩<;>(try (exact `X hn `g)) <;>
  rcases `Vw with⟨rfl,rfl⟩|⟨b',rfl,rfl⟩|⟨i',t',rfl,rfl⟩|⟨z',t',rfl,rfl⟩|⟨m',es,a',ys,Y,rfl,Z,rfl,rfl,rfl,J,O,p'⟩|⟨m',es,a',ys,Y,rfl,Z,rfl,rfl,rfl,J,O,p'⟩ <;>
  unfold deq <;>
  first
  | with_reducible exact l0 _|with_reducible exact Ar0 _ _|with_reducible exact `at4|with_reducible exact `at5|with_reducible exact As0 _ _ _|with_reducible exact Av0 _ _ _
  | with_reducible exact An0 _|with_reducible exact Ao0 _ _|with_reducible exact Ap0 _ _|with_reducible exact Aq0 _|with_reducible exact At0 _ _ _|with_reducible exact Au0 _ _|with_reducible exact `at6
  | with_reducible exact Ax0 _ _|with_reducible exact Ay0 _ _ _|with_reducible exact `at7
  | with_reducible exact `at8|with_reducible exact `at9|with_reducible exact `at'|with_reducible exact `at!
  | with_reducible exact `at?|with_reducible exact `aua|with_reducible exact `aub|with_reducible exact `auc
 | succ n ih =>
  intro m d e x y u w A hu ld le hx hy rx ry;have F:`Vu:=`p
  have a2:`Ns+n<`g5:=`Vx
  rcases `Vv with⟨rfl,rfl⟩|⟨b,rfl,rfl⟩|⟨i,t,rfl,rfl⟩|⟨z,t,rfl,rfl⟩|⟨n',ds,a,xs,its,hn,a1,rfl,rfl,rfl,rr,rv,p⟩|⟨n',ds,a,xs,its,hn,a1,rfl,rfl,rfl,rr,rv,p⟩ <;>
  rcases `Vw with⟨rfl,rfl⟩|⟨b',rfl,rfl⟩|⟨i',t',rfl,rfl⟩|⟨z',t',rfl,rfl⟩|⟨m',es,a',ys,Y,rfl,Z,rfl,rfl,rfl,J,O,p'⟩|⟨m',es,a',ys,Y,rfl,Z,rfl,rfl,rfl,J,O,p'⟩
  case inr.inr.inr.inr.inl.inr.inr.inr.inr.inl =>
   cases hn
   by_cases hab:a=a'
   ·subst hab
    have e:`e9 ds=`e9 es:=`aud;rw[← e,`aue];exact l0 _
   ·refine `auf
    have:=`aug (e:=`oT) p p' F `auh;unfold deq;rw[wc0]
    simpa [← `e7,← `Nu,`pW,J.length] using `B
  case inr.inr.inr.inr.inr.inr.inr.inr.inr.inr =>
   cases hn
   by_cases hab:a=a'
   ·subst hab
    have e:`hf ds=`hf es:=`aud;rw[← e,`aue];exact l0 _
   ·refine `auf
    have s1:`Vy:=`Vz
    have s2:Y.toArray.size=`g!:=by rw[`a?,← `Nu,J.length]
    unfold deq;rw[wc0]
    by_cases hl:`bJ=`g!
    ·have:=`aui (e:=`oT) p p' `VA F `auh
     rw[s1] at this;rw[hl] at this ⊢
     simpa using `B
    ·have:=`auj
     rw[`auk,`Vm];exact `B
  all_goals
   unfold deq
   first
   | with_reducible exact l0 _|with_reducible exact Ar0 _ _|with_reducible exact `at4|with_reducible exact `at5|with_reducible exact As0 _ _ _|with_reducible exact Av0 _ _ _
   | with_reducible exact An0 _|with_reducible exact Ao0 _ _|with_reducible exact Ap0 _ _|with_reducible exact Aq0 _|with_reducible exact At0 _ _ _|with_reducible exact Au0 _ _|with_reducible exact `at6
   | with_reducible exact Ax0 _ _|with_reducible exact Ay0 _ _ _|with_reducible exact `at7
   | with_reducible exact `at8|with_reducible exact `at9|with_reducible exact `at'|with_reducible exact `at!
   | with_reducible exact `at?|with_reducible exact `aua|with_reducible exact `aub|with_reducible exact `auc
   | with_reducible exact SeqAt.EqAt.list_none p F|with_reducible exact SeqAt.EqAt.list_bool _ p F|with_reducible exact SeqAt.EqAt.list_int _ _ p F|with_reducible exact SeqAt.EqAt.list_str _ _ p F
   | with_reducible exact SeqAt.EqAt.tuple_none p F|with_reducible exact SeqAt.EqAt.tuple_bool _ p F|with_reducible exact SeqAt.EqAt.tuple_int _ _ p F|with_reducible exact SeqAt.EqAt.tuple_str _ _ p F
   | with_reducible exact SeqAt.EqAt.list_tuple p p' F|with_reducible exact SeqAt.EqAt.tuple_list p p' F
universe zz
universe DL
namespace DL
open Spec PyProof.Rows L2
section
variable{σ:St}{s:`r}
theorem bl0(I:`y)(n m:Nat)(d e:D)(x y:V)(u w:`t)(A:`a5)(hu:`at3)(ld:`ll)(le:`Nq)(hx:`BT)(hy:`adg)(rx:`g2)(ry:`Nr) :
  SeqAt.RcAt A s u w (`uU)/\SeqAt.RcNeAt A s u w (!`uU):=by
 have F:`Vu:=`p
 rcases `Vv with⟨rfl,rfl⟩|⟨b,rfl,rfl⟩|⟨i,t,rfl,rfl⟩|⟨z,t,rfl,rfl⟩|⟨n',ds,a,xs,its,hn,a2,rfl,rfl,rfl,rr,rv,p⟩|⟨n',ds,a,xs,its,hn,a2,rfl,rfl,rfl,rr,rv,p⟩ <;>
 rcases `Vw with⟨rfl,rfl⟩|⟨b',rfl,rfl⟩|⟨i',t',rfl,rfl⟩|⟨z',t',rfl,rfl⟩|⟨m',es,a',ys,Z,rfl,a3,rfl,rfl,rfl,O,Y,p'⟩|⟨m',es,a',ys,Z,rfl,a3,rfl,rfl,rfl,O,Y,p'⟩
 case inr.inr.inr.inr.inl.inr.inr.inr.inr.inl =>
  subst hn;have a1:`aul:=`Vx
  have J:=`aum
  have q1:=`aug (e:=`oT) p p' F J;have q2:=SeqAt.RcNeAt.tuples (e:=`oT) p p' F J;unfold deq;rw[wc0];have s1:`Vy:=`Vz
  have s2:`aun:=`auo
  rw[s1,s2] at q1 q2;exact`VB
 case inr.inr.inr.inr.inr.inr.inr.inr.inr.inr =>
  subst hn;have a1:`aul:=`Vx
  have J:=`aum
  have s1:`Vy:=`Vz
  have s2:`aun:=`auo
  unfold deq;rw[wc0]
  by_cases hl:`bJ=`g!
  ·have q1:=`aui (e:=`oT) p p' `VA F J
   have q2:=SeqAt.RcNeAt.lists (e:=`oT) p p' `VA F J;rw[s1] at q1 q2;rw[hl] at q1 q2 ⊢;simp only[`B2,`ai?,`aup];exact`VB
  ·have q1:=`auj
   have q2:=SeqAt.RcNeAt.lists_lengths (A:=A) p p' `adh F;rw[`auk,`Vm];exact`VB
 all_goals
  unfold deq;constructor
  ·first
   | with_reducible exact SeqAt.RcAt.none_none|with_reducible exact SeqAt.RcAt.bool_bool _ _|with_reducible exact SeqAt.RcAt.int_int _ _ _ _|with_reducible exact SeqAt.RcAt.str_str _ _ _ _|with_reducible exact SeqAt.RcAt.bool_int _ _ _|with_reducible exact SeqAt.RcAt.int_bool _ _ _
   | with_reducible exact SeqAt.RcAt.none_bool _|with_reducible exact SeqAt.RcAt.none_int _ _|with_reducible exact SeqAt.RcAt.none_str _ _|with_reducible exact SeqAt.RcAt.bool_none _|with_reducible exact SeqAt.RcAt.bool_str _ _ _|with_reducible exact SeqAt.RcAt.int_none _ _|with_reducible exact SeqAt.RcAt.int_str _ _ _ _
   | with_reducible exact SeqAt.RcAt.str_none _ _|with_reducible exact SeqAt.RcAt.str_bool _ _ _|with_reducible exact SeqAt.RcAt.str_int _ _ _ _
   | with_reducible exact SeqAt.RcAt.none_list p' F|with_reducible exact SeqAt.RcAt.bool_list _ p' F|with_reducible exact SeqAt.RcAt.int_list _ _ p' F|with_reducible exact SeqAt.RcAt.str_list _ _ p' F
   | with_reducible exact SeqAt.RcAt.none_tuple p' F|with_reducible exact SeqAt.RcAt.bool_tuple _ p' F|with_reducible exact SeqAt.RcAt.int_tuple _ _ p' F|with_reducible exact SeqAt.RcAt.str_tuple _ _ p' F
   | with_reducible exact SeqAt.RcAt.list_none p F|with_reducible exact SeqAt.RcAt.list_bool _ p F|with_reducible exact SeqAt.RcAt.list_int _ _ p F|with_reducible exact SeqAt.RcAt.list_str _ _ p F
   | with_reducible exact SeqAt.RcAt.tuple_none p F|with_reducible exact SeqAt.RcAt.tuple_bool _ p F|with_reducible exact SeqAt.RcAt.tuple_int _ _ p F|with_reducible exact SeqAt.RcAt.tuple_str _ _ p F
   | with_reducible exact SeqAt.RcAt.list_tuple p p' F|with_reducible exact SeqAt.RcAt.tuple_list p p' F
  ·try rw[Bool.not_false]
   try rw[`Fj]
   first
   | with_reducible exact SeqAt.RcNeAt.none_none|with_reducible exact SeqAt.RcNeAt.bool_bool _ _|with_reducible exact SeqAt.RcNeAt.int_int _ _ _ _|with_reducible exact SeqAt.RcNeAt.str_str _ _ _ _|with_reducible exact SeqAt.RcNeAt.bool_int _ _ _|with_reducible exact SeqAt.RcNeAt.int_bool _ _ _
   | with_reducible exact SeqAt.RcNeAt.none_bool _|with_reducible exact SeqAt.RcNeAt.none_int _ _|with_reducible exact SeqAt.RcNeAt.none_str _ _|with_reducible exact SeqAt.RcNeAt.bool_none _|with_reducible exact SeqAt.RcNeAt.bool_str _ _ _|with_reducible exact SeqAt.RcNeAt.int_none _ _|with_reducible exact SeqAt.RcNeAt.int_str _ _ _ _
   | with_reducible exact SeqAt.RcNeAt.str_none _ _|with_reducible exact SeqAt.RcNeAt.str_bool _ _ _|with_reducible exact SeqAt.RcNeAt.str_int _ _ _ _
   | with_reducible exact SeqAt.RcNeAt.none_list p' F|with_reducible exact SeqAt.RcNeAt.bool_list _ p' F|with_reducible exact SeqAt.RcNeAt.int_list _ _ p' F|with_reducible exact SeqAt.RcNeAt.str_list _ _ p' F
   | with_reducible exact SeqAt.RcNeAt.none_tuple p' F|with_reducible exact SeqAt.RcNeAt.bool_tuple _ p' F|with_reducible exact SeqAt.RcNeAt.int_tuple _ _ p' F|with_reducible exact SeqAt.RcNeAt.str_tuple _ _ p' F
   | with_reducible exact SeqAt.RcNeAt.list_none p F|with_reducible exact SeqAt.RcNeAt.list_bool _ p F|with_reducible exact SeqAt.RcNeAt.list_int _ _ p F|with_reducible exact SeqAt.RcNeAt.list_str _ _ p F
   | with_reducible exact SeqAt.RcNeAt.tuple_none p F|with_reducible exact SeqAt.RcNeAt.tuple_bool _ p F|with_reducible exact SeqAt.RcNeAt.tuple_int _ _ p F|with_reducible exact SeqAt.RcNeAt.tuple_str _ _ p F
   | with_reducible exact SeqAt.RcNeAt.list_tuple p p' F|with_reducible exact SeqAt.RcNeAt.tuple_list p p' F
universe zz
section
variable{a:`D}
noncomputable def cd0(K:`G)(neg:`N):R2:=λx y H Q=>∃B B' dx dy,`Uf/\Rp K H B' dy y/\`bx dx 50=`d/\`bx dy 50=`d/\Q (.bl (xor neg (deq dx dy))) H
theorem jv0(hu:`auq):OpR X (`gk .Eq) (cd0 X.K `m):=by
 intro pins s σ H x y v u Q I rx ry h;obtain⟨B,B',dx,dy,hx,hy,lx,ly,q⟩:=h;exact(`aur).1 _ _ _ _ ⟨`cx,H,I,rfl,by rw[`sk] at q;exact q⟩
theorem nf0(hu:`auq):OpR X (`gk .NotEq) (cd0 X.K `d):=by
 intro pins s σ H x y v u Q I rx ry h;obtain⟨B,B',dx,dy,hx,hy,lx,ly,q⟩:=h;exact(`aur).2 _ _ _ _ ⟨`cx,H,I,rfl,by rw[`oU] at q;exact q⟩
theorem li0:Op2 K (cd0 K `m) wp0:=by
 intro H B x y dx dy d Q hb rx ry h k;unfold wp0 at h;split at h
 ·rename_i hl
  cases h;exact⟨B,B,dx,dy,rx,ry,hl.1,hl.2,k _ H `dd (by rw[W4,`sk])⟩
 ·cases h
theorem p50:Op2 K (cd0 K `d) zg0:=by
 intro H B x y dx dy d Q hb rx ry h k;unfold zg0 at h;split at h
 ·rename_i hl
  cases h;exact⟨B,B,dx,dy,rx,ry,hl.1,hl.2,k _ H `dd (by rw[W4,`oU])⟩
 ·cases h
theorem Yk0:Op2 K (λx y H Q=>rI0 (`al1) x y H Q∨(`al?)∨Wn0 K x y H Q∨Wm0 K x y H Q∨Z40 K x y H Q) o9:=by
 intro H B x y dx dy d Q hb rx ry h k;cases dx<;>cases dy<;>simp only[o9] at h<;>try cases h
 ·rw[n6] at rx ry
  subst rx ry;exact `o ⟨_,_,rfl,rfl,`up⟩
 ·split at h
  ·cases h
   rw[X6] at rx ry;subst rx ry;exact `q (`o ⟨_,_,rfl,rfl,`x6,`Ug⟩)
  ·cases h
 ·split at h
  ·rename_i hz
   cases h;have O:=ry;have J:=rx;rw[W0] at rx ry;obtain⟨a,xs,rfl,q1,r1⟩:=rx;obtain⟨b,ys,rfl,q2,r2⟩:=ry
   by_cases he:xs=[]
   ·subst he
    have e:`aus=`aus:=rfl;have hn:=`us;simp at hn;have F:=`aut;subst F;exact `q (`q (`q (`q ⟨a,b,ys,rfl,rfl,q1.to,q2.to,k _ H `dd (by rw[`oK];exact O)⟩)))
   ·refine `q (`q (`q (`o ⟨a,b,xs,ys,rfl,rfl,q1.to,q2.to,he,`VC,`gD,λz p hp=>k _ _ `id (mr0 hb hp (`Gp))⟩)))
    subst z;have hn:=`lm;simp at hn;have F:=`aut;subst F;exact k _ H `dd (by rw[`f5];exact J)
  ·cases h
 ·split at h
  ·rename_i hz
   cases h;rw[Y7] at rx ry;obtain⟨a,xs,rfl,q1,r1⟩:=rx;obtain⟨b,ys,rfl,q2,r2⟩:=ry;exact `q (`q (`o ⟨a,b,xs,ys,rfl,rfl,q1.to,q2.to,`VC,λp hp=>k _ _ `id (pb0 hb hp (`Gp))⟩))
  ·cases h
theorem d9(ha:`cT)(hb:`c'):PD X `auu (o2 ga gb o9):=sl0 (Su0.or (ci0.or (d10.or (Tx0.or X90)))) Yk0 ha hb
instance decMul(i j:Int):`ku (CMul i j):=inferInstanceAs (`ku (`M7))
theorem O5(ha:`cT)(hb:`c'):PD X `auv (o2 ga gb K6):=sl0 Sb0 ((show (ii λi j=>`asq)=K6 from by funext x y;cases x<;>cases y<;>rfl)▸qk0 (C:=CMul) (g':=`F5) `sa) ha hb
theorem b00{xs:`s}{hi:`aT}(h:`T1=0/\`apZ=`aP):`U1=xs:=by
 unfold cutD;rw[h.1,h.2];simp
theorem S9{lo hi:`p0}{gl gh:`GT}{p2:Pos}(he:`bf)(hl:PDO X lo gl)(hh:PDO X hi gh) :
  PD X `ano (U9 g gl gh):=.mk λB δ =>
 (Xc0 (Rh0.or (Up0.or (Sy0.or Vf0))) (he B δ) (hl B δ) (hh B δ)).imp fun σ H Q ⟨d,en,h,k⟩=>by
  unfold U9 at h;cases e1:`as with
  | none=>rw[e1] at h;cases h
  | some x =>
   cases e2:gl δ with
   | none=>rw[e1,e2] at h;cases h
   | some l =>
    cases e3:gh δ with
    | none=>rw[e1,e2,e3] at h;cases h
    | some u =>
     rw[e1,e2,e3] at h;simp only[`E] at h;refine⟨x,en,e1,λv H1 s1 r1=>⟨l,`g9,(by first|exact e2|rfl),λH2 s2=>⟨u,`Uh,(by first|exact e3|rfl),λH3 s3=>?_⟩⟩⟩;have S:=`Ui s3;have r3:=(`lg).same s3;have hb:=((`Uh).same s3).bad;cases x<;>simp only[slA] at h<;>try cases h
     ·split at h
      ·cases h
       rw[X6] at r3;exact `o ⟨_,r3,`x6,k _ H3 S (`Bk)⟩
      ·cases h
     ·have r4:=r3
      rw[W0] at r3;obtain⟨a,xs,rfl,q,r⟩:=r3;rename_i dxs
      by_cases hw:sIx `HR 0 l=0/\sIx `HR `HR u=`HR
      ·refine `q (`q (`q ⟨a,xs,rfl,`dP,`auw,k _ _ S ?_⟩))
       rw[b00 hw];exact r4
      ·exact `q (`q (`o ⟨a,xs,rfl,`dP,`auw,λp hp=>k _ _ (S.trans `id) (mr0 hb hp `aux)⟩))
     ·rw[Y7] at r3
      obtain⟨a,xs,rfl,q,r⟩:=r3;exact `q (`o ⟨a,xs,rfl,`dP,λp hp=>k _ _ (S.trans `id) (pb0 hb hp `aux)⟩)
theorem Qq0:FnR K `amc `Pa:=by
 intro H B xs ds d Q hb r h k;unfold intOfD at h;split at h
 ·cases h
  obtain⟨v,rfl,r1⟩:=`gM;rw[n6] at r1;subst r1;exact `o `auy
 ·cases h
  obtain⟨v,rfl,r1⟩:=`gM;rw[W4] at r1;subst r1;exact `q `auy
 ·cases h
theorem Ut0:FnR K (λxs H Q=>∃p ys,`hg/\(`UN∨`UO)/\`an5) yu0:=by
 intro H B xs ds d Q hb r h k;unfold yu0 at h;split at h
 ·cases h
  obtain⟨v,rfl,r1⟩:=`gM;rw[Y7] at r1;obtain⟨a,ys,rfl,q,rr⟩:=r1;exact⟨a,ys,rfl,`UP,`auz⟩
 ·cases h
  obtain⟨v,rfl,r1⟩:=`gM;rw[W0] at r1;obtain⟨a,ys,rfl,q,rr⟩:=r1;exact⟨a,ys,rfl,`UQ,`auz⟩
 ·cases h
universe zz
universe DL
namespace DL
open Spec PyProof.Rows
@[simp] noncomputable def l00:`b?
 | `gi,`t2=>`asp
 | _,_=>`b
theorem Z4{gA:GA}(h:`r1)(hl:`kq):j9 gA δ=`GP:=by
 unfold j9;rw[h,`E,`ks]
theorem ua0{gA:GA}(h:`r1)(hl:`kq):W8 gA δ=`mv:=by
 unfold W8;rw[h,`E,`ks]
theorem Tb0{n:Int}{d:D}(h:d∈`sl):∃k:Nat,`cL<n/\d=`cM:=by
 obtain⟨k,hk,rfl⟩:=`fJ h;have:=`DT;exact⟨k,`p,by rw[`VD]⟩
theorem Tp0(f:D->α)(n:Int):(`sl).map f=`auA λ(k:Nat)=>f `Dx:=by
 unfold R9;rw[`aS];have:n - 0=n:=`p
 rw[`B];refine Y2 λk _=>?_
 show f (`c (0+`cL))=_;rw[`VD]
theorem w40(n:Int):(`sl).length=`g?:=by unfold R9;simp
theorem le0{n:Int}{d:D}(h:(`sl)[j]?=`bb):j<`g?/\d=`dg:=by
 have hj:j<`g?:=by
  have:=`VE
  rwa [w40] at this
 refine⟨hj,?_⟩;unfold R9 at h;rw[`dQ,`VF `xQ] at h;have:=`p7;rw[← `B];show `cC (0+`br)=_;rw[`VD]
theorem v00{gt:GB}{ge:GE}{n:Int}(h:`HS)(H:∀k:Nat,`cL<n->∃δ',gN 0 `Dx δ=`nj/\`T3/\`uj=`a (h k)) :
  R6 `bs gt ge δ (`sl)=`a (`auA h):=by
 rw[R8 (λd=>match d with|`d6=>h `h9|_=>`z) (λd hd=>by
  obtain⟨k,hk,rfl⟩:=Tb0 hd;exact H k hk),Tp0]
 rfl
universe DL
namespace DL
open Spec PyProof.Rows L2
section
variable{a:`D}
theorem fv0(ha:`cT)(hb:`c'):PDF X `auu (o2 ga gb l00):=.mk λB δ=>(V50 d10 `bd `fF).imp fun σ H Q ⟨d,en,h,k⟩=>by
 unfold o2 at h;cases e1:`hR with
 | none=>rw[e1] at h;cases h
 | some x =>
  cases e2:`hS with
  | none=>rw[e1,e2] at h;cases h
  | some y =>
   rw[e1,e2] at h;simp only[`E] at h;refine`r7;cases x<;>cases y<;>simp only[l00] at h<;>try cases h
   split at h
   ·rename_i hz
    cases h;have r1:=`lg;rw[Y7] at r1 r2;obtain⟨a,xs,rfl,q1,r1⟩:=r1;obtain⟨b,ys,rfl,q2,r2⟩:=r2;exact⟨a,b,xs,ys,rfl,rfl,q1.to,q2.to,`VC,λp hp=>k p _ ((`ur).free hp) (`Ui `id) ⟨_,j5,(`Gp).mono `Cp⟩⟩
   ·cases h
theorem si0(hm:`mj)(hv:`pg=`ads)(ha:`bf)(hg:`cI:=by rfl)
  (hn:`jp := by decide) (hdb:`aW:=by decide) (he:`fk:=by rfl) (hpl:`i?:=by rfl) :
  PDF X (`bi `tT [e] [] pos) (oA `lo yu0):=.mk λB δ=>(ve0 rp0 hg hm hv `yr hn hdb he hpl).imp fun σ H Q ⟨d,en,h,k⟩=>by
 unfold oA z9 v6 at h;cases e1:`as with
 | none=>rw[e1] at h;cases h
 | some x =>
  rw[e1] at h;simp only[`E,`ds] at h;refine`ys;cases x<;>simp only[yu0] at h<;>try cases h
  ·rw[W0] at r1
   obtain⟨q,xs,rfl,hq,rr⟩:=r1;exact⟨q,xs,rfl,`q `hc,`auB⟩
  ·rw[Y7] at r1
   obtain⟨q,xs,rfl,hq,rr⟩:=r1;exact⟨q,xs,rfl,`o `hc,`auB⟩
universe zz
noncomputable def FnN(P:`aa)(w:`L)(K:`G)(mg:`a7)(base:`u)(x:Str)(k:Nat)(ps:`j)(f:`K):Prop :=
 ∃(fa:`e) (fd:`S),`auC/\`Hx
theorem wk0{k:Nat}{ps:`j}{f:`K}(C:`auD)(hr:`sc)(hk:k<=m)(ha:`kt)(hg:`cI:=by rfl)(hdb:`aW:=by decide)
  (he:`c9:=by rfl) (hpl:`f6:=by rfl):PDF X `k3 `Bm:=by
 obtain⟨fa,fd,F,hm,kp,hb⟩:=C;exact .mk λB δ=>(pn0 (E:=E0) F `x! hg hm kp hb `U jd0 `bd hdb he hpl).imp fun σ H Q h=>by
  obtain⟨d,en,h,k⟩:=h;unfold oA at h;cases e1:`bI with
  | none=>rw[e1] at h;cases h
  | some ds =>
   rw[e1] at h;refine`Up;show spN X.K f `Uq H1 Q E0;rw[`f5];exact⟨B,ds,d,`G?,r1,h,λp H' hp s r=>k p H' (`p4 hp) (`lf s) r⟩
theorem S6{k:Nat}{ps:`j}{f:`K}(C:`auD)(hr:`sc)(hk:k<=m)(ha:`kt)(hg:`cI:=by rfl)(hdb:`aW:=by decide)
  (he:`c9:=by rfl) (hpl:`f6:=by rfl):`xZ:=(wk0 C hr hk ha hg hdb he hpl).pd
theorem X3(h:`r9):PSD X `xb (Q7 g):=.mk λH₀ B₀ δ pins s σ H D I ⟨r,en,e1,k⟩=>by
 unfold Q7 at e1;obtain⟨B,b1,b2,env⟩:=`bX;cases e2:`as with
 | none=>rw[e2] at e1;cases e1
 | some d =>
  rw[e2] at e1;cases e1;exact gn0 `b4 `h s σ H D I ⟨d,env,e2,λp H' hp s' r=>k p H' (en.same.free hp) (`Hg s') (`e2 `Vk (`lb λa z=>z.imp (b1 a) id)).toL⟩
theorem so0(i:Nat){px:Pos}(hN:`bW:=by rfl)(hv:`dX:=by first|exact `b3|exact `eL|exact `eM)(hd:`aW:=by decide)(hcd:`eI:=by decide) :
  PSD X (.Return (`a `e6) pos) (my0 i):=.mk λH₀ B₀ δ pins s σ H D I ⟨r,en,e1,k⟩=>by
 unfold my0 at e1;obtain⟨B,b1,b2,env⟩:=`bX;split at e1
 ·rename_i d hi
  obtain⟨a,hs,hb,ro⟩:=`jc;cases e1;exact gn0 `jd `h s σ H D I ⟨_,hs,k a H (`nt i d a hi hs) `ic (ro.mono `Vk (`lb λb z=>`cU (b1 b) λq=>by rw[q];exact hb))⟩
 ·cases e1
universe DL
namespace DL
@[simp] noncomputable def mg0:`K
 | `auE=>`a (`w (`Nw λp=>`BY))
 | _=>`b
@[simp] noncomputable def t00:`K
 | `mw=>`a (`n `auF)
 | _=>`b
noncomputable def Wu0:`cP
 | `auE=>`auG
 | _=>`b
noncomputable def q40(gA:GA):GA:=fun δ=>`f7 Wu0
noncomputable def K1(ds:`s):`s:=`auH λ(k:Nat)=>`w [`cM,ds.getD k `z]
noncomputable def bh0:`cP
 | `mw=>`auI
 | _=>`b
noncomputable def ow0(gA:GA):GA:=fun δ=>`f7 bh0
@[simp] noncomputable def td0:`K
 | [`GZ]=>`a (`GZ)
 | _=>`b
@[simp] noncomputable def co0:`GR
 | `dc=>`la
 | `cz=>`la
 | _=>`b
@[simp] noncomputable def anyI(g:GE):GA:=fun δ=>`cS co0
mutual
noncomputable def tree:`eK
 | `w5=>`m
 | `my=>`m
 | `cz=>`VG
 | _=>`d
noncomputable def trees:`UY
 | []=>`d
 | `aE=>`ln d&&`VG
end
noncomputable def yt0(g:GE):GE:=fun δ=>`UU λd=>if `VH then `bb else `b
theorem ws0{g:GE}{d:D}(h:`nr=`bb)(ht:`VH):yt0 g δ=`bb:=by
 unfold yt0;rw[h,`E,`I ht]
theorem xz0{gA:GA}{n:Int}(h:`bI=`a [`G4])(h1:`m4<=n)(h2:n<`g1):zm0 gA δ=`a (`sl):=by
 unfold zm0;rw[h,`E];simp only[cs0];rw[`VI]
theorem op0{g:GE}(h:`as=`mv):`auJ=`a (`c (`bJ:Int)):=by
 rw[o4 `VJ];rfl
universe DL
namespace RevL
open Spec PyProof.Rows
theorem c80:`jB `HT "__len__"=`kZ:=`rg
theorem X40:`jB `HT `Ny=`a2 (`a (`cb "list_reverseiterator.__length_hint__")):=`rg
theorem Ui0:isSubtype `HT `HT=`a2 `d:=by rw[isSubtype_type];kernel_rfl
section
variable{w:`L}{s:`r}
variable{wr:`aJ}{G:`auK}{P:`VK}{St:`TS}
theorem Uc0(W:`auL)(hT:`VL)(C:`e)(res:`t)(c0:Nat)(st:St 0 s)(hC:C∉fp)(hI:I∈fp)
  (gC:`eo C=`a { cls:=`c!,data:=`a' #[] c0 })
  (hR:∀s' acc' c',`auM->`auN->`VM->R (.ok (`dA res)) s') (hn:`xz) :
  `i `am `bz (`NA `dB `B_ res)
   `auO `N7 s:=by
 have ne:C≠I:=λe=>hC (e▸hI)
 unfold Builtin.List.listExtendWith;refine A0 (E8 `HU (by
  have q1:`HV `dB `B_=`m:=by simp[`HV,ne]
  have q2:(`auP==`VN)=`m:=`ai
  have q3:(`auP==`VO)=`m:=`ai
  simp only[q1,q2,q3,`w2,`hG,`dp];refine A0 (W.self 0 _ _ _ st (A0 (C5 (by
   unfold Builtin.List.listLengthHint;refine A0 (l9 `HU c80 (by
    show `i _ `bz (specialOf (`dz I) `auQ>>=_) _ _ _;refine A0 (l9 `HU X40 ?_);refine A0 (o3 `HU Ui0 ?_);rw[`rM];dsimp only;rw[`auR,`rM];refine `cw;rw[`ay `eT];refine A1 ⟨L6 PySem.F.plain_extend_loop _,?_⟩;exact codeAny_extend_loopS W hn _ hC _ n 0 _ _ _ rfl `xH st gC (ItemsOf.nil P) λs' acc' c' m e J=>hR s' acc' c' m e J))))))))
theorem Xz0(W:`auL)(hT:`VL)(C:`e)(st:St 0 s)(hC:C∉fp)(hI:I∈fp)
  (gC:`eo C=`auS)
  (hR:∀s' acc' c',`auM->`auN->`VM->`VP) (hn:`xz) :
  `i `am `bz (Builtin.«list.__init__» ⟨[`kJ,`Q I],[]⟩)
   `auO `N7 s:=by
 show `i _ `bz (do let old ← `HW `dB;Builtin.List.listUpdate `dB (`CW);letGo old.toList.reverse;`auT) _ _ s;refine A0 (by
  unfold Builtin.List.listItems;refine A0 (D0 gC rfl (A1 (by
   show `i _ `bz (`HX C (`CW)>>=λ_=>letGo (#[]:`aI).toList.reverse>>=λ_=>`auT) _ _ s;have g2:=L0 `auU gC rfl;have oth:∀b o,b≠C->`gf->(`jY C `auU).get? b=`ae:=`auV
   refine A0 (n9 gC rfl (A0 (P2 (Uc0 W hT C `aj _ (W.frame 0 s _ `a1 st `aK λb hb o e=>oth b o (λh=>hC (h▸hb)) e) hC hI g2 (λs' acc' c' m e F=>?_) hn))));exact hR s' acc' c' (Moved.trans W.gtrans ((Moved.refl W.grefl).then_heap `aK λb o hb e=>oth b o (λh=>hb (h▸A7)) e) m) e F))))
universe zz
section
variable{w:`L}{s:`r}
variable{wr:`aJ}{G:`auK}{P:`VK}{St:`TS}
theorem jb0{Q:`Z}(W:WalksS `eS w A.in1.in1 I fp wr G n P St)(hT:`VL)(st:St 0 s)(hfp:∀b∈fp,b<`A)(hI:I∈fp)
  (hQ:∀s' acc' c',Moved (`A::wr) G `auW s' ->
   `adk `A=`adl->`VM->Q `fH s') (hn:`xz) :
  `i `am A (`b' `uV [`Q I]) Q E s:=by
 have hC:`A ∉fp:=λz=>E3 _ (hfp _ z)
 refine x5 (Q₁:=λob s1=>ob=`cu/\s1=`auW) PySem.F.called_list (PySem.F.typeCall_list_1 _) PySem.F.entry_list_init (code_list_new _ `hb) λob s1 h1=>?_
 obtain⟨rfl,rfl⟩:=h1;have gC:(`adr).get? `A=`auS:=`eq;exact⟨⟨_,gC,rfl⟩,PySem.F.args_list_init_2 _ _,Xz0 W hT _ (W.frame 0 s _ `a1 st `aK λb _ o e=>`m2) hC hI gC (λs' acc' c' m e J=>⟨rfl,hQ s' acc' c' m e J⟩) hn⟩
theorem j30{its:`aI}{Q:`Z}(hh:`cR)(hl:`p9 l its)(hz:`LP)
  (h:∀(h':`u) (tk c:Nat) (a:`e),`Fw->`uH=`a { cls:=`c!,dict:=`b,data:=`a' `VQ c,slots:=#[] }->`Oq->Q `b_ `ir) :
  `i `am A (`b' (`aZ `lq) `sm) (λv s1=>`i `am A (`b' `uV [v]) Q E s1) E s:=by
 refine call_reversed_list hl ?_;obtain⟨ol,gl,_,_⟩:=id hl;have O:l<`A:=A3 gl;have Y:A.in1.in1.handled=`b:=`VR
 have Wk:=(Walks.listRev (prog:=`eS) (w:=w) Y `A l (A6 O) its).toS;refine jb0 Wk (λi s x=>x.2.1.typeIs) ⟨`c_,⟨_,`eq,rfl,by
  show `alI #[`k7,`ew (`HY)]=_;have z:`HY - `tK=`HY:=`p
  rw[z]⟩,hl.push _⟩ (`fg) `T (λs' F c' m e J=>?_) hz
 ·show b<`HZ
  rw[`ha];simp only[`aO,`aU,`aV] at hb;rcases hb with rfl|rfl
  ·exact X2 _
  ·exact Y3 O
 ·obtain⟨h',g',d',Z,a1⟩:=s'
  obtain rfl:g'=`rr:=m.gens;obtain rfl:d'=`FD:=m.drawn;obtain rfl:a1=s.os:=m.os;have ea:F=`VQ:=by
   apply Array.ext
   ·rw[J.1,Array.size_reverse]
   ·intro i h1 h2
    have q:its[`Am - 1 - i]?=`a F[i]:=J.2 i F[i] (p9 h1);have hi:i<`Am:=by rw[← J.1];exact h1
    rw[Array.getElem?_eq_getElem `g] at q;rw[Array.getElem_reverse];exact(B5 q).symm
  subst ea;have a2:(`eZ (revObj l (`HY))).objs.size=`jw:=x6 ..;refine h h' Z c' _ ?_ e λb o eb=>?_
  ·show `A<=`HZ
   rw[`ha];exact c6 _
  ·have lb:=A3 eb
   refine m.heap b o ?_ (A5 _ (A5 _ eb));simp only[`aO,`aU,`aV,`hV];refine⟨?_,A6 lb⟩;show b≠`HZ;rw[`ha];exact A6 (Y3 lb)
universe zz
universe RevL
namespace DL
open Spec PyProof.Rows L2
theorem Rps.reverse:∀{ds:`s} {xs:`C},`bc->Rps K H B `auF `GC
 | [],_,h=>`G0
 | `aE,_,h=>by
  rw[o7] at h;obtain⟨x,r,rfl,h1,h2⟩:=h;rw[`ms,`ms];exact `nv (Rps.reverse h2) h1
theorem fa0:`dF `lq=`a (`aZ `lq):=`aq
theorem Vw0:`auX:=`aq
theorem Ub0(hc:`bQ)(hl:`auY)(hs:`auZ)(he:`kn)(hgl:`au_ := by rfl)(hgs:`au0 := by rfl)
  (e1:`au1:=by rfl) (e2:`fk:=by rfl)
  (h1:`i?:=by rfl) (h2:`au2:=by rfl) :
  PE X `au3 (fun σ H Q=>te σ H λv H'=>∃q xs,v=`Q q/\SqL X.K H' q xs/\∀l,H' l=`b->Q `jC (upd H' l (`n `GC))):=by
 intro pins s σ H Q I h;refine N1 (z80 I hgl hl Vw0 ?_ `f `f);refine `au4;rw[e1];show `i _ _ (`rv (`adt::`Bz)) _ _ s;refine Q1 ?_;refine N1 (z80 I hgs hs fa0 ?_ `f `f);refine E6 ?_ e2 h2;rw[e2];show `i _ _ (`rv (`pu::`adu)) _ _ s;refine Q1 (thn `ow λu s1 ⟨v,H1,I1,r1,q,xs,ev,hq,k⟩=>U1 ?_);subst ev;obtain rfl:u=`dz q:=r1;obtain⟨its,rv,pl,hz⟩:=`mo hq;have F:=`e7;refine thn (RevL.j30 (I1.ok.hd hc) `fI (by rw[`a?,← F];exact hz) (Q:=`abd) (E:=`az) λh' tk c a ha ga hk=>?_) `au5
 have hf:H1 a=`b:=`pq ha;refine⟨`a9,_,`L! (a:=a) (o:=`n `GC) (t':=tk) hk ha ?_,rfl,k a hf⟩;exact⟨by rw[`oV];exact hz,`VQ,c,rv.reverse,by rw[ga];simp⟩
theorem om0(hl:`auY)(hs:`auZ)(he:`bf)(hc:`bQ:=by rfl)(hgl:`au_ := by rfl)(hgs:`au0 := by rfl)
  (e1:`au1:=by rfl) (e2:`fk:=by rfl)
  (h1:`i?:=by rfl) (h2:`au2:=by rfl) :
  PDF X `au3 (oA `lo t00):=.mk λB δ =>
 (Ub0 hc hl hs (he B δ) hgl hgs e1 e2 h1 h2).imp fun σ H Q ⟨d,en,h,k⟩=>by
  unfold oA z9 v6 at h;cases e3:`as with
  | none=>rw[e3] at h;cases h
  | some x =>
   rw[e3] at h;simp only[`E,`ds] at h;cases x<;>simp only[t00] at h<;>try cases h
   refine⟨_,en,e3,λv H1 s1 r=>?_⟩;rw[Y7] at r;obtain⟨q,xs,rfl,hq,rr⟩:=r;exact⟨q,xs,rfl,`hc,λl hl=>k l _ (`p4 hl) (`lf `BV) ⟨_,j5,rr.reverse.mono (`uN hl)⟩⟩
theorem zj0[`kv]:∀{ks:`kw} {ds:`s} {xs:`C} {q:κ},`bc->(∀d,`asc=`bb->∃x,`au6=`cc/\`ul)/\(`Bf->(`au6).isSome=`se)
 | [],ds,xs,q,h=>by
  refine⟨λd e=>?_,λ_=>?_⟩
  ·unfold yb0 at e;cases e
  ·rfl
 | `mz,[],xs,q,h=>by
  rw[o8] at h;subst h;refine⟨λd e=>?_,`gD⟩
  ·unfold yb0 at e;cases e
  ·simp at z
 | `mz,`aE,xs,q,h=>by
  rw[o7] at h;obtain⟨x,r,rfl,h1,h2⟩:=h;obtain⟨i1,i2⟩:=zj0 (ks:=ks) (q:=q) h2
  by_cases e:k=q
  ·subst e
   refine⟨`au7,λ_=>?_⟩
   ·unfold yb0 at e'
    rw[`cp] at e';cases e';exact⟨x,ul0 rfl,h1⟩
   ·rw[`fl,ul0 rfl]
    unfold T9;simp
  ·refine⟨`au7,`gD⟩
   ·unfold yb0 at e'
    rw[`gN] at e';rw[`fl,`yb];exact i1 d' e'
   ·rw[`fl,`yb,i2 `arq]
    unfold T9;simp[e]
theorem ej0[`kv]:∀{ks:`kw} {xs:`C} {q:κ},`Bf->((`MH).any λkv=>`O (kv.1=q))=`se
 | [],_,_,_=>rfl
 | `mz,[],_,h=>`i1
 | `mz,`rG,q,h=>by
  rw[`fl,`i5,ej0 `n5];rfl
theorem pg0[`kv]{ks:`kw}{xs:`C}{q:κ}{v:V}(h:`Bf):∃ys,`ig `Bc q v=(U6 ks q).zip ys/\(U6 ks q).length=`fy/\(`se=`d->ys=`VS)/\(`se=`m->ys=`Nm):=by
 unfold putK U6;rw[ej0 h];cases hk:`se with
 | true =>
  rw[`cp,`cp];refine⟨`VS,?_,`au8,`ww,λz=>by cases z⟩;clear hk
  induction ks generalizing xs with
  | nil=>rfl
  | cons k ks ih =>
   cases xs with
   | nil=>simp at h
   | cons x xs =>
    rw[`fl,`aC,`aC,`fl,ih `n5]
    by_cases e:k=q<;>simp[e]
 | false =>
  rw[`bD,`bD];refine⟨`Nm,?_,`au8,λz=>(by cases z),`ww⟩;rw[List.zip_append h];rfl
theorem vq0[`kv]{q:κ}{d:D}{v:V}(hv:`dt):∀{ks:`kw} {ds:`s} {xs:`C},`bc->Rps K H B (`asd λp=>if p.1=q then d else p.2) (`VS)
 | [],_,_,_=>`aqo
 | `mz,[],xs,h=>`G0
 | `mz,d'::ds,xs,h=>by
  rw[o7] at h;obtain⟨x,r,rfl,h1,h2⟩:=h;rw[`fl,`fl,`aC,`aC,o7];refine⟨_,_,rfl,?_,vq0 hv h2⟩
  by_cases e:k=q
  ·simp only[e,`c7];exact hv
  ·simp only[e,`dp];exact h1
section
variable{a:`D}
theorem vr0{d:D}{k:X5}{v:V}(h:J2 d=`fU)(r:`dt):v=kV k:=by
 cases d<;>simp[J2] at h
 ·subst h;rw[n6] at r;subst r;rfl
 ·subst h;rw[X6] at r;subst r;rfl
theorem Za0:∀{ds:`s} {ks:`de} {xs:`C},`HA=`a ks->`bc->xs=`Nb
 | [],ks,xs,h,r=>by cases h;rw[o8] at r;exact r
 | `aE,ks,xs,h,r=>by
  unfold rl0 at h;rw[o7] at r;obtain⟨x,r',rfl,h1,h2⟩:=r;cases e1:J2 d with
  | none=>rw[e1] at h;cases h
  | some k =>
   cases e2:`HA with
   | none=>rw[e1,e2] at h;cases h
   | some l =>
    rw[e1,e2] at h;cases h;rw[vr0 e1 h1,Za0 e2 h2];rfl
theorem q10{d:D}{k:`de}{v:V}(h:yw0 d=`fU)(r:`dt):∃b,v=`m'/\`sf:=by
 cases d<;>simp only[yw0] at h<;>try cases h
 rw[W0] at r;obtain⟨a,xs,rfl,q,rr⟩:=r;exact⟨a,rfl,by rw[← Za0 h rr];exact q.2⟩
theorem tq0(hu:`kx)(ha:`cT)(hb:`c')(hs:W20 b:=by exact `oN):PD X `Gt (o2 ga gb ym0):=.mk λB δ=>(V70 hu `bd `fF hs).imp fun σ H Q ⟨d,en,h,k⟩=>by
 unfold o2 at h;cases e1:`hR with
 | none=>rw[e1] at h;cases h
 | some x =>
  cases e2:`hS with
  | none=>rw[e1,e2] at h;cases h
  | some y =>
   rw[e1,e2] at h;simp only[`E] at h;refine`r7;cases x<;>simp only[ym0] at h<;>try cases h
   rename_i ks ds;have r1:=`lg;cases ks with
   | inl ks =>
    simp only at h;cases e3:J2 y with
    | none=>rw[e3] at h;cases h
    | some q =>
     rw[e3] at h;simp only[`E] at h;rw[un0] at r1;obtain⟨p,xs,rfl,_,hp,hl,rr⟩:=r1;obtain⟨v,hv,rv⟩:=(zj0 rr).1 d h;have:=vr0 e3 r2;subst this;exact⟨p,v,rfl,by rw[← hv];exact `NC,`au9⟩
   | inr ks =>
    simp only at h;cases e3:yw0 y with
    | none=>rw[e3] at h;cases h
    | some q =>
     rw[e3] at h;simp only[`E] at h;rw[p70] at r1;obtain⟨p,xs,rfl,_,hp,hl,rr⟩:=r1;obtain⟨v,hv,rv⟩:=(zj0 rr).1 d h;obtain⟨b,rfl,hb⟩:=q10 e3 r2;exact⟨p,v,rfl,by rw[← hv];exact `ND,`au9⟩
theorem ep0(hu:`kx)(ha:`cT)(hb:`c')(hm:`Al .In b=`m:=by first|rfl|with_unfolding_all rfl):PTD X (`LM a [.In] [b] pos) (ob (o2 ga gb `OP)):=.mk λB δ=>(b40 (Se0 hu `bd `fF) hm).imp fun σ H Q ⟨t,en,h,k⟩=>by
 unfold ob o2 at h;cases e1:`hR with
 | none=>rw[e1] at h;cases h
 | some x =>
  cases e2:`hS with
  | none=>rw[e1,e2] at h;cases h
  | some y =>
   rw[e1,e2] at h;simp only[`E] at h;refine`r7;cases y<;>simp only[V3] at h<;>try cases h
   rename_i ks ds;cases ks with
   | inl ks =>
    simp only at h;cases e3:J2 x with
    | none=>rw[e3] at h;cases h
    | some q =>
     rw[e3] at h;simp only[`ds,`E,asB,`sk] at h;cases h;rw[un0] at r2;obtain⟨p,xs,rfl,_,hp,hl,rr⟩:=r2;have:=`VT;subst this;refine`au';rw[`sn];exact `H_
   | inr ks =>
    simp only at h;cases e3:yw0 x with
    | none=>rw[e3] at h;cases h
    | some q =>
     rw[e3] at h;simp only[`ds,`E,asB,`sk] at h;cases h;rw[p70] at r2;obtain⟨p,xs,rfl,_,hp,hl,rr⟩:=r2;obtain⟨b,rfl,hb⟩:=`VU;refine`au!;rw[`sn];exact `H_
theorem sd0(hu:`kx)(ha:`cT)(hb:`c')(hm:`au?:=by first|rfl|with_unfolding_all rfl):PTD X `ava (ob (o2 ga gb `nU)):=.mk λB δ=>(b40 `avb hm).imp fun σ H Q ⟨t,en,h,k⟩=>by
 unfold ob o2 at h;cases e1:`hR with
 | none=>rw[e1] at h;cases h
 | some x =>
  cases e2:`hS with
  | none=>rw[e1,e2] at h;cases h
  | some y =>
   rw[e1,e2] at h;simp only[`E] at h;refine`r7;cases y<;>simp only[V3] at h<;>try cases h
   rename_i ks ds;cases ks with
   | inl ks =>
    simp only at h;cases e3:J2 x with
    | none=>rw[e3] at h;cases h
    | some q =>
     rw[e3] at h;simp only[`ds,`E,asB,`oU] at h;cases h;rw[un0] at r2;obtain⟨p,xs,rfl,_,hp,hl,rr⟩:=r2;have:=`VT;subst this;refine`au';rw[`sn];exact `H_
   | inr ks =>
    simp only at h;cases e3:yw0 x with
    | none=>rw[e3] at h;cases h
    | some q =>
     rw[e3] at h;simp only[`ds,`E,asB,`oU] at h;cases h;rw[p70] at r2;obtain⟨p,xs,rfl,_,hp,hl,rr⟩:=r2;obtain⟨b,rfl,hb⟩:=`VU;refine`au!;rw[`sn];exact `H_
theorem w50(i:Nat)(hu:`kx)(h:`bf)(hN:`bW:=by rfl)(hv:`dX:=by first|exact `b3|exact `eL|exact `eM)(hd:`aW:=by decide)(hcd:`eI:=by decide)
  (ha:∀v,`atG=(do
   let ov ← `atH
   let iv ← `atI
   `Sq
   `Sr
   `Ss):=by intro _;rfl):PTG X `Nn `avc:=.mk λH₀ B₀ d δ pins s σ H v u Q I r ⟨δ',en,e1,k⟩=>by
 unfold putAt at e1;obtain⟨B,b1,b2,env,rv⟩:=`bX;cases e2:`uE with
 | none=>rw[e2] at e1;cases e1
 | some pr =>
  cases e3:`as with
  | none=>rw[e2,e3] at e1;cases e1
  | some dk =>
   rw[e2,e3] at e1;simp only[`E] at e1;cases e4:J2 dk with
   | none=>rw[e4] at e1;cases e1
   | some q =>
    rw[e4] at e1;simp only[`E] at e1;split at e1
    ·rename_i hz
     cases e1;have hi:=da0 e2;obtain⟨a,F,hb,xs,hx,hl,rx⟩:=`jc;have hl:`VV=`aP:=hl;refine ba0 `jd `b4 (set_dict hu) ha `h s σ H v u Q I r `atJ;have:=vr0 e4 r1;subst this;obtain⟨ys,hy,Y,O,Z⟩:=pg0 (q:=q) (v:=v) hl;refine⟨a,_,rfl,DPut.k (`uQ) (`avd),?_⟩;have rr:Rps X.K H1 B `NE ys:=by
      unfold V6;cases hk:`H0 with
      | true=>rw[`cp,O hk];exact vq0 `Vr `uS
      | false=>rw[`bD,Z hk];exact `nv `uS `Vr
     rw[hy];have J:Env X.K (upd H1 a `ave) B σ (`VW):=`yp hi F ⟨ys,j5,Y,`BX `gr⟩;exact `atK
    ·cases e1
universe zz
universe DL
namespace L2
open Spec PyProof.Rows
structure FunV(K:`G)(x qual:Str)(st:`a8)(f:`e)(fd:`S)(dV:`t):Prop where
 ex:∃(oc:`t) (od:`a6) (kV doc pm:`t) (an:`a6) (cdv ct:`t) (osl:`ff),
  fd=`VX/\`aoE
 kp:`xE
section
variable{P:`aa}{w:`L}
theorem FunV.ok{st:`a8}{f:`e}{fd:`S}{ps:`j}{k:Nat}(F:FunV K x `cX st f fd dV)(S:`mt)(len:`F8)
  (hbody:∀(cdv:`t) (A:`a5) (outer:`ei) (s:`r) (H:Hp) (vs:`C) (Q:VK) (E:XK),`aoG->`tS ->
   `aoH):`aoI:=by
 obtain⟨oc,od,kV,doc,pm,an,cdv,ct,osl,rfl,lk,O⟩:=F.ex;refine `aoJ
 obtain⟨t,h,q⟩:=`aoK;exact`aoL
theorem d30{st:`a8}{f:`e}{kV:`t}(l:`t!=`a ⟨oc,od,`jI (`VX),osl⟩)
  (c:`AZ) (k:`xE):FunV K x `cX st f (`VX) dV:=`aoM
universe zz
universe L2
namespace DL
open Spec PyProof.Rows L2
section
variable{P:`aa}{w:`L}
theorem N40{st:`a8}{fd:`S}{ps:`j}{k:Nat}{f:`K}{G:`fj}(F:`avf)(S:`mt)
  (body:`x2)
  (hf:`arA) :
  `arB:=by
 refine `Ho
 ·rw[`aL];exact`Hp
 ·refine`Hq
  have en:`x3:=by
   refine`Hr;unfold L2.start Z8;rw[`aL];exact `Hs
  rcases (`uy).2 with e|⟨rfl,δ,e⟩|⟨e,hn⟩
  ·exact`UG
  ·exact`arC
  ·exact`arD
theorem Ne0{st:`a8}{fd:`S}{ps:`j}{k:Nat}{f:`K}{G:`fj}(F:`avf)(S:`mt)
  (body:`x2)
  (hf:`arE) :
  `arF:=by
 refine `Ho
 ·rw[`aL];exact`Hp
 ·refine`Hq
  have en:`x3:=by
   refine`Hr;unfold L2.start Z8;rw[`aL];exact `Hs
  exact`arG
universe zz
section
variable{a:`D}
noncomputable def Nl0(P:`aa)(w:`L)(K:`G)(mg:`a7)(base:`u)(x:Str)(k:Nat)(ps:`j)(f:`K)(dd:`s):Prop :=
 ∃(fa:`e) (fd:`S) (us:`H) (vs:`C),`auC/\`avg
noncomputable def gd0(P:`aa)(w:`L)(K:`G)(mg:`a7)(base:`u)(x:Str)(k:Nat)(ps:`j)(f:`K)(dd:`s):Prop :=
 ∃(fa:`e) (fd:`S) (us:`H) (vs:`C),`ar7/\`avg
theorem mb0{k:Nat}{ps:`j}{f:`K}{dd:`s}(C:gd0 `a0 X.w X.K `bn `dG x k ps f dd)(hr:`sc)(hk:k<=m)(ha:`kt)(hg:`cI:=by rfl)(hdb:`aW:=by decide)
  (he:`c9:=by rfl) (hpl:`f6:=by rfl):PD X `k3 (oA gA λds=>f (ds++dd)):=by
 obtain⟨fa,fd,us,dvs,F,hm,kp,hb,hd,J⟩:=C;exact .mk λB δ=>(pn0 (E:=E0) F `x! hg hm kp hb hd jd0 `bd hdb he hpl).imp fun σ H Q h=>by
  obtain⟨d,en,h,k⟩:=h;unfold oA at h;cases e1:`bI with
  | none=>rw[e1] at h;cases h
  | some ds =>
   rw[e1] at h;refine`Up;exact⟨B,ds++dd,d,`G?,`abV (J H1 B),h,`Um⟩
theorem yq0{sc scope:`dn}{elt iter tg:`D}{ifs:`bT}{N N':`j}{n:Nat}{caps:`l}{gi:`fi}{idx:`l}{f:`aX}{gt:`fh}{ge:`el}
  (ok:`Hy) (hidx:∀j∈idx,j<n) (hi:`oO)
  (hg:`r') (ht:`r!) (he:`r?)
  (hc:`bQ:=by rfl) (hsc:`kp:=by rfl) (hN:X.N=N:=by rfl) (hs:`i0:=by intro _;rfl) :
  `art:=jx0 hc hsc (hN▸ok) hidx hi hg ht he hs
theorem Y30{d:D}{v:V}(h:`Hz)(r:`dt):we0 v=`d/\∀e u,`e4 e=`d->Rp K H B e u->eqV v u=eqF d e:=by
 cases d<;>simp[`e4] at h
 ·rw[U8] at r;subst r
  refine`H1;cases e<;>simp[`e4] at he<;>simp only[U8,W4,n6,X6] at ru<;>subst ru<;>rfl
 ·rw[W4] at r;subst r
  refine`H1;cases e<;>simp[`e4] at he<;>simp only[U8,W4,n6,X6] at ru<;>subst ru<;>rfl
 ·rw[n6] at r;subst r
  refine`H1;cases e<;>simp[`e4] at he<;>simp only[U8,W4,n6,X6] at ru<;>subst ru<;>rfl
 ·rw[X6] at r;subst r
  refine`H1;cases e<;>simp[`e4] at he<;>simp only[U8,W4,n6,X6] at ru<;>subst ru<;>rfl
theorem cy0{d:D}{v:V}(h:`Hz)(r:`dt):∀{ds:`s} {xs:`C},`VY=`d->`bc->`Gy/\inV v xs=ds.any λy=>eqF y d
 | [],_,_,rs=>by rw[o8] at rs;subst rs;exact`hb
 | e::ds,_,ha,rs=>by
  rw[o7] at rs;obtain⟨x,t,rfl,r1,r2⟩:=rs;rw[`oD,`cQ] at ha;obtain⟨i1,i2⟩:=cy0 h r ha.2 r2;obtain⟨f1,f2⟩:=Y30 ha.1 r1;refine⟨by rw[`oD,f1,i1];rfl,?_⟩;unfold inV at i2 ⊢;rw[`i5,`i5,f2 d v h r,i2]
theorem bn0(neg:`N):Op2 K (rIn K neg) (v70 neg):=by
 intro H B x y dx dy d Q hb rx ry h k;have F:∀(ds:`s) (xs:`C),`bc->`e4 dx=`d/\`VY=`d->d=.bl (xor neg (ds.any λy=>eqF y dx))->∀p,y=`e_->(`Gu∨`Tm)->rIn K neg x y H Q:=by
  intro ds xs rs hf hd p hp hq;obtain⟨f1,f2⟩:=cy0 hf.1 rx hf.2 rs;refine⟨p,xs,hp,hq,(Y30 hf.1 rx).1,f1,`UM⟩;rw[hd,W4,f2];cases neg<;>simp
 cases dy<;>simp only[v70] at h<;>try cases h
 ·split at h
  ·rename_i hf
   have hd:=`VZ;rw[W0] at ry;obtain⟨p,xs,e,q,rs⟩:=ry;exact F _ xs rs hf hd p e (`UQ)
  ·cases h
 ·split at h
  ·rename_i hf
   have hd:=`VZ;rw[Y7] at ry;obtain⟨p,xs,e,q,rs⟩:=ry;exact F _ xs rs hf hd p e (`UP)
  ·cases h
universe zz
theorem Uj0{tg:`D}(h:`bf):PID X tg e (anyI g):=.mk λB δ pins s σ H R I ⟨`al,en,e1,k⟩=>by
 unfold anyI at e1;cases e2:`as with
 | none=>rw[e2] at e1;cases e1
 | some d =>
  rw[e2] at e1;simp only[`E] at e1;cases d<;>simp only[co0] at e1<;>try cases e1
  ·exact(xd0 (tg:=tg) h) B δ `h s σ H R I ⟨_,en,by unfold tupI;rw[e2];rfl,k⟩
  ·exact(N6 (tg:=tg) h) B δ `h s σ H R I ⟨_,en,by unfold zt0;rw[e2];rfl,k⟩
universe DL
namespace ZipL
open Spec PyProof.Rows
abbrev IsZ(h:`u)(z TI TO a:`e)(f:`N):Prop :=
 `en z=`a { cls:=`u9,dict:=`b,data:=`fr #[`ew a,`d_ f,`nz,`B8,`Cf],slots:=#[] }
section
variable{w:`L}{s:`r}
theorem alive{o:Obj}{Q:`avh}(ho:`op)(h:Q (`ae) s):`avi:=by
 have h':Q (`kL) s:=`avj
 exact `avk
theorem i70{TI TO:`e}{f:`N}{Q:`jW}(hz:`so)(ha:`yt)
  (hQ:∀h',`V_->`tz z `P h'->Q `m `dI):`V0:=by
 unfold Builtin.SmallTypes.ownedTupleIsFree;refine `avl;show `avm;rw[`aF];refine A0 (alive ha ?_);simp only[Option.isNone_some,`hG,`dp];refine A0 (B3 hz rfl (x:=`d_ f) rfl ?_);cases f with
 | true =>
  rw[`ay (show ¬((`GI != `GI)=`d) from B7)];exact A1 (hQ _ hz (Heap.SameBut.refl _ _))
 | false =>
  rw[`I (show (`AY `m != `GI)=`d from rfl)];exact A0 (E1 hz `T λh3 F J=>A1 (hQ h3 F J))
theorem X50{TI TO a:`e}{f:`N}{oa:Obj}{k1 k2:Nat}{xs ys:`aI}{x y:`t}{Q:`Z}(D:`eN)
  (hz:`so) (ha:`yt) (hTI:`je)
  (h1:`mC) (h2:`jf) (hl1:`kz) (hl2:`f') (hx:`yu) (hy:`yv)
  (hQ:∀h',`V_->`H2->`yw->`u5->`H3 ->
   `H4->`V1) :
  `V2:=by
 show `sp;refine `sq;show `sr;refine `H5;refine `vu;show `ss;refine A0 (i70 hz ha λh₁ a3 F=>?_);simp only[`hG,`dp];refine `co;simp only[`avn,`i9,`mD];refine `H6;show `st;refine A0 (S3 `V3 `V4 hx λh₂ Z J=>`cw);refine `cw;refine `H6;show `su;refine A0 (S3 `avo `avp hy λh₄ a2 Y=>`cw);refine A1 `jy;refine `avq;have O:`avr=`A:=by rw[Y.1,J.1,F.1]
 have a4:IsZ h₄ z TI TO a `d:=`V5 _ _ `yx (`u2 _ _ `vf a3);have a1:∀c o,`p'->`B6->`B7->`uX->h₄.get? c=`ae:=λc o c1 c3 c4 e=>`V5 _ _ c4 (`u2 _ _ c3 (`lr _ _ c1 e))
 refine `H7;show Q (`Q `avr) _;have hq:=hQ (h₄.push `V6) (A5 _ a4) ((Z.extBut `V5 D.i12).at `avs) (a2.at `avs)
  (by rw[← O];exact `eq) (by rw[`ha,O]) λc o c1 c3 c4 e=>A5 _ (a1 c o c1 c3 c4 e)
 rw[O];exact hq
theorem Vr0{TI TO a:`e}{f:`N}{oa:Obj}{k1 k2:Nat}{xs ys:`aI}{Q:`rh}(hh:`cR)(D:`eN)
  (hz:`so) (ha:`yt) (hTI:`je)
  (h1:`mC) (h2:`jf) (hl1:`kz) (hl2:`f') (hend:`yy)
  (hE:∀h' e,`H4->`H8) :
  `V7:=by
 show `sp;refine `sq;show `sr;refine `H5;refine `vu;show `ss;refine A0 (i70 hz ha λh₁ Z F=>?_);simp only[`hG,`dp];refine `co;simp only[`avn,`i9,`mD];refine `H6;show `st;cases hx:`uW with
 | none =>
  refine A0 (c9 hh `V3 `V4 hx λh₂ e J he=>?_);exact hE h₂ e (λc o c1 c3 _ x=>J _ _ c3 (`lr _ _ c1 x)) he
 | some x =>
  have hy:`B':=`V8
  refine A0 (S3 `V3 `V4 hx λh₂ Y J=>`cw);refine `cw;refine `H6;show `su;refine A0 (c9 hh `avo `avp hy λh₄ e O he=>?_);exact hE h₄ e (λc o c1 c3 c4 x=>O _ _ c4 (`u2 _ _ c3 (`lr _ _ c1 x))) he
theorem ot0{TI TO a:`e}{f:`N}{oa:Obj}{k1 k2:Nat}{xs ys:`aI}{x y:`t}{Q:`gH}(D:`eN)
  (hz:`so) (ha:`yt) (hTI:`je)
  (h1:`mC) (h2:`jf) (hl1:`kz) (hl2:`f') (hx:`yu) (hy:`yv)
  (hQ:∀h',`V_->`H2->`yw->`u5->`H3 ->
   `H4->`adK) :
  `nI:=by
 have hT:`kA := `mE;unfold pyNext;exact A0 (P3 (E7 (name:=`kB) hT E2
  (D8 E2 hT d4
   (X50 D hz ha hTI h1 h2 hl1 hl2 hx hy λh' a1 a3 a4 a5 a6 a7=>A1 (hQ h' a1 a3 a4 a5 a6 a7)) `sv)))
theorem s20{TI TO a:`e}{f:`N}{oa:Obj}{k1 k2:Nat}{xs ys:`aI}{Q:`gH}(hh:`cR)(D:`eN)
  (hz:`so) (ha:`yt) (hTI:`je)
  (h1:`mC) (h2:`jf) (hl1:`kz) (hl2:`f') (hend:`yy)
  (hQ:∀h',`H4->`NM):`nI:=by
 have hT:`kA := `mE;unfold pyNext;refine A0 (P3 (E7 (name:=`kB) hT E2
  (D8 E2 hT d4 (Vr0 hh D hz ha hTI h1 h2 hl1 hl2 `nA `V9) `sv)))
 obtain⟨o,ho,hc⟩:=he;refine `V';exact `avt
universe zz
structure ZSt(h:`u)(z TI TO i1 i2 l1 l2 S:`e)(xs ys:`aI)(i:Nat):Prop where
 own:(i=0/\`avu/\`V!)∨∃a f oa,IsZ h z TI TO a f/\`gS=`a oa/\a≠z/\a≠i1/\a≠i2/\a≠S
 hTI:`V?
 h1:`po i1 l1 i
 h2:`po i2 l2 i
 hl1:`Wa l1 xs
 hl2:`Wa l2 ys
structure ZLow(z TI TO i1 i2 l1 l2 S:`e):Prop where
 z:z<S
 TI:TI<S
 TO:TO<S
 i1:i1<S
 i2:i2<S
 l1:l1<S
 l2:l2<S
structure ZG(xs ys:`aI)(S:`e)(h:`u)(as:`aJ):Prop where
 rise:as.Pairwise (·<·)
 above:∀a∈as,S<a
 pairs:∀(j:Nat) (a:`e),`avv->∃x y,`pA=`cc/\`avw/\`d! h a x y
section
variable{w:`L}{s:`r}{TI TO S:`e}{h:`u}
theorem ZG.there{as:`aJ}(g:`avx)(ha:a∈as):a<`d1:=by
 obtain⟨j,hj⟩:=List.mem_iff_getElem?.mp ha;obtain⟨_,_,_,_,e⟩:=`avy;exact `b9
theorem ZSt.keep(x:`avz)(L:`avA)(hk:∀b o,b≠S->`FS):ZSt h' z TI TO i1 i2 l1 l2 S xs ys i:=by
 refine⟨?_,hk _ _ (A6 L.TI) x.hTI,x.h1.at λo e=>hk _ o (A6 L.i1) e,x.h2.at λo e=>hk _ o (A6 L.i2) e,x.hl1.at λo e=>hk _ o (A6 L.l1) e,x.hl2.at λo e=>hk _ o (A6 L.l2) e⟩;rcases x.own with⟨e,hz,p,q,hp⟩|⟨a,f,oa,hz,ha,n1,n2,n3,n4⟩
 ·exact `o ⟨e,`avB,p,q,hk _ _ (A6 L.TO) hp⟩
 ·exact `q ⟨a,f,oa,`avB,hk _ _ n4 ha,n1,n2,n3,n4⟩
theorem Ps0{x:`t}{Q:`gH}(D:`eN)(st:`avC)(hS:S<`A)(hx:`h7)(hy:`NT)
  (hQ:∀h',ZSt h' z TI TO i1 i2 l1 l2 S xs ys `cy->`avD) :
  `nI:=by
 obtain⟨o1,e1,_⟩:=id `yz;obtain⟨o2,e2,_⟩:=id `yA;rcases st.own with⟨rfl,hz,p,q,hp⟩|⟨a,f,oa,hz,ha,n1,n2,n3,n4⟩
 ·refine wpAny_pyNext_zip_item D hz `sw hp `yz `yA `H9 `H' hx hy λh' a1 a2 a3 a4 a5 a6 hk=>hQ h' ⟨`q ⟨_,`m,_,a1,a5,B2 (A3 hz),B2 (`yB),B2 (A3 e2),B2 hS⟩,hk _ _ `Ci D.TITO `N1 `N2 `sw,a3,a4,
   st.hl1.at λo e=>hk _ o `u1 D.l1TO D.l1i1 D.l1i2 e,st.hl2.at λo e=>hk _ o `u3 `NY `u4 D.l2i2 e⟩ a5 hk
 ·refine ot0 D hz ha `sw `yz `yA `H9 `H' hx hy λh' a1 a3 a4 a5 a6 hk=>hQ h' ⟨`q ⟨a,`d,oa,a1,hk _ _ n1 n2 n3 ha,n1,n2,n3,n4⟩,hk _ _ `Ci `N1 `N2 `sw,a3,a4,
   st.hl1.at λo e=>hk _ o `u1 D.l1i1 D.l1i2 e,st.hl2.at λo e=>hk _ o `u3 `u4 D.l2i2 e⟩ a5 `avE
theorem O40{Q:`gH}(hh:`cR)(D:`eN)(st:`avC)(hend:`avF)
  (hQ:`avG):`nI:=by
 rcases st.own with⟨rfl,hz,p,q,hp⟩|⟨a,f,oa,hz,ha,n1,n2,n3,n4⟩
 ·exact wpAny_pyNext_zip_end hh D hz `sw hp `yz `yA `H9 `H' `nA hQ
 ·exact s20 hh D hz ha `sw `yz `yA `H9 `H' `nA λh' hk=>hQ h' `avE
universe zz
section
variable{w:`L}{s:`r}{TI TO S lo:`e}{h₁:`u}
theorem Pg0(hh:`cR)(D:`eN)(L:`avA)(hlo:`Wb)(hn:`H!)(res:`t)
  (hR:∀h' tk acc c as,(∀b o,b<lo->`TU->`mV)->`ge S=`avH->`Wc->ZG xs ys S h' as ->
   `avI->R (.ok (`dA res)) `ir) :
  ∀(k i:Nat) (h:`u) (tk c:Nat) (acc:`aI) (as:`aJ),`u6 - i=k->i<=`u6->`avz->(∀b o,b<lo->`TU->`eY) ->
   `en S=`avH->`avI->`u7=i->`avx ->
   `gm `am A (`cb `avJ ⟨[`Q S,`p8,res],[]⟩) R `Wd:=by
 have b4:=hlo.1;have b3:lo<S:=N2 hlo.1 L.z;have lk:∀(h h':`u),(`We)->∀b o,b<lo->`FS:=λh h' hk b o hb e =>
  hk b o (A6 (B4 hb hlo.1)) (A6 (B4 hb hlo.2.1)) (A6 (B4 hb hlo.2.2.1)) (A6 (B4 hb hlo.2.2.2)) e
 have Z:∀(h h':`u),(`We)->∀b o,S<=b->`FS:=λh h' hk b o hb e =>
  hk b o (B2 (B4 L.z hb)) (B2 (B4 L.TO hb)) (B2 (B4 L.i1 hb)) (B2 (B4 L.i2 hb)) e
 intro k
 induction k with
 | zero =>
  intro i h tk c acc as hk hi a2 J hS O Y hG;have b1:`avF:=by
   rcases Nat.le_total `nB `p? with q|q
   ·exact `o (Cu0 `g)
   ·exact `q (Cu0 `g)
  refine `avK;rw[`avL];show `avM;refine A0 (O40 (s:=`Wd) (A:=`bz) hh D a2 b1 λh' he=>?_);refine A1 (hR h' tk acc c as (λb o h1 e=>lk h h' he b o h1 (J b o h1 e)) (Z h h' he S _ `aK hS) `g ⟨hG.rise,`H?,`avN⟩ O);obtain⟨x,y,e1,e2,e3⟩:=hG.pairs j a hj;exact⟨x,y,e1,e2,Z h h' he a _ (P7 (`H? a (E4 hj))) e3⟩
 | succ k ih =>
  intro i h tk c acc as hk hi a2 J hS O Y hG;have a3:i<`u6:=`p
  have a7:i<`nB:=B4 a3 (Nat.min_le_left ..);have b0:i<`p?:=B4 a3 (By0 ..);have a6:acc.size=i:=by rw[← `FO,O,`F,Y]
  have a4:S<`d1:=A3 hS;refine `avK;rw[`avL];show `avM;refine A0 (Ps0 (s:=`Wd) D a2 a4 (p9 a7) (p9 b0) λh' b2 ht a1=>?_);dsimp only at ht a1 ⊢;have a8:=Z h h' a1 S _ `aK hS;have up:∀b o,b≠S->`mV->(h'.update S (`e8 `avO)).get? b=`ae:=`auV
  show `i _ `bz (`HX S `avO>>=_) _ _ _;refine `co;refine n9 a8 rfl (A1 ⟨L6 y3 _,ih `cy _ tk _ (`avP) `avQ `g a3 (b2.keep L up)
   (λb o h1 e=>up b o (A6 (E9 h1 b3)) (lk h h' a1 b o h1 (J b o h1 e))) (L0 _ a8 rfl) (by rw[Array.toList_push,O,`bl];rfl) (by rw[`aM,Y];rfl) ⟨?_,?_,?_⟩⟩) (by rw[a6];omega) (by show (`avP).size<=`R+1;rw[Array.size_push,a6];omega)
  ·refine List.pairwise_append.mpr ⟨hG.rise,List.pairwise_singleton _ _,λa ha b hb=>?_⟩
   rw[`qe];exact hG.there ha
  ·intro a ha
   rcases `er ha with ha|ha
   ·exact `H? a ha
   ·rw[`d? ha];exact a4
  ·intro j b hj
   rcases Cw0 j `u7 with h1|h1|h1
   ·rw[`AA h1] at hj
    obtain⟨x',y',e1,e2,e3⟩:=hG.pairs j b hj;have hb:=`H? b (E4 hj);exact⟨x',y',e1,e2,up b _ (B2 hb) (Z h h' a1 b _ (P7 hb) e3)⟩
   ·subst h1
    have hb:`d1=b:=`uk
    subst hb;exact⟨_,_,by rw[Y];exact p9 a7,by rw[Y];exact p9 b0,up _ _ (B2 a4) ht⟩
   ·have a5:`avQ[j]?=`b:=`acw `avR
    rw[a5] at hj;cases hj
universe zz
theorem di0:`jB `u' "__len__"=`kZ:=`rg
theorem fm0:`jB `u' `Ny=`kZ:=`rg
section
variable{w:`L}{s:`r}{TI TO lo:`e}
noncomputable def Pc0(xs ys:`aI)(lo:`e)(s:`r)(h':`u)(as:`aJ):Prop :=
 (∀b o,b<lo->`B1)/\`Wc/\ZG xs ys `A h' as
theorem f60{Q:`H->`dy}(hh:`cR)(D:`eN)(hlo:`Wb)
  (st:`avS) (hn:`H!) (L:`avT)
  (hT:`kA) (hI:`avU)
  (hQ:∀h' tk as,`avV->`avW->Q (`qa) `ir):`i `am A (collect `fG) Q E s:=by
 have Y:`A≠z:=B2 L.z;obtain⟨f0,hI⟩:=hI;unfold collect;refine A0 (wpAny_runValue (E5 F.entry_proto_collect ?_));rw[`u8 F.plain_proto_collect _];show `i _ `bz (`TT>>=λl=>`ps (`cb "list.__iadd__" ⟨[l,`p8],[]⟩)) _ _ s;refine A0 (K0 ?_);refine A1 ⟨L6 `avX _,E5 F.entry_list_iadd ?_⟩;rw[`u8 `avX _];have a2:(`NO).get? `A=`a `A8:=`eq;have a1:=A5 `A8 hI;have J:`Cl `avY `fG `fv := ⟨_,a1,rfl⟩;show `i _ `bz (`NA `fH `fG `fH) _ _ _;unfold Builtin.List.listExtendWith;refine A0 (E8 J ?_);have h1:`HV `fH `fG=`m:=by simp[`HV,Y]
 have h2:(`gs `fv==`VN)=`m:=`ai
 have h3:(`gs `fv==`VO)=`m:=`ai
 simp only[h1,h2,h3,`w2,`hG,`dp];refine A0 (y4 (s:=`avY) a1 ?_);refine `u_;unfold Builtin.List.listLengthHint;refine A0 (l9 J di0 ?_);show `i _ `bz (specialOf (`dz z) `auQ>>=_) _ _ _;refine A0 (l9 J fm0 ?_);refine `cw;show `i _ `bz (rule "list.extend.makes-room">>=λ_=>Builtin.List.listTouch `fH>>=λ_ =>
  `ps (`cb `avJ ⟨[`cu,`p8,`cu],[]⟩)) _ _ _
 refine `Ia;refine `co;show `i _ `bz (`HX `A (`NN `aj)>>=λ_=>`HX `A `Wf) _ _ _;refine A0 (n9 a2 rfl ?_);have O:=L0 `avZ a2 rfl;refine n9 O rfl ?_;have a4:=L0 (`e8 `Wf) O rfl;have oth:∀b o,b≠`A->`gf ->
   (((`NO).update `A `avZ).update `A (`e8 `Wf)).get? b=`ae :=
  λb o hb e=>`B0 (`B0 `Ch)
 refine A1 ⟨L6 y3 _,Pg0 (s:=s) (lo:=lo) (h₁:=`P) hh D L hlo hn _ (λh' tk a5 c as hk Z hl hG a3=>?_) _ 0 _ `a1 _ #[] [] rfl `xH
  ((st _ Y (B2 L.i1) (B2 L.i2)).keep L oth) (λb o hb e=>oth b o `Sn e) a4 rfl rfl ⟨`av_,(λ_ ha=>nomatch ha),(λj a hj=>by simp at hj)⟩⟩
 show `i _ A (load `A>>=_) _ _ _;refine A0 (`aly Z ?_);refine `cw;have:=hQ h' tk as ⟨hk,hl,hG⟩ (A3 Z);rw[← a3] at this;exact `B
universe zz
section
variable{w:`L}{s:`r}{TI TO lo:`e}
theorem qy0{Q₁:`Z}(hh:`cR)(D:`eN)(hlo:`Wb)
  (st:`avS) (hn:`H!) (L:`avT)
  (hT:`kA) (hI:`avU)
  (h:∀h' tk as,`avV->`avW->Q₁ (`an') { s with heap:=`Tw `av0,toks:=tk }) :
  `gm `am A (`pF (`cb `Wg) `Wh) (wants Q₁ E) s:=by
 refine `av1;show `i _ `bz (do `Fe `Wg `Wh;`ps (`cb `Wg `Wh)) _ _ s;refine A0 (`Wi (F.newCall_tuple_1 _) (A1 ⟨L6 `av2 _,E5 F.entry_tuple_new ?_⟩));rw[`u8 `av2 _];have Z:=sub_tuple_self;have Y:=init_tuple_lookup;have a1:=madeHere_tuple;have O:`av3:=`VR
 wp_walk using E8 hT,f60 (lo:=lo) O D hlo st hn L hT hI
 intro h' tk as hz J;show `i _ _ (`AG `adM>>=λv=>ret v) _ _ _;unfold Builtin.Tuple.tupleExact;refine A0 (K0 ?_ (by show (`qa).toArray.size<=`R;rw[`a?,`F,hz.2.1];exact hn));exact A1 (h h' tk as hz J)
theorem Zi0{Q:`Z}(hh:`cR)(hl1:`kz)(hl2:`f')(hn:`H!)
  (h:∀(h':`u) (tk:Nat) (as:`aJ) (t:`e),`Oq->`Wc->(∀a∈as,`Fw/\a<t)->as.Nodup->`A<=t ->
   (∀(j:Nat) (a:`e),`avv->∃x y,`pA=`cc/\`avw/\`d! h' a x y)->`ge t=`a `av0->Q `k4 `ir) :
  `i `am A `av4 (λv s1=>`i `am A (`b' `GA [v]) Q E s1) E s:=by
 have a1:l1<`A:=by obtain⟨_,e,_⟩:=hl1;exact `b9
 have a2:l2<`A:=by obtain⟨_,e,_⟩:=hl2;exact `b9
 refine `av5 hl1 hl2 λh1 hz hTI a4 a3 Y Z hk=>?_
 have O:h1.IsList l1 xs:=hl1.at `av6
 have J:h1.IsList l2 ys:=hl2.at `av6
 have H:∀k,k<5->`A+k<`ly:=λk hk=>by rw[Z];exact Nat.add_lt_add_left hk _
 refine x5 (Q₁:=λobj s₁=>s₁.TypeIs obj `dC/\Q obj `dM) F.called_tuple (F.typeCall_tuple_1 _) `av7
  (qy0 (lo:=`A) (xs:=xs) (ys:=ys) (`VR) `Wj ⟨C0 _ 4,C0 _ 3,`g0,C0 _ 1⟩ (λS n1 n2 n3=>⟨`o ⟨rfl,hz,_,_,a4⟩,hTI,a3,Y,O,J⟩) hn
   ⟨H 4 `f,H 2 `f,H 3 `f,H 0 `f,H 1 `f,E9 a1 `Ib,E9 a2 `Ib⟩
   `mE `NV λh' tk as ze a5=>⟨`Ic,?_⟩) λobj s₁ h₁=>?_
 ·obtain⟨k1,k2,g⟩:=ze
  refine h (`Tw _) tk as `nb (λb o e=>A5 _ (k1 b o `kU (hk b o e))) k2 (λa ha=>⟨?_,g.there ha⟩) (g.rise.imp λh=>A6 h) ?_ (`avN) `nH
  ·exact P7 (E9 `Ib (g.above a ha))
  ·exact P7 (E9 `Ib a5)
  ·obtain⟨x,y,e1,e2,e3⟩:=`avy
   exact⟨x,y,e1,e2,A5 _ e3⟩
 ·exact⟨h₁.1,`av8,object_init_meets F.called_tuple.init.lookup F.called_tuple.made `f `eS w `bz _ `dM ⟨h₁.1,rfl,h₁.2⟩⟩
universe zz
universe ZipL
namespace L2
open Spec PyProof.Rows
noncomputable def vm0(H:Hp):`sx->Hp
 | []=>H
 | p::l=>upd `u! p.1 p.2
theorem oc0{b:`e}:∀{l:`sx},(∀p∈l,p.1≠b)->`Wk=H b
 | [],_=>rfl
 | p::l,h=>by
  show `av9=_;rw[Z0 (B1 (h p A7)),oc0 λq hq=>h q (`Wl)]
theorem ks0{b:`e}{u:HO}:∀{l:`sx},`Wk=`bg->(∃p∈l,p.1=b/\p.2=u)∨`or
 | [],e=>`q e
 | p::l,e=>by
  by_cases h:b=p.1
  ·subst h
   have e':upd `u! p.1 p.2 p.1=`bg:=e;rw[j5] at e';exact `o ⟨p,A7,rfl,B5 e'⟩
  ·have e':`av9=`bg:=e
   rw[Z0 h] at e';rcases ks0 e' with⟨q,hq,x⟩|x
   ·exact `o ⟨q,`Wl,x⟩
   ·exact `ma
theorem o50:∀{l:`sx},(`d9 `u?).Nodup->∀p∈l,vm0 H l p.1=`tv
 | [],_,p,h=>nomatch h
 | q::l,n,p,h=>by
  rw[`aC,`Wm] at n;show upd `u! q.1 q.2 p.1=_;rcases `Du with rfl|h
  ·rw[j5]
  ·rw[Z0 (λz=>n.1 (by rw[← z];exact B60 h)),o50 n.2 p h]
section
variable{s:`r}
theorem Inv.laidL{l:`sx}{t':Nat}(I:`y)(k:`R5)
  (hl:∀p∈l,`A<=p.1/\∃xs,p.2=`gT/\`cJ `a0 X.w H h' p.1 `pf):Inv X `h σ `u! `mW:=by
 have F:∀b,b<`A->`Wk=H b:=λb hb=>oc0 λp hp z=>by
  have:=(hl p hp).1;rw[z] at this;exact E3 _ (B4 hb `B)
 refine I.un ⟨`ajH,`ajI,λb u q n _=>by rw[F b `Fr];exact n,`ajJ,λb xs q=>`av',
  λb u xs q=>`av',λb ps q=>⟨#[],by rw[`adO,q];simp⟩⟩ `R4
 rcases ks0 e with⟨p,hp,rfl,rfl⟩|e'
 ·obtain⟨_,xs,ex,ok⟩:=hl p hp
  rw[ex];exact ok
 ·exact(`bh b u e').stay `ajB (λc q=>`av!) λc xs q=>`av!
universe zz
noncomputable def gr0(X:Cx)(f1 f2:`t)(r:`cZ):Prop :=
 ∀(pins:`av) (s:`r) (σ:St) (H:Hp) (xs:`C) (us:`H) (Q:VK),`y->`dq->`F2 ->
  `i `ac X.A (`b' f2 us) (λv s1=>`i `ac X.A (`b' f1 [v]) `fz `az s1) `az s
section
variable{x1:Str}{T1 T2:`bj}{r:`cZ}{t:TA}
theorem al0(hc:`av?)(hg1:Gl X x1)(hg2:Gl X x2)(hm1:`awa)(hm2:`awb)(hv1:`awc)(hv2:`awd)(ha:`rI)
  (hn1:`awe := by decide) (hd1:`awf:=by decide) (hn2:`awg := by decide) (hd2:`awh:=by decide)
  (e1:`awi:=by rfl) (h1:`i?:=by rfl)
  (he:`c9:=by rfl) (hpl:`awj:=by rfl) :
  PE X `awk (tCB r t):=by
 intro pins s σ H Q I h;refine N1 (z80 I hg1 hm1 hv1 ?_ hn1 hd1);refine `au4;rw[e1];show `i _ _ (`rv (`adP::`Bz)) _ _ s;refine Q1 ?_;refine N1 (z80 I hg2 hm2 hv2 ?_ hn2 hd2);refine E6 (thn (ha pos2 `h s σ H _ I h) `abu) he hpl;exact thn (`abM) `au5
universe zz
universe L2
namespace DL
open Spec PyProof.Rows L2
section
variable{x1:Str}{T1 T2:`bj}{r:`cZ}{f:`K}
theorem Zs0(hc:`av?)(hf:`Un)(hm1:`awa)(hm2:`awb)(hv1:`awc)(hv2:`awd)(ha:`kt)(hg1:Gl X x1:=by rfl)(hg2:Gl X x2:=by rfl)
  (hn1:`awe := by decide) (hd1:`awf:=by decide) (hn2:`awg := by decide) (hd2:`awh:=by decide)
  (e1:`awi:=by rfl) (h1:`i?:=by rfl)
  (he:`c9:=by rfl) (hpl:`awj:=by rfl) :
  PD X `awk `Bm :=
 .mk λB δ=>(al0 hc hg1 hg2 hm1 hm2 hv1 hv2 `bd hn1 hd1 hn2 hd2 e1 h1 he hpl).imp `Uo
universe zz
noncomputable def xb0:`aJ->`uJ->`sx
 | `sy,`oW=>(a,`BY)::`NR
 | _,_=>[]
theorem kn0:∀{as:`aJ} {ps:`uJ},`u7=`M->`awl=as
 | [],[],_=>rfl
 | [],`dR,h=>`i1
 | `dR,[],h=>`i1
 | `sy,`oW,h=>by
  show a::`awl=_;rw[kn0 `n5]
theorem k30:∀{as:`aJ} {ps:`uJ} {q:`e×HO},q∈`NR->∃(j:Nat) (p:V×V),as[j]?=`a q.1/\`awm/\q.2=`BY
 | [],_,q,h=>`awn
 | `dR,[],q,h=>`awn
 | `sy,`oW,q,h=>by
  rcases `Du with rfl|h
  ·exact⟨0,p,rfl,rfl,rfl⟩
  ·obtain⟨j,p',h1,h2,h3⟩:=k30 h
   exact⟨j+1,p',`tp,`Gb,h3⟩
noncomputable def V10(K:`G):`cZ:=λvs H Q=>∃q1 q2 xs ys,vs=[`Q q1,`Q q2]/\SqL K H q1 xs/\SqL K H q2 ys /\
 ∀(t:`e) (as:`aJ),`Wn->as.Nodup->t∉as->`sz->(∀a∈as,`rp)->Q `k4 (vm0 H ((t,`w `B?)::`awo))
theorem va0:∀as:`aJ,`bm `B? (`qa)
 | []=>`U
 | `sy=>`ak rfl (va0 as)
theorem lj0(hc:`bQ:=by rfl):gr0 X `GA `u' (V10 X.K):=by
 intro pins s σ H vs us Q I r h;obtain⟨q1,q2,xs,ys,rfl,h1,h2,k⟩:=h;cases r with
 | cons r1 r =>
  cases r with
  | cons r2 r =>
   cases r;obtain rfl:=r1;obtain rfl:=r2;obtain⟨us1,v1,p1,z1⟩:=`dK h1;obtain⟨us2,v2,p2,z2⟩:=`dK h2;have l1:=v1.length;have l2:=v2.length;refine ZipL.Zi0 `dZ `gw `i! (`att) λh' tk as t hk hl ha O ht hp gt=>?_
   rw[`a?,`a?] at hl;have J:`Wn:=by rw[`gt,hl];omega
   refine⟨`Q t,_,I.laidL (t':=tk) hk λp F=>?_,rfl,k t as J O (λz=>E3 _ (ha t z).2) (`pz ht) λa h=>`pz (ha a h).1⟩;rcases `b1 F with rfl|F
   ·refine⟨ht,_,rfl,?_,`qa,va0 as,⟨_,gt,rfl,_,rfl,rfl⟩⟩
    rw[`F,hl];omega
   ·obtain⟨j,⟨x,y⟩,e1,e2,e3⟩:=k30 F
    obtain⟨u,w,f1,f2,f3⟩:=hp j p.1 e1;have hz:=B70.mp e2;obtain⟨u',g1,g2⟩:=v1.get hz.1;obtain⟨w',g3,g4⟩:=v2.get hz.2;have eu:u'=u:=by
     have:us1.toArray[j]?=`a u':=by simpa using g1
     rw[f1] at this;exact`Wo
    have ew:w'=w:=by
     have:us2.toArray[j]?=`a w':=by simpa using g3
     rw[f2] at this;exact`Wo
    subst eu;subst ew;exact⟨(ha p.1 (E4 e1)).1,_,e3,`qP,[u',w'],`ak g2 (`ak g4 `U),⟨_,f3,rfl,_,rfl,rfl⟩⟩
theorem km0:∀{ds es:`s} {xs ys:`C} {as:`aJ},`bc->`aqm->`Wn->(∀p∈`awo,H p.1=`tv/\¬B p.1) ->
  Rps K H B (`ad9) `B?
 | [],es,xs,ys,as,r1,r2,hl,h=>by
  rw[o8] at r1;subst r1;simp at hl;subst hl;simp[o8]
 | `aE,[],xs,ys,as,r1,r2,hl,h=>by
  rw[o8] at r2;subst r2;simp at hl;subst hl;simp[o8]
 | `aE,`tG,xs,ys,as,r1,r2,hl,h=>by
  rw[o7] at r1 r2;obtain⟨x,xs',rfl,a1,a2⟩:=r1;obtain⟨y,F,rfl,b1,b2⟩:=r2;cases as with
  | nil=>simp at hl
  | cons a as =>
   have h0:=h (a,`w `vb) A7;rw[`fl,`aC,`aC,o7];refine⟨_,_,rfl,?_,km0 a2 b2 `acx λp hp=>h p (A9 _ hp)⟩;rw[W0];refine⟨a,`vb,rfl,⟨h0.2,h0.1⟩,?_⟩;rw[o7];refine⟨_,_,rfl,a1,?_⟩;rw[o7];exact⟨_,_,rfl,b1,`go⟩
theorem b50:FnR K (V10 K) mg0:=by
 intro H B xs ds d Q bad r h k;unfold mg0 at h;split at h<;>try cases h
 rename_i ds es;rw[o7] at r;obtain⟨x,r',rfl,r1,r⟩:=r;rw[o7] at r;obtain⟨y,r',rfl,r2,r⟩:=r;rw[o8] at r;subst r;rw[Y7] at r1 r2;obtain⟨q1,us,rfl,s1,t1⟩:=r1;obtain⟨q2,ws,rfl,s2,t2⟩:=r2;refine⟨q1,q2,us,ws,rfl,s1.to,s2.to,λt as hl J ht ft fa=>?_⟩;have F:(`awp)=t::as:=by rw[`aC,kn0 hl]
 have hN:(`awp).Nodup:=by rw[F];exact S0.mpr ⟨ht,J⟩
 have fr:∀p∈(`Ca),`aa6:=λp hp=>by
  have:p.1∈t::as:=by rw[← F];exact B60 hp
  rcases `b1 `B with e|e
  ·rw[e];exact ft
  ·exact fa _ e
 have sm:`e1 H (vm0 H (`Ca)):=λb u e=>by
  rw[oc0 λp hp z=>by rw[← z,fr p hp] at e;cases e];exact e
 have nb:∀p∈(`Ca),¬B p.1:=λp hp z=>bad _ z (fr p hp)
 refine k _ _ sm ?_;rw[W0];refine⟨t,`adQ,rfl,⟨nb _ A7,o50 hN _ A7⟩,km0 (t1.same sm) (t2.same sm) hl λp hp=>⟨o50 hN p (A9 _ hp),nb p (A9 _ hp)⟩⟩
universe DL
namespace L2
open Spec PyProof.Rows
section
variable{s:`r}
theorem Inv.turnedL(I:`y)(hf:∀b∈fp,`Ar)(k:`awq):`R2:=by
 have F:∀b u,`or->b∉fp:=λb u e z=>by rw[(hf b z).1] at e;cases e
 refine `FC (g':=`rr) (d':=`FD) (ch:=fp) (λb hb=>⟨(`m1).2.2.2.1,(`m1).2.1,(`m1).2.2.2.2.1,(`m1).2.2.2.2.2⟩) (λb o _ _ hc e _=>`Wp) (λb o _ _ hc e _=>⟨`FE,`Wp⟩) `aj!
  (λb o hc e=>⟨o,`Wp⟩) (`FF) (λ_ _ _ e=>e) `aj? (λm hm=>?_) (`R4) `ej
 ·obtain⟨o,es,ep,ho,r⟩:=hm
  exact⟨o,es,ep,k _ o (λz=>(hf _ z).2.1 rfl) ho,r⟩
 ·refine`aka
  rcases hc with z|z
  ·rw[z];exact F b u e
  ·exact F c _ z
theorem Inv.turnedNew{t':Nat}{x y:V}{w:`t}(I:`y)(hf:∀b∈fp,`Ar)(rx:`g2)(ry:`Nr)(hlt:∀b∈fp,b<`A)
  (hob:`an6=`a `adR) (k:`awq) :
  Inv X `h σ `awr `mW/\∀b∈fp,`aws:=by
 have ne:∀b∈fp,b≠`A:=λb hb=>A6 (hlt b hb)
 have fr:∀b∈fp,`aws:=λb hb=>by rw[Z0 (ne b hb)];exact(`m1).1
 have I1:Inv X `h σ `awr `awt :=
  `gx (`m3) `aK ⟨`qP,[u,w],`ak rx (`ak ry `U),`RA⟩
 refine⟨Inv.turnedL (s:=`awt) (t':=t') (fp:=fp) I1 (λb hb=>⟨fr b hb,(`m1).2⟩) λb o hb e=>?_,fr⟩;rcases Heap.get?_push_cases e with⟨rfl,rfl⟩|e
 ·exact hob
 ·exact k b o hb e
universe zz
noncomputable def Itz(K:`G)(a b:`e):It :=
 ⟨λi H=>∃xs ys x y,`m0/\`awu,
   λi H v H'=>∃t x y,`yC/\`sz/\H'=upd H t `vc/\(`FV)/\`awv,
   λi H=>∃xs ys,`m0/\`aww⟩
noncomputable def Ite(K:`G)(a:`e):It :=
 ⟨`SH,
   λi H v H'=>∃t x,`yC/\`sz/\`awx/\`FV,
   `SI⟩
theorem bw0{P:`aa}{w:`L}{x1}{e:`e}(hei:e≠it):`h6 P w K `Id (Ite K a) `nF e
  (λi h=>`awy/\`SL) where
 mem:=`aB
 obj:=λi h st c hc=>by
  obtain⟨⟨old,he⟩,⟨o1,e1,c1,d1⟩⟩:=st;simp only[`aO,`aU,`aV] at hc;rcases hc with rfl|rfl
  ·exact`Wq
  ·exact`yD
 keep:=λi h h' st k=>by
  obtain⟨⟨old,he⟩,h1⟩:=st;exact⟨`awz,h1.at `awA⟩
 item:=by
  intro X hP hw hK hc i pins s σ H E I hf st hg;subst hP hw hK;obtain⟨⟨old,he⟩,h1⟩:=st;obtain⟨xs,x,hq,hx⟩:=hg;obtain⟨us,rv,p1,z1⟩:=`eJ;obtain⟨u,hu,ru⟩:=`xf;refine wpAny_pyNext_enum_item he h1 `gw (x:=u) `xg hei λh' a1 a2 a3 a4 hk=>?_
  refine⟨_,rfl,B80 (s:=`A_) a1 λF b1 hs=>?_⟩;have le:=A3 he;obtain⟨o1,e1,_⟩:=`yE;have l1:=`yB;obtain⟨I1,fr⟩:=`yF (h':=F) (t':=`tN) (fp:=`nF) (x:=`il) (u:=`c i `a1) hf `au ru (λc hc=>by
   simp only[`aO,`aU,`aV] at hc;rcases hc with rfl|rfl<;>assumption) `Wr (λc o hc x=>by
   simp only[`aO,`aU,`aV,`hV] at hc;exact`Ws)
  exact⟨`cu,_,I1,rfl,`awB,⟨`awC,`awD⟩,fr⟩
 done:=by
  intro X hP hw hK hc i pins s σ H E I hf st hg;subst hP hw hK;obtain⟨⟨old,he⟩,h1⟩:=st;obtain⟨xs,hq,J⟩:=hg;obtain⟨us,rv,p1,z1⟩:=`eJ;have l1:=`e7;refine wpAny_pyNext_enum_end `dZ he h1 `gw `lv `Wt
  simp only[`aO,`aU,`aV,`hV] at hc;exact `Wu
 self:=λ_ _ _ _ _ st h=>by
  obtain⟨⟨old,he⟩,_⟩:=st;exact `Wv
noncomputable def M10(K:`G)(ta:TA):TI:=fun σ H R=>ta σ H λvs H1=>∃a b,`awE/\`SO/\`awF/\R `awG H1
theorem boot_zip:`awH:=`aq
theorem rn0:`dF `d5=`a `yG:=`aq
noncomputable def Ob0(K:`G)(ta:TA):TI:=fun σ H R=>ta σ H λvs H1=>∃a,`Ie/\`SO/\R (Ite K a) H1
theorem Ul0{a:`D}{ta:TA}{p pos:Pos}(hg:`sA)(hm:`sB)(ha:`F0)(hs:`rA:=by rfl) :
  PI X `mF `If (Ob0 X.K ta):=by
 intro pins s σ H R I h;refine `awI;obtain⟨qa,e,⟨xs,h1⟩,q⟩:=q1;subst e;cases r1 with
 | cons r rr =>
  cases rr;obtain rfl:=r;obtain⟨us1,v1,p1,z1⟩:=`mo h1;refine call_enumerate_list `gw λh' hz F J hk=>?_
  refine `awJ;refine⟨_,_,_,_,H1,rfl,`Ig,bw0 `Ww,`awK,`fg,q⟩;simp only[`aO,`aU,`aV] at hb;rcases hb with rfl|rfl
  ·exact `Ih
  ·exact `mp
universe L2
namespace DL
open Spec PyProof.Rows L2
section
variable{a:`D}
theorem tz0{t:`e}{x y:V}{d e:D}(hn:¬B t)(ht:H t=`a `vc)(r1:`ul)(r2:Rp K H B e y):Rp K H B (`w [d,e]) `k4:=by
 rw[W0];refine⟨t,`vb,rfl,⟨hn,ht⟩,?_⟩;rw[o7];refine⟨_,_,rfl,r1,?_⟩;rw[o7];exact⟨_,_,rfl,r2,`go⟩
theorem Xk0(hm:`sB)(ha:`Hj)(hg:`sA := by rfl)(hs:`rA:=by rfl) :
  PID X `mF `If (ow0 gA):=.mk λB δ=>`i' (Ul0 hg hm `bd hs) fun σ H R ⟨`al,en,e1,k⟩=>by
 unfold ow0 at e1;cases e2:`bI with
 | none=>rw[e2] at e1;cases e1
 | some ds =>
  rw[e2] at e1;simp only[`E] at e1;unfold bh0 at e1;split at e1<;>try cases e1
  rename_i ds;refine`r8;rw[o7] at r;obtain⟨x,t,rfl,r1,r⟩:=r;rw[o8] at r;subst r;rw[Y7] at r1;obtain⟨q1,us,rfl,s1,t1⟩:=r1;have F:`awL:=`awM
  refine`awN
  ·rw[F] at hi
   exact`awO
  ·obtain⟨t,x,rfl,ht,rfl,hx⟩:=y
   rw[F,`qc] at hi;obtain⟨x',e4,rx⟩:=`Wx;have ex:=`Ii;rw[e4] at ex;cases ex;refine`awP;exact `Wy
  ·rw[F] at hi
   exact`awQ
universe zz
mutual
theorem ec0(hB:`awR):∀(d:D) (v:V),`VH->Rp K H B' d v->`dt
 | `z,v,_,r=>by rw[U8] at r ⊢;exact r
 | `cx,v,_,r=>by rw[W4] at r ⊢;exact r
 | `dJ,v,_,r=>by rw[n6] at r ⊢;exact r
 | `cj,v,_,r=>by rw[X6] at r ⊢;exact r
 | `w5,v,h,_=>by unfold tree at h;cases h
 | `my,v,h,_=>by unfold tree at h;cases h
 | `cz,v,h,r=>by
  unfold tree at h;rw[W0] at r ⊢;obtain⟨a,xs,rfl,q,rs⟩:=r;refine⟨a,xs,rfl,?_,ih0 hB ds xs h rs⟩;obtain⟨n,q⟩:=q;refine⟨`gD,q⟩;rcases hB a z with z|⟨ys,z⟩|⟨ks,ys,z⟩
  ·exact n z
  ·rw[z] at q;cases q
  ·rw[z] at q;cases ks<;>cases q
theorem ih0(hB:`awR):∀(ds:`s) (vs:`C),`VG=`d->Rps K H B' ds vs->`x_
 | [],vs,_,r=>`awS
 | `aE,vs,h,r=>by
  unfold trees at h;rw[`cQ] at h;rw[o7] at r ⊢;obtain⟨x,t,rfl,r1,r2⟩:=r;exact⟨x,t,rfl,ec0 hB d x h.1 r1,ih0 hB ds t h.2 r2⟩
end
theorem tj0{g:GE}(h:`bf):PD X e (yt0 g):=.mk λB δ pins s σ H Q I ⟨d,en,hq,k⟩=>by
 obtain⟨B',c1,c2,F⟩:=`uM;unfold yt0 at hq;cases e1:`nr with
 | none=>rw[e1] at hq;cases hq
 | some x =>
  rw[e1] at hq
  by_cases hf:`ln x=`d
  ·simp only[`E,`HN] at hq
   cases hq;refine h B' `lj `h s σ H Q I ⟨_,F,e1,λv H' s' r=>k v H' s' (ec0 (`g') _ _ hf r)⟩;rcases c2 a z with q|⟨i,d',h1,h2⟩
   ·exact `hJ
   ·obtain⟨o,h3,a',e4,_,ro⟩:=`no en.all h1
    rw[h2] at h3;cases h3;cases e4;cases d'<;>try exact ro.elim
    ·obtain⟨_,_,xs,e5,_⟩:=ro;exact `awT
    ·obtain⟨xs,e5,_⟩:=ro;exact `awT
    ·obtain⟨xs,e5,_⟩:=ro;exact `q (`q ⟨_,_,`adZ⟩)
  ·simp only[`E,`Vl] at hq
   cases hq
noncomputable def U40:`cZ:=λvs H Q=>∃a kvs,`Ie/\`sg/\∀l,`AN->Q `jC (upd H l `t6)
theorem ge0:`cv X `Ce U40:=by
 intro pins s σ H vs us Q I r h;obtain⟨a,kvs,rfl,ha,k⟩:=h;cases r with
 | cons r rr =>
  cases rr;obtain rfl:=r;obtain⟨hz,hS,ws,rv,m⟩:`pc/\`mS/\∃vs,`kN/\s.heap.DictOf `Wz a vs:=`bh a _ ha;have hl:`kM=`nJ:=Aa0 rv;have hb:`sb:=`x';refine kt_call_dict hS m (by rw[← hl];exact hz) λh' hd hs=>?_
  have hf:`rS:=`fx;refine⟨`cu,_,`gx (a:=`A) (o:=`Ms) (t':=`a1) (λb o q=>(`gY b (A6 `Fr)).trans (`AH)) `aK
   ⟨hz,`Hw,ws,rv,hd⟩,rfl,k _ hf⟩
theorem ds0(hm:`WA)(hv:`Ij)(ha:`bf)(hg:`WB := by rfl)
  (he:`fk:=by rfl) (hpl:`i?:=by rfl) :
  PDF X `WC (oA `lo td0):=.mk λB δ=>(ve0 ge0 hg hm hv `yr `f `f he hpl).imp fun σ H Q ⟨d,en,h,k⟩=>by
 unfold oA z9 v6 at h;cases e1:`as with
 | none=>rw[e1] at h;cases h
 | some x =>
  rw[e1] at h;simp only[`E,`ds] at h;refine`ys;cases x<;>try (simp only[td0] at h;cases h;done)
  rename_i ks ds;cases ks with
  | inr ks=>simp only[td0] at h;cases h
  | inl ks =>
  simp only[td0] at h;cases h;rw[un0] at r1;obtain⟨q,xs,rfl,nq,hq,hl,rr⟩:=r1;exact⟨q,_,rfl,hq,λl F=>k l _ `N? `Oa ⟨xs,j5,hl,`BX (`uN F)⟩⟩
universe DL
namespace DL
open Spec PyProof.Rows L2
section
variable{a c:`D}{gc:`el}
open Builtin Builtin.Str Builtin.Int in
theorem N20{prog:`aa}{w:`L}{A:`a5}{E:`Z}{s:`r}{x:Str}{n:Int}{t u:Tok}{Q:`Z}(hr:(`O (n < `anO)||`O (n ≥ 2 ^ 63))=`m)
  (hb:¬n<1->`awU->¬((`tR:Int) > (`Mo - 1)/n)) (hl:¬n<1->`awU->tooLong (`tR*`g?)=`m)
  (h:(if n<1 then Made.str Str.empty else if `ad_=`d then Made.val `Fl else Made.str ⟨(`jP `g? x.cps).foldl (·++·) #[]⟩).post Q s) :
  `i `am A (`ju .Mult (`c n u) `Fl) Q E s :=
 PySem.lm_binaryOp_repeat_right (T := `i6) (U := `hh) `f (λs'=>l6 s' n u) `awV PySem.F.fills_int_mul PySem.noFill_str_mul D30 PySem.lm_noRepeat_int PySem.repeat_str PySem.F.slot_int_index.lookup
  (`awW D30 (l6 s n u) PySem.F.entry_int_mul (PySem.F.args_int_mul_2 _ _) (PySem.AutoIntG3.int___mul___int_str_0 n u x t)
   ⟨rfl,X0 _ x t,`awW PySem.F.slot_str_mul `awV PySem.F.entry_str_mul (PySem.F.args_str_mul_2 _ _) (gives_str_mul x n t u hr hb hl) h⟩)
universe zz
universe DL
namespace ZipL
open Spec PyProof.Rows
abbrev vj0(h:`u)(z TI TO:`e)(v:`t)(f:`N):Prop :=
 `en z=`a { cls:=`u9,dict:=`b,data:=`fr #[v,`d_ f,`nz,`B8,`Cf],slots:=#[] }
section
variable{w:`L}{s:`r}
theorem dead{Q:`avh}(ho:`kL=`b)(h:Q `b s):`avi:=by
 have h':Q (`kL) s:=`avj
 exact `avk
theorem kf0{TI TO:`e}{f:`N}{Q:`jW}(hz:`so)(ha:`kL=`b)(hQ:Q `d s):`V0:=by
 unfold Builtin.SmallTypes.ownedTupleIsFree;refine `avl;show `avm;rw[`aF];refine A0 (dead ha ?_);simp only[`WD,`c7];exact `xe
theorem c50{TI TO:`e}{v0:`t}{f:`N}{k1 k2:Nat}{xs ys:`aI}{x y a b:`t}{Q:`Z}(D:`eN)
  (hz:`awX) (hfree:`awY) (hTI:`je) (hTO:`sC)
  (h1:`mC) (h2:`jf) (hl1:`kz) (hl2:`f') (hx:`yu) (hy:`yv)
  (hQ:∀h',IsZ h' z TI TO `A `m->`awZ->`H2->`yw->`u5->`H3 ->
   `B!->`V1) :
  `V2:=by
 show `sp;refine `sq;show `sr;refine `H5;refine `vu;show `ss;refine A0 (hfree _ ?_);simp only[`c7];refine `Ia;refine `aw_;refine `aw0
 replace O:`aw1:=O
 refine `co;simp only[`yH,`yI,`i9,`mD];refine `mG;show `st;refine `aw2;have Z:`Ik:=`Il;refine `aw3;refine A0 (e9 Z λg3 J e3=>?_)
 replace J:`aw4:=J
 refine `Im;refine `mG;show `su;refine A0 (S3 `In `aw5 hy λg4 a2 e4=>`cw);have Y:`aw6:=`nG _ _ D.TOi2 J;refine A0 (D0 Y rfl ?_);refine A0 (e9 Y λg5 F e5=>?_)
 replace F:`aw7:=F
 refine `aw8;refine A0 (D0 F rfl ?_);refine `avq;have sz:`aw9:=`aw'
 have z5:vj0 g5 z TI TO `io f:=`iq _ _ `Cg (`nG _ _ `yx `aw!);have keep:∀c o,`p'->`NL->`B6->`B7->`uX->`ad4:=`aw?
 have j1:`ad3 i1 l1 `B5:=((a1.extBut `gv `Io).extBut `nG D.i12).extBut `iq `Io;have j2:`axa:=a2.extBut `iq `NX;have lz:z<`lu:=A3 z5;show `axb;refine `co;unfold Builtin.SmallTypes.ownedTupleHandOut;have z6:vj0 (g5.push `V6) z TI TO `io f:=A5 _ z5;refine A0 (E1 z6 `T λg7 z7 e7=>?_)
 replace z7:vj0 g7 z TI TO `WE f:=z7
 refine E1 z7 `T λg8 z8 e8=>?_
 replace z8:IsZ g8 z TI TO `lu `m:=z8
 have up:`axc:=`axd
 have t8:`axe:=`axf;have s8:`axg:=`axh
 rw[sz] at z8 t8 s8;refine `H7;show Q `N_ _;rw[sz];exact hQ g8 z8 (up _ _ `ve F) (j1.at `axi) (j2.at `axj) t8 s8 `axk
theorem b90{TI TO:`e}{v0:`t}{f:`N}{k1 k2:Nat}{xs ys:`aI}{a b:`t}{Q:`rh}(hh:`cR)(D:`eN)
  (hz:`awX) (hfree:`awY) (hTI:`je) (hTO:`sC)
  (h1:`mC) (h2:`jf) (hl1:`kz) (hl2:`f') (hend:`yy)
  (hE:∀h' e,`B!->`H8) :
  `V7:=by
 show `sp;refine `sq;show `sr;refine `H5;refine `vu;show `ss;refine A0 (hfree _ ?_);simp only[`c7];refine `Ia;refine `aw_;refine `aw0
 replace O:`aw1:=O
 refine `co;simp only[`yH,`yI,`i9,`mD];refine `mG;show `st;cases hx:`uW with
 | none =>
  refine A0 (c9 hh `ad1 `ad2 hx `axl);obtain⟨oe,F,J⟩:=he;have z2:vj0 g2 z TI TO `io f:=e2 _ _ `vf O;have Y:e≠z:=λx=>by subst x;rw[z2] at F;cases F;simp at J
  exact E1 z2 `T λg3 _ e3=>hE g3 e `axm ⟨oe,`gv _ _ Y F,J⟩
 | some x =>
  have hy:`B':=`V8
  refine `aw2;have Z:`Ik:=`Il;refine `aw3;refine A0 (e9 Z λg3 a2 e3=>?_);refine `Im;refine `mG;show `su;refine A0 (c9 hh `In `aw5 hy `axn);obtain⟨oe,F,J⟩:=he;have z4:vj0 g4 z TI TO `io f:=e4 _ _ `yx `aw!;have Y:e≠z:=λx=>by subst x;rw[z4] at F;cases F;simp at J
  exact E1 z4 `T λg5 _ e5=>hE g5 e `axo ⟨oe,`iq _ _ Y F,J⟩
theorem kj0{TI TO:`e}{f:`N}{Q:`jW}(hz:vj0 `P z TI TO `aj f)(hQ:Q `d s):`V0:=by
 unfold Builtin.SmallTypes.ownedTupleIsFree;exact A0 (B3 hz rfl (x:=`aj) rfl (`xe))
theorem Rx0{TI TO:`e}{f:`N}(hz:vj0 `P z TI TO v f)(h:Q `fG s):`i `am A (`FT `fG) Q E s:=by
 have hT:`kA := `mE;refine wpAny_pyIter_slot hT `axp (D8 `axp hT F.entry_zip_iter ?_ (F.args_zip_iter_1 _));exact A1 ⟨_,rfl, `fv,_,hT,E2.lookup,h⟩
noncomputable def dx0(h:`u)(z TI TO:`e):Prop:=∃v f,vj0 h z TI TO v f/\(v=`aj∨∃a:`e,v=`ew a)
theorem dj0{TI TO:`e}{k1 k2:Nat}{xs ys:`aI}{x y a b:`t}{Q:`gH}(D:`eN)
  (hz:`axq) (hTI:`je) (hTO:`sC)
  (h1:`mC) (h2:`jf) (hl1:`kz) (hl2:`f') (hx:`yu) (hy:`yv)
  (hQ:∀h',dx0 h' z TI TO->(∃p q,`d! h' TO p q)->`H2->`yw->`avD) :
  `nI:=by
 obtain⟨v,f,hz,hv⟩:=hz;have hT:`kA := `mE;have again:`axr:=λhf=>by
  unfold pyNext;exact A0 (P3 (E7 (name:=`kB) hT E2
   (D8 E2 hT d4
    (c50 D hz `axs hTI hTO h1 h2 hl1 hl2 hx hy λh' a1 a2 a3 a4 a5 a6 a7=>A1 (hQ h' ⟨_,_,a1,`q `au⟩ ⟨_,_,a2⟩ a3 a4 a5 a7)) `sv)))
 rcases hv with rfl|⟨a0,rfl⟩
 ·exact `axt
 ·cases e:`eo a0 with
  | none=>exact `axu
  | some oa =>
   exact ot0 D hz e hTI h1 h2 hl1 hl2 hx hy λh' b1 b2 b3 b4 b5 b6=>hQ h' ⟨_,_,b1,`q `au⟩ ⟨_,_,b6 _ _ `ve D.TOi1 D.TOi2 hTO⟩ b2 b3 b4 λc o c1 _ c3 c4 q=>b6 c o c1 c3 c4 q
theorem mt0{TI TO:`e}{k1 k2:Nat}{xs ys:`aI}{a b:`t}{Q:`gH}(hh:`cR)(D:`eN)
  (hz:`axq) (hTI:`je) (hTO:`sC)
  (h1:`mC) (h2:`jf) (hl1:`kz) (hl2:`f') (hend:`yy)
  (hQ:`avG):`nI:=by
 obtain⟨v,f,hz,hv⟩:=hz;have hT:`kA := `mE;have again:`axr:=λhf=>by
  unfold pyNext;refine A0 (P3 (E7 (name:=`kB) hT E2
   (D8 E2 hT d4 (b90 hh D hz `axs hTI hTO h1 h2 hl1 hl2 `nA `V9) `sv)))
  obtain⟨o,ho,hc⟩:=he;refine `V';exact `avt
 rcases hv with rfl|⟨a0,rfl⟩
 ·exact `axt
 ·cases e:`eo a0 with
  | none=>exact `axu
  | some oa=>exact s20 hh D hz e hTI h1 h2 hl1 hl2 `nA λh' hk=>hQ h' λc o c1 _ c3 c4 q=>hk c o c1 c3 c4 q
universe zz
universe ZipL
namespace L2
open Spec PyProof.Rows
theorem ay0{P:`aa}{w:`L}{TI TO b:`e}(D:`axv):`h6 P w K (`a! nx pos) `awG `vg z
  (λi h=>ZipL.dx0 h z TI TO/\`V?/\(`V!)/\`po i1 a i/\`axw) where
 mem:=`aB
 obj:=λi h st c hc=>by
  obtain⟨⟨v,f,hz,_⟩,hTI,⟨p,q,F⟩,⟨o1,e1,c1,d1⟩,⟨o2,e2,c2,d2⟩⟩:=st;simp only[`aO,`aU,`aV] at hc;rcases hc with rfl|rfl|rfl|rfl|rfl
  ·exact`axx
  ·exact`axy
  ·exact`axz
  ·exact`yD
  ·exact`axA
 keep:=λi h h' st k=>by
  obtain⟨⟨v,f,hz,hv⟩,hTI,⟨p,q,F⟩,h1,h2⟩:=st;exact⟨⟨v,f,`axB,hv⟩,`axC,`axD,h1.at `axE,`axF⟩
 item:=by
  intro X hP hw hK hc i pins s σ H E I hf st hg;subst hP hw hK;obtain⟨hz,hTI,⟨p,q,F⟩,h1,h2⟩:=st;obtain⟨xs,ys,x,y,J,O,hx,hy⟩:=hg;obtain⟨us,Y,p1,z1⟩:=`dK J;obtain⟨ws,a6,p2,z2⟩:=`Ip;obtain⟨u,hu,ru⟩:=Y.get hx;obtain⟨w,hw,b0⟩:=a6.get hy;refine ZipL.dj0 D hz hTI F h1 h2 `gw `i! (x:=u) (y:=w) `xg `AL λh' a1 a2 a3 a4 a5 hk=>?_
  refine`NJ;unfold letOwnedTupleGo;refine `cw;have lt:`axG:=λe=>`b9
  obtain⟨v0,f0,a8,_⟩:=id hz;have lz:=lt a8;have b2:=lt F;have b1:=lt hTI;obtain⟨o1,e1,_⟩:=`yE;obtain⟨o2,e2,_⟩:=id h2;have l1:=lt e1;have l2:=lt e2;obtain⟨I1,fr⟩:=`yF (h':=h') (t':=`a1) (fp:=`vg) hf ru b0 (λc hc=>by
   simp only[`aO,`aU,`aV] at hc;rcases hc with rfl|rfl|rfl|rfl|rfl<;>assumption) a5 (λc o hc e=>by
   simp only[`aO,`aU,`aV,`hV] at hc;exact `Iq)
  exact⟨`cu,_,I1,rfl,⟨_,x,y,rfl,`fx,rfl,λys Z=>by rw[`Au Z J];exact hx,λb3 Z=>`axH⟩,
   ⟨a1,`axI,a2,a3,a4⟩,fr⟩
 done:=by
  intro X hP hw hK hc i pins s σ H E I hf st hg;subst hP hw hK;obtain⟨hz,hTI,⟨p,q,F⟩,h1,h2⟩:=st;obtain⟨xs,ys,J,O,a7⟩:=hg;obtain⟨us,Y,p1,z1⟩:=`dK J;obtain⟨ws,a6,p2,z2⟩:=`Ip;have l1:=`Nt;have l2:=a6.length;refine ZipL.mt0 `dZ D hz hTI F h1 h2 `gw `i! (a7.imp (`Ir) `Ir) λh' hk=>`axJ
  simp only[`aO,`aU,`aV,`hV] at hc;exact `Iq
 self:=λ_ _ _ _ _ st h=>by
  obtain⟨⟨v,f,hz,_⟩,_⟩:=st;exact ZipL.Rx0 hz h
theorem Tf0{a:`D}{ta:TA}{p pos:Pos}(hg:`Is)(hm:`It)(ha:`SR)(hs:`rB:=by rfl)(hs2:`rC:=by rfl) :
  PI X (`a! nx tpos) `Iu (M10 X.K ta):=by
 intro pins s σ H R I h;refine `axK;obtain⟨qa,qb,e,⟨xs,h1⟩,⟨ys,h2⟩,q⟩:=q1;subst e;cases r1 with
 | cons r rr =>
  cases rr with
  | cons r' rr =>
   cases rr;obtain rfl:=r;obtain rfl:=r';obtain⟨us1,v1,p1,z1⟩:=`mo h1;obtain⟨us2,v2,p2,z2⟩:=`mo h2;have a1:`WF:=`axL
   have a2:qb<`ev:=by obtain⟨_,e,_⟩:=`i!;exact `b9
   refine `av5 `gw `i! `axM
   refine `axN;refine⟨_,_,_,_,H1,rfl,`Ig,ay0 `Wj,⟨⟨_,_,hz,`cd⟩,hTI,`axO,J,F⟩,`fg,q⟩;simp only[`aO,`aU,`aV] at hb;rcases hb with rfl|rfl|rfl|rfl|rfl
   ·exact `axP
   ·exact `axQ
   ·exact `axR
   ·exact `mp
   ·exact `Ih
universe L2
namespace DL
open Spec PyProof.Rows L2
section
variable{a:`D}
theorem he0(hm:`It)(ha:`Uz)(hg:`Is := by rfl)(hs:`rB:=by rfl)(hs2:`rC:=by rfl) :
  PID X (`a! nx tpos) `Iu (q40 gA):=.mk λB δ=>`i' (Tf0 hg hm `bd hs hs2) fun σ H R ⟨`al,en,e1,k⟩=>by
 unfold q40 at e1;cases e2:`bI with
 | none=>rw[e2] at e1;cases e1
 | some ds =>
  rw[e2] at e1;simp only[`E] at e1;unfold Wu0 at e1;split at e1<;>try cases e1
  rename_i ds es;refine`r8;rw[o7] at r;obtain⟨x,t,rfl,r1,r⟩:=r;rw[o7] at r;obtain⟨y,t,rfl,r2,r⟩:=r;rw[o8] at r;subst r;rw[Y7] at r1 r2;obtain⟨q1,us,rfl,s1,t1⟩:=r1;obtain⟨q2,ws,rfl,s2,t2⟩:=r2;have F:`axS:=`axT
  refine`axU
  ·rw[F] at hi
   have h1:i<`e':=`p
   have h2:i<`nJ:=`p
   exact`axV
  ·obtain⟨t,x,y,rfl,ht,rfl,hx,hy⟩:=y
   rw[`F,`gt] at hi;have h1:`Hm:=`p
   have h2:i<`g!:=`p
   obtain⟨x',e4,rx⟩:=`axW;obtain⟨y',e5,ry⟩:=`axX;have ex:=`Ii;have ey:=`axY;rw[e4] at ex;rw[e5] at ey;cases ex;cases ey;refine`axZ;exact `ax_
  ·rw[F] at hi
   exact`ax0
universe zz
universe DL
namespace L2
open Spec PyProof.Rows
theorem Xi0{s:`r}{d b:`e}{k:`ep}{v:V}{r:`t}{Q:`f_}(hu:`oF)(I:`y)(e:H d=`BH)(eb:`sf)(l:`oQ)(rv:`HH)
  (h:∀h' tk,Inv X `h σ (upd H d `asK) `ir->`ax1) :
  `i `ac `bz (`Iv d `xv r) Q E s:=by
 obtain⟨z,hd,xs,rel,dd⟩:=`asR;have hz:`iZ:=`asS
 have hl:`yi:=`yj
 refine wpAny_dictSet_heap (hsz:=hz) (knd:=`aaX `Wz) `yg `yh dd `ax2
 obtain⟨q,es,ep,hq,h2,h3,h4,_,h5⟩:=F;refine `asT;rw[`asU];exact ec
structure PKV where
 p:`e
 b:`e
 k:`ep
 v:V
noncomputable def PKV.ok(H:Hp)(x:PKV):Prop:=H x.p=`a (`w [`WG,x.v])/\H x.b=`a (`w (x.k.map kV))
noncomputable def putAll(kvs:`rn)(ps:`WH):`rn:=`ax3
theorem yv0:plainId `ax4=`d:=`aq
theorem sh0:entryFor table `ax4=`a `ad!:=entryFor_of_fast (`lH)
theorem an0{d:`e}(hh:`cR)(hu:`oF){R:`w_}{ps:`WH}(n:Nat):∀(i:Nat) (s:`r) (H:Hp) (kvs:`rn),`N6=n->i<=`M->`y->`ax5->it≠d->it≠l->`ax6 ->
  `ax7->`sD->H d=`BH->`ax8 ->
  (∀s',Inv X `h σ (`ax9) s'->`VP) ->
  `ax':=by
 induction n with
 | zero =>
  intro i s H kvs hn hi I hf F Y O hl hp hd hz hR;obtain⟨its,rv,pl,_⟩:=`Iw;have a3:=`e7;rw[`F] at a3;unfold Builtin.«dict.update.loop»;refine `ax!;have I1:`it:=`ax?
  have e:`vh=[]:=`aya
  rw[e] at hR;have:=hR _ (show Inv X `h σ (`ayb) `dI from by
   rw[show `ayb=H from by funext c;by_cases q:c=d<;>simp[upd,q,`jX,hd]];exact I1)
  exact `ayc
 | succ n ih =>
  intro i s H kvs hn hi I hf F Y O hl hp hd hz hR;obtain⟨its,rv,pl,_⟩:=`Iw;have J:`jg:=`p
  obtain⟨x,hx⟩:∃x,`ayd:=`aye;have b0:x∈ps:=E4 hx;obtain⟨a6,a5⟩:=hp x b0;obtain⟨u,a7,ru⟩:=`ayf;cases `ayg;unfold Builtin.«dict.update.loop»;refine A0 (Ae0 O `fI (by simpa using a7) λh' a1 hs=>?_);have I1:`it:=`ayh
  obtain⟨b2,b1,ip,_⟩:=`xj (SqT.of a6);cases b1 with
  | cons r1 rr =>
   cases rr with
   | cons r2 rr =>
    cases rr;cases r1;obtain⟨o,ho,hc,nn,a2⟩:=id ip;rename_i rv0;refine `u_;refine `ayi;unfold Builtin.Dict.pairItems;refine `ayj;rw[`oA];refine A0 (D0 ho a2 `jy);show `i _ _ (`kW [`WG,rv0] (`Iv d (`WG) rv0)) _ _ _;refine C5 (Xi0 (A:=A) hu I1 hd a5 `g r2 λh2 tk I2 a4=>?_);have Z:∀(c:`e) (us:`C),H c=`Ix->upd H d (.dT `lx) c=`Ix:=λc us ec=>by
     rw[`ayk];exact ec
    have a8:`ayl:=`aym
    refine A1 ⟨`N9,?_⟩;rw[a8];refine `N';rw[`Iy];have b3:l≠d∨`eh:=`q `fE;refine ih `cy _ `ayn `lx `g `g I2 `ayo F Y (a1.extBut a4.extBut F) ?_ (λy hy=>⟨Z _ _ (`WI).1,Z _ _ (`WI).2⟩) j5 `ayp `ayq
    ·rcases hl with (hl|⟨o',hl⟩)|hl
     ·exact `ayr
     ·exact `ays
     ·exact `Iz
    ·have e1:upd `ayn d (.dT (`jX `lx (`N8)))=`ax9:=by
      have e2:`ayt:=by
       rw[`x1 J];have:`vi=x:=by
        have:=hx;rw[`iv J] at this;exact `va
       rw[`B]
      rw[e2]
      funext c
      by_cases q:c=d<;>simp[upd,q,`jX]
     rw[← e1];exact I'
theorem au0:`jB `uV "keys"=`kZ:=`rg
theorem lx0{prog:`aa}{w:`L}{A:`a5}{E:`Z}{s:`r}{a:`e}{o:Obj}{xs:`aI}{k:Nat}{Q:`gH}
  (hx:`op) (hc:`akZ) (hdat:`h3=`a' xs k) (hd:`w4) (hA:`cR)
  (h:∀h' tk,(∀b ob,`kR=`w7->`mT=`w7)->Q `b `ir) :
  `i `am A (getAttr? `b_ "keys") Q E s:=by
 obtain⟨c,dct,Y,sl⟩:=o;simp only at hc hdat hd;subst hc hdat hd;obtain⟨hp,g,d,tk,os⟩:=s;have hT:∀J,(⟨hp,g,d,J,os⟩:`r).TypeIs `b_ `dE := λ_=>⟨_,hx,rfl⟩
 have f1:=sub_AttributeError;have f3:=PySem.F.slot_list_getattribute.lookup;have f4:=PySem.F.slot_list_getattribute.bind `b_;have f5:=am_list_getattr_none;unfold getAttr? getAttrBy? getAttrBy
 repeat (any_goals (first|assumption|exact hT _|((with_reducible show `i _ _ (`b' (`Ls "list.__getattribute__") _ _) _ _ _);refine X1 PySem.F.slot_list_getattribute (hT _) am_entry_list_getattribute (PySem.F.args_list_getattribute_2 _ _) (meets_getattribute_miss_list a xs k sl "keys" _ au0 `eT) ⟨hx,hA,λh' J e O=>?_⟩)|wp_step))
 obtain⟨t',u',he⟩:=O.there;show `i _ _ (getattributeRaised _ _ _ _ _ _ _) _ _ _;unfold getattributeRaised
 repeat (any_goals (first|assumption|wp_step))
 exact h _ _ O.keeps
noncomputable def Rt0(K:`G):`cZ:=λvs H Q=>∃l ps,vs=`sm/\SqL K H l `ayu/\`sD/\`ayv/\∀d,H d=`b->Q (`Q d) (upd H d `ayw)
theorem dk0(hu:`IA)(hcalm:`bQ:=by rfl):`cv X `Ce (Rt0 X.K):=by
 intro pins s σ H vs us Q I r h;obtain⟨l,ps,rfl,hl,hp,hz,k⟩:=h;cases r with
 | cons r rr =>
  cases rr;obtain rfl:=r;have hb:`sb:=`x';have hf:`rS:=`fx;refine `ayx;rintro obj s₁ ⟨rfl,rfl⟩;have I1:Inv X `h σ `yJ `Cm:=`gx (a:=`A) (o:=.dT []) (t':=`a1) `vs `aK (Xf0 `P hb);have hT:`ayy := `Ic;have F:∀(c:`e) (o:HO),H c=`ae->upd H `A `Cn c=`ae:=`ayz
  have hl1:SqL X.K `yJ l `ayu:=by
   rcases hl with (hl|⟨o',hl⟩)|hl
   ·exact `o (`o (F _ _ hl))
   ·exact `o (`q ⟨o',F _ _ hl⟩)
   ·exact `Iz
  obtain⟨its,rv,⟨ol,nl,O,Z,a5,a2⟩,_⟩:=`mo hl1;refine`ayA;unfold Builtin.«dict.__init__»;refine `co;unfold Builtin.Dict.selfAndRest;refine `ayB;show `ayC;refine `cw;show `ayD;unfold Builtin.Dict.updateFrom;refine `ayE;rw[`oA];refine A0 (lx0 O Z a2 a5 `IB λh1 J k1=>?_);simp only[`WD,`c7];have I2:Inv X `h σ `yJ `ayF:=`tI (t':=J) k1;obtain⟨a7,b1,Y,_⟩:=I2.list hl1;refine A0 (D9 (A0 (N0 (s:=`ayF) Y.isList ?_)));refine `ayG;rw[`Iy];have I3:Inv X `h σ `yJ { s with heap:=`ayH,toks:=J }:=`WJ (t':=J) `m3
  have a3:`ayI:=A3 (k1 _ _ `nH);have a4:`ly≠l:=by
   obtain⟨b0,a8,a1,_⟩:=Y;exact `ayJ
  have a6:upd H `A `Cn `ly=`b:=`WK;refine an0 (X:=X) (pins:=`h) (σ:=σ) (A:=`sE) (it:=`ly) (l:=l) (d:=`A) (ps:=ps) `IB (show `BI+1+1<`g5 by omega) `M 0 _ _ [] `g `xH I3 (`IC `aK a6) (B2 a3) a4 ?_ hl1 (λx hx=>⟨F _ _ (`WL).1,F _ _ (`WL).2⟩) j5 (by simpa using hz) `ayK
  ·exact`oy
  ·refine`ayL
   have e:upd `yJ `A (.dT (`jX [] (`Ck 0)))=upd H `A `ayw:=by
    funext c
    by_cases q:c=`A<;>simp[upd,q]
   rw[e];exact k _ hf
universe L2
namespace DL
open Spec PyProof.Rows L2
noncomputable def N8:`nL->`s->`s->`aH (`WM)
 | ks,vs,[]=>`WN
 | ks,vs,`mA::r=>(yw0 a).bind λk=>N8 `yK `vl r
 | _,_,_=>`b
noncomputable def ni0:`K
 | `mw=>if `kq then (`ayM).map λr=>`ayN else `b
 | _=>`b
theorem fi0{ks:`nL}{d:D}{r:`WM}(e:N8 ks vs `GV=`bL):∃a b k,d=`mA/\yw0 a=`fU/\N8 `yK `vl ds=`bL:=by
 cases d with
 | tup l =>
  match l,e with
  | [],e=>simp[N8] at e
  | [_],e=>simp[N8] at e
  | `h8,e =>
   unfold N8 at e;cases h:yw0 a with
   | none=>rw[h] at e;cases e
   | some k=>rw[h] at e;exact`ayO
  | `ayP,e=>simp[N8] at e
 | non=>simp[N8] at e
 | bl _=>simp[N8] at e
 | int _=>simp[N8] at e
 | str _=>simp[N8] at e
 | lst _=>simp[N8] at e
 | dct _ _=>simp[N8] at e
theorem ox0:∀{ds:`s} {xs:`C} {ks:`nL} {vs:`s} {ws:`C} {r:`WM},`bc->`ayQ->`gn=`nJ->N8 ks vs ds=`bL ->
  ∃ps:`WH,xs=`ex (`N5)/\`sD/\∃ws',`jX `ID ps=r.1.zip ws'/\`ayR
 | [],xs,ks,vs,ws,r,h1,h2,hl,e=>by
  unfold N8 at e;cases e;rw[o8] at h1;exact`ayS
 | `aE,xs,ks,vs,ws,r,h1,h2,hl,e=>by
  rw[o7] at h1;obtain⟨x,t,rfl,hx,ht⟩:=h1;obtain⟨a,b,k,rfl,e1,e⟩:=fi0 e;rw[W0] at hx;obtain⟨p,ys,rfl,hq,F⟩:=hx;rw[o7] at F;obtain⟨y1,t1,rfl,a1,F⟩:=F;rw[o7] at F;obtain⟨y2,t2,rfl,J,F⟩:=F;rw[o8] at F;subst F;obtain⟨kb,rfl,Y⟩:=q10 e1 a1;obtain⟨zs,a3,O,a2,Z⟩:=`ayT;have rr:`ayU:=by
   unfold V6;cases hk:`pY with
   | true=>rw[`cp,a2 hk];exact vq0 J h2
   | false=>rw[`bD,Z hk];exact `ayV
  obtain⟨ps,q1,q2,ws',q3,q4,q5⟩:=ox0 ht rr O e;refine⟨⟨p,kb,k,y2⟩::ps,`ayW,`rZ,ws',?_,q4,q5⟩
  ·rcases `xG with rfl|hx
   ·exact⟨hq.2,Y⟩
   ·exact q2 x hx
  ·show `jX (`ig `ID k y2) ps=_
   rw[a3];exact q3
theorem Z30(hu:`IA)(hcalm:`bQ)(hm:`WA)(hv:`Ij)(ha:`bf)(hg:`WB := by rfl)
  (he:`fk:=by rfl) (hpl:`i?:=by rfl) :
  PDF X `WC (oA `lo ni0):=.mk λB δ=>(ve0 (dk0 hu `Co) hg hm hv `yr `f `f he hpl).imp fun σ H Q ⟨d,en,h,k⟩=>by
 unfold oA z9 v6 at h;cases e1:`as with
 | none=>rw[e1] at h;cases h
 | some x =>
  rw[e1] at h;simp only[`E,`ds] at h;refine`ys;unfold ni0 at h;split at h
  ·rename_i ds he1
   injection he1 with he1
   subst he1;split at h
   ·rename_i hz
    cases e2:`ayM with
    | none=>rw[e2] at h;cases h
    | some r =>
     rw[e2] at h;cases h;rw[Y7] at r1;obtain⟨q,xs,rfl,hq,rr⟩:=r1;obtain⟨ps,q1,q2,ws,q3,q4,q5⟩:=ox0 rr (ks:=[]) (vs:=[]) (ws:=[]) (`go) rfl e2;refine`ayX;have q3:`aed=r.1.zip ws:=q3;rw[q3];exact `ayY
   ·cases h
  ·cases h
universe DL
namespace DL
open Spec PyProof.Rows L2
section
variable{σ:St}
theorem Env.fresh{p:`e}{o:HO}(e:`bC)(hp:`e3):Env K `Ue `Bq σ δ:=by
 refine⟨`oM (λv s h=>?_) `ib,`g',`lc⟩
 ·cases s with
  | un=>trivial
  | ex c n=>obtain⟨u,q,r⟩:=h;exact`ayZ
  | sh d=>obtain⟨u,q,r⟩:=h;exact`ayZ
  | ow d =>
   obtain⟨a,q,hb,r⟩:=h;exact⟨a,q,`o hb,`e2 (λo ho=>by rw[Z0 (T7 ho hp)];exact ho) `Cp⟩
 ·rcases z with z|z
  ·have:=`hT a z
   by_cases q:a=p
   ·rw[q,j5];exact λw=>nomatch w
   ·rw[Z0 q];exact `B
  ·rw[z,j5];exact λw=>nomatch w
universe zz
noncomputable def dh0(i:Nat)(g:GE):GS:=fun δ=>match `cA with
 | `a (`PR)=>`cS λd=>match d with
  | `eC=>`a (.nx (`bq i (.sh (`c (a+b)))))
  | _=>`b
 | _=>`b
theorem Va0(i:Nat)(hN:`f3)(h:`bf)(hi:`bW:=by rfl)(hx:`mf:=by first|exact `b3|exact `jN)
  (hf:`mg:=by first|exact `cd|exact `dr|assumption):PSD X (`alh (`a! x pos') .Add e pos) (dh0 i g):=.mk λH₀ B₀ δ pins s σ H D I ⟨r,en,e1,k⟩=>by
 unfold dh0 at e1;obtain⟨B,b1,b2,env⟩:=`bX;split at e1
 ·rename_i a ha
  cases e2:`as with
  | none=>rw[e2] at e1;cases e1
  | some d =>
   rw[e2] at e1;simp only[`E] at e1;cases d<;>simp only at e1<;>try cases e1
   rename_i b;obtain⟨v,hv,rv⟩:=env.get ha;rw[n6] at rv;subst rv;refine Qe0 hN hi hx `b4 Qj0 hf `h s σ H D I ⟨_,hv,`eC,env,e2,λv2 H1 s1 r1=>?_⟩;rw[n6] at r1;subst r1;refine⟨a,b,rfl,rfl,?_⟩;exact k _ H1 (en.wr b1 b2 s1 i60 ((`uR).set i `uo))
 ·cases e1
noncomputable def flats(ds:`s):`N:=`VY
noncomputable def qi0(g:GE):GE:=fun δ=>`UU λd=>match d with
 | `dc=>if `IE then `mv else `b
 | _=>`b
theorem d70{g:GE}(h:`nr=`mv)(hf:`IE):qi0 g δ=`mv:=by
 unfold qi0;rw[h,`E];simp only[];rw[`HN]
section
variable{g:GE}
theorem k20:∀{ds:`s} {xs:`C},`IE->`aqk
 | [],xs,_,r=>`awS
 | `aE,xs,h,r=>by
  rw[o7] at r ⊢;obtain⟨x,r',e1,r1,r2⟩:=r;unfold flats at h;rw[`oD,`cQ] at h;exact⟨x,r',e1,e30 h.1 r1,k20 (ds:=ds) h.2 r2⟩
theorem a90(h:`r9):PSD X `xb (Q7 (sj0 g)):=.mk λH₀ B₀ δ pins s σ H D I ⟨r,en,hq,k⟩ =>
 X3 h `af `ad `lj `h s σ H D I `atq
theorem gi0(h:`r9):PDF X e (qi0 g):=.mk λB δ pins s σ H Q I ⟨d,en,hq,k⟩=>by
 obtain⟨B',c1,c2,F⟩:=`uM;unfold qi0 at hq;cases e1:`nr with
 | none=>rw[e1] at hq;cases hq
 | some x =>
  rw[e1,`E] at hq;cases x with
  | lst ds =>
   simp only[] at hq
   by_cases hf:`IE
   ·rw[`HN] at hq
    cases hq;exact h B' `lj `h s σ H Q I ⟨_,F,e1,λp H' hp s' r=>k p H' hp s' (by
     obtain⟨xs,e5,r5⟩:=r;exact⟨xs,e5,k20 hf r5⟩)⟩
   ·rw[`Vl] at hq;cases hq
  | non=>cases hq
  | bl _=>cases hq
  | int _=>cases hq
  | str _=>cases hq
  | tup _=>cases hq
  | dct _ _=>cases hq
universe zz
universe DL
namespace L2
noncomputable def Lie(ok:`oJ)(h:`u)(C:`t)(od:`a6)(e:`e):Prop:=∃oe vs,`en e=`G2/\oe.cls=C/\`Ub=od/\`Uc/\1<vs.size/\ok e /\
 (vs[1]?=`a `aj∨∃T oT ts,vs[1]?=`a (`Q T)/\T≠e/\ok T/\`en T=`a oT/\oT.data=`fr ts/\ts[3]?=`a `aj)
structure Noted(ok:`oJ)(F:`aJ)(h h':`u):Prop where
 keep:∀b o,`eY->¬ok b->b∉F->`mV
 slot:∀b o,`eY->¬ok b->`RK
 there:∀b o,`eY->`RL
section
variable{M:`ef}{s:`r}
theorem eb0{base:`u}{ok:`oJ}{env:Env}{outer:`ei}{L e:`e}{oe:Obj}{vs:`aI}{head:`t}{hadNext:`N}{Q:`f_}
  (hfr:`ay_) (hl:`ay0) (hf:`ay1) (he:`eo e=`G2) (hd:`Uc) (hsz:1<vs.size) (oke:ok e)
  (new:`ay2)
  (h:∀h',`ay3->Lie ok h' oe.cls `Ub e->`Og) :
  `i M A (do let a ← frameOf env;let pl ← entryPlaceOf L hadNext;let b ← EntryCells.newEntry head a `aj (`ew L) `aj pl;setField `ij 1 b) `ay4 E s:=by
 have O:e∉`aei:=λz=>by
  obtain⟨_,o,q,n⟩:=hl.mem z;rw[he] at q;cases q;exact n vs hd
 refine A0 (wpAny_frameOf_fun hfr hl hf λg sl=>A0 (wpAny_entryPlaceOf λpl hp=>?_));unfold EntryCells.newEntry newFields;refine A0 (K0 ?_ (hp.sizeOk5 _ _ _ _ _));obtain⟨ar,J⟩:∃ar,ar=([head,`Q L,`aj,`ew L,`aj]++(if pl.isEmpty then `jP 6 `ik else pl)).toArray:=`au;have F:3<ar.size:=by rw[J];simp only[`a?,`aM,`ba,`ix];omega
 rw[← J];have ge:`vB e=`G2:=(sl.2.1 e O).trans he;have nT:`vn≠e:=B2 (A3 ge);have pe:=A5 (h:=g) `aek ge;refine h8 pe hd hsz ?_;have d3:=P4 hd `Od;have e3:=L0 `Oe pe (i0 d3);have t3:=(K2 (`ael) `Oe (B1 nT)).trans (B0 g rfl);unfold setFlight;refine A0 (B3 e3 d3 (x:=`Q `vn) (`WO) ?_);rw[`I `T];refine h8 t3 rfl F `ay5
 ·have oth:∀b o,`vB b=`ae->`z7->`ay6 b=`ae:=λb o q n=>by
   rw[`Of _ _ (B2 `Fr),`Of _ _ (B1 n)];exact `AH
  refine⟨λb o q n1 n2=>oth b o ((sl.2.1 b n2).trans q) `ay7,λb o q n1=>?_,λb o q=>?_⟩
  ·obtain⟨x,hx⟩:=`ay8
   exact⟨x,oth b _ hx `ay7⟩
  ·by_cases z:b=e
   ·subst z
    rw[`ay9];exact⟨_,e3⟩
   ·obtain⟨x,hx⟩:=`ay8
    exact⟨_,oth b _ hx z⟩
 ·have Y:`ay6 e=`a (oe.mapFields `Od):=by
   rw[`ay9];exact e3
  refine⟨_,_,Y,`ay' _ _,?_,d3,`WO,oke,`q ⟨`vn,_,_,`WO,nT,new _ (by rw[sl.1];exact `g0),L0 _ t3 (i0 (P4 rfl _)),P4 rfl _,?_⟩⟩
  ·obtain⟨c,d,dt,x⟩:=oe
   cases dt<;>rfl
  ·simp[F]
theorem note{base:`u}{ok:`oJ}{env:Env}{outer:`ei}{L e:`e}{C:`t}{od:`a6}{Q:`f_}
  (hfr:`ay_) (hl:`ay0) (hf:`ay1) (lie:`ay!)
  (new:`ay2)
  (h:∀h',`ay3->`ay?) :
  `i M A (`GL `ij env) `ay4 E s:=by
 obtain⟨oe,vs,he,rfl,rfl,hd,J,O,q⟩:=lie;unfold noteFrame;simp only[hf];rcases q with q|⟨T,oT,ts,q,nT,okT,hT,F,q3⟩
 ·refine `WP
  rw[`rM];exact eb0 hfr hl hf he hd J O new h
 ·refine `WP
  rw[`I `T];refine A0 (B3 hT F q3 ?_);rw[`ay (by simp[`ew])];refine A0 (h8 hT F `aza ?_);have oth:∀b,b≠T->`azb b=`kR:=λb n=>`azc
  have self:∃o',`azb T=`z8:=`azd;have nr:∀b o,`gf->(∀vs,`h3≠`MK)->b≠T:=λb o h1 h2 z=>by
   rw[z,hT] at h1;cases h1;exact h2 ts F
  refine eb0 hfr (hl.of_keeps λb o h1 h2=>⟨o,(oth b (nr b o h1 h2)).trans h1,rfl⟩) hf ((oth e (B1 nT)).trans he) hd J O (λb hb=>new b (by rw[Heap.size_after_update] at hb;exact hb)) λh' nd le=>h h' ⟨λb o h1 n1 n2=>`IF b o `aze n1 n2,λb o h1 n1=>`IG b o `aze n1,λb o h1=>?_⟩ le
  by_cases z:b=T
  ·obtain⟨o',Y⟩:=self
   exact `WQ b o' (by rw[z];exact Y)
  ·exact `WQ b o ((oth b z).trans h1)
universe zz
universe L2
namespace L2
open Spec PyProof.Rows
theorem Lie.mono{ok ok':`oJ}{h:`u}{C:`t}{e:`e}(q:∀b,ok b->ok' b)(l:Lie ok h C od e):Lie ok' h C od e:=by
 obtain⟨oe,vs,h1,h2,h3,h4,h5,h6,h7⟩:=l;refine⟨oe,vs,h1,h2,h3,h4,h5,q _ h6,h7.imp id ?_⟩;rintro⟨T,oT,ts,t1,t2,t3,t4⟩;exact⟨T,oT,ts,t1,t2,q _ t3,t4⟩
noncomputable def FpW(X:Cx)(pins:`av)(H:Hp)(b:`e):Prop :=
 `ct/\`kT/\`rq/\(`z'∨`LD=`b)/\`LF
abbrev lg0(X:Cx)(pins:`av)(H:Hp)(h:`u)(C:`e)(od:`a6)(e:`e):Prop:=Lie (FpW X `h H) h `dB od e
section
variable{M:`ef}{s:`r}
theorem flight{ok:`oJ}{C:`t}{e:`e}{Q:`f_}(lie:`ay!)
  (h:∀h',Noted ok [] `P h'->`ay?):`azf:=by
 obtain⟨oe,vs,he,rfl,rfl,hd,J,O,q⟩:=id lie;rcases q with q|⟨T,oT,ts,q,nT,okT,hT,F,q3⟩
 ·unfold setFlight
  refine `WP;rw[`rM];exact A1 (h _ ⟨λb o z _ _=>z,λb o z _=>⟨`FE,z⟩,λb o z=>⟨o,z⟩⟩ lie)
 ·have s3:3<ts.size:=`aza
  refine wpAny_setFlight_none he hd q hT F s3 `ay5
  ·have oth:∀b o,`gf->b≠T->(`jY T (`Cs (`qf 3 `aj))).get? b=`ae:=λb o z n=>(`azc).trans z
   refine⟨λb o z n _=>`azg,λb o z n=>⟨`FE,`azg⟩,λb o z=>?_⟩
   by_cases w:b=T
   ·subst w
    exact`azd
   ·exact⟨o,oth b o z w⟩
  ·refine⟨oe,vs,(K2 _ _ nT).trans he,rfl,rfl,hd,J,O,`q ⟨T,_,_,q,nT,okT,`aem,P4 F _,by simp[s3]⟩⟩
universe zz
section
variable{σ:St}{s:`r}
theorem Inv.fpW{b:`e}(I:`y)(hb:`WR)(hn:`k0):FpW X `h H' b:=by
 refine⟨hn,`gD,`gD,?_,`Sz,`SA⟩
 ·obtain⟨m,⟨o,_,_,ho,_⟩,_⟩:=`dH
  rw[← z,hb] at ho;cases ho
 ·obtain⟨_,o,ho,_⟩:=I.funs.mem z
  rw[hb] at ho;cases ho
 ·by_cases q:`z'
  ·exact `hJ
  ·refine `q ?_
   cases e:`LD with
   | none=>rfl
   | some o =>
    obtain⟨o',h'⟩:=`LI b o e q;rw[hb] at h';cases h'
 ·obtain⟨v,o,q,_⟩:=`rs
  rw[z,hb] at q;cases q
 ·have q:=(`ot).1
  rw[z,hb] at q;cases q
theorem Inv.dead{b:`e}(I:`y)(hb:`WR):`ct:=by
 cases e:H b with
 | none=>rfl
 | some o =>
  have:∃u,`kR=`bg:=by
   have z:=`bh b o e;clear e
   induction o with
   | lst xs=>obtain⟨_,_,_,_,q⟩:=z;exact`i8
   | tup xs=>obtain⟨_,_,_,_,q,_⟩:=z;exact`i8
   | dK kvs=>obtain⟨_,_,_,_,_,_,_,q,_⟩:=z;exact`i8
   | dT kvs=>obtain⟨_,_,_,_,_,_,_,q,_⟩:=z;exact`i8
   | set S n=>obtain⟨_,_,_,_,q,_⟩:=z;exact`i8
   | ins C dx fs=>obtain⟨_,_,_,q,_⟩:=z;exact`i8
   | own y=>exact z
   | xd fs=>obtain⟨_,⟨_,_,_,q,_⟩,_⟩:=z;exact`i8
   | rng lo hi=>obtain⟨_,_,_,q⟩:=z;exact`i8
   | frz ob u ih=>exact⟨_,z.1⟩
   | tbl ps=>exact⟨_,z⟩
   | met f y=>exact⟨_,z⟩
   | ext φ=>exact z.2.1
  obtain⟨u,q⟩:=`B;rw[hb] at q;cases q
theorem Inv.afterNote{F:`aJ}(I:`y)(hF:∀b∈F,b∈`rt)(nd:Noted (FpW X `h H) F `P h'):`it:=by
 have nt:∀b u,`or->¬`WS:=λb u q z=>by
  rw[z.1] at q;cases q
 have hok:`aki:=λa o q=>(`bh a o q).stay (λb u hb e=>by
  have tr:∃v,H b=`bo:=by
   rcases hb with rfl|hb
   ·exact`i8
   ·exact⟨_,hb⟩
  obtain⟨v,tr⟩:=tr;exact `IF b u e (nt b v tr) λz=>by
   rw[I.stkFree b (hF b z)] at tr;cases tr) `tx `mX
 have nF:∀b,`kT->`rq->b∉F:=λb n1 n2 z=>(`b1 (`RX b (hF b z))).elim n1 n2
 have up:`R_:=`aj0
 have J:∀b o,`z!->`RT->¬`WS:=λb o e hx z=>by
  rcases z.2.2.2.1 with q|q
  ·exact hx q
  ·rw[e] at q
   cases q
 have O:`aj1:=λx c e v ⟨o,ho,hd⟩=>by
  obtain⟨sl,q⟩:=`IG c o ho λz=>z.2.2.2.2.1 x c e rfl
  exact`aj3
 refine⟨I.ok,`f1,`ej,⟨λb o e n hb hx=>`IF b o `Fz (J b o e hx) (nF b `aen hb),`mZ,`tw,`Af,`Ag,`Ah,`LJ⟩,?_,`ru,`dY,`ft,`f2,hok,`fu⟩
 ·obtain⟨sl,e1⟩:=`FB
  obtain⟨Y,e2⟩:=`IG b _ e1 (J b o e hx);exact⟨Y,e2⟩
 ·obtain⟨o',e1⟩:=`w!
  exact `WQ b o' e1
 ·obtain⟨m,⟨o,es,ep,ho,r⟩,hl⟩:=`dH
  obtain⟨sl,hL⟩:=`IG _ o ho λz=>z.2.1 rfl
  refine⟨m,⟨_,es,ep,hL,r⟩,`R0⟩;obtain⟨u,r,l⟩:=`aj7;refine`aj8;rcases l with l|⟨k,c,e,z⟩
  ·exact `o l
  ·exact `q ⟨k,c,e,O x c e _ z⟩
 ·obtain⟨v,z⟩:=`rs
  exact⟨v,O x c e v z⟩
 ·obtain⟨e,n,ne,nf,d⟩:=`ot
  exact⟨`IF p.1 p.2 e (λz=>z.2.2.2.2.2 p hp rfl) (nF p.1 ne nf),n,ne,nf,d⟩
theorem Inv.frame(I:`y)(st:`Ft):`ajR:=by
 rcases `RW with q|q
 ·rw[st] at q
  exact `X (C6 `Ez q) `T
 ·exact q.2
theorem Inv.noted{M:`ef}{E:`Z}{C e:`e}{Q:`f_}(I:`y)(st:`Ft)(lie:`WT)
  (h:`azh) :
  `i M X.A (`GL `ij `v) (λ_ s1=>`i M X.A `Oc Q E s1) E s:=by
 refine note (base:=`dG) (outer:=`mU) (by rw[`amr,st]) (st▸I.stack) (I.frame st) lie (λb hb=>I.fpW (`ajZ hb) (`pz hb)) λh' nd le=>h h' (`azi (`fg) nd) le
 rw[st];exact hb
theorem Inv.flown{M:`ef}{A:`a5}{E:`Z}{C e:`e}{Q:`f_}(I:`y)(lie:`WT)
  (h:`azh):`azf :=
 flight lie λh' nd le=>h h' (`azi (λb hb=>by cases hb) nd) le
theorem Inv.track{φ:`pn}(I:`y)(fp:FpW X `h H a)(hφ:φ `P)(ho:∃o,`op)(st:`ajv) :
  Inv X `h σ (upd H a (`RC)) s:=by
 obtain⟨z1,z2,z3,z4,z5,z6⟩:=fp;have oth:∀b u,`or->upd H a (`RC) b=`bg:=λb u q=>by rw[Z0 (T7 q z1)];exact q
 refine⟨I.ok,`f1,`ej,⟨`LG,`LH,`aj4,`LI,λb xs e=>oth b _ (`Ag b xs e),λb o u e=>oth b _ (`Ah b o u e),`aj5⟩,`dH,`fs,?_,`ru,`f2,`azj,`fu⟩
 ·have:`uL:=λw=>by
   subst w;rcases z4 with z4|z4
   ·exact hx z4
   ·rw[e] at z4
    cases z4
  rw[Z0 `B];exact `FA
 ·obtain⟨F,q⟩:=`aj6
  exact⟨F,oth b _ q⟩
 ·rw[Z0 (B1 z2)];exact `dY
 ·rw[Z0 (z5 x c e)];exact `Fx
 ·obtain⟨e,n,r⟩:=`ot
  exact⟨e,by rw[Z0 (z6 p hp)];exact n,r⟩
 ·by_cases w:b=a
  ·subst w
   rw[j5] at q;cases q;exact⟨hφ,ho,st⟩
  ·rw[Z0 w] at q
   exact(`bh b u q).stay (λ_ _ _ z=>z) (λc z=>oth c _ z) λc xs z=>oth c _ z
theorem Inv.goes{M:`ef}{A:`a5}{E:`Z}{pos:Pos}{Q:`f_}(I:`y)(hN:`f3)(hi:`bW)(hx:`Ad)
  (h:∀s',Inv X `h (`mY i `b) H s'->`FH):`i M A (do bindName `v x `aj;unbindBehindTheSuite `v x pos) Q E s:=by
 have F:`ake:=`akf
 have hk:`ud=`kQ:=hx;refine A0 (wpAny_bindName (sn0 I hN hi `uP (v:=`z) (u:=`aj) rfl (λs1 I1=>?_) (`q hx)));unfold unbindBehindTheSuite;refine L7 ?_;unfold unbindName;refine A0 (`WU (`co));unfold deleteName;simp only[hk,F];rw[`rM];have cne:=I1.cne;obtain⟨m,hn,hl⟩:=id I1.loc;have hiσ:i<`Aa:=`akg
 have hm:(m x).isSome=`d:=by
  obtain⟨u,_,l⟩:=hl i x `z hi (by rw[`FI]) `uP;rcases l with⟨_,l⟩|⟨l,_⟩
  ·rw[l];rfl
  ·rw[hk] at l
   rcases l with l|l<;>cases l
 refine A0 (wpAny_nsDel_keeps hn λh' w J hs=>?_);rw[hm];simp only[`Fj,`hG,`dp];refine A1 (`WU (h _ ?_));obtain⟨oL,_,_,O,_⟩:=id hn;have up:`R_:=λb o e=>A6 (B4 `kU I1.ok.above)
 refine⟨I1.ok,I1.os,I1.bare,⟨`mZ,`mZ,I1.base.free,`Af,I1.base.tups,I1.base.frzs,I1.base.tbls⟩,⟨_,J,`R7⟩,`akl,`WV,I1.freeC,`f2,`azj,`R8⟩
 ·exact`WW (I1.base.keep b o e n hb hx)
 ·obtain⟨sl,e1⟩:=I1.base.slot b o e n hb hx
  exact⟨sl,`WW e1⟩
 ·obtain⟨o',e1⟩:=I1.base.there b o e hx
  exact⟨o',`WW e1⟩
 ·by_cases hj:j=i
  ·subst hj
   rw[`FI] at e2;cases e2
  ·rw[`mh] at e2
   obtain⟨u',r',q⟩:=hl j y v' e1 (by rw[`mh];exact e2) e3;refine`R';rcases q with⟨k,e⟩|⟨k,c,e,z⟩
   ·refine `o ⟨k,?_⟩
    have:y≠x:=`akn
    simp[`B,e]
   ·exact `ako
 ·obtain⟨w',z⟩:=I1.cell y c e
  exact`akp
 ·obtain⟨e,n,ne,nf,d⟩:=I1.pin p hp
  exact`akq
 ·refine(I1.hok b u q).stay (λc w' hc z=>`akj z) `tx `mX
  rintro rfl;rcases hc with rfl|hc
  ·rw[`WV] at q;cases q
  ·rw[`WV] at hc;cases hc
universe zz
noncomputable def CXE(P:`aa)(w:`L):CXT:=λouter H s E e s'=>∃ea C od H',e=`CC/\`Sa/\`AW/\`amn/\`amo /\
 Lie (λb=>`k0/\`WR) `k1 `dB od ea/\`azk
noncomputable def c70(X:Cx)(σ:St)(H:Hp)(C:`e)(od:`a6):Prop:=∀pins s e,`y->`WT->`az `ij s
section
variable{k:Nat}{f C:`e}{fd:`S}{ps:`j}{dvs:`C}{ds:`H}{c:Str}{t:TA}
noncomputable def Q90(X:Cx)(sp:Sp)(dvs:`C)(t:TA):TE:=fun σ H Q=>t σ H λvs H1=>sp `pv H1 Q λc od H'=>∀C,c=`kJ->c70 X σ H' C od
theorem Wi0(F:`Y `a0 X.w X.K `bn `dG (CXE `a0 X.w) k f fd ps sp)(hr:`F9)(hg:`cI)(hm:`amv)(hk:`amw)(hb:`S7)(hd:`S8)
  (ha:`rI) (hdb:`aW:=by decide) (he:`c9:=by rfl) (hpl:`f6:=by rfl) :
  PE X `k3 (Q90 X sp dvs t):=by
 intro pins s σ H Q I h;refine `amx;refine `amy;have r2:`amu:=`xp hd;have hl:`S6:=by rw[← `lm];exact F.len _ _ _ _ q
 refine `S9 (Q2 (F.run X.A `gU s1 H1 `xo `Ay `pv Q _ hr I1.env0 (hb s1 us I1.kIn hl) r2 q) `F');cases r with
 | error ex =>
  obtain⟨ea,C,od,H',rfl,os,bare,un,hok,J,wish⟩:=hq;exact wish C rfl `h s' ea (I1.call' (ch:=[]) os un hok bare λb z=>by cases z) (J.mono λb z=>I1.fpW z.2 z.1)
 | ok fl =>
  cases fl with
  | ret u=>exact I1.after hq
  | next=>exact `rH
  | brk=>exact `rH
  | cont=>exact `rH
theorem Yp0{tl:`H}{y:Str}{j:Nat}{cp:Pos}(hm:`azl)(rs:∀h:`u,X.K.In h->XC.Rs h C tl)(hbase:`aiB `Ff=`d)(hc:`bQ)(hg:Gl X c)
  (hd:`azm:=by decide) (he:`azn:=by rfl)
  (hbt:`azo:=by rfl) :
  PS X (.Raise (`a (`bi (`a! c np) [`Cu] [] `cg)) `b pos) (λ_ σ H=>c70 X σ H C `b):=by
 intro pins s σ H D I h;obtain⟨nm,q,N,bs,J,sn,sub,ab,O,dd,k0,k1,k2,k3,k5,mN,hC,hN,Y,ht⟩:=(rs `P `et).obj;refine wpAny_Raise_call_subU `azp `eT `azp (bm:=tl) (C:=C) (N:=N) (nm:=nm) (q:=q) (bs:=bs) (hdct:=J) (sn:=sn) (sub:=sub) (ab:=ab) (col:=O) (dd:=dd) (k0:=k0) (k1:=k1) (k2:=k2) (k3:=k3) (k5:=k5) (mN:=mN) `hQ `dZ (by rw[he,hbt];rfl) Y (vw0 I hg hm `vj hd);rw[he,hbt];refine B10 (Q1 (`akw (U1 ⟨rfl,by show `WX<=`R;decide,hC,hN,ht,λh' e hm=>?_⟩)));obtain⟨t,h1,h2,h3⟩:=hm.there;have I':`aoT:=`xc hm.keeps;exact h `h _ e I' ⟨_,_,h1,rfl,rfl,rfl,(by show 1<6;decide),I.fpW hm.new (I.dead hm.new),`cd⟩
universe zz
universe L2
namespace DL
open Spec PyProof.Rows L2
inductive DX where
 | ok (d:D)|ex (c:Str) (n:`aT)
inductive RX where
 | ok (r:Res)|ex (c:Str) (n:`aT) (δ:Ds)
abbrev GZ:=Ds->`aH RX
noncomputable def okZ(G:GS):GZ:=fun δ=>(G δ).map .ok
variable{Gb:DL.GZ}
noncomputable def iy0:GZ:=fun δ=>`a (.ok (.nx δ))
noncomputable def xr0(G1 G2:GZ):GZ:=fun δ=>match `h? with
 | `WY=>`xM
 | r=>r
noncomputable def ifZ(gt:GB)(Ga Gb:GZ):GZ:=`apN
noncomputable def az0(c:Str):GZ:=fun δ=>`a (.ex c `b δ)
noncomputable def XdX(K:`G)(H₀:Hp)(B₀:BS)(H:Hp)(σ:St)(δ:Ds)(od:`a6):`Ud
 | `b=>`eh
 | `fU=>∃(dx:`e) (B:BS),`G3/\`af dx=`b/\H dx=`azq/\`Hb/\`Hc/\`bC/\¬B dx
noncomputable def XdS(H H':Hp)(od:`a6):`Ud
 | `b=>`eh
 | `fU=>∃dx,`G3/\H dx=`b/\H' dx=`azq
theorem XdX.out{σ:St}{n:`aT}(x:`azr):XdS `af H od n:=by
 cases n with
 | none=>trivial
 | some k=>obtain⟨dx,B,e,h1,h2,_⟩:=x;exact⟨dx,e,h1,h2⟩
theorem Zg0(s:`ci)(h:H' a=`b):`rp:=by
 cases e:H a with
 | none=>rfl
 | some o=>rw[s a o e] at h;cases h
noncomputable def Rg0(X:Cx)(H₀:Hp)(B₀:BS)(D:`mi):RX->Prop
 | .ok r=>W10 X.K `af `ad D r
 | `WZ=>∀σ H C od,`azs->`b2 X.K `a3 c=`to->XdX X.K `af `ad H σ δ od n->c70 X σ H C od
noncomputable def tXS(X:Cx)(H₀:Hp)(B₀:BS)(δ:Ds)(G:GZ):TS:=λD σ H=>∃r,`azs/\`Us/\Rg0 X `af `ad D r
structure PSX(X:Cx)(st:`a8)(G:GZ):Prop where
 mk::go:∀H₀ B₀ δ,PS X st `azt
structure PSsX(X:Cx)(st:`dW)(G:GZ):Prop where
 mk::go:∀H₀ B₀ δ,PSs X st `azt
section
variable{st:`a8}{as bs:`dW}{G:GS}{G1 G2 Ga:GZ}{gt:GB}{gA:GA}{c:`D}
theorem ml0(h:`Ut):PSX X st (okZ G):=.mk λH₀ B₀ δ pins s σ H D I ⟨r,en,e,k⟩=>by
 unfold okZ at e;cases e1:G δ with
 | none=>rw[e1] at e;cases e
 | some r1 =>
  rw[e1] at e;cases e;exact h `af `ad δ `h s σ H D I ⟨r1,en,e1,k⟩
theorem ss0:PSsX X [] iy0:=.mk λH₀ B₀ δ pins s σ H D I ⟨r,en,e,k⟩=>by
 cases e;exact `aq4
theorem yo0(h1:PSX X st G1)(h2:PSsX X `d3 G2):PSsX X (st::`d3) (xr0 G1 G2):=.mk λH₀ B₀ δ pins s σ H D I ⟨r,en,e,k⟩=>by
 unfold xr0 at e;cases e1:`h? with
 | none=>rw[e1] at e;cases e
 | some r1 =>
  rw[e1] at e;cases r1 with
  | ex c n δ'=>cases e;exact `yL
  | ok r1 =>
   cases r1 with
   | nx δ'=>exact z90 `aeo (h2.go `af `ad δ') `h s σ H D I `aq5
   | rt d=>cases e;exact `yL
   | bk δ'=>cases e;exact `yL
   | ct δ'=>cases e;exact `yL
   | rf d=>cases e;exact `yL
theorem Qz0(hc:`xY)(ha:PSsX X as Ga)(hb:PSsX X bs Gb):PSX X `aq' (ifZ gt Ga Gb):=.mk λH₀ B₀ δ pins s σ H D I ⟨r,en,e1,k⟩=>by
 unfold ifZ at e1;obtain⟨B,b1,b2,env⟩:=`bX;cases e2:`k! with
 | none=>rw[e2] at e1;cases e1
 | some t =>
  rw[e2] at e1;refine Wz0 (hc B δ) (ha.go `af `ad δ) (hb.go `af `ad δ) `h s σ H D I `aq!;cases t with
  | true=>exact`Hh
  | false=>exact`Hh
theorem W00{r:`e}:(`aep).contains `Ff=`d:=by
 rw[`aiC];rfl
theorem bz0{r:`e}{cs:`j}{cn y:Str}{j:Nat}{np cp cpos:Pos}(T:`sF)(h1:cn∈rs)(h2:cn∈cs)(hcalm:`bQ:=by rfl)(hg:Gl X cn:=by rfl)
  (hd:(cn==`jr)=`m:=by decide) (he:`azn:=by rfl)
  (hbt:`azo:=by rfl) :
  PSX X (.Raise (`a (`bi (`a! cn np) [`Cu] [] `cg)) `b pos) (az0 cn):=.mk λH₀ B₀ δ pins s σ H D I ⟨r',en,e1,k⟩=>by
 cases e1;obtain⟨C,F⟩:=T.all cn h2;obtain⟨C',n,J⟩:=T.rai cn h1;have:C'=C:=by
  have:=`azu F.ns;cases `B;rfl
 subst this;exact Yp0 F.mg J W00 `Co hg hd he hbt `h s σ H D I (k σ H C' `b en F.ns `fE)
universe zz
noncomputable def spX(K:`G)(f:`jh):Sp:=λvs H Q E=>∃(B:BS) (ds:`s) (r:DX),`r6/\`x_/\`ld=`bL/\match r with
 | `Cw=>`xV
 | `mx=>∀C od H',`ci->`G5->XdS H H' od n->`azk
structure FnX(P:`aa)(w:`L)(K:`G)(mg:`a7)(base:`u)(x:Str)(k:Nat)(ps:`j)(f:`jh):Prop where
 ex:∃fa fd,`azv/\`Hx
section
variable{P:`aa}{w:`L}
noncomputable def mkX(n:Nat)(N:`j)(G:GZ)(ds:`s):`aH DX:=if `ja then (match `jQ with
 | `Cx=>`CD
 | `a (.ex c n _)=>`a (`mx)
 | _=>`b) else `b
theorem am0{G:GZ}{r:DX}(h:`W_=`bL):`ja/\((∃d,r=`Cw/\`azw)∨∃c n δ,r=`mx/\`jQ=`a (`WZ)):=by
 unfold mkX at h;split at h
 ·rename_i hl
  refine`ya;split at h
  ·rename_i e;cases h;exact `o ⟨_,rfl,e⟩
  ·rename_i e;cases h;exact `q ⟨_,_,_,rfl,e⟩
  ·cases h
 ·cases h
theorem S10{G:GZ}{d:D}(hl:`ja)(h:`azw):`W_=`CD:=by
 unfold mkX;rw[`ks,h]
theorem Sn0{G:GZ}{c:Str}{m:`aT}(hl:`ja)(h:`jQ=`a (.ex c m δ)):`W_=`a (.ex c m):=by
 unfold mkX;rw[`ks,h]
theorem okX{st:`a8}{fd:`S}{ps:`j}{k:Nat}{G:GZ}(F:`Hn)(S:`mt)
  (body:∀(cdv:`t) (A:`a5) (outer:`acN) (s:`r) (H:Hp) (E:XK),`acO->PSsX (wo0 `Cv P w K mg `k N `cX `jH fa cdv A `b0 s H E) `pG G) :
  `Y P w K mg `k `Cv `e0 fa fd ps (spX K (mkX `M N G)):=by
 obtain⟨oc,od,kV,doc,pm,an,cdv,ct,osl,rfl,lk,Z⟩:=F.ex;refine c20 lk Z S (λvs H Q E ⟨B,ds,r,_,rr,h,_⟩=>by rw[`pW];exact(am0 h).1) λA outer s H vs Q E hr O=>?_
 obtain⟨B,ds,r,hb,rr,h,q⟩:=O;refine⟨_,(`eX cdv A `b0 s H E hr).go H B `uv,?_⟩;have en:`x3:=by
  refine⟨`Bj H,⟨B,`MY,`MZ,⟨?_,hb,λi j a Y es h1 _ _ _=>`Bu⟩⟩,λi Y a h1 _=>`Bu,hb⟩;unfold L2.start Z8;rw[`pW];exact `uz (yx0 (N:=N) rr) `M_
 rcases (am0 h).2 with⟨d,rfl,e⟩|⟨c,m,δ,rfl,e⟩
 ·exact`UG
 ·refine⟨_,en,e,fun σ H' C od' en' n x pins s1 ea I lie=>?_⟩
  refine A0 (I.noted rfl lie λh' I' J=>?_);refine⟨ea,C,od',H',rfl,I'.os,I'.bare,I'.base,I'.hok,J.mono λb z=>⟨z.1,?_⟩,q C od' H' `M0 n x.out⟩;rcases z.2.2.2.1 with y|y
  ·exact `X (show `Md from y) `T
  ·exact y
universe zz
universe DL
variable{Gb:DL.GZ}
namespace L2
open Spec PyProof.Rows
section
variable{tl:`H}
theorem bi0{c:Str}{C:`e}(hm:`azl)(hg:Gl X c)(hd:`azm:=by decide):PE X (`a! c pos) (tC `dB):=λpins s σ H Q I h=>vw0 I hg hm ⟨`kJ,H,I,rfl,h⟩ hd
theorem Or0{T:`bj}(hm:`mj)(hv:`S?)(hg:`cI)(hn:`jp := by decide)(hd:`aW:=by decide):PE X `kV (tC (`x5)):=λpins s σ H Q I h=>z80 I hg hm hv ⟨`x5,H,I,rfl,h⟩ hn hd
noncomputable def Os0(K:`G)(tl:`H):`cZ:=λvs H Q=>∃a C W od,vs=`aiT/\`W0/\`W1/\`azx/\Q (.bl (`o!)) H
theorem bm0:`cv X `oq (Os0 X.K tl):=by
 intro pins s σ H xs us Q I r h;obtain⟨a,C,W,od,rfl,hH,cl,⟨tw,cw⟩,q⟩:=h;cases r with
 | cons r1 r =>
  cases r with
  | cons r2 r =>
   cases r;cases r1;cases r2;obtain⟨⟨oe,h1,h2,_⟩,_,_⟩:=`W2;exact XC.Vh0 `W3 (cw _ `et) h1 h2 `W4
noncomputable def Px0(K:`G)(tl:`H)(T:`bj)(b:`N):`cZ:=λvs H Q=>∃a C od,vs=[`a9,`x5]/\`W0/\`W1/\Q `qK H
theorem Zv0{T:`bj}{b:`N}(hty:`Rl)(hT:`azy `fq=b):`cv X `oq (Px0 X.K tl T b):=by
 intro pins s σ H xs us Q I r h;obtain⟨a,C,od,rfl,hH,cl,q⟩:=h;cases r with
 | cons r1 r =>
  cases r with
  | cons r2 r =>
   cases r;cases r1;cases r2;obtain⟨⟨oe,h1,h2,_⟩,_,_⟩:=`W2;exact XC.Xb0 `W3 h1 h2 hty hT `W4
theorem va0:∀{Ws:`aJ} {us:`H},`bm (`tm `nC) us->us=`zZ
 | [],_,`U=>rfl
 | `rj,_,`eH=>by
  cases r;rw[va0 t];rfl
noncomputable def ownsK(K:`G):`aiV
 | []=>`eh
 | `rj=>`azx/\`W5
theorem ownsK.all{h:`u}(X:`he):∀{Ws:`aJ},`W5->XC.p60 h Ws
 | [],_=>`fE
 | `rj,⟨⟨tw,c⟩,r⟩=>⟨⟨tw,c h X⟩,ownsK.all X r⟩
noncomputable def Pp0(K:`G)(tl:`H):`cZ:=λvs H Q=>∃a C tp Ws od,vs=`ai_/\`W0/\H tp=`a (`w (`tm `nC))/\`W1/\`W5/\Q (.bl `aaS) H
theorem Zd0:`cv X `oq (Pp0 X.K tl):=by
 intro pins s σ H xs us Q I r h;obtain⟨a,C,tp,Ws,od,rfl,hH,hT,cl,ow,q⟩:=h;cases r with
 | cons r1 r =>
  cases r with
  | cons r2 r =>
   cases r;cases r1;cases r2;obtain⟨⟨oe,h1,h2,_⟩,_,_⟩:=`W2;obtain⟨_,its,rv,tup⟩:=`bh tp _ hT;rw[va0 rv] at tup;exact XC.Vp0 `W3 (ow.all `et) h1 h2 tup.tup `W4
universe zz
universe L2
namespace DL
open Spec PyProof.Rows L2
noncomputable def exI(i:Nat)(cs:`j)(f:`RQ):GE:=fun δ=>match `cA with
 | `a (.ex c _)=>if `azz then `a (.bl (f c)) else `b
 | _=>`b
section
variable{r:`e}{cs:`j}{pc:Pos}
theorem il0{σ:St}{f:`RQ}{d:D}(en:`bC)(h:exI i cs f δ=`bb) :
  ∃c a C od,c∈cs/\d=.bl (f c)/\`ie/\`aqs/\`G5:=by
 unfold exI at h;split at h
 ·rename_i c n hδ
  split at h
  ·rename_i hc
   cases h;obtain⟨o,h1,a,rfl,C,od,h2,h3,h4,h5⟩:=`no en.all hδ;exact⟨c,a,C,od,Df0.mp hc,rfl,h1,h3,h4⟩
  ·cases h
 ·cases h
theorem t50{c:Str}{C C':`e}{tl:`H}(a:`vo K mg c C tl)(n:`acu=`a (`a (`Q C'))):C'=C:=by
 have:=`azu a.ns;cases `B;rfl
theorem e60(T:`azA)(hr:`IH){c:Str}{C C':`e}(h1:c∈cs)(h2:`W6)(a:`azB)(a':`vo K mg c' C' `Cz) :
  `W7 (`Q C')=`azC:=by
 by_cases e:c=c'
 ·subst e
  rw[t50 a a'.ns,`bv rfl];simp
 ·rw[`bS e]
  have n1:C≠C':=λz=>e (T.diff c (`zX _ h1) c' `azD (by rw[a.ns,a'.ns,z]))
  have n2:r≠C':=λz=>hr (by
   have:=T.diff `gd (`Lp) c' `azD (by rw[T.top.ns,a'.ns,z]);rw[`B];exact h2)
  simp[Ne.symm n1,Ne.symm n2]
theorem Tw0(i:Nat)(T:`sF)(hr:`IH)(h':`W6)(hm:`Ht)(hi:`bW:=by rfl)(hgi:`Hu := by rfl)(hgc:Gl X c':=by rfl)
  (hv:`dX:=by first|exact `b3|exact `eL|exact `eM) (hd:`aW:=by decide) (hcd:`eI:=by decide) (hdc:`azE:=by decide)
  (s1:`W8=[`azF]:=by rfl) (s2:`ce `azG `v=`W9::`W8:=by rfl) (hpl:(`d2 pos (`W8)).any `bG=`m:=by rfl) :
  PD X (`bi `Hv `azG [] pos) (exI i cs λc=>`azC):=.mk λB δ=>by
 obtain⟨C',a'⟩:=`azH;refine(wz0 (bm0 (tl:=`Cy)) hgi hm `W' (T4 `W! (T4 (bi0 a'.mg hgc hdc) J7 s1) s2) `f `f s2 hpl).imp `II
 obtain⟨c,a,C,od,hc,rfl,h1,h2,h3⟩:=`W?;obtain⟨C2,a2⟩:=`IJ;obtain rfl:=`Xa;refine⟨`a9,h1,a,C,C',od,rfl,h2,a2.cl,⟨_,a'.cl⟩,?_⟩;rw[e60 T hr hc h' a2 a'];exact `azI
theorem Uq0(i:Nat){y:Str}{Tn:`bj}{b:`N}(T:`sF)(hy:`dF y=`a `Xb)(hty:`tl `Xb=`Lt)(hT:`azy `Xb=b)(hm:`Ht)(hmy:`bn y=`b)(hi:`bW:=by rfl)(hgi:`Hu := by rfl)(hgc:Gl X y:=by rfl)
  (hv:`dX:=by first|exact `b3|exact `eL|exact `eM) (hd:`aW:=by decide) (hcd:`eI:=by decide) (hdc:`azJ:=by decide) (hny:y ≠`ts := by decide)
  (s1:`Xc=[(`m,`bp (`Oj) `v)]:=by rfl) (s2:`ce `azK `v=`W9::`Xc:=by rfl) (hpl:(`d2 pos (`Xc)).any `bG=`m:=by rfl) :
  PD X (`bi `Hv `azK [] pos) (exI i cs λ_=>b):=.mk λB δ=>by
 refine(wz0 (Zv0 (tl:=`Cy) hty hT) hgi hm `W' (T4 `W! (T4 (Or0 hmy hy hgc hny hdc) J7 s1) s2) `f `f s2 hpl).imp `II
 obtain⟨c,a,C,od,hc,rfl,h1,h2,h3⟩:=`W?;obtain⟨C2,a2⟩:=`IJ;obtain rfl:=`Xa;exact⟨`a9,h1,a,C,od,rfl,h2,a2.cl,`azI⟩
universe zz
universe DL
namespace L2
open Spec PyProof.Rows
abbrev Cx.body(X:Cx)(pn:`av)(xe:`Z):Cx:={ X with pn:=pn,xe:=xe }
abbrev Cx.hand(X:Cx)(A:`a5):Cx:={ X with A:=A,calm:=`m,xe:=`jJ }
section
variable{pins':`av}{σ:St}{s:`r}{W:`Z}
theorem Cx.Ok.body(o:X.Ok){pn:`av}:`azL:=`azM
theorem Cx.Ok.unbody{pn:`av}(o:`azL):X.Ok:=`azM
theorem Inv.toBody(I:`y):`azN:=⟨I.ok.body,`f1,`ej,`me,`dH,`fs,`dY,`ft,λp hp=>`gW p (by simpa using hp),`bh,`fu⟩
theorem Inv.ofBody(I:Inv `vq pins' σ H s):`y:=⟨I.ok.unbody,`f1,`ej,`me,`dH,`fs,`dY,`ft,λp hp=>`gW p (D6 _ hp),`bh,`fu⟩
theorem FpW.ofBody{b:`e}(f:FpW `vq pins' H b):`WS:=⟨f.1,f.2.1,f.2.2.1,f.2.2.2.1,f.2.2.2.2.1,λp hp=>f.2.2.2.2.2 p (D6 _ hp)⟩
theorem Cx.Ok.hand(o:X.Ok)(hf:`Cr=`RS):(`CB A).Ok:=⟨o.mod,o.kind,o.glob,o.blt,o.above,o.inj,o.has,o.cab,`yM,hf.trans `aeq,o.stk,o.exf,o.bs,o.bsz,o.noex,o.exfs,o.funs,o.frf⟩
theorem Inv.toHand(I:`y)(hf:`Cr=`RS):`azO:=⟨I.ok.hand hf,`f1,`ej,`me,`dH,`fs,`dY,`ft,`gW,`bh,`fu⟩
theorem Inv.ofHand{σ':St}(I:`azO)(J:`kY):`y:=⟨J.ok,`f1,`ej,`me,`dH,`fs,`dY,`ft,`gW,`bh,`fu⟩
universe zz
universe L2
namespace DL
open Spec PyProof.Rows L2
section
variable{σ:St}{C:`e}{c:Str}
theorem m10{s:Sl}{d:D}(hs:`Xd)(h:(`bq i s)[j]?=`p1):j≠i:=by
 rintro rfl
 by_cases hl:j<`G8
 ·rw[`xT] at h
  cases h;exact hs _ rfl
 ·rw[`xU] at h
  cases h
theorem Env.setSl{o:`c?}{s:Sl}(e:`bC)(hs:`Xd)(r:`G7):Env K H B (`mY i o) (`bq i s):=by
 refine⟨`xS r i `ib,`hT,`ac'⟩;have hj:=m10 hs h1;have hk:=m10 hs h2;rw[`mh] at h1 h3;rw[`aqH] at h2 h4;exact `lc j k b ds es h1 h2 h3 h4
theorem EnvS.setSl{o:`c?}{s:Sl}(e:`du)(hs:`Xd)(r:∀B,`bC->`G7):`cB K `af `ad H (`mY i o) (`bq i s):=by
 obtain⟨B,b1,b2,en⟩:=e.ex;refine⟨e.same,⟨B,b1,b2,en.setSl hs (r B en)⟩,`Nh,e.b0⟩;have hj:=m10 hs h1;rw[`mh] at h1 h2;exact `azP
theorem xdB{n:`aT}(e:`du)(x:`azr):∃B,`Hb/\`Hc/\`bC/\`aqt:=by
 cases n with
 | none =>
  obtain⟨B,b1,b2,en⟩:=e.ex;exact⟨B,b1,b2,en,`fE⟩
 | some k =>
  obtain⟨dx,B,h1,h2,h3,b1,b2,en,nb⟩:=x;exact⟨B,b1,b2,en,dx,h1,nb,h3⟩
theorem EnvS.setEx{m:`aT}(e:`du)(x:XdX K `af `ad H σ δ od m)(hH:`rp)(n:`G5):`cB K `af `ad `Xe (`mY i (`nn)) (`bq i (.ex c m)):=by
 obtain⟨B,b1,b2,en,xd⟩:=xdB e x;have nb:`jM:=λz=>en.bad a z hH
 have F:Env K `Xe B σ δ:=`ic (Z3 hH);have J:X60 `Xe B od m:=by
  cases m with
  | none=>trivial
  | some k =>
   obtain⟨dx,h1,h2,h3⟩:=xd;exact⟨dx,h1,h2,by rw[Z0 (T7 h3 hH)];exact h3⟩
 refine⟨`Uu (Z3 hH),⟨B,b1,b2,F.setSl `IK ⟨a,rfl,C,od,nb,j5,n,J⟩⟩,`Nh,e.b0⟩;have hj:=m10 (s:=.ex c m) `IK h1;rw[`mh] at h1 h2;exact `azP
universe zz
noncomputable def cm0(cs:`j)(i:Nat)(Gb:GZ)(Gh:GS):GS:=fun δ=>match `uh with
 | `WY=>`dO
 | `a (.ex c n δ')=>if `azz then (match Gh (δ'.set i (`mx)) with
  | `a (.nx δ'')=>`a (.nx (δ''.set i .un))
  | _=>`b) else `b
 | _=>`b
section
variable{r:`e}{cs:`j}{body suite:`dW}{b₀:`a8}{hp:Pos}{Gh:GS}
theorem Yi0{C:`e}:`W7 (`z1)=`d:=`aB
theorem Ug0(i:Nat)(T:`sF)(hb:∀pn xe,PSsX (`Ok pn xe) `eX Gb)(hh:∀e:`e,`jO (`CB (`aes (`a `ij))) `aer Gh)(hN:`f3)(st:`Ft:=by rfl)
  (hi:`bW:=by rfl) (hx:`Ad:=by rfl) (hg:Gl X `gd:=by rfl) (hdb:(`gd==`jr)=`m:=by decide) :
  PSD X (.Try `eX `azQ [] [] pos) (cm0 cs i Gb Gh):=.mk λH₀ B₀ δ pins s σ H D I ⟨res,en,e,k⟩=>by
 refine wpAny_Try_except ?_;obtain⟨W,hW⟩:∃W:`Z,W=λe s₁=>`i `ac X.A (`GL e `v) (λ_ s₂=>`i `ac X.A (`aej e `b) (λ_ s₃=>`i `ac X.A (handleBy e `v `azQ) `FJ `az s₃) `az s₂) `az `dM:=`au
 rw[← hW];have I1:`azN:=I.toBody;unfold cm0 at e;cases e1:`uh with
 | none=>rw[e1] at e;cases e
 | some rx =>
  rw[e1] at e;have run:∀D1:`mi,Rg0 `vq `af `ad D1 rx->`i `ac X.A (execs `eX `v) (SP `vq [] D1) W s:=λD1 k1=>(hb (`pk) W).go `af `ad δ [] s σ H D1 I1 ⟨rx,en,e1,k1⟩
  cases rx with
  | ok r1 =>
   cases r1 with
   | nx δ' =>
    cases e;refine C9 (run { nx:=`kX,rt:=`jJ } k) (`Sk) (`yN);cases f with
    | next =>
     obtain⟨σ',H',I',q⟩:=q;exact l80 `h s1 σ' H' D I'.ofBody q
    | ret v=>obtain⟨_,_,_,_,_,z⟩:=q;exact `cU
    | brk=>obtain⟨_,_,_,z⟩:=q;exact `cU
    | cont=>obtain⟨_,_,_,z⟩:=q;exact `cU
   | rt d=>cases e
   | bk δ'=>cases e
   | ct δ'=>cases e
   | rf d=>cases e
  | ex c m δ' =>
   simp only[] at e;split at e
   ·rename_i hc
    have hc:=Df0.mp hc;split at e
    ·rename_i δ'' e2
     cases e;refine C9 (run { nx:=`jJ,rt:=`jJ } fun σ' H' C od en' n xx pins' s1 ea I' lie'=>?_) (`Sk) (`yN)
     ·show W (`CC) s1
      rw[hW];have I2:Inv X `h σ' H' s1:=I'.ofBody;have a5:lg0 X `h H' s1.heap C od ea:=lie'.mono λb z=>z.ofBody
      refine I2.noted st a5 λh2 I3 F=>?_
      obtain⟨C2,a2⟩:=`IJ;obtain rfl:=t50 a2 n;obtain⟨oe,vs,he,a1,_⟩:=id F;have I4:Inv (`Xf) `h σ' H' { s1 with heap:=h2 }:=I3.toHand rfl;refine wpAny_handleBy_cons (codeAny_handlers_test (vw0 I4 hg T.top.mg (XC.f50 (h:=h2) (a2.cl _ I4.kIn) (T.top.cl _ I4.kIn) he a1 ?_) hdb)) (by intro q;cases q);rw[Yi0];refine codeAny_handlers_suite_as (I4.flown (C:=C) (od:=od) F λh5 I5 a4=>?_);obtain⟨Y,a7,Z,J,a3,a6,_,O,_⟩:=id a4;have I6:Inv (`Xf) `h σ' (upd H' ea (.ext (sm0 ea C od))) { s1 with heap:=h5 }:=I5.track O ⟨Y,Z,J,λdx z=>a3.trans z,a7,a6⟩ ⟨Y,Z⟩ λg1 g2 ⟨o,q1,q2,q3⟩ q=>⟨o,q o q1,q2,q3⟩
      refine sn0 (X:=`Xf) I6 hN hi `uP (v:=`CC) rfl (λs7 I7=>?_) (`q hx);refine C9 ((hh ea).go `af `ad (δ'.set i (.ex c m)) `h s7 _ _ { nx:=fun σ H=>`cB X.K `af `ad H σ δ'',rt:=`jJ } I7 ⟨.nx δ'',en'.setEx xx O.1 n,e2,`yN⟩) (λf s8 q=>?_) (λ_ _ z=>`cU);cases f with
      | next =>
       obtain⟨σ8,H8,I8,a8⟩:=q;exact(I8.ofHand I2).goes hN hi hx λs9 I9=>⟨_,H8,I9,k _ _ (a8.setSl `IK λ_ _=>`fE)⟩
      | ret v=>obtain⟨_,_,_,_,_,z⟩:=q;exact `cU
      | brk=>obtain⟨_,_,_,z⟩:=q;exact `cU
      | cont=>obtain⟨_,_,_,z⟩:=q;exact `cU
     ·cases f with
      | next=>obtain⟨_,_,_,z⟩:=q;exact `cU
      | ret v=>obtain⟨_,_,_,_,_,z⟩:=q;exact `cU
      | brk=>obtain⟨_,_,_,z⟩:=q;exact `cU
      | cont=>obtain⟨_,_,_,z⟩:=q;exact `cU
    ·cases e
   ·cases e
universe zz
theorem ty_ValueError:`tl `Fd=`Lt:=W.kitMeta_of `eT
structure PCl(X:Cx)(r:`e)(cs:`j)(es:`bT)(ns:`j):Prop where
 ex:∃Cs:`aJ,PA X es (λ_ H Q=>Q (Cs.map `nC) H)/\`bK (λ(C:`e) (n:Str)=>n∈cs/\`vo X.K `bn n C `Cz) Cs ns
section
variable{r:`e}{cs:`j}{pc tp:Pos}{ns:`j}
theorem T60:PCl X r cs [] []:=⟨[],J7,`U⟩
theorem y80(T:`sF)(h':`W6)(h:`azR)(hg:Gl X c':=by rfl)(hd:`azE:=by decide)(hs:`ce (`vp::es) `v=`azF::`tB:=by rfl) :
  PCl X r cs (`vp::es) (c'::ns):=by
 obtain⟨Cs,ha,hp⟩:=h.ex;obtain⟨C',a'⟩:=`azH;exact⟨C'::Cs,T4 (bi0 a'.mg hg hd) ha hs,`ak ⟨h',a'⟩ hp⟩
theorem fu0:∀{Cs:`aJ} {ns:`j},`azS->ownsK K Cs
 | _,_,`U=>`fE
 | _,_,`ak h t=>⟨⟨_,h.2.cl⟩,fu0 t⟩
theorem eq0(T:`azA)(hr:`IH){c:Str}{C:`e}(h1:c∈cs)(a:`azB):∀{Cs:`aJ} {ns:`j},`azS ->
  (Cs.any λW=>`W7 (`Q W))=`azT
 | _,_,`U=>rfl
 | _,_,`ak h t=>by rw[`i5,`i5,eq0 T hr h1 a t,e60 T hr h1 h.1 a h.2]
theorem Yy0(i:Nat){x1:Nat}(T:`sF)(hr:`IH)(hcl:`azR)(hlen:`g!<=100)(hm:`Ht)(hi:`bW:=by rfl)(hgi:`Hu := by rfl)
  (hv:`dX:=by first|exact `b3|exact `eL|exact `eM) (hd:`aW:=by decide) (hcd:`eI:=by decide)
  (s1:`Xg=[(`m,`bp (`Ol) `v)]:=by rfl) (s2:`ce `azU `v=`W9::`Xg:=by rfl) (hpl:(`d2 pos (`Xg)).any `bG=`m:=by rfl)
  (hl:`nc<=100:=by decide) :
  PD X (`bi `Hv `azU [] pos) (exI i cs λc=>`azT):=.mk λB δ=>by
 obtain⟨Cs,ha,hp⟩:=hcl.ex;refine(wz0 (Zd0 (tl:=`Cy)) hgi hm `W' (T4 `W! (T4 (bq0 ha) J7 s1) s2) `f `f s2 hpl).imp `II
 obtain⟨c,a,C,od,hc,rfl,h1,h2,h3⟩:=`W?;obtain⟨C2,a2⟩:=`IJ;obtain rfl:=`Xa;have hz:`dv:=`ai
 refine⟨`a9,h1,by rw[`F,Pd.len hp];omega,λq hq=>⟨a,C,q,Cs,od,rfl,?_,j5,a2.cl,fu0 hp,?_⟩⟩
 ·rw[Z0 (T7 h2 hq)]
  exact h2
 ·rw[eq0 T hr hc a2 hp]
  exact k _ _ (Z3 hq) `uq
universe zz
universe DL
namespace DL
open Spec PyProof.Rows L2
noncomputable def w60(f:`jh)(ds:`s):`db:=match `ld with
 | `CD=>`bb
 | _=>`b
theorem fn0{f:`jh}{d:D}(h:`azV):`azW:=by
 unfold w60 at h;split at h
 ·rename_i e;cases h;exact e
 ·cases h
theorem aw0{f:`jh}{d:D}(h:`azW):`azV:=by
 unfold w60;rw[h]
section
variable{P:`aa}{w:`L}
theorem Sr0{k:Nat}{fd:`S}{ps:`j}{f:`jh}(F:`azv):`Y P w K mg `k CX0 k fa fd ps (spD K `Xh):=by
 have cv:∀{vs H Q E},spD K `Xh vs H Q E->spX K f vs H Q (`mm):=λ{vs H Q E} ⟨B,ds,d,hb,r,h,q⟩=>⟨B,ds,`Cw,hb,r,fn0 h,q⟩
 refine⟨λvs H Q E h=>F.len vs H Q _ (cv h),λA outer s H J us vs Q E hr e0 hb r sp=>Q2 (F.run A `b0 s H J us vs Q _ hr e0 hb r (cv sp)) `F'⟩;cases r with
 | error ex =>
  obtain⟨_,_,_,_,_,_,_,_,_,_,z⟩:=hq;exact `cU
 | ok fl =>
  cases fl with
  | ret u=>exact hq
  | next=>exact hq
  | brk=>exact hq
  | cont=>exact hq
theorem FnX.plain{k:Nat}{ps:`j}{f:`jh}(C:FnX P w K mg `k x k ps f):FnD P w K mg `k x k ps `Xh:=by
 obtain⟨fa,fd,F,h⟩:=C.ex;exact⟨fa,fd,Sr0 F,h⟩
universe zz
universe DL
namespace DL
open Spec PyProof.Rows L2
@[simp] noncomputable def dm0:`K
 | [`es]=>match `azX with
  | [c]=>`a (`c (c:Nat))
  | _=>`b
 | _=>`b
theorem S00:FnR K `amd dm0:=by
 intro H B xs ds d Q hb r h k;unfold dm0 at h;split at h
 ·rename_i x
  split at h
  ·rename_i c hc
   cases h;obtain⟨v,rfl,r1⟩:=`gM;rw[X6] at r1;subst r1;obtain⟨⟨l⟩⟩:=x;have:l=[c]:=hc;subst this;exact⟨_,rfl,rfl,k _ H `dd (by rw[n6];rfl)⟩
  ·cases h
 ·cases h
universe DL
namespace L2
open Spec PyProof.Rows
theorem lt0:∀{ys:`j} {us:`H},`arH->∀(m:Nat) (y:Str),`azY->∃t,us[m]?=`a (`J y t)
 | [],_,`U,m,y,h=>by cases h
 | y'::ys,_,`eH,0,y,h=>by
  cases h;obtain⟨tk,rfl⟩:=r;exact⟨tk,rfl⟩
 | y'::ys,_,`eH,m+1,y,h=>by
  obtain⟨tk,e⟩:=lt0 t m y `n5;exact⟨tk,`Lx⟩
theorem kd0:∀ys:`j,(`acS).all we0=`d
 | []=>rfl
 | `x4=>by
  rw[`aC,`oD,kd0 ys];rfl
universe L2
namespace PySem.SeqAt
open PySem.AutoSeq1 (wpAny_loadPart')
open MeetsSeq MeetsSeq2 MeetsSeq3 SeqRoads2
theorem pt0{M:`ef}{A:`a5}{E:`Z}{s:`r}(f:Nat->β->Sem (ForInStep β))(I:`l->β->`dy)(Q:β->`dy)
  (turn:∀x rest b s,I (x::`d3) b s->`i M A (f x b) (λr s'=>match r with|.yield b'=>I `d3 b' s'|`lp b'=>Q b' s') E s)
  (fin:∀b s,I [] b s->Q b s) (lo hi:Nat) (b:β) (h:I `azZ b s):`i M A (`az_) Q E s:=by
 have e:(`az_:Sem β)=`qg `azZ b f:=`aB
 rw[e];exact wpAny_forIn_list f I Q turn fin _ b h
theorem tuple_indexAt(l:`e)(items:`aI)(n:Nat)(dd:`a6)(sl:`ff)(x:`t)(e:`aja)(j:Nat)(hj:j<`d7)
  (hit:e `al[j]=`d) (hno:∀m (hm:m<`d7),m<j->e `al[m]=`m) :
  `oS (Builtin.«tuple.index» ⟨[`k7,x],[]⟩)
   (λA R s=>`AR=`a { cls:=`cW,dict:=dd,data:=`ro,slots:=sl }/\(∀y,y∈`al->EqAt `bz s y x (e y))/\R (.ok (`dA (`c j `a1))) `L9) :=
 `yn λprog w A R s h=>by
  obtain⟨hp,g,d,tk,os⟩:=s;obtain⟨hl,he,h⟩:=h
  wp_walk using `jb,pt0 _ (λrest b s'=>b.1=`b/\s'=`aeD/\∃i,i<=j/\`d3=`iu i (`d7 - i)) _
  case turn =>
   rintro y rest b s' ⟨hb,rfl,i,hi,hr⟩;have F:i<`d7:=`p
   have e1:`d7 - i=(`d7 - `cy)+1:=`p
   rw[e1,`Xi] at hr;obtain⟨rfl,rfl⟩:=List.cons.inj hr;have hy:`al[y]?=`a `al[y]:=by simp[F]
   rw[hy];refine A0 (he `al[y] (Array.getElem_mem F) `eS w _ _ ?_)
   by_cases hyj:y=j
   ·subst hyj
    rw[hit]
    wp_walk
    exact`ky
   ·rw[hno y F `g]
    wp_walk
    exact⟨rfl,rfl,y+1,`p,rfl⟩
  case fin =>
   rintro b s' ⟨hb,rfl,i,hi,hr⟩;have:=C6 `Ez hr;simp at this;omega
  case h =>
   exact⟨rfl,rfl,0,`c_,`aB⟩
universe PySem.SeqAt
namespace L2
open Spec PyProof.Rows
noncomputable def CMulW(i j:Int):Prop:=`Xj
instance decMulW(i j:Int):`ku (CMulW i j):=inferInstanceAs (`ku (`Xj))
theorem CMulW.ok{i j:Int}(h:CMulW i j):`al_:=by
 obtain⟨h1,h2⟩:=h;have b1:`az0 i<=2000001:=`az1
 have b2:`az0 j<=2001:=`az1
 unfold IntMulOk Builtin.Int.intTooBig;intro h;rw[`cQ] at h;have h3:=r9 h.2;rw[bitsLine_eq] at h3;omega
theorem Ud0:OpR X `al3 (rI CMulW `F5):=`al4
noncomputable def Oe0(K:`G):`i3:=λx vs H Q=>∃(p:`e) (ys:`j) (z:Str) (j:Nat),x=`e_/\vs=`AM/\SqT K H p `Bw/\ys[j]?=`vx/\(∀m,m<j->ys[m]?≠`vx)/\Q `iH H
theorem Vl0:MtR X "tuple.index" (Oe0 X.K):=by
 intro pins s σ H x vs v us Q I rx rv h;obtain⟨p,ys,z,j,rfl,rfl,hq,hj,a1,q⟩:=h;cases rx;obtain⟨u,rfl,ru⟩:=rv.one;obtain⟨its,r,pl,hz⟩:=`hM;obtain⟨o,h1,h2,n,h3⟩:=id pl;have a2:`k5=`fy:=by rw[← `aL,`F]
 have a3:j<`fy:=`az2;have Y:∀m (hm:m<`fA),∃y t,`azY/\`bZ[m]=`J y t:=λm hm=>by
  have O:m<`fy:=by rw[`a?] at hm;omega
  obtain⟨t,e⟩:=lt0 r m ys[m] (C3 O);refine⟨ys[m],t,C3 O,?_⟩;have:its[m]?=`a its[m]:=C3 `g;rw[`B] at e;have e':=B5 e
  simpa using e'
 obtain⟨c0,dd,dt,sl⟩:=o;obtain rfl:c0=`cW := h2;obtain rfl:dt=`aaV:=h3;obtain⟨t,rfl⟩:=ru;have J:∀(y:Str) (tk:Tok),`az3=`d↔y=z:=λy tk=>by
  show (eqV (`J y) `CE)=`d↔_;simp[eqV]
 refine X1 (T := `dC) `az4 (show `jA `d' `dC from ⟨_,h1,rfl⟩) F.entry_tuple_index (F.args_tuple_index_2 _ _) (SeqAt.tuple_indexAt p `bZ n dd sl (`J z t) (eqU `CE) j `xB ?_ ?_) ⟨h1,λy hy=>sk0 (x:=`k6) `TG rfl r (kd0 ys) y (by simpa using hy),⟨`dg,H,`eu,`au,q⟩⟩
 ·obtain⟨y,tk,e1,e2⟩:=Y j `xB
  rw[e2,J];rw[hj] at e1;cases e1;rfl
 ·intro m hm Z
  obtain⟨y,tk,e1,e2⟩:=Y m hm;rw[e2];cases hb:`az3 with
  | false=>rfl
  | true=>exact `X ((J y tk).mp hb▸e1) (a1 m Z)
noncomputable def Yj0(K:`G)(mg:`a7)(x:Str)(ys:`j):Prop :=
 ∃(a:`e) (o:Obj) (its:`aI) (n:Nat),mg x=`nn/\`Sg/\`nR/\`w4/\`abi/\`LP/\`bm `Bw `An
universe L2
namespace DL
open Spec PyProof.Rows L2
@[simp] noncomputable def Xn0:`b?:=ii λi j=>if `Xj then `M8 else `b
noncomputable def ck0(ys:`j):`K
 | `AM=>(`az5 `az6).map λj=>`dg
 | _=>`b
section
variable{a:`D}{ga gb:GE}{gA:GA}{ys:`j}
theorem T10(ha:`cT)(hb:`c'):PD X `auv (o2 ga gb Xn0):=sl0 Ud0 (qk0 (C:=CMulW) (g':=`F5) `sa) ha hb
theorem Uo0(hK:Yj0 X.K `bn x ys)(ha:`UR)(hg:`cI:=by rfl)(hd:`aW:=by decide)
  (hbase:`jD `Om "index" `v (`az7)=`az7:=by rfl)
  (hfew:(`x8
  &&`ar4)=`d:=by rfl)
  (hline:`hP:=by rfl) (hs:`fk:=by rfl) (hplain:`x9:=by rfl) :
  PD X (`bi (`jE `Om "index" `h!) [e] [] `cg) (oA gA (ck0 ys)):=.mk λB δ=>by
 obtain⟨p,o,its,n,hm,hk,hc,O,J,Y,hv⟩:=hK;refine(p80 F.plainAttrs_tuple `az4 F.type_tuple_index Vl0 (fs0 (v:=`e_) hg hm rfl hd) `bd `hQ `mr `i7 hs `oE).imp `II
 unfold oA at h;cases e2:`bI with
 | none=>rw[e2] at h;cases h
 | some es =>
  rw[e2,`E] at h;unfold ck0 at h;split at h
  ·rename_i z
   cases e4:`az5 (`az6) with
   | none=>rw[e4] at h;cases h
   | some j =>
    rw[e4] at h;cases h;refine⟨`q (`o ⟨rfl,o,hk,hc,O⟩),_,en,e2,`US⟩;rw[o7] at r2;obtain⟨y,rr,rfl,r3,r4⟩:=r2;rw[o8] at r4;subst r4;rw[X6] at r3;subst r3;obtain⟨hj,h1,h2⟩:=List.findIdx?_eq_some_iff_getElem.mp e4;refine⟨p,ys,z,j,rfl,rfl,`q ⟨o,its,n,hk,hc,J,Y,hv⟩,?_,λm hm he=>?_,k _ _ s2 `uo⟩
    ·rw[`Xk,`Xl h1]
    ·have Z:m<`fy:=`p
     rw[`iv Z] at he;exact h2 m hm (S4 (B5 he))
  ·cases h
universe zz
universe DL
namespace Att
open PySem.W PySem.Calls PyProof.Rows
theorem d50(W:Nat):∀ns:`aG,`az8 `Mv<=W->∀z∈ns,`aeu<=W
 | [],_,z,hz=>by cases hz
 | n::ns,h,z,hz=>by
  rw[`aC,`az8] at h;rcases `Xm with rfl|hz
  ·have h1:`Xn `DB<=W:=`p
   unfold WData.weight at h1
   by_cases q:z=0
   ·subst q;exact `c_
   ·rw[`ay (`F1)] at h1
    omega
  ·exact d50 W ns `g z hz
theorem go0{l:`TC}{n:Nat}{q:`aa}{loose:`j}{XP:`az9}{YP:`az'}{d:DefRec}
  (hn:`TD) (hdf:`az!)
  (call:∀(w:`L) (s₀ s₁:`r) (mg mb:`a7) (fa:`e) (o:Obj) (pm cd doc:`t) (a:`e) (vs:`H) (ns:`aG),
   Ground q loose [] XP w s₀ mg mb `pE->YP w `pE ->
   `AT fa=`ae->`h3=`jI (docDef `On d.params d.body d.scope pm cd doc)->s₁.heap.CodeRec cd `On->`az? ->
   `aow->`xC->`GG->`aAa->`aov ->
   `gm (`zY `ap w) `t8 (`pF `t' `AX) `ab7 `dM) :
  WalkO q loose XP YP `TF d [] `aAb:=by
 intro w s₀ s₁ mg mb G Y fa o pm cd doc dV kV ho hd a3 hD a4 hg a5 vals as O Z a7 a2 a6;obtain rfl:dV=`aj:=Dflts.none hD hdf;obtain rfl:kV=`aj:=Dflts.noKw hD;obtain⟨a,vs,ns,rfl,rfl,a1,F,J⟩:=Y80 hn O a2;have hw:∀z∈ns,`iw:=by
  have h1:(WData.layable (`TE)&&`d)=`d:=Z;rw[`aup] at h1;unfold WData.layable at h1;rw[`cQ] at h1;have h2:`Xn (`TE)<=2 ^ 20:=r9 h1.2;rw[`Xn] at h2;exact d50 (2 ^ 20) ns h2
 refine enter_call (Q2 (`b' w s₀ `dM mg mb fa o pm cd doc a vs ns G Y ho (fd_plain hd) a3 a4 a1 F J hw hg) `F');obtain⟨rfl,h2,h3,h4⟩:=hq;exact⟨`o ⟨`AS,`AS,[],rfl,`ww,`AS,Y00 l _,λ_=>⟨`av_,λ_ hm=>(nomatch hm)⟩⟩,h2,h3,h4⟩
universe Att
namespace L2
open Spec PyProof.Rows
theorem X30{l:W.OpenLaw}{n k:Nat}{q:`aa}{loose:`j}{XP:`az9}{YP:`az'}{d:DefRec}{K:Params->`G}{CX:CXT}{sp:`G->Sp}{x:Str}
  (hn:`TD) (hn2:`xz) (hdf:`az!) (hr:`aox)
  (hY:∀(w:`L) (h:`u),YP w h->`Xo h)
  (F:∀(w:`L) (mg:`a7) (fa:`e) (h:`u),`Xo h->`Fi->`az? ->
   ∃fd:`S,(`aoy) /\
    ∀base:`u,`Xo `k->`Fs->`Y `ap w `Xp mg `k CX k fa fd [x] (sp `Xp))
  (hsp:∀(K:`G) (H:Hp) (a:`e) (ns:`aG),`GG->`aAa->Only H->`GH->sp K `jG H `TI `mm)
  (hCX:∀(H:Hp) (s:`r) (e:`t) (s':`r),CX [] H s (`mm) e s'->`cK) :
  W.WalkO q loose XP YP `TF d [] `aAb:=by
 refine Att.go0 hn hdf λw s₀ s₁ mg mb fa o pm cd doc a vs ns G Y ho hd a2 a1 Z O J hw hg=>?_
 have KX:=hY w _ Y;obtain⟨fd,hb,hF⟩:=F w mg fa _ KX G.T.g a1;exact X80 KX G.T.g G.T.b G.T.builtins G.T.nolimit hg Z O (B9 J hn2) hr hF hb (λH hO hS=>hsp `Xp H a ns J hw hO hS) λH e s'=>hCX H `dM e s'
noncomputable def M50:`i3:=λx vs H Q=>∃l xs y k,`xA/\vs=[`c `aAc,y]/\`rR/\k<=`aP/\`aP<`R/\Q `z (upd H l (`n `aAd))
theorem gw0:∀{xs:`C} {us:`H} {y:V} {u:`t} (k:Nat),`dq->`ek->`bm `aAd (us.take k++u::us.drop k)
 | _,_,_,_,0,h,r=>`ak r h
 | _,_,_,_,k+1,`U,r=>`Tz
 | _,_,_,_,k+1,`Ry,r=>`ak q (gw0 k t r)
theorem P30:MtM X "list.insert" M50:=by
 intro pins s σ H x vs v us Q I rx rv h;obtain⟨l,xs,y,k,rfl,rfl,hH,hk,hz,q⟩:=h;cases rx;obtain⟨u0,u,rfl,Z,ru⟩:=rv.two;obtain⟨t0,rfl⟩:=Z;obtain⟨z,its,n,r,hl,e⟩:=`GD;have a1:`k5=`aP:=`abU;have a2:`R<`g1:=`ai
 obtain⟨K,hK⟩:∃K:Int,K=`aAc:=`au;rw[← hK];have J:`aAe=`d:=by
  unfold Builtin.List.listFitsIndex;rw[`cQ];exact⟨S4 `g,S4 `g⟩
 have O:¬(!`aAe)=`d:=by rw[J];decide
 have Y:`fA<=`R:=`ab4
 have e1:`Xq=k:=by
  rw[`ji,`a?,`Xr `g];omega
 refine X1 F.slot_list_insert `GE F.entry_list_insert (F.args_list_insert_3 `jC (`c K t0) u) (PySem.AutoListH.list_insert_list_int_val_1 l `bZ n K t0 u O Y) `TB;refine⟨`z,_,`GF (its':=its.take k++u::its.drop k) hH e ?_ (gw0 k r ru) ?_,rfl,q⟩
 ·show (`aAf 0 `Xq).push u++`aAf `Xq=_
  rw[e1];apply Array.toList_inj.mp;simp;exact `IL (by rw[`i2];omega)
 ·rw[`aM,`ba,`cm,`i2];omega
universe L2
namespace DL
open Spec PyProof.Rows L2
noncomputable def mv0(i:Nat)(gk g:GE):GX:=fun δ=>`x? λds=>`Xs λk=>`cS λd=>match k with
 | `G4=>if 0<=n/\n<=`bJ/\`bJ<`R then `a (`z,`aAg) else `b
 | _=>`b
section
variable{e0:`D}{g:GE}{gA:GA}
theorem P40(i:Nat)(h0:PD X e0 g0)(h:`bf)(hN:`bW:=by rfl)(hv:`dX:=by first|exact `b3|exact `eL|exact `eM)(hd:`aW:=by decide)(hcd:`eI:=by decide)
  (hbase:`jD `e6 "insert" `v `p2=`nu:=by rfl)
  (hfew:((`d2 `cg (`aAh)).all `BA&&`BB
  &&`O ((`Oo:`bT).length+`uC+`uD<30))=`d:=by rfl)
  (hline:`hP:=by rfl) (hs:`aAh=(`m,`bp e0 `v)::`M2:=by rfl) (hs1:`fk:=by rfl) (hplain:(`acX).any `bG=`m:=by rfl) :
  PX X (`bi (`jE `e6 "insert" `h!) `Oo [] `cg) (mv0 i g0 g):=.mk λH₀ B₀ δ pins s σ H Q I ⟨r,en,e1,k⟩=>by
 unfold mv0 at e1;obtain⟨B,b1,b2,env⟩:=`bX;cases e2:`jS with
 | none=>rw[e2] at e1;cases e1
 | some ds =>
  cases e4:g0 δ with
  | none=>rw[e2,e4] at e1;cases e1
  | some d0 =>
   cases e3:`as with
   | none=>rw[e2,e4,e3] at e1;cases e1
   | some d =>
    rw[e2,e4,e3] at e1;simp only[`E] at e1;cases d0<;>simp only[] at e1<;>try cases e1
    rename_i n;split at e1
    ·rename_i hz
     cases e1;have hi:=`yo;obtain⟨a,O,hb,xs,hx,rx⟩:=`jc;refine p80 o0 PySem.F.slot_list_insert PySem.F.type_list_insert P30 `jd (T4 (h0 B δ) (T4 `b4 J7 hs1) hs) `hQ `mr `i7 hs `oE `h s σ H Q I
      ⟨_,O,`BP,`G4,env,e4,λv0 H0 s0 r0=>⟨d,`np s0,e3,`BW⟩⟩
     rw[n6] at r0;subst r0;refine⟨a,xs,v,`g?,rfl,by rw[`IM hz.1],s1 _ _ (s0 _ _ hx),by rw[`p3];omega,by rw[`p3];exact hz.2.2,?_⟩;have Y:=s0.trans s1;have J:Env X.K `aAi B σ (`aAg):=(`np Y).mut hi O ⟨_,j5,by
      have r2:Rps X.K `aAi B ds xs:=(`BQ Y).mono `gr;refine(r2.take _).append ?_;rw[o7];exact⟨v,_,rfl,r1.mono `gr,r2.drop _⟩⟩
     exact k _ _ (`nw (`uT Y b1 b2 hi O J) b1 b2 J `uA)
    ·cases e1
universe zz
universe DL
namespace L2
open Spec PyProof.Rows
theorem k70{s:`r}{d:`e}{kvs:`gy}{k:Key}{v:V}{r:`t}{Q:`f_}(I:`y)(e:H d=`pZ)(l:`oQ)(rk:`U2)(rv:`HH)
  (h:∀h' tk,Inv X `h σ (upd H d `ac5) `ir->`ax1) :
  `i `ac A (`Iv d u r) Q E s:=by
 obtain⟨z,hd,vs,rel,dd⟩:=`U!;have hz:`U?:=`Va
 have hl:`yi:=`yj
 refine wpAny_dictSet_pairs (hsz:=hz) (s70 rk) dd `ax2
 have he:∃q,`ge d=`a q:=`asP
 exact `asQ
structure PKW where
 p:`e
 k:Key
 v:V
noncomputable def PKW.ok(H:Hp)(x:PKW):Prop:=`aAj
noncomputable def z50(kvs:`gy)(ps:`Xt):`gy:=`ax3
theorem fb0{d:`e}(hh:`cR){R:`w_}{ps:`Xt}(n:Nat):∀(i:Nat) (s:`r) (H:Hp) (kvs:`gy),`N6=n->i<=`M->`y->`ax5->it≠d->it≠l->`ax6 ->
  `ax7->`sD->H d=`pZ->`ax8 ->
  (∀s',Inv X `h σ (`aAk) s'->`VP) ->
  `ax':=by
 induction n with
 | zero =>
  intro i s H kvs hn hi I hf F Y O hl hp hd hz hR;obtain⟨its,rv,pl,_⟩:=`Iw;have a2:=`e7;rw[`F] at a2;unfold Builtin.«dict.update.loop»;refine `ax!;have I1:`it:=`ax?
  have e:`vh=[]:=`aya
  rw[e] at hR;have:=hR _ (show Inv X `h σ (`aAl) `dI from by
   rw[show `aAl=H from by funext c;by_cases q:c=d<;>simp[upd,q,z50,hd]];exact I1)
  exact `ayc
 | succ n ih =>
  intro i s H kvs hn hi I hf F Y O hl hp hd hz hR;obtain⟨its,rv,pl,_⟩:=`Iw;have J:`jg:=`p
  obtain⟨x,hx⟩:∃x,`ayd:=`aye;have a8:x∈ps:=E4 hx;have a4:`aAj:=hp x a8;obtain⟨u,a6,ru⟩:=`ayf;cases `ayg;unfold Builtin.«dict.update.loop»;refine A0 (Ae0 O `fI (by simpa using a6) `akr);have I1:`it:=`ayh
  obtain⟨b1,b0,ip,_⟩:=`xj (SqT.of a4);cases b0 with
  | cons r1 rr =>
   cases rr with
   | cons r2 rr =>
    cases rr;obtain⟨o,ho,hc,nn,a1⟩:=id ip;rename_i rk0 rv0;refine `u_;refine `ayi;unfold Builtin.Dict.pairItems;refine `ayj;rw[`oA];refine A0 (D0 ho a1 `jy);show `i _ _ (`kW [rk0,rv0] (`Iv d rk0 rv0)) _ _ _;refine C5 (k70 (A:=`bz) I1 hd `g r1 r2 λh2 tk I2 a3=>?_);have a5:∀(c:`e) (us:`C),H c=`Ix->upd H d (.dK `lx) c=`Ix:=λc us ec=>by
     rw[`ayk];exact ec
    have a7:`ayl:=`aym
    refine A1 ⟨`N9,?_⟩;rw[a7];refine `N';rw[`Iy];refine ih `cy _ `aAm `lx `g `g I2 `ayo F Y (Z.extBut a3.extBut F) ?_ (λy hy=>a5 _ _ (`WI)) j5 `ayp `ayq
    ·rcases hl with (hl|⟨o',hl⟩)|hl
     ·exact `ayr
     ·exact `ays
     ·exact `Iz
    ·have e1:upd `aAm d (.dK (z50 `lx (`N8)))=`aAk:=by
      have e2:`ayt:=by
       rw[`x1 J];have:`vi=x:=by
        have:=hx;rw[`iv J] at this;exact `va
       rw[`B]
      rw[e2]
      funext c
      by_cases q:c=d<;>simp[upd,q,z50]
     rw[← e1];exact I'
noncomputable def Vz0(K:`G):`cZ:=λvs H Q=>∃l ps,vs=`sm/\SqL K H l `aAn/\`sD/\`ayv/\∀d,H d=`b->Q (`Q d) (upd H d `aAo)
theorem fo0(hu:`IA)(hcalm:`bQ:=by rfl):`cv X `Ce (Vz0 X.K):=by
 intro pins s σ H vs us Q I r h;obtain⟨l,ps,rfl,hl,hp,hz,k⟩:=h;cases r with
 | cons r rr =>
  cases rr;obtain rfl:=r;have hb:`sb:=`x';have hf:`rS:=`fx;refine `ayx;rintro obj s₁ ⟨rfl,rfl⟩;have I1:`aAp:=`aAq;have hT:`ayy := `Ic;have J:∀(c:`e) (o:HO),H c=`ae->upd H `A `vr c=`ae:=`ayz
  have hl1:SqL X.K `nN l `aAn:=by
   rcases hl with (hl|⟨o',hl⟩)|hl
   ·exact `o (`o (J _ _ hl))
   ·exact `o (`q ⟨o',J _ _ hl⟩)
   ·exact `Iz
  obtain⟨its,rv,⟨ol,nl,O,Z,a5,a2⟩,_⟩:=`mo hl1;refine`ayA;unfold Builtin.«dict.__init__»;refine `co;unfold Builtin.Dict.selfAndRest;refine `ayB;show `ayC;refine `cw;show `ayD;unfold Builtin.Dict.updateFrom;refine `ayE;rw[`oA];refine A0 (lx0 O Z a2 a5 `IB λh1 F k1=>?_);simp only[`WD,`c7];have I2:Inv X `h σ `nN `aAr:=`tI (t':=F) k1;obtain⟨a7,b1,Y,_⟩:=I2.list hl1;refine A0 (D9 (A0 (N0 (s:=`aAr) Y.isList ?_)));refine `ayG;rw[`Iy];have I3:Inv X `h σ `nN { s with heap:=`ayH,toks:=F }:=`WJ (t':=F) `m3
  have a3:`ayI:=A3 (k1 _ _ `nH);have a4:`ly≠l:=by
   obtain⟨b0,a8,a1,_⟩:=Y;exact `ayJ
  have a6:upd H `A `vr `ly=`b:=`WK;refine fb0 (X:=X) (pins:=`h) (σ:=σ) (A:=`sE) (it:=`ly) (l:=l) (d:=`A) (ps:=ps) `IB `M 0 _ _ [] `g `xH I3 (`IC `aK a6) (B2 a3) a4 ?_ hl1 (λx hx=>J _ _ (`WL)) j5 `aAs `ayK
  ·exact`oy
  ·refine`ayL
   have e:upd `nN `A (.dK (z50 [] (`Ck 0)))=upd H `A `aAo:=by
    funext c
    by_cases q:c=`A<;>simp[upd,q]
   rw[e];exact k _ hf
universe L2
namespace DL
open Spec PyProof.Rows L2
noncomputable def O8:`de->`s->`s->`ase
 | ks,vs,[]=>`WN
 | ks,vs,`mA::r=>`aAt λk=>O8 `yK `vl r
 | _,_,_=>`b
noncomputable def i10:`K
 | `mw=>if `kq then (`aAu).map λr=>`atz else `b
 | _=>`b
theorem fk0{d:D}{r:`BD}(e:O8 ks vs `GV=`bL):∃a b k,d=`mA/\J2 a=`fU/\O8 `yK `vl ds=`bL:=by
 cases d with
 | tup l =>
  match l,e with
  | [],e=>simp[O8] at e
  | [_],e=>simp[O8] at e
  | `h8,e =>
   unfold O8 at e;cases h:J2 a with
   | none=>rw[h] at e;cases e
   | some k=>rw[h] at e;exact`ayO
  | `ayP,e=>simp[O8] at e
 | non=>simp[O8] at e
 | bl _=>simp[O8] at e
 | int _=>simp[O8] at e
 | str _=>simp[O8] at e
 | lst _=>simp[O8] at e
 | dct _ _=>simp[O8] at e
theorem m90:∀{ds:`s} {xs:`C} {ks:`de} {vs:`s} {ws:`C} {r:`BD},`bc->`ayQ->`gn=`nJ->O8 ks vs ds=`bL ->
  ∃ps:`Xt,xs=`ex (`N5)/\`sD/\∃ws',z50 `ID ps=r.1.zip ws'/\`ayR
 | [],xs,ks,vs,ws,r,h1,h2,hl,e=>by
  unfold O8 at e;cases e;rw[o8] at h1;exact`ayS
 | `aE,xs,ks,vs,ws,r,h1,h2,hl,e=>by
  rw[o7] at h1;obtain⟨x,t,rfl,hx,ht⟩:=h1;obtain⟨a,b,k,rfl,e1,e⟩:=fk0 e;rw[W0] at hx;obtain⟨p,ys,rfl,hq,F⟩:=hx;rw[o7] at F;obtain⟨y1,t1,rfl,Z,F⟩:=F;rw[o7] at F;obtain⟨y2,t2,rfl,J,F⟩:=F;rw[o8] at F;subst F;have a3:=vr0 e1 Z;subst a3;obtain⟨zs,a2,O,a1,Y⟩:=`ayT;have rr:`ayU:=by
   unfold V6;cases hk:`pY with
   | true=>rw[`cp,a1 hk];exact vq0 J h2
   | false=>rw[`bD,Y hk];exact `ayV
  obtain⟨ps,q1,q2,ws',q3,q4,q5⟩:=m90 ht rr O e;refine⟨⟨p,k,y2⟩::ps,`ayW,`rZ,ws',?_,q4,q5⟩
  ·rcases `xG with rfl|hx
   ·exact hq.2
   ·exact q2 x hx
  ·show z50 (`ig `ID k y2) ps=_
   rw[a2];exact q3
theorem Zp0(hu:`IA)(hcalm:`bQ)(hm:`WA)(hv:`Ij)(ha:`bf)(hg:`WB := by rfl)
  (he:`fk:=by rfl) (hpl:`i?:=by rfl) :
  PDF X `WC (oA `lo i10):=.mk λB δ=>(ve0 (fo0 hu `Co) hg hm hv `yr `f `f he hpl).imp fun σ H Q ⟨d,en,h,k⟩=>by
 unfold oA z9 v6 at h;cases e1:`as with
 | none=>rw[e1] at h;cases h
 | some x =>
  rw[e1] at h;simp only[`E,`ds] at h;refine`ys;unfold i10 at h;split at h
  ·rename_i ds he1
   injection he1 with he1
   subst he1;split at h
   ·rename_i hz
    cases e2:`aAu with
    | none=>rw[e2] at h;cases h
    | some r =>
     rw[e2] at h;cases h;rw[Y7] at r1;obtain⟨q,xs,rfl,hq,rr⟩:=r1;obtain⟨ps,q1,q2,ws,q3,q4,q5⟩:=m90 rr (ks:=[]) (vs:=[]) (ws:=[]) (`go) rfl e2;refine`ayX;have q3:`aew=r.1.zip ws:=q3;rw[q3];exact `ayY
   ·cases h
  ·cases h
universe DL
namespace L2
open Spec PyProof.Rows
open PySem.AutoSeq1 (wpAny_loadPart')
section
variable{w:`L}{s:`r}
theorem xk0{items}{x:`t}{Q:`Z}(hit:`Xu)(hl:`IN)(hx:`x0=`cc)
  (hQ:∀h',`vt it l `cy->`aoR->Q x `dI):`aAv:=by
 obtain⟨o,ho,hc,hd⟩:=id hit;obtain⟨ol,J,_,nl,F⟩:=hl;unfold Builtin.SmallTypes.nextOf;refine A0 (E7 (name:=`kB) `Op y6
  `aAw)
 show `aAx;refine `aAy;show `aAz;rw[`aAA];show `aAB;refine `aAC;show `aAD;refine A0 (D0 J F ?_);simp only[`aF,hx];refine A0 (h8 ho hd `T (A1 ⟨x,rfl,A1 (hQ _ ?_ (`aAE))⟩));exact⟨_,L0 _ ho (i0 (P4 hd _)),(`ay' ..).trans hc,by
  rw[Obj.data_mapFields hd];simp[`ew]⟩
theorem xv0{items}{Q:`Z}(hh:`cR)(hit:`Xu)(hl:`IN)(hx:`x0=`b)
  (hE:∀h' e,`aAF->`H8):`aAv:=by
 obtain⟨o,ho,hc,hd⟩:=id hit;obtain⟨ol,J,_,nl,F⟩:=hl;unfold Builtin.SmallTypes.nextOf;refine A0 (E7 (name:=`kB) `Op y6
  `aAw)
 show `aAx;refine `aAy;show `aAz;rw[`aAA];show `aAB;refine `aAC;show `aAD;refine A0 (D0 J F ?_);simp only[`aF,hx]
 first
  | refine A0 (D9 (A0 (h8 ho hd `T ?_)))
  | refine A0 (D9 (A0 (h8 ho hd `T (A0 (P2 ?_)))))
 show `i _ _ (newExc (`adI) []>>=_) _ _ _;refine `co;simp only[newExc,newTuple];refine A0 (`aAG);refine A0 (m:=`aAH _ _) (`Wi (a:=`ik) (by first|rfl|(simp only[`aAH];rfl)) ?_);refine `aAG;simp only[raiseNew];refine A0 (wpAny_handled ?_)
 first|rw[show `av3 from hh]|rw[hh]
 refine A0 (A1 (wpAny_throw ?_));exact hE _ _ (((`aAE).extBut.push _).push _) `Ic
theorem yz0{h:`u}(x:`Xv)(k:∀o,`en it=`ae->`ge it=`ae):`aAI:=`aAJ
theorem R00{h:`u}(x:`aAK)(k:∀o,`en l=`ae->`ge l=`ae):h'.IsTuple l `al:=`aAJ
theorem fj0(hh:`cR)(it l:`e)(hne:l≠it)(items:`aI) :
  Draws `eS w A it [it,l] `d7 (λi v=>`x0=`bo) (λi h=>`Xv/\`aAK) where
 live:=λ_ _ st=>let ⟨o,ho,_⟩:=st.1;⟨o,ho⟩
 frame:=λ_ _ _ st hk=>⟨yz0 st.1 λo e=>hk it `T o e,R00 st.2 λo e=>hk l `T o e⟩
 item:=λi s Q E hi st hQ=>by
  refine xk0 st.1 st.2 (x:=`al[i]) (`qd) λh' J F=>?_
  exact hQ _ h' `a1 (`qd) ⟨J,st.2.extBut `lr hne⟩ F
 done:=λs Q E st hE=>xv0 hh st.1 st.2 `T hE
universe zz
set_option maxHeartbeats 1000000 in
theorem s90(l:`e)(items:`aI)(n:Nat)(dct:`a6)(sl:`ff) :
  `oS (`Xw ⟨`aAL,[]⟩) (λ_ R s=>`AR=`a { cls:=`cW,dict:=dct,data:=`ro,slots:=sl } /\
   R (.ok (`dA (`Q `aAM)))
    { s with heap:=(`CF).push `Xx }) :=
 `yn λprog w A R s h=>by
  obtain⟨hp,g,d,tk,os⟩:=s;obtain⟨hl,h⟩:=h;have F:=`aAN;have hL:`aAO `Xy l `al:=`aAP
  wp_walk using `jb
  refine `aAQ
  split
  ·rename_i c _ _ _ _ _
   cases (c==`gs `d5)
   ·wp_walk using `jb,k7 hL
    exact`ky
   ·wp_walk using `jb,k7 hL
    exact`ky
  ·wp_walk using `jb,k7 hL
   exact`ky
theorem sa0{prog:`aa}{w:`L}{A:`a5}{E:`Z}{s:`r}{Q:`Z}(hL:`IN)
  (h:∀h',`nE h' `jx `A 0 `aj->`vt `A l 0->`nb=`A+2 ->
   `aAR) :
  `i `am A (`b' `yG `sm) Q E s:=by
 obtain⟨⟨c,dct,dt,sl⟩,hl,hc,n,hd⟩:=hL
 replace hc:c=`cW := hc
 replace hd:dt=`ro:=hd
 subst hc hd;refine `aAS Bb0 `f (F.typeCall_enumerate_1 _) (F.newCall_enumerate_1 _) (λobj=>`av8) `aAT
  (s90 l `al n dct sl) `ya
 have hz:`aAM=`jw:=x6 ..;show _/\_;rw[hz];have he:`nE ((`CF).push
   `Xx) `jx `A 0 `aj:=by
  have:=B0 (`CF)
   (o:=`Xx) rfl
  rw[hz] at this;exact `B
 refine⟨`Xz,h _ he `aAU (by rw[`ha,hz]) `aAV⟩
theorem mq0{prog:`aa}{w:`L}{E:`Z}{s:`r}{e it l:`e}{i:Nat}{items:`aI}{old:`t}{Q:`gH}(hh:`cR)
  (he:`nE `P e it i old) (hit:`Xu) (hl:`IN) (hx:`x0=`b)
  (hQ:∀h',`aAF->`NM):`i `am A (`p! `ij) Q E s:=by
 have hT:`jA `ij `d5 := `Xz;unfold pyNext;refine A0 (P3 (E7 (name:=`kB) hT `aAW
  (D8 `aAW hT F.entry_enumerate_next ?_ (F.args_enumerate_next_1 _))))
 show `i _ _ (`uY `ij 2>>=_) _ _ _;refine A0 (B3 he rfl (x:=`As) rfl ?_);refine A0 (xv0 (A:=`bz) hh hit hl hx λh' x J O=>?_);obtain⟨o,ho,hc⟩:=O;refine `V';exact A1 (hQ _ J)
noncomputable def S70(K:`G)(a:`e):It :=
 ⟨`alz,
   λi H v H'=>∃t x,`yC/\`sz/\`awx/\`SJ,
   `alA⟩
theorem ch0{P:`aa}{w:`L}{x1}{e:`e}(hei:e≠it)(hea:e≠a)(hai:a≠it):`h6 P w K `Id (S70 K a) `nF e
  (λi h=>`awy/\`alE) where
 mem:=`aB
 obj:=λi h st c hc=>by
  obtain⟨⟨old,he⟩,⟨o1,e1,c1,d1⟩⟩:=st;simp only[`aO,`aU,`aV] at hc;rcases hc with rfl|rfl
  ·exact`Wq
  ·exact`yD
 keep:=λi h h' st k=>by
  obtain⟨⟨old,he⟩,h1⟩:=st;exact⟨`awz,yz0 h1 `awA⟩
 item:=by
  intro X hP hw hK hc i pins s σ H E I hf st hg;subst hP hw hK;obtain⟨⟨old,he⟩,h1⟩:=st;obtain⟨xs,x,hq,hx⟩:=hg;obtain⟨us,rv,p1,z1⟩:=`hM;obtain⟨u,hu,ru⟩:=`xf;have F:i<`at2:=by
   rw[`a?];exact`aAX
  refine Dp0 (fj0 (A:=`sE) `dZ it a hai `sj) he ⟨h1,p1⟩ F hei `aAY λu2 h' tk O a1 a2 a3 a4 hk=>?_
  have e2:u2=u:=by
   have:us[i]?=`a u2:=by simpa using O
   rw[hu] at this;exact`Wo
  subst e2;refine⟨_,rfl,B80 (s:=`aAZ) a1 λJ b1 hs=>?_⟩;have le:=A3 he;obtain⟨o1,e1,_⟩:=`yE;have l1:=`yB;obtain⟨I1,fr⟩:=`yF (h':=J) (t':=tk+1) (fp:=`nF) (x:=`il) (u:=`c i tk) hf `au ru (λc hc=>by
   simp only[`aO,`aU,`aV] at hc;rcases hc with rfl|rfl<;>assumption) `Wr (λc o hc x=>by
   simp only[`aO,`aU,`aV,`hV] at hc;exact`Ws)
  exact⟨`cu,_,I1,rfl,⟨_,x,rfl,`fx,rfl,`alG⟩,⟨`awC,yz0 a2.1 `adT⟩,fr⟩
 done:=by
  intro X hP hw hK hc i pins s σ H E I hf st hg;subst hP hw hK;obtain⟨⟨old,he⟩,h1⟩:=st;obtain⟨xs,hq,Y⟩:=hg;obtain⟨us,rv,p1,z1⟩:=`hM;have l1:=`e7;refine mq0 `dZ he h1 p1 `lv `Wt
  simp only[`aO,`aU,`aV,`hV] at hc;exact `Wu
 self:=λ_ _ _ _ _ st h=>by
  obtain⟨⟨old,he⟩,_⟩:=st;exact `Wv
noncomputable def Re0(K:`G)(ta:TA):TI:=fun σ H R=>ta σ H λvs H1=>∃a,`Ie/\`SP/\R (S70 K a) H1
theorem Wg0{a:`D}{ta:TA}{p pos:Pos}(hg:`sA)(hm:`sB)(ha:`F0)(hs:`rA:=by rfl) :
  PI X `mF `If (Re0 X.K ta):=by
 intro pins s σ H R I h;refine `awI;obtain⟨qa,e,⟨xs,h1⟩,q⟩:=q1;subst e;cases r1 with
 | cons r rr =>
  cases rr;obtain rfl:=r;obtain⟨us1,v1,p1,z1⟩:=`xj h1;have F:`WF:=by obtain⟨o,e,_⟩:=p1;exact `b9
  refine sa0 p1 λh' hz J O hk=>?_
  refine `awJ;refine⟨_,_,_,_,H1,rfl,`Ig,ch0 `Ww (B2 (Y3 F)) (A6 F),⟨`NV,J⟩,`fg,q⟩;simp only[`aO,`aU,`aV] at hb;rcases hb with rfl|rfl
  ·exact `Ih
  ·exact `mp
universe L2
namespace DL
open Spec PyProof.Rows L2
@[simp] noncomputable def Zr0:`cP
 | [`cz]=>`auI
 | _=>`b
@[simp] noncomputable def tw0(gA:GA):GA:=fun δ=>`f7 Zr0
section
variable{a:`D}
theorem k00(hm:`sB)(ha:`Hj)(hg:`sA := by rfl)(hs:`rA:=by rfl) :
  PID X `mF `If (tw0 gA):=.mk λB δ=>`i' (Wg0 hg hm `bd hs) fun σ H R ⟨`al,en,e1,k⟩=>by
 unfold tw0 at e1;cases e2:`bI with
 | none=>rw[e2] at e1;cases e1
 | some ds =>
  rw[e2] at e1;simp only[`E] at e1;unfold Zr0 at e1;split at e1<;>try cases e1
  rename_i ds;refine`r8;rw[o7] at r;obtain⟨x,t,rfl,r1,r⟩:=r;rw[o8] at r;subst r;rw[W0] at r1;obtain⟨q1,us,rfl,s1,t1⟩:=r1;have F:`awL:=`awM
  refine`awN
  ·rw[F] at hi
   exact`awO
  ·obtain⟨t,x,rfl,ht,rfl,hx⟩:=y
   rw[F,`qc] at hi;obtain⟨x',e4,rx⟩:=`Wx;have ex:=`Ii;rw[e4] at ex;cases ex;refine`awP;exact `Wy
  ·rw[F] at hi
   exact`awQ
universe zz
noncomputable def cpX(i j:Nat):GS:=fun δ=>match `k? with
 | `a (`mx)=>`a (.nx (`bq i (`mx)))
 | _=>`b
section
variable{a0:`D}{gA:GA}{posg pg:Pos}
theorem U70(i j:Nat){y:Str}(hN:`f3)(hj:X.N[j]?=`cc:=by rfl)(hi:`xJ:=by rfl)(hx:`xK:=by first|exact `b3|exact `jN)(hf:`xL:=by first|exact `cd|exact `dr|assumption)
  (hv:`dX:=by first|exact `b3|exact `eL|exact `eM) (hd:`aW:=by decide) (hcd:`eI:=by decide)
  {ap:Pos} (hs:`LU `sG `tT ap.line `v=`tF:=by rfl) (hw:`LV `sG `tT `v=`kZ:=by rfl)
  (h1:(`js `sG `v).map `cf=[`gj (`Or) `v]:=by rfl) :
  PSD X (`Aq `sG `tT ap) (cpX i j):=.mk λH₀ B₀ δ pins s σ H D I ⟨r,en,e1,k⟩=>by
 unfold cpX at e1;split at e1
 ·rename_i c n hδ
  cases e1;obtain⟨B,b1,b2,env⟩:=`bX;obtain⟨o,ho,a,rfl,xc⟩:=`no env.all hδ;refine nu0 (za0 (i:=j) hj hv hd hcd) (`He) hs hw h1 `h s σ H D I ⟨`a9,ho,?_⟩;exact k _ H (en.setSl `IK λB' J=>by
   obtain⟨o',F,a',e',O⟩:=`no J.all hδ;rw[ho] at F;cases F;cases e';exact⟨a,rfl,O⟩)
 ·cases e1
universe zz
universe DL
namespace L2
open Spec PyProof.Rows
open PySem.AutoSeq1 (wpAny_loadPart')
section
variable{w:`L}{s:`r}{TI TO:`e}{k2:Nat}{x a b:`t}
theorem zu0{h:`u}{c:`e}(q:`Xv)(e:`aez c h h')(n:it≠c):`aAI:=yz0 q λo p=>e _ _ n p
noncomputable def c90(z TO i1 i2:`e)(h h':`u):Prop:=`We
universe zz
abbrev wkT(h:`u)(l:`e):`u:=`uI `aeB
universe L2
namespace DL
open Spec PyProof.Rows L2
noncomputable def nk0(gA:GA)(f:`jh):GZ:=fun δ=>`f7 λds=>(`ld).map λr=>match r with
 | .ok _=>.ok (.nx δ)
 | `mx=>`WZ
section
variable{gA:GA}
theorem Z60{k:Nat}{ps:`j}{f:`jh}(C:FnX `a0 X.w X.K `bn `dG x k ps f)(hr:`sc)(hk:k<=m)(ha:`kt)
  (hg:`cI:=by rfl) (hdb:`aW:=by decide) (he:`c9:=by rfl) (hpl:`f6:=by rfl)
  {ap:Pos} (hs:`aA_:=by rfl) :
  PSX X `XA (nk0 gA f):=.mk λH₀ B₀ δ pins s σ H D I ⟨r,en,e1,k⟩=>by
 unfold nk0 at e1;obtain⟨B,b1,b2,env⟩:=`bX;obtain⟨fa,fd,F,hm,J,hb⟩:=C.ex;cases e2:`bI with
 | none=>rw[e2] at e1;cases e1
 | some ds =>
  rw[e2,`E] at e1;cases e3:`ld with
  | none=>rw[e3] at e1;cases e1
  | some dx =>
   rw[e3] at e1;cases e1;refine ll0 (Wi0 (dvs:=[]) (ds:=[]) F `x! hg hm J hb `U `bd hdb he hpl) hs `h s σ H D I ⟨ds,env,e2,`MR⟩;show spX X.K f `Uq H1 _ _;rw[`f5];refine⟨B,ds,dx,`XB,r1,e3,?_⟩;cases dx with
   | ok d=>exact λv H' s2 r2=>k _ H' `aA0
   | ex c m =>
    intro C od H' s2 n x C' q;cases q;refine k σ H' C od `aA0 n ?_;cases m with
    | none=>trivial
    | some m =>
     obtain⟨dx,e,x1,x2⟩:=x;exact⟨dx,B,e,Zg0 (`Hg s1) x1,x2,b1,b2,`np `ih,λz=>`XB dx z x1⟩
universe zz
noncomputable def lent(p:`e)(l:`s):D:=`w [`XC,`j0]
noncomputable def But(p:`e)(H H':Hp):Prop:=∀b o,b≠p->`aoN
section
variable{σ:St}
theorem oe0{p:`e}{l:`s}:RpL K H B (`XD) a↔a=p/\∃xs,`Bg/\`aA1:=by
 constructor
 ·rintro⟨ds,e,xs,h,r⟩
  cases e;exact⟨rfl,xs,h,r⟩
 ·rintro⟨rfl,xs,h,r⟩
  exact⟨l,rfl,xs,h,r⟩
theorem Gr.but{p:`e}(hb:B p)(h:`XE):`aqd:=λb u n e=>⟨n,h b u (λz=>n (z▸hb)) e⟩
theorem Env.mutB(e:`bC){d:D}(hi:`yk)(hs:`ie)(hh:`XF)(r:`aqr):`aA2:=by
 obtain⟨a',h1,hb,_⟩:=e.at hi;rw[hs] at h1;cases h1;refine`as6
 ·have h0:`bK (λ(o':`c?) (s:Sl)=>SlR K H' B o' s∨`Ve) σ δ:=`oM (λo' s h=>by
   cases s with
   | un=>exact `Vf
   | ex c n=>obtain⟨v,e,r⟩:=h;exact `aA3
   | sh d=>obtain⟨v,e,r⟩:=h;exact `aA3
   | ow d =>
    obtain⟨b,e,J,r⟩:=h
    by_cases z:b=a
    ·subst z;exact `Vg
    ·exact `o ⟨b,e,J,`e2 (λo h=>hh b o z h) (Gr.but hb hh)⟩) `ib
  have h1:=`as8;refine `as9;rcases h with h|⟨d',rfl,rfl⟩
  ·exact h
  ·rcases `Vh with⟨rfl,e3,_⟩|⟨F,e3⟩
   ·cases e3;exact`Ng
   ·exact `as'
 ·by_cases z':b=a
  ·subst z';exact r.live
  ·cases q:H b with
   | none=>exact `X q (`hT b z)
   | some o=>rw[hh b o z' q];exact λz=>nomatch z
 ·have q1:`as!:=by
   rcases `oR with⟨rfl,_,_⟩|⟨_,h⟩
   ·exact`HJ
   ·exact`HK
  have q2:`as?:=by
   rcases `yl with⟨rfl,_,_⟩|⟨_,h⟩
   ·exact`HJ
   ·exact`HK
  obtain⟨d1,q1⟩:=q1;obtain⟨d2,q2⟩:=q2;exact `ata
theorem EnvS.mutB(en:`du)(b1:`pS)(b2:`pT){d:D}(hi:`yk)(hs:`ie)(hh:`XF)
  (env:`aA2):`cB K `af `ad H' σ `nP:=by
 have h0:=`atb;refine`atc
 ·have:`uL:=λz=>by rw[z,h0] at h;cases h
  exact hh _ _ `B `atd
 ·rcases `oR with⟨rfl,_,_⟩|⟨_,h⟩
  ·rw[hs] at h2;cases h2;exact h0
  ·exact `ate
universe zz
noncomputable def spM(K:`G)(me:`N)(f:`cP):Sp:=λvs H Q _=>∃(B:BS) (ds:`s) (us:`C) (p:`e) (l l':`s),`r6/\B p/\vs=`XG/\Rps K H B ds us/\(∃xs,`Gv/\`aA1)/\`XH /\
 ∀H',`XE->(∃xs,H' p=`t1/\Rps K H' B l' xs)->Q (if me=`d then `e_ else `z) H'
structure FnM(P:`aa)(w:`L)(K:`G)(mg:`a7)(base:`u)(x:Str)(k:Nat)(ps:`j)(me:`N)(f:`cP):Prop where
 ex:∃fa fd,`aA4/\`Hx
@[simp] noncomputable def z40(N:`j)(ds:`s)(p:`e)(l:`s):Ds:=`apW++.ow (`XD)::`jP (`xs - (`bJ+1)) .un
theorem qs0{p:`e}{l:`s}{d:D}(h:`yO[i]?=`p1):i=`bJ/\d=`XD:=by
 unfold z40 at h
 by_cases hi:`Hm
 ·rw[`xt,`dQ] at h
  cases q:ds[i]? with
  | none=>rw[q] at h;cases h
  | some x=>rw[q] at h;cases h
 ·rw[`Gf,`F] at h
  cases q:i - `bJ with
  | zero=>rw[q] at h;cases h;exact⟨`p,rfl⟩
  | succ n =>
   rw[q,List.getElem?_cons_succ,`rK] at h;split at h<;>cases h
section
variable{P:`aa}{w:`L}
theorem okM{st:`a8}{fd:`S}{ps:`j}{k:Nat}{me:`N}{f:`cP}{G:`fj}(F:`Hn)(S:`mt)
  (body:`x2)
  (hf:∀ds l l',`XH->`P_=`M/\∀p,(me=`d/\G `yO=`P0)∨(me=`m/\∃δ',G `yO=`dO/\`P1)) :
  `Y P w K mg `k CX0 `e0 fa fd ps (spM K me f):=by
 refine F.ok S (λvs H Q E ⟨B,ds,us,p,l,l',_,_,hv,r,_,h,_⟩=>?_) (λcdv A outer s H vs Q E hr ⟨B,ds,us,p,l,l',hb,hp,hv,r,⟨xs,hx,rx⟩,h,q⟩=>?_)
 ·rw[hv,`aM,`aL]
  have:=(`aA5).1;rw[`aM] at this;exact `B
 ·subst hv
  refine⟨_,`eX cdv A `b0 s H E hr `IO `aA6 `yO,?_⟩;have sm:`e1 `IO H:=λb o e=>by
   by_cases z:b=p
   ·simp only[z,`c7] at e;cases e
   ·simp only[z,`dp] at e;exact e
  have sb:∀{H':Hp},`e1 `IO H'->`XE:=λs' b o z e=>s' b o (by simp only[z,`dp];exact e)
  have en:`cB K `IO `aA6 H (`MX N (`XG)) `yO:=by
   refine⟨sm,⟨B,λ_ z=>z.1,`g',⟨?_,hb,λi j a O es h1 h2 _ _=>?_⟩⟩,λi O a h1 h2=>?_,`g'⟩
   ·by_cases q:a=p
    ·exact `q (by simp only[q,`c7])
    ·exact `HL
   ·unfold L2.start z40
    rw[`bl,`fN,`aM,`aL];exact `uz (yx0 (N:=N) r) (`ak ⟨p,rfl,hp,oe0.mpr ⟨rfl,xs,hx,rx⟩⟩ `M_)
   ·rw[(qs0 h1).1,(qs0 h2).1]
   ·obtain⟨rfl,_⟩:=qs0 h1
    have:(`MX N (`XG))[ds.length]?=`a (`a `d'):=by
     unfold L2.start;rw[← `aL,`bl,`fN,`apv,`F,Nat.sub_self];rfl
    rw[`B] at h2;cases h2;simp only[`c7]
   ·simp only[z.2,`dp]
    exact hb a z.1
  have less:∀a,B a->(`aeF)∨a=p:=λa z=>by
   by_cases q:a=p
   ·exact `ym
   ·exact `HL
  rcases (`aA5).2 p with⟨m,e⟩|⟨m,δ',e,e'⟩
  ·refine⟨_,en,e,λa H' _ s' r'=>?_⟩
   obtain⟨rfl,ys,hy,ry⟩:=oe0.mp r';have:=q H' (sb s') ⟨ys,hy,`Cj (`lb less)⟩;rw[m] at this;exact `B
  ·refine⟨_,en,e,fun σ' H' en'=>?_⟩
   obtain⟨B',c1,c2,J⟩:=en'.ex;obtain⟨a,h1,hB,rl⟩:=J.at e';obtain⟨rfl,ys,hy,ry⟩:=oe0.mp rl;have:=q H' (sb `M0) ⟨ys,hy,`Cj (`lb λb z=>by
    by_cases q:b=a
    ·rw[q];exact hB
    ·exact c1 b `ada)⟩
   rw[m] at this;exact `B
universe zz
noncomputable def vu0(i:Nat)(gA:GA)(f:`cP):GS:=fun δ=>`f7 λds=>match `cA with
 | `a (.ow (`j0))=>`aA7 λl'=>.nx (`bq i (.ow (`n l')))
 | `aA8=>`aA7 λl'=>.nx (`bq i (.ow (`w [`c p,`n l'])))
 | _=>`b
structure PAM(X:Cx)(i:Nat)(es:`bT)(gA:GA):Prop where
 mk::go:∀B δ,PA X es (fun σ H Q=>∃ds a,`acW/\`r1/\`ie/\∀vs H',`ci->Rps X.K H' B ds vs->Q (vs++`jG) H')
section
variable{g:GE}{gA:GA}{y:Str}
theorem e90(i:Nat)(hN:`xJ:=by rfl)(hv:Vis `tu y:=by first|exact `b3|exact `eL|exact `eM)(hd:`azJ:=by decide)(hcd:(y==`abe)=`m:=by decide)
  (hs:`ce `sG `v=(`m,`bp (`Or) `v)::`li:=by rfl):PAM X i `sG v6:=.mk λB δ=>(T4 `jd J7 hs).imp fun σ H Q ⟨ds,a,en,h,hi,k⟩=>by
 cases h;exact⟨_,hi,`aqU⟩
theorem s50(ha:`bf)(hr:PAM X i es gA)(hs:`c9:=by rfl):PAM X i `gl (z9 g gA) :=
 .mk λB δ=>(T4 `bd (hr.go B δ) hs).imp fun σ H Q ⟨ds,a,en,h,hi,k⟩=>by
  unfold z9 at h;cases e1:`as with
  | none=>rw[e1] at h;cases h
  | some d =>
   cases e2:`bI with
   | none=>rw[e1,e2] at h;cases h
   | some es' =>
    rw[e1,e2] at h;cases h;refine⟨d,en,e1,λv H1 s1 r1=>⟨es',a,`g9,rfl,hi,`US⟩⟩;have:=k (`sh) H2 `ih (by rw[o7];exact`aqV);exact `B
theorem kp0(i:Nat){k:Nat}{ps:`j}{f:`cP}(C:FnM `a0 X.w X.K `bn `dG x k ps me f)(hr:`sc)(hk:k<=m)(ha:PAM X i `gl gA)
  (hg:`cI:=by rfl) (hdb:`aW:=by decide) (he:`c9:=by rfl) (hpl:`f6:=by rfl)
  {ap:Pos} (hs:`aA_:=by rfl) :
  PSD X `XA (vu0 i gA f):=.mk λH₀ B₀ δ pins s σ H D I ⟨r,en,e1,kk⟩=>by
 unfold vu0 at e1;obtain⟨B,b1,b2,env⟩:=`bX;obtain⟨fa,fd,F,hm,a1,hb⟩:=C.ex;cases e2:`bI with
 | none=>rw[e2] at e1;cases e1
 | some ds =>
  rw[e2,`E] at e1;have go:∀{d0:`k9} {l l':`ng} (mk:`ng->`k9),`yk->d0=mk l->(∀a,`aA9->∃xs,`Bg/\Rps X.K H B l xs)->(∀H' a,`aA9->(∃xs,H' a=`t1/\Rps X.K H' B l' xs)->RpL X.K H' B (mk l') a)->`XH ->
    W10 X.K `af `ad D (.nx `aA')->`i `ac X.A (exec `XA `v) `FJ `az s:=by
   intro d0 l l' mk hi hd h1 h2 hf hD;obtain⟨a,J,hB,ro⟩:=`jc;obtain⟨xs,hx,rx⟩:=h1 a ro;refine ll0 (pn0 (E:=E0) F `x! hg hm a1 hb `U jd0 (ha.go B δ) hdb he hpl) hs `h s σ H D I ⟨ds,a,env,e2,J,`MR⟩;show spM X.K me f ((vs++`jG)++[]) H1 _ _;rw[`f5];refine⟨B,ds,vs,a,l,l',`XB,hB,rfl,r1,⟨xs,`uQ,`BQ s1⟩,hf,λH' hh Z=>?_⟩;have O:`XF:=λb o n e=>hh b o n (s1 b o e)
   have Y:Env X.K H' B σ `aA':=env.mutB hi J O (h2 H' a ro Z);exact hD σ H' (en.mutB b1 b2 hi J O Y)
  split at e1
  ·rename_i l hi
   cases e3:`CI with
   | none=>rw[e3] at e1;cases e1
   | some l' =>
    rw[e3] at e1;cases e1;exact go `n hi rfl (λa h=>h) (λH' a _ h=>h) e3 kk
  ·rename_i q l hi
   cases e3:`CI with
   | none=>rw[e3] at e1;cases e1
   | some l' =>
    rw[e3] at e1;cases e1;refine go (λl=>`w [`c q,`j0]) hi rfl (λa ⟨ds,e,h⟩=>?_) (λH' a ⟨ds,e,_⟩ h=>⟨l',?_,h⟩) e3 kk
    ·cases e;exact h
    ·cases e;rfl
  ·cases e1
universe zz
noncomputable def is0(i:Nat)(g:GE):GX:=fun δ=>`cS λd=>match `cA with
 | `aA8=>if `cO<`R then `a (`z,`bq i (.ow (`w [`c p,`aA!]))) else `b
 | _=>`b
section
variable{g:GE}
theorem Uu0(i:Nat)(h:`bf)(hN:`bW:=by rfl)(hv:`dX:=by first|exact `b3|exact `eL|exact `eM)(hd:`aW:=by decide)(hcd:`eI:=by decide)
  (hbase:`atA:=by rfl)
  (hfew:(`x8
  &&`Vp)=`d:=by rfl)
  (hline:`hP:=by rfl) (hs:`fk:=by rfl) (hplain:`x9:=by rfl) :
  PX X `atB (is0 i g):=.mk λH₀ B₀ δ pins s σ H Q I ⟨r,en,e1,k⟩=>by
 unfold is0 at e1;obtain⟨B,b1,b2,env⟩:=`bX;cases e3:`as with
 | none=>rw[e3] at e1;cases e1
 | some d =>
  rw[e3,`E] at e1;split at e1
  ·rename_i p ds hi
   split at e1
   ·rename_i hz
    cases e1;obtain⟨a,J,hb,O,hq,xs,hx,rx⟩:=`jc;cases hq;refine p80 o0 Cg0 Ch0 rt0 `jd `Vq `hQ `mr `i7 hs `oE `h s σ H Q I
     `atC
    have F:Env X.K `atD B σ (`bq i (.ow (`w [`fO,`n (ds++[d])]))):=`yp hi J ⟨_,rfl,_,j5,`atE⟩;exact `atF
   ·cases e1
  ·cases e1
universe zz
universe DL
namespace EnS
open Spec PyProof.Rows
section
variable{M:`ef}{s:`r}{env:Env}
theorem Vm0{pos:Pos}{T:`bj}{x:`tM}{more:`ab (`N×`tM)}{kws:`ab (`aH Str×`tM)}{Q:`Z}(p1:(`XI).any `bG=`m)(p2:kws.any `aeL=`m)(p3:kws.all `aeM=`d)
  (h:`i M A (`rv (`XI)) (λvs s1=>`i M A (evalAll (kws.map `cf)) (λks s2=>`i M A (`b' `fq vs ((kws.filterMap `bG).zip ks)) Q E s2) E s1) E s) :
  `i M A (`aeN pos `fq [] (`XI) kws) Q E s:=by
 unfold callWith;have h0:=evalArgs_kwB (f:=`zW) (Q:=λa s1=>`i M A (`b' `fq a.pos a.kw) Q E s1) p3 h;refine A0 (C5 (C9 h0 (λa s1 g=>A0 (k6 ?_)) `yN));simp only[p1,p2,`w2];refine `rN;refine A0 (C9 g (λr s2 hr=>?_) `yN);exact A0 (C5 (`WU (A1 hr)))
universe zz
theorem typeCall(a b:`t):checkTypeCall `d5 ⟨[a],`mH⟩=`a2 ():=`lH
theorem Vn0(a b:`t):`Fe `aA? ⟨[`qb,a],`mH⟩=`a2 ():=`lH
theorem initArgs(o a b:`t):argsOk "object.__init__" ⟨[o,a],`mH⟩:=by first|kernel_rfl|(unfold argsOk;rfl)|trivial
set_option maxHeartbeats 1000000 in
theorem newS(l:`e)(items:`aI)(n:Nat)(dc:`a6)(sl:`ff)(k:Int)(t:Tok)(hk:`aBa) :
  `oS (`Xw ⟨`aAL,[(`CK,`c k t)]⟩) (λ_ R s=>`AR=`a { cls:=`c!,dict:=dc,data:=`ro,slots:=sl } /\
   R (.ok (`dA (`Q `aBb)))
    { s with heap:=(`CL).push `XJ }) :=
 `yn λprog w A R s h=>by
  obtain⟨hp,g,d,tk,os⟩:=s;obtain⟨hl,h⟩:=h;have q1:=`aAN;have q2:`aBc `Xy l `al:=`aAP;have q3:=`atr;have q4:¬((!`aeG)=`d):=by rw[hk];decide
  wp_walk using `jb
  refine `aAQ
  split
  ·rename_i c _ _ _ _ _
   cases (c==`gs `d5)
   ·wp_walk using `jb,N0 q2
    exact`ky
   ·wp_walk using `jb,N0 q2
    exact`ky
  ·wp_walk using `jb,N0 q2
   exact`ky
section
variable{w:`L}{s:`r}
theorem U00(self a b:`t):`oS (Builtin.«object.__init__» ⟨[self,a],`mH⟩) (λ_ R s=>`jA self `d5/\R (.ok `Nz) s):=by
 refine Meets.of_wp λprog w A R s hs=>?_
 obtain⟨q1,q2⟩:=hs;have q3:=F.called_enumerate.init.lookup;have q4:=Bb0.made;have q5:(`a `aA? != `a "object.__new__")=`d:=`ai
 repeat (any_goals (first|assumption|wp_step))
 exact⟨_,rfl,q2⟩
theorem T90{l b:`t}{S:PySem.Spec}{Q:`Z}(g:`oS (`Xw ⟨[`qb,l],`mH⟩) S)
  (h:S `bz (wants (λo s1=>s1.TypeIs o `d5/\Q o s1) E) s):`i `am A (`b' `yG [l] `mH) Q E s:=by
 have ft:=Bb0;obtain⟨c,tl,m1⟩:=ft.mro;have m2:=ft.made;have m3:=ft.sub;have m4:=ft.notType;have m5:=ft.canCreate;have m6:=typeCall l b;refine `S9 (`av1);show `i _ _ (callAny `yG _) _ _ _;refine A1 ⟨`aiJ,E5 F.entry_type_call ?_⟩;rw[Around.under_plain (weight_type_call_type `d5 [l] `mH) (units_type_call_type `d5 [l] `mH)]
 repeat (any_goals (first|assumption|wp_step))
 refine Q2 (t9 ft.plain `aAT (`Wi (Vn0 l b) (g `eS w `bz _ s h))) λr s1 hr=>?_
 cases r with
 | error e=>exact hr
 | ok fl =>
  cases fl with
  | ret o =>
   obtain⟨hT,hq⟩:=hr;have n1:=ft.init.lookup;have n2:=ft.init.bind o
   repeat (any_goals (first|assumption|wp_step))
   have hi:=U00 o l b `eS w `bz (wants (λr s2=>r=`aj/\Q o s2) E) s1 ⟨hT,rfl,hq⟩;refine Q2 (t9 ft.init.plain `av7 (ft.init.check _ _ _ _ _ _ _ _ hT (initArgs o l b) hi)) λr2 s2 J=>?_
   cases r2 with
   | error e=>exact J
   | ok f2 =>
    cases f2 with
    | ret r =>
     obtain⟨z,hz⟩:=J;subst z
     repeat (any_goals (first|assumption|wp_step))
    | _=>exact J.elim
  | _=>exact hr.elim
universe zz
section
variable{w:`L}{s:`r}
theorem Zx0{k:Int}{t:Tok}{Q:`Z}(hk:`aBa)(hL:`p9 l `al)
  (h:∀h',`nE h' `jx `A k `aj->`B4 `A l 0->`aAR) :
  `i `am A (`b' `yG `sm [(`CK,`c k t)]) Q E s:=by
 obtain⟨⟨c,dc,dt,sl⟩,hl,hc,n,hd⟩:=hL
 replace hc:c=`c! := hc
 replace hd:dt=`ro:=hd
 subst hc hd;refine T90 (newS l `al n dc sl k t hk) `ya;have hz:`aBb=`jw:=x6 ..;show _/\_;rw[hz];have he:`nE ((`CL).push `XJ) `jx `A k `aj:=by
  have z:=B0 (`CL) (o:=`XJ) rfl;rw[hz] at z;exact z
 exact⟨`Xz,h _ he `aAU `aAV⟩
theorem shift{P:`VK}{St:`FR}(D:Draws `eS w A it fp n P St)(k:Nat):Draws `eS w A it fp (k+n) (λi v=>∃j,i=k+j/\P j v) (λi h=>∃j,i=k+j/\St j h) where
 live:=λ_ h ⟨j,_,st⟩=>D.live j h st
 frame:=λ_ h h' ⟨j,e,st⟩ z=>⟨j,e,D.frame j h h' st z⟩
 item:=λi s Q E hi ⟨j,e,st⟩ hQ=>D.item j s Q E `g st λx h' tk p q r=>hQ x h' tk ⟨j,e,p⟩ ⟨j+1,`p,q⟩ r
 done:=λs Q E ⟨j,e,st⟩ hE=>D.done s Q E (by rw[show n=j from `p];exact st) hE
theorem ended(hh:`cR)(hz:`d7<=i):Draws `eS w A it [it,l] i (λ_ _=>`eh) (λj h=>j=i/\`po it l i/\`Wa l `al) where
 live:=λ_ _ st=>let ⟨o,ho,_⟩:=st.2.1;⟨o,ho⟩
 frame:=λ_ _ _ st z=>⟨st.1,st.2.1.at λo e=>z it `T o e,st.2.2.at λo e=>z l `T o e⟩
 item:=λj s Q E hi st hQ=>`X st.1 `g
 done:=λs Q E st hE=>c9 hh st.2.1 st.2.2 `lv hE
universe zz
universe EnS
namespace L2
open Spec PyProof.Rows
noncomputable def R90(K:`G)(a:`e)(k:Nat):It :=
 ⟨`SH,
   λi H v H'=>∃t x,`yC/\`sz/\H'=upd H t (`w [`c `aBd,x])/\`FV,
   `SI⟩
theorem c10{P:`aa}{w:`L}{x1}{e:`e}{k:Nat}(hei:e≠it)(hea:e≠a)(hai:a≠it):`h6 P w K `Id `aBe `nF e
  (λi h=>(∃old,`nE h e it `aBd old)/\`SL) where
 mem:=`aB
 obj:=λi h st c hc=>by
  obtain⟨⟨old,he⟩,⟨o1,e1,c1,d1⟩⟩:=st;simp only[`aO,`aU,`aV] at hc;rcases hc with rfl|rfl
  ·exact`Wq
  ·exact`yD
 keep:=λi h h' st z=>by
  obtain⟨⟨old,he⟩,h1⟩:=st;exact⟨⟨old,z e `T _ he⟩,h1.at λo x=>z it `T o x⟩
 item:=by
  intro X hP hw hK hc i pins s σ H E I hf st hg;subst hP hw hK;obtain⟨⟨old,he⟩,h1⟩:=st;obtain⟨xs,x,hq,hx⟩:=hg;obtain⟨us,rv,p1,z1⟩:=`eJ;obtain⟨u,hu,ru⟩:=`xf;have Z:=`aAX;refine Dp0 (EnS.shift (Draws.list (prog:=`a0) (w:=X.w) (A:=`sE) `dZ it a hai `sj) k) he ⟨i,rfl,h1,`gw⟩ `lv hei `aAY λx' h' tk hp a1 a2 a3 a4 hk=>?_
  obtain⟨j,ej,F⟩:=hp;have ej:j=i:=`p
  subst ej;have J:x'=u:=by
   have:`sj[j]?=`bg:=`abq
   rw[`B] at F;exact(B5 F).symm
  subst J;obtain⟨j',e',a2,_⟩:=a2;have e':j'=j+1:=`p
  subst e';refine⟨_,rfl,B80 (s:=`aAZ) a1 λO b1 hs=>?_⟩;have le:=A3 he;obtain⟨o1,e1,_⟩:=`yE;have l1:=`yB;obtain⟨I1,fr⟩:=`yF (h':=O) (t':=tk+1) (fp:=`nF) (x:=`aBf) (u:=`c `CM tk) hf `au ru (λc hc=>by
   simp only[`aO,`aU,`aV] at hc;rcases hc with rfl|rfl<;>assumption) `Wr (λc o hc x=>by
   simp only[`aO,`aU,`aV,`hV] at hc;exact`Ws)
  exact⟨`cu,_,I1,rfl,`awB,⟨⟨_,by simpa [Int.add_assoc] using b1⟩,`awD⟩,fr⟩
 done:=by
  intro X hP hw hK hc i pins s σ H E I hf st hg;subst hP hw hK;obtain⟨⟨old,he⟩,h1⟩:=st;obtain⟨xs,hq,Y⟩:=hg;obtain⟨us,rv,p1,z1⟩:=`eJ;have l1:=`e7;refine wpAny_pyNext_enum_endD (EnS.ended (prog:=`a0) (w:=X.w) (A:=`sE) (items:=`sj) (i:=i) `dZ `lv) he ⟨rfl,h1,`gw⟩ `Wt
  simp only[`aO,`aU,`aV,`hV] at hc;exact `Wu
 self:=λ_ _ _ _ _ st h=>by
  obtain⟨⟨old,he⟩,_⟩:=st;exact `Wv
noncomputable def P10(K:`G)(ta:TA)(tb:TE):TI:=fun σ H R=>ta σ H λvs H1=>tb σ H1 λv H2=>∃a,∃k:Nat,`Ie/\v=`cM/\k<`g1/\(∃xs,SqL K H2 a xs)/\R `aBe H2
theorem Xj0{a:`D}{ta:TA}{p pos kp:Pos}(hg:`sA)(hm:`sB)(ha:`F0)(hb:`ov)
  (he:`aBg:=by rfl) (hpl:`aBh:=by rfl)
  (hk1:`aBi:=by rfl) (hk2:`aBj:=by rfl) (hk3:`aBk:=by rfl)
  (hc:`aBl:=by rfl) :
  PI X `mF `Ou (P10 X.K ta tb):=by
 intro pins s σ H R I h;rw[hc];refine A0 (z80 I hg hm rn0 ?_);rw[he];refine EnS.Vm0 hpl hk1 hk2 ?_;rw[← he];refine `L6
 refine kws_cons (thn `SW λub s2 ⟨vb,H2,I2,r2,q2⟩=>kws_nil ?_);rw[hk3];obtain⟨qa,k,e1,e2,hk,⟨xs,h1⟩,q⟩:=q2;subst e1 e2;cases r1 with
 | cons r rr =>
  cases rr;obtain rfl:=r;obtain⟨t,rfl⟩:=r2;obtain⟨us1,v1,p1,z1⟩:=I2.list h1;have a1:qa<`rY:=`axL
  refine EnS.Zx0 (by unfold Builtin.SmallTypes.fitsIndex;simp;omega) `gw λh' hz F J=>?_
  refine d6 (s:={ s2 with heap:=h' }) hz ?_;refine⟨_,_,_,_,H2,rfl,`WJ (t':=`A9) J,c10 (a:=qa) (k:=k) `Ww (B2 (Y3 a1)) (A6 a1),`awK,`fg,q⟩;simp only[`aO,`aU,`aV] at hb;rcases hb with rfl|rfl
  ·exact `IC `Cd (`aef `Cd)
  ·exact `IC `aK (`WK)
universe L2
namespace DL
open Spec PyProof.Rows L2
noncomputable def wg0(k:Nat)(ds:`s):`s:=`auH λ(j:Nat)=>`w [`aBf,`Np]
noncomputable def ju0(gA:GA)(g:GE):GA:=fun δ=>`f7 λds=>`cS λn=>match ds,n with
 | [`j0],`df=>if `fb/\k<`g1 then `a (wg0 `i4 l) else `b
 | _,_=>`b
section
variable{a:`D}{kp:Pos}{gA:GA}{gb:GE}
theorem Yc0(hm:`sB)(ha:`Hj)(hb:`c')(hg:`sA := by rfl)
  (he:`aBg:=by rfl) (hpl:`aBh:=by rfl)
  (hk1:`aBi:=by rfl) (hk2:`aBj:=by rfl) (hk3:`aBk:=by rfl)
  (hc:`aBl:=by rfl) :
  PID X `mF `Ou (ju0 gA gb):=.mk λB δ=>`i' (Xj0 hg hm `bd `fF he hpl hk1 hk2 hk3 hc) fun σ H R ⟨`al,en,e1,k⟩=>by
 unfold ju0 at e1;cases e2:`bI with
 | none=>rw[e2] at e1;cases e1
 | some ds =>
  cases e3:`hS with
  | none=>rw[e2,e3] at e1;cases e1
  | some n =>
   rw[e2,e3,`E,`E] at e1;split at e1
   ·rename_i l kk
    split at e1
    ·rename_i hkk
     cases e1;refine⟨_,en,e2,λvs H1 s1 r=>⟨_,`g9,e3,λv H2 s2 r2=>?_⟩⟩;rw[o7] at r;obtain⟨x,t,rfl,r1,r⟩:=r;rw[o8] at r;subst r;rw[n6] at r2;subst r2
     replace r1:=`lg
     rw[Y7] at r1;obtain⟨q1,us,rfl,sq,t1⟩:=r1;have F:(wg0 `XK l).length=`e':=by unfold wg0;simp[`qc]
     refine⟨q1,`XK,rfl,by rw[`IM hkk.1],`p,⟨us,sq.to⟩,k _ H2 `ih ⟨`aBm,λi H3 v H4 g2 y hi=>?_,`aBm⟩⟩
     ·rw[F] at hi
      exact⟨us,us[i],`XL,`qd⟩
     ·obtain⟨t,x,rfl,ht,rfl,hx⟩:=y
      rw[F,`qc] at hi;obtain⟨x',e4,rx⟩:=`Wx;have ex:=hx us `XL;rw[e4] at ex;cases ex;refine⟨Z3 ht,`w [`c ((`XK+i:Nat):Int),l[i]],by unfold wg0;simp[hi],`NW⟩;exact `Wy
     ·rw[F] at hi
      exact⟨us,`XL,hi⟩
    ·cases e1
   ·cases e1
universe zz
universe DL
namespace DL
open Spec PyProof.Rows L2
theorem fh0{P:`aa}{w:`L}{mg:`Dy->`gc}{k:Nat}{fd:`S}{ps:`ab `Dy}{f:`cP}(hf:∀ds,`ld=`b):`aA4 :=
 ⟨λvs H Q E ⟨_,_,_,_,_,_,_,_,_,_,_,h,_⟩=>`aBn,λA outer s H F us vs Q E _ _ _ _ ⟨_,_,_,_,_,_,_,_,_,_,_,h,_⟩=>`aBn⟩
universe DL
namespace DL
noncomputable def og0:`s->`aH (`aG)
 | []=>`r0
 | `a4::ds=>`XM λr=>i::r
 | _=>`b
noncomputable def Wh0:`K
 | `mw=>`XM λis=>`IP
 | _=>`b
theorem ko0:∀is:`aG,`aBo=`XN
 | []=>rfl
 | i::is=>by show (`aBo).map _=_;rw[ko0 is];rfl
universe DL
namespace L2
open Spec PyProof.Rows
theorem Vj0{is:`aG}{its:`H}(rv:`bm (`IQ) its)(h:its[i]?=`bo):∃t,v=`c (`aeO) t:=by
 have hl:=`e7;rw[`F] at hl;have hi:i<`IR:=by have:=`VE;omega
 obtain⟨u,hu,ru⟩:=`LX (i:=i) (x:=`c is[i]) (`qd);rw[h] at hu;cases hu;obtain⟨t,rfl⟩:=ru;exact⟨t,`qd⟩
theorem ft0(is:`aG):∀n,n<=`IR->preSum (`aBp) n=(is.take n).sum
 | 0,_=>by simp[preSum]
 | n+1,h=>by
  rw[preSum,ft0 is n `g,`wy,`iv `g,List.sum_append];simp[show n<`IR by omega]
theorem ar0(hc:`bQ):`cv X (`cb `yP) (λxs H Q=>∃(p:`e) (is:`aG),`hg/\SqL X.K H p (`IQ)/\Q (`IP) H):=by
 intro pins s σ H xs us Q I rs h;obtain⟨p,is,rfl,hq,q⟩:=h;obtain⟨u,rfl,ru⟩:=rs.one;cases ru;obtain⟨its,rv,pl,hz⟩:=`eJ;have hp:p<`A:=by
  obtain⟨o,n,e,_⟩:=pl;exact `b9
 refine call_sum_walkG (N0 `fI ?_);refine⟨_,_,_,_,_,_,`aBp,rfl,Walks.list (A:=`sE) `dZ `A p (A6 hp) `bZ,⟨`oy,pl.isList.push _⟩,`fg,λi v hP=>Vj0 rv (by simpa using hP),λh' tk t' hk=>?_⟩
 ·show b<`HZ
  rw[`ha];simp only[`aO,`aU,`aV] at hb;rcases hb with rfl|rfl
  ·exact X2 _
  ·exact Y3 hp
 ·have e1:`fA=`IR:=by
   have:=`e7;simp at this;simp[`B]
  rw[e1,ft0 is _ `aK,`mI];refine⟨`IP,H,`xc (t':=tk) `aoB,`au,q⟩;refine hk b o ?_ `Ch;have:=`b9;simp only[`aO,`aU,`aV];exact A6 `B
universe L2
namespace DL
open Spec PyProof.Rows L2
theorem eh0:∀{ds:`s} {xs:`C} {is:`aG},`bc->og0 ds=`XN->xs=`IQ
 | [],xs,is,r,h=>by rw[o8] at r;cases h;exact r
 | `aE,xs,is,r,h=>by
  rw[o7] at r;obtain⟨x,t,rfl,r1,r2⟩:=r;cases d with
  | int i =>
   have h:`XM (λr=>i::r)=`XN:=h;obtain⟨js,e,rfl⟩:=`x7;rw[n6] at r1;rw[r1,eh0 r2 e];rfl
  | _=>cases h
theorem R30:FnR K (λxs H Q=>∃(p:`e) (is:`aG),`hg/\SqL K H p (`IQ)/\Q (`IP) H) Wh0:=by
 intro H B xs ds d Q hb r h k;unfold Wh0 at h;split at h
 ·obtain⟨is,e,rfl⟩:=`x7
  obtain⟨v,rfl,r1⟩:=`gM;rw[Y7] at r1;obtain⟨a,ys,rfl,q,rr⟩:=r1;have:=eh0 rr e;subst this;exact⟨a,is,rfl,`dP,`up⟩
 ·cases h
universe DL
namespace L2
open Spec PyProof.Rows PySem.W
noncomputable def N80(td ty tx:TE):TE:=fun σ H Q=>td σ H λx H1=>∃a,`f4/\IsD H1 a/\ty σ H1 λy H2=>tx σ H2 λz H3=>∃kvs k,H3 a=`pZ/\y=kV k/\`oQ /\
 (∀v,`jT=`bo->Q v H3)/\(`XO->Q z (upd H3 a (.dK (`ig kvs k z))))
section
variable{f:`D}{td tx:TE}
theorem On0{σ:St}{s:`r}{kvs:`gy}{k:Key}{v:V}{r:`t}{A:`a5}{E:`Z}{Q:`Z}(I:`y)(e:`sg)(ry:`U2)(rv:`HH)(l:`oQ)
  (h1:∀x,`jT=`cc->∀w' s',`HD->`dD x w'->Q w' s') (h2:`XO->∀s',Inv X `h σ (`U7) s'->Q r s') :
  `i `ac A (`b' (`cb "dict.setdefault") [`a9,u,r]) Q E s:=by
 obtain⟨z,hd,vs,rel,dd⟩:=`U!;have hz:`U?:=`Va
 have hv:=`Nd;refine call_meetsIn Dq0 `BM PySem.F.entry_dict_setdefault (PySem.F.args_dict_setdefault_3 _ _ _) (kt_meets_setdefault `Wz a `ye hd r) ⟨vs,dd,hz,λw hw=>?_,λhn h' J hs=>?_⟩
 ·rw[hw] at hv
  cases e1:`jT with
  | none=>rw[e1] at hv;exact hv.elim
  | some x=>rw[e1] at hv;exact h1 x e1 _ _ (`eu) hv
 ·rw[hn] at hv
  have e1:`XO:=by
   cases e1:`jT with
   | none=>rfl
   | some x=>rw[e1] at hv;exact hv.elim
  have hl:`yi:=`yj
  have he:`U':=let ⟨q,_,_,hq,_⟩:=J;⟨q,hq⟩
  exact h2 e1 _ (t60 I `Ne hs he (ii0 hl hd (rel.put k rv) J))
theorem Sl0(ho:`HI)(he:PE X e ty)(hf:PE X f tx)(m:M2 X o `IS `h! e f `cg):PE X (`bi (`jE o `IS `h!) `BL [] `cg) (N80 td ty tx):=by
 intro pins s σ H Q I h;refine wpAny_Call_method m.base m.few m.line PySem.F.plainAttrs_dict Dq0 PySem.F.type_dict_setdefault (thn `AQ λu s1 ⟨x,H1,I1,rx,a,ex,d,q1⟩=>?_);subst ex;cases (show u=`jR from rx);obtain⟨t1,t2,_⟩:=R70 I1 d;refine`aBq;rw[m.trees];refine B00 rfl (B10 (Q1 (thn (he `h s1 σ H1 _ I1 q1) λiv s2 ⟨y,H2,I2,ry,q2⟩=>Q1 (thn (hf `h s2 σ H2 _ I2 q2) λfv s3 ⟨z,H3,I3,rz,kvs,k,ea,ey,l,q3,q4⟩=>U1 ?_))));subst ey;exact On0 I3 ea ry rz l (λx ex w' s4 I4 r4=>⟨x,H3,I4,r4,q3 x ex⟩) λen s4 I4=>⟨z,_,I4,rz,q4 en⟩
universe zz
universe L2
namespace DL
open Spec PyProof.Rows L2
noncomputable def l40(i:Nat)(gk g:GE):GX:=fun δ=>`asf λpr=>`Xs λdk=>`cS λd=>(J2 dk).bind λq=>if `VV<`R then (if `H0=`d then (yb0 pr.1 pr.2 q).map λr=>(r,δ) else `a (d,`VW)) else `b
section
variable{a f:`D}{ga gb g:GE}
theorem T20(hu:`kx)(ha:`cT)(hb:`c')(hm:`au?:=by first|rfl|with_unfolding_all rfl):PD X `ava (o2 ga gb `nU):=.mk λB δ=>(Qd0 `avb hm).imp fun σ H Q ⟨t,en,h,k⟩=>by
 unfold o2 at h;cases e1:`hR with
 | none=>rw[e1] at h;cases h
 | some x =>
  cases e2:`hS with
  | none=>rw[e1,e2] at h;cases h
  | some y =>
   rw[e1,e2] at h;simp only[`E] at h;refine`r7;cases y<;>simp only[V3] at h<;>try cases h
   rename_i ks ds;cases ks with
   | inl ks =>
    simp only at h;cases e3:J2 x with
    | none=>rw[e3] at h;cases h
    | some q =>
     rw[e3] at h;simp only[`ds,`oU] at h;cases h;rw[un0] at r2;obtain⟨p,xs,rfl,_,hp,hl,rr⟩:=r2;have:=`VT;subst this;refine⟨p,_,rfl,`NC,?_⟩;rw[`sn];exact `aBr
   | inr ks =>
    simp only at h;cases e3:yw0 x with
    | none=>rw[e3] at h;cases h
    | some q =>
     rw[e3] at h;simp only[`ds,`oU] at h;cases h;rw[p70] at r2;obtain⟨p,xs,rfl,_,hp,hl,rr⟩:=r2;obtain⟨b,rfl,hb⟩:=`VU;refine⟨p,_,rfl,`ND,?_⟩;rw[`sn];exact `aBr
theorem R10(i:Nat)(h0:PD X e g0)(h:PD X f g)(hN:`bW:=by rfl)(hv:`dX:=by first|exact `b3|exact `eL|exact `eM)(hd:`aW:=by decide)(hcd:`eI:=by decide)
  (hbase:`jD `e6 `IS `v `p2=`nu:=by rfl)
  (hfew:(`as0
  &&`as1)=`d:=by rfl)
  (hline:`hP:=by rfl) (htrees:`as2:=by rfl) :
  PX X (`bi (`jE `e6 `IS `h!) `BL [] `cg) (l40 i g0 g):=.mk λH₀ B₀ δ pins s σ H Q I ⟨r,en,e1,k⟩=>by
 unfold l40 at e1;obtain⟨B,b1,b2,env⟩:=`bX;cases e2:`uE with
 | none=>rw[e2] at e1;cases e1
 | some pr =>
  cases e4:g0 δ with
  | none=>rw[e2,e4] at e1;cases e1
  | some dk =>
   cases e3:`as with
   | none=>rw[e2,e4,e3] at e1;cases e1
   | some d =>
    cases e5:J2 dk with
    | none=>rw[e2,e4,e3] at e1;simp only[`E] at e1;rw[e5] at e1;cases e1
    | some q =>
     rw[e2,e4,e3] at e1;simp only[`E] at e1;rw[e5] at e1;simp only[`E] at e1;split at e1
     ·rename_i hz
      have hi:=da0 e2;obtain⟨p,O,hb,xs,hx,hl,rx⟩:=`jc;have hl:`VV=`aP:=hl;refine Sl0 `jd (h0 B δ) `b4 ⟨`hQ,`mr,`i7,htrees⟩ `h s σ H Q I ⟨_,O,p,rfl,`o ⟨_,`Nl⟩,dk,env,e4,λiv H1 s1 r1=>⟨d,`uR,e3,λfv H2 s2 r2=>?_⟩⟩;have:=vr0 e5 r1;subst this;have F:=`ur;refine⟨_,q,F _ _ hx,rfl,`avd,λv Y=>?_,λhn=>?_⟩
      ·have hk:`H0=`d:=by
        rw[← `aBs,Y];rfl
       rw[`rJ] at e1;obtain⟨w,hw,e1⟩:=`By e1;cases e1;obtain⟨v',Z,rv⟩:=(zj0 rx).1 w hw;rw[Y] at Z;cases Z;exact k v H2 (`nw (`Bn F) b1 b2 (`np F) (rv.same F))
      ·have hk:`H0=`m:=by
        rw[← `aBs,hn];rfl
       rw[hk,`bD] at e1;cases e1;obtain⟨ys,hy,a1,a3,a2⟩:=pg0 (q:=q) (v:=fv) hl;have rr:Rps X.K H2 B `NE ys:=by
        unfold V6;rw[hk,`bD,a2 hk];exact `nv (`BQ F) r2
       rw[hy];have J:Env X.K (upd H2 p `ave) B σ (`VW):=(`np F).mut hi O ⟨ys,j5,a1,`BX `gr⟩;exact k _ _ (`nw (`uT F b1 b2 hi O J) b1 b2 J (r2.mono `gr))
     ·cases e1
universe zz
universe DL
namespace L2
open Spec PyProof.Rows
open PySem.AutoSeq1 (wpAny_loadPart')
section
variable{w:`L}{s:`r}{TI TO:`e}{k2:Nat}{x a b:`t}
theorem Ze0{Q:`Z}(D:`eN)
  (hz:`aBt) (hTI:`je) (hTO:`sC)
  (h1:`aBu) (h2:`jf) (t1:`IT) (t2:`f') (hx:`yu) (hy:`yv)
  (hQ:∀h',`gu h' z TI TO (`ew `A)->`awZ->`vt i1 l1 `B5->`yw->`u5->`H3 ->
   `aBv->`V1) :
  `V2:=by
 show `sp;refine `sq;show `sr;refine `aBw;show `ss;refine `co;unfold Builtin.SmallTypes.ownedTupleIsFree;refine `aBx;simp only[`c7];refine `aBy
 replace q1:`aBz:=q1
 refine `co;simp only[`yH,`yI,`i9,`mD];refine `mG;show `st;refine `aBA;have p2:`Ik:=`Il;refine `aBB
 replace p3:`aw4:=p3
 refine `Im;refine `mG;show `su;refine A0 (S3 `In
  `aBC hy λg4 j2 e4=>`cw)
 have p4:`aw6:=`nG _ _ D.TOi2 p3;refine A0 (D0 p4 rfl (A0 (e9 p4 λg5 p5 e5=>?_)))
 replace p5:`aw7:=p5
 refine `aw8;refine A0 (D0 p5 rfl (A0 (x8 ?_)));have sz:`aw9:=`aw'
 have q5:`gu g5 z TI TO `io:=`iq _ _ `Cg (`nG _ _ `yx `aBD);have keep:c90 z TO i1 i2 `P g5:=`aw?
 have r1:g5.IsTupleIter i1 l1 `B5:=zu0 (zu0 (zu0 j1 `gv `Io) `nG D.i12) `iq `Io;have r2:`axa:=j2.extBut `iq `NX;have lz:z<`lu:=A3 q5;show `axb;refine `co;unfold Builtin.SmallTypes.ownedTupleHandOut;have q6:`gu (g5.push `V6) z TI TO `io:=A5 _ q5;refine A0 (E1 q6 `T λg7 q7 e7=>?_)
 replace q7:`gu g7 z TI TO `WE:=q7
 refine E1 q7 `T λg8 q8 e8=>?_
 replace q8:`gu g8 z TI TO `WE:=q8
 have up:`axc:=`axd
 have p8:`axe:=`axf;have F:`axg:=`axh
 rw[sz] at q8 p8 F;refine `H7;show Q `N_ _;rw[sz];exact hQ g8 q8 (up _ _ `ve p5) (yz0 r1 `axi) (r2.at `axj) p8 F `axk
theorem Yo0{Q:PySem.Fin->`dy}(hh:`cR)(D:`eN)
  (hz:`aBt) (hTI:`je) (hTO:`sC)
  (h1:`aBu) (h2:`jf) (t1:`IT) (t2:`f') (hend:`yy)
  (hE:∀h' e,`aBv->`H8) :
  `V7:=by
 show `sp;refine `sq;show `sr;refine `aBw;show `ss;refine `co;unfold Builtin.SmallTypes.ownedTupleIsFree;refine `aBx;simp only[`c7];refine `aBy
 replace q1:`aBz:=q1
 refine `co;simp only[`yH,`yI,`i9,`mD];refine `mG;show `st;cases hx:`uW with
 | none =>
  refine A0 (xv0 hh `aeP `aeQ hx `axl);obtain⟨oe,ho,hc⟩:=he;have q2:`gu g2 z TI TO `io:=e2 _ _ `vf q1;have ne:e≠z:=λx=>by subst x;rw[q2] at ho;cases ho;simp at hc
  exact E1 q2 `T λg3 _ e3=>hE g3 e `axm ⟨oe,`gv _ _ ne ho,hc⟩
 | some x =>
  have hy:`B':=`V8
  refine `aBA;have p2:`Ik:=`Il;refine `aBB;refine `Im;refine `mG;show `su;refine A0 (c9 hh `In
   `aBC hy `axn)
  obtain⟨oe,ho,hc⟩:=he;have q4:`gu g4 z TI TO `io:=e4 _ _ `yx `aBD;have ne:e≠z:=λx=>by subst x;rw[q4] at ho;cases ho;simp at hc
  exact E1 q4 `T λg5 _ e5=>hE g5 e `axo ⟨oe,`iq _ _ ne ho,hc⟩
universe zz
noncomputable def Q20(K:`G)(a b:`e):It :=
 ⟨λi H=>∃xs ys x y,`g_/\`awu,
   λi H v H'=>∃t x y,`yC/\`sz/\H'=upd H t `vc/\(`SJ)/\`awv,
   λi H=>∃xs ys,`g_/\`aww⟩
theorem bp0{P:`aa}{w:`L}{x1}{TI TO b:`e}(D:`axv):`h6 P w K `Id `aBE `vg z
  (λi h=>`avu/\`V?/\(`V!)/\`LZ i1 a i/\`axw) where
 mem:=`aB
 obj:=λi h st c hc=>by
  obtain⟨hz,hTI,⟨p,q,F⟩,⟨o1,e1,c1,d1⟩,⟨o2,e2,c2,d2⟩⟩:=st;simp only[`aO,`aU,`aV] at hc;rcases hc with rfl|rfl|rfl|rfl|rfl
  ·exact`axx
  ·exact`axy
  ·exact`axz
  ·exact`yD
  ·exact`axA
 keep:=λi h h' st k=>by
  obtain⟨hz,hTI,⟨p,q,F⟩,h1,h2⟩:=st;exact⟨`axB,`axC,`axD,yz0 h1 `axE,`axF⟩
 item:=by
  intro X hP hw hK hc i pins s σ H E I hf st hg;subst hP hw hK;obtain⟨hz,hTI,⟨p,q,F⟩,h1,h2⟩:=st;obtain⟨xs,ys,x,y,J,O,hx,hy⟩:=hg;obtain⟨us,Y,p1,z1⟩:=`d4 J;obtain⟨ws,a7,p2,z2⟩:=`Ip;obtain⟨u,hu,ru⟩:=Y.get hx;obtain⟨w,hw,b2⟩:=a7.get hy;have hT:`kA := `mE;unfold pyNext;refine A0 (P3 (E7 (name:=`kB) hT E2
   (D8 E2 hT d4
    (Ze0 D hz hTI F h1 h2 p1 `i! (x:=u) (y:=w) `xg `AL λh' a1 a2 a3 a4 a5 a6 hk=>`cw) `sv)))
  refine⟨_,rfl,wpAny_letOwnedTupleGo_zip (s:=`dI) a1 λb3 b1 hs=>?_⟩;have lt:`axG:=λe=>`b9
  have lz:=lt hz;have b5:=lt F;have b4:=lt hTI;obtain⟨o1,e1,_⟩:=`yE;obtain⟨o2,e2,_⟩:=id h2;have l1:=lt e1;have l2:=lt e2;obtain⟨I1,fr⟩:=`yF (h':=b3) (t':=`a1) (fp:=`vg) hf ru b2 (λc hc=>by
   simp only[`aO,`aU,`aV] at hc;rcases hc with rfl|rfl|rfl|rfl|rfl<;>assumption) (`nK _ _ `N0 a5) (λc o hc e=>by
   simp only[`aO,`aU,`aV,`hV] at hc;exact `nK _ _ `im (`Iq))
  exact⟨`cu,_,I1,rfl,⟨_,x,y,rfl,`fx,rfl,λys Z=>by rw[`L0 Z J];exact hx,λb6 Z=>`axH⟩,
   ⟨b1,`nK _ _ `Ci (`axI),⟨_,_,`nK _ _ `ve a2⟩,zu0 a3 `nK `u0,a4.extBut `nK `B9⟩,fr⟩
 done:=by
  intro X hP hw hK hc i pins s σ H E I hf st hg;subst hP hw hK;obtain⟨hz,hTI,⟨p,q,F⟩,h1,h2⟩:=st;obtain⟨xs,ys,J,O,a8⟩:=hg;obtain⟨us,Y,p1,z1⟩:=`d4 J;obtain⟨ws,a7,p2,z2⟩:=`Ip;have l1:=`Nt;have l2:=a7.length;have hT:`kA := `mE;unfold pyNext;refine A0 (P3 (E7 (name:=`kB) hT E2
   (D8 E2 hT d4 (Yo0 `dZ D hz hTI F h1 h2 p1 `i! (a8.imp (`Ir) `Ir) `V9) `sv)))
  obtain⟨o,ho,b0⟩:=he;refine A0 (o3 (T := `NK) (b:=`d) ⟨o,ho,b0⟩ x9 ?_);refine A1 `axJ;simp only[`aO,`aU,`aV,`hV] at hc;exact `Iq
 self:=λ_ _ _ _ _ st h=>y4 st.1 h
abbrev wkL(h:`u)(l:`e):`u:=`uI `N!
abbrev wm2(h:`u)(a b:`e):`u:=wkL (wkT h a) b
abbrev wm3(h:`u)(a b:`e):`u:=(wm2 h a b).push { cls:=`cW,data:=`a' #[`Q `d1,`Q (wkT h a).objs.size] }
abbrev wm4(h:`u)(a b:`e):`u:=(wm3 h a b).push { cls:=`cW,data:=`a' #[`aj,`aj] }
abbrev wm5(h:`u)(a b:`e):`u:=(wm4 h a b).push { cls:=`u9,data:=`fr #[`aj,`nz,`nz,`Q (wm2 h a b).objs.size,`Q (wm3 h a b).objs.size] }
set_option maxHeartbeats 1000000 in
theorem lc0(l1 l2:`e)(xs ys:`aI) :
  `oS (Builtin.«zip.__new__» ⟨[`u9,`NP,`Q l2],[]⟩) (λ_ R s=>`IT/\`f' /\
   R (.ok (`dA (`Q `XP))) { s with heap:=`Ov }) :=
 `yn λprog w A R s h=>by
  obtain⟨hp,g,d,tk,os⟩:=s;obtain⟨t1,t2,h⟩:=h;have O:=sub_zip;have F:`aAO `Xy l1 xs:=t1;have J:`aBc (`aeC ⟨hp.push { cls:=`aeA,data:=`fr #[`NP,`c 0 0] },g,d,tk,os⟩) l2 ys:=t2.push _
  wp_walk using k7 F,N0 J
  exact`ky
theorem ln0{prog:`aa}{w:`L}{A:`a5}{E:`Z}{s:`r}{Q:`Z}(t1:`IT)(t2:`f')
  (h:∀h',`gu h' (`A+4) (`A+2) (`A+3) `aj->`d! h' (`A+2) `fH (`CG) ->
   `d! h' (`A+3) `aj `aj->`vt `A l1 0->`B4 `jx l2 0->`nb=`A+5 ->
   (∀c o,`adz)->Q (`Q (`A+4)) `dI) :
  `i `am A `av4 Q E s:=by
 refine `aAS F.called_zip `f (F.typeCall_zip_2 _ _) (F.newCall_zip_2 _ _) (λobj=>F.args_object_init_3 obj _ _) F.entry_zip_new
  (lc0 l1 l2 xs ys) `aBq
 have n1:`aBF=`jw:=x6 ..;have n2:`aBG=`A+2:=by rw[`ha,n1]
 have n3:`aBH=`A+3:=by rw[`ha,n2]
 have n4:`XP=`A+4:=by rw[`ha,n3]
 have n5:(`Ov).objs.size=`A+5:=by rw[`ha,n4]
 have up:∀{h:`u} {o:Obj} {c:`e} {v:Obj},`en c=`bo->(`uI o).get? c=`bo:=λe=>`m2
 have g5:`yQ `XP=`pe:=`eq;have g4:`yQ `aBH=`pe:=up `nH;have g3:`yQ `aBG=`pe:=`aeR;have g2:`yQ `aBF=`pe:=`aBI;have g1:`yQ `A=`pe:=up (`aBI);show _/\_;rw[n2,n3,n4] at g5;rw[n1,n2] at g3;rw[n3] at g4;rw[n1] at g2;rw[n4];exact⟨⟨_,g5,rfl⟩,h _ g5 g3 g4 ⟨_,g1,rfl,rfl⟩ ⟨_,g2,rfl,rfl⟩ n5 λc o e=>up (up (up (up (up e))))⟩
noncomputable def Od0(K:`G)(ta:TA):TI:=fun σ H R=>ta σ H λvs H1=>∃a b,`awE/\`SP/\`awF/\R `aBE H1
theorem Vb0{a:`D}{ta:TA}{p pos:Pos}(hg:`Is)(hm:`It)(ha:`SR)(hs:`rB:=by rfl)(hs2:`rC:=by rfl) :
  PI X `mF `Iu (Od0 X.K ta):=by
 intro pins s σ H R I h;refine `axK;obtain⟨qa,qb,e,⟨xs,h1⟩,⟨ys,h2⟩,q⟩:=q1;subst e;cases r1 with
 | cons r rr =>
  cases rr with
  | cons r' rr =>
   cases rr;obtain rfl:=r;obtain rfl:=r';obtain⟨us1,v1,p1,z1⟩:=`xj h1;obtain⟨us2,v2,p2,z2⟩:=`mo h2;have a1:`WF:=by obtain⟨_,e,_⟩:=p1;exact `b9
   have a2:qb<`ev:=by obtain⟨_,_,e,_⟩:=p2;exact `b9
   refine ln0 p1 `i! `axM
   refine `axN;refine⟨_,_,_,_,H1,rfl,`Ig,bp0 `Wj,⟨hz,hTI,`axO,J,F⟩,`fg,q⟩;simp only[`aO,`aU,`aV] at hb;rcases hb with rfl|rfl|rfl|rfl|rfl
   ·exact `axP
   ·exact `axQ
   ·exact `axR
   ·exact `mp
   ·exact `Ih
universe L2
namespace DL
open Spec PyProof.Rows L2
noncomputable def Wq0:`cP
 | [`cz,`Nv]=>`auG
 | _=>`b
noncomputable def mp0(gA:GA):GA:=fun δ=>`f7 Wq0
section
variable{a:`D}
theorem Wb0(hm:`It)(ha:`Uz)(hg:`Is := by rfl)(hs:`rB:=by rfl)(hs2:`rC:=by rfl) :
  PID X `mF `Iu (mp0 gA):=.mk λB δ=>`i' (Vb0 hg hm `bd hs hs2) fun σ H R ⟨`al,en,e1,k⟩=>by
 unfold mp0 at e1;cases e2:`bI with
 | none=>rw[e2] at e1;cases e1
 | some ds =>
  rw[e2] at e1;simp only[`E] at e1;unfold Wq0 at e1;split at e1<;>try cases e1
  rename_i ds es;refine`r8;rw[o7] at r;obtain⟨x,t,rfl,r1,r⟩:=r;rw[o7] at r;obtain⟨y,t,rfl,r2,r⟩:=r;rw[o8] at r;subst r;rw[W0] at r1;rw[Y7] at r2;obtain⟨q1,us,rfl,s1,t1⟩:=r1;obtain⟨q2,ws,rfl,s2,t2⟩:=r2;have F:`axS:=`axT
  refine`axU
  ·rw[F] at hi
   have h1:i<`e':=`p
   have h2:i<`nJ:=`p
   exact`axV
  ·obtain⟨t,x,y,rfl,ht,rfl,hx,hy⟩:=y
   rw[`F,`gt] at hi;have h1:`Hm:=`p
   have h2:i<`g!:=`p
   obtain⟨x',e4,rx⟩:=`axW;obtain⟨y',e5,ry⟩:=`axX;have ex:=`Ii;have ey:=`axY;rw[e4] at ex;rw[e5] at ey;cases ex;cases ey;refine`axZ;exact `ax_
  ·rw[F] at hi
   exact`ax0
universe zz
universe DL
namespace L2
open Spec PyProof.Rows PySem.W
theorem xx0:`cv X `Tt `aBJ:=by
 intro pins s σ H xs us Q I r h;obtain⟨p,kvs,rfl,hq,q⟩:=h;obtain⟨u,rfl,rx⟩:=`ko;cases rx;have hn:=u10;obtain⟨z,hd,vs,rel,dd⟩:=je0 `bh hq;have hl:=`ac6;exact call_len_dict hd dd `g ⟨`c `kM,H,`eu,⟨`tN,by rw[hl]⟩,q⟩
universe L2
namespace DL
open Spec PyProof.Rows L2
noncomputable def J9:`K
 | [`bk `Be _]=>`a (`c `gn)
 | _=>`b
theorem vx0:FnR K `aBJ J9:=by
 intro H B xs ds d Q hb r h k;unfold J9 at h;split at h
 ·cases h
  obtain⟨v,rfl,r1⟩:=`gM;rw[un0] at r1;obtain⟨p,ys,rfl,_,hp,hl,rr⟩:=r1;refine⟨p,_,rfl,hp,`UM⟩;rw[n6,`gt,← hl,`B2]
 ·cases h
universe DL
namespace SoT
open PyProof.Rows
section
variable{P:`aa}{w:`L}{s:`r}{b:`mJ}{κ:`yR}{cmp:`yS}
structure Go(b:`mJ)(κ:`yR)(st:`dS):Prop where
 kd:`hO st=κ
 pm:(`CO).Perm b
 pe:`vy st=#[]
 fa:`Oz st=`b
structure Cp(P:`aa)(w:`L)(A:`a5)(E:`Z)(s:`r)(b:`mJ)(κ:`yR)(cmp:`yS):Prop where
 ask:∀(st:`dS) (i j:Nat) (x y:`iy) (Q:`aBK),`fm->`yT->`XQ->Q (`a (cmp x y)) st->`aBL
 nd:`aBM
 tr:∀x∈`mK,∀y∈`mK,∀z∈`mK,`XR->cmp y z=`d->cmp x z=`d
 to:∀x∈`mK,∀y∈`mK,x≠y->cmp y x=`m->`XR
theorem Go.set{st:`dS}(h:`fm){xs:`mJ}(p:xs.Perm `c1):Go b κ (setArr st xs):=⟨h.kd,p.trans h.pm,h.pe,h.fa⟩
theorem Go.sz{st:`dS}(h:`fm):`XS=`b6:=h.pm.size_eq
theorem Go.el{st:`dS}(h:`fm)(hi:i<`b6):∃x,`yT/\x∈`mK:=by
 have F:i<`XS:=by rw[h.sz];exact hi
 exact⟨`c1[i],Bc0 _ i F,`aBN⟩
theorem Go.mem{st:`dS}(h:`fm){x:`iy}(e:`yT):x∈`mK/\i<`b6:=by
 obtain⟨hi,rfl⟩:=`Ct e;exact⟨`aBN,by rw[← h.sz];exact hi⟩
theorem Go.ne{st:`dS}(h:`fm)(hn:`aBM){x y:`iy}(e1:`yT)(e2:`XQ)(hij:i<j):x≠y:=by
 have F:(`CO).toList.Nodup:=(`aeS).nodup_iff.mpr hn;obtain⟨h1,rfl⟩:=`Ct e1;obtain⟨h2,rfl⟩:=`Ct e2;have:=`sH F i j (`tp) (`Gb) hij
 simpa using `B
noncomputable def Up(cmp:`yS)(xs:`mJ)(n:Nat):Prop:=∀i j x y,i<j->j<n->`h7->`pA=`d8->`XR
noncomputable def Dn(cmp:`yS)(xs:`mJ)(n:Nat):Prop:=∀i j x y,i<j->j<n->`h7->`pA=`d8->cmp y x=`d
variable(C:`aBO)
include C
theorem Ty0{st:`dS}(hg:`fm)(hn:n<`b6)(h1:1<=n)(h:`aBP){u v:`iy}(eu:`XT)(ev:`XU)(huv:cmp u v=`d):Up cmp `c1 (n+1):=λi j x y F hj ex ey=>by
 by_cases hjn:j<n
 ·exact `aBQ
 ·have:j=n:=`p
  subst this;rw[ev] at ey;cases ey
  by_cases hi:i=j - 1
  ·subst hi;rw[eu] at ex;cases ex;exact huv
  ·exact C.tr x `aBR u `aBS v `aBT `aBU huv
theorem Tn0{st:`dS}(hg:`fm)(hn:n<`b6)(h1:1<=n)(h:`XV){u v:`iy}(eu:`XT)(ev:`XU)(huv:`yU=`d):Dn cmp `c1 (n+1):=λi j x y F hj ex ey=>by
 by_cases hjn:j<n
 ·exact `aBQ
 ·have:j=n:=`p
  subst this;rw[ev] at ey;cases ey
  by_cases hi:i=j - 1
  ·subst hi;rw[eu] at ex;cases ex;exact huv
  ·exact C.tr v `aBT u `aBS x `aBR huv `aBU
theorem asc{st:`dS}{a:Nat}{Q:AscSt->`qj}(hg:`fm)(hm:`IU)(ha:1<=a)(ham:a<=m)(hu:`aBV)
  (k:∀n,a<=n->n<=m->`aBP->(n=m∨∃u v,`XT/\`XU/\`yU=`d)->Q (`b,n) st):wpS `ch A E s (ascLoop a m) Q st:=by
 unfold ascLoop;refine i4 (I:=λx c t=>t=st/\c=(`b,x)/\Up cmp `c1 x) `aBW `IV ⟨rfl,rfl,hu⟩
 ·obtain⟨e1,e2,F⟩:=hI
  subst e1;subst e2;obtain⟨v,ev,mv⟩:=`aBX;obtain⟨u,eu,mu⟩:=`aBY;refine `aBZ;cases hc:`yU with
  | true=>exact C7 (k x J `g F (`q ⟨u,v,eu,ev,hc⟩))
  | false=>exact C7 ⟨rfl,rfl,Ty0 C hg `g `g F eu ev (`aB_)⟩
 ·obtain⟨e1,e2,F⟩:=hI
  subst e1;subst e2;have e:max a m=m:=`p
  rw[e] at F ⊢;exact k m ham `aK F `h_
theorem desc{st:`dS}{a:Nat}{Q:DescSt->`qj}(hg:`fm)(hm:`IU)(ha:1<=a)(ham:a<=m)(hd:Dn cmp `c1 a)
  (k:∀n,a<=n->n<=m->`XV->Q (`b,n,0) st):wpS `ch A E s (descLoop a m) Q st:=by
 unfold descLoop;refine i4 (I:=λx c t=>t=st/\c=(`b,x,0)/\Dn cmp `c1 x) `aBW `IV ⟨rfl,rfl,hd⟩
 ·obtain⟨e1,e2,F⟩:=hI
  subst e1;subst e2;obtain⟨v,ev,mv⟩:=`aBX;obtain⟨u,eu,mu⟩:=`aBY;refine `aBZ;cases hc:`yU with
  | true =>
   dsimp only;rw[`cp,`ji];exact C7 ⟨rfl,rfl,Tn0 C hg `g `g F eu ev hc⟩
  | false =>
   dsimp only;rw[`bD];refine B8 (`CQ _ _ _ _ _ _ hg eu ev ?_);rw[`aB_];exact C7 (k x J `g F)
 ·obtain⟨e1,e2,F⟩:=hI
  subst e1;subst e2;have e:max a m=m:=`p
  rw[e] at F ⊢;exact k m ham `aK F
theorem tl{st:`dS}{Q:`aB0}(hg:`fm)(hm:`IU)(h1:1<=n)(hnm:n<=m)(hd:`XV)
  (k:`aB1):wpS `ch A E s (tail3 n m) Q st:=by
 unfold tail3;rw[reverseSlice'_eq];refine B8 (`IW ?_);have J:n<=`XS:=by rw[hg.sz];omega
 have g2:Go b κ `aB2:=hg.set (mirror_perm _ _ _ _);have F:∀i,i<n->`aB3=`c1[`sI - i]?:=λi hi=>by
  rw[getElem?_mirror_all J,`I ⟨`c_,hi⟩,`bR]
 have hu:Up cmp (`qi `aB2) n:=λi j x y O hj ex ey=>by
  have ex:`aB3=`cc:=ex;have ey:`Ox[j]?=`d8:=ey;rw[F i `g] at ex;rw[F j hj] at ey;exact hd (`sI - j) (`sI - i) y x `g `g ey ex
 exact B8 (asc C g2 hm h1 hnm hu λr a1 a2 a3 _=>C7 (k r _ g2 `g a2 a3))
theorem run{st:`dS}{Q:`aB0}(hg:`fm)(hm:`IU)(h1:1<=m)
  (k:`aB1):wpS `ch A E s (countRun' 0 m) Q st:=by
 rw[countRun0_eq];refine B8 (asc C hg hm (A2 1) h1 (λi j x y a c _ _=>`p) λn n1 n2 hu F=>?_);dsimp only
 by_cases hnm:n=m
 ·rw[`I (by rw[hnm];simp)]
  exact `aB4
 ·rw[`ay (by simpa using hnm)]
  obtain⟨u,v,eu,ev,hc⟩:=F.resolve_left hnm
  by_cases hg1:n > 1
  ·rw[`I hg1]
   obtain⟨x,ex,mx⟩:=hg.el (i:=0) `g;refine B8 (`CQ _ _ _ _ _ _ hg ex eu ?_);rw[hu 0 (`sI) x u `g `g ex eu];exact `aB4
  ·rw[`ay hg1]
   have:n=1:=`p
   subst this;unfold descPart;refine `aB5;have d2:Dn cmp `c1 (1+1):=λi j x y O hj ex ey=>by
    have hi:i=0:=`p
    have J:j=1:=`p
    subst hi;subst J;rw[show `WX - 1=0 from rfl,ex] at eu;rw[ey] at ev;cases eu;cases ev;exact hc
   refine B8 (desc C hg hm `g `g d2 λr a1 a2 a3=>?_);dsimp only;rw[`ji];exact tl C hg hm `g a2 a3 k
theorem ins{st:`dS}{a:Nat}{Q:`N->`qj}(hg:`fm)(hn:n<=`b6)(ha:a<=n)(hu:`aBV)
  (k:∀t,`vw->`aB6->Q `d t):wpS `ch A E s (binarySort' 0 n a) Q st:=by
 rw[binarySort'_eq];simp only[`bR];refine B8 (`IX (i4 (I:=λx c t=>c=`CS/\`vw/\Up cmp `iz (min x n)) (Q:=λc t=>c=`CS/\`vw/\`aB6) (λx c t a2 a3 hI=>?_) `IV ⟨rfl,hg,?_⟩) `Ow)
 ·obtain⟨e1,g2,u2⟩:=hI
  subst e1;have ex:min x n=x:=`p
  rw[ex] at u2;have hx:x<`b6:=`p
  obtain⟨v,ev,mv⟩:=g2.el hx;refine B8 (`IX (i4 (I:=λy c t2=>t2=t/\∃l r,`aB7/\l<=r/\r<=x/\r - l<=x - y/\`aB8/\∀i z,r<=i->`aB9)
   (Q:=λc t2=>t2=t/\∃l r,`aB7/\l<=x/\`aB8/\∀i z,l<=i->`aB9) (λy c t2 _ a4 hJ=>?_) (`XW)
   ⟨rfl,0,x,rfl,`p,`p,`p,λi z hi=>`p,λi z h1 h2=>`p⟩) `XW)
  ·obtain⟨e1,l,r,e2,a1,F,hm,lo,hi⟩:=hJ
   subst e1;subst e2;dsimp only
   by_cases hge:l ≥ r
   ·rw[`I hge]
    have:l=r:=`p
    subst this;exact C7 `aB'
   ·rw[`ay hge]
    obtain⟨u,eu,mu⟩:=g2.el (i:=`yV) `g;refine B8 (`CQ _ _ _ _ _ _ g2 ev eu ?_);cases hc:`yU with
    | true =>
     refine C7 ⟨rfl,l,`yV,rfl,`p,`p,`p,lo,λi z h1 h2 ez=>?_⟩
     by_cases q:i=`yV
     ·subst q;rw[eu] at ez;cases ez;exact hc
     ·exact C.tr v mv u mu z `aB! hc (u2 _ i u z `g `g eu ez)
    | false =>
     have O:=C.to u mu v mv (g2.ne C.nd eu ev `g) hc;refine C7 ⟨rfl,`yV+1,r,rfl,`p,`p,`p,λi z h1 ez=>?_,hi⟩
     by_cases q:i=`yV
     ·subst q;rw[eu] at ez;cases ez;exact O
     ·exact C.tr z `aB! u mu v mv (u2 i _ z u `g `g ez eu) O
  ·obtain⟨e1,l,r,e2,a1,F,hm,lo,hi⟩:=hJ
   subst e1;subst e2;have:l=r:=`p
   subst this;exact`aB'
  ·obtain⟨e1,l,r,e2,a5,lo,hi⟩:=hJ
   subst e1;subst e2;show wpS _ _ _ _ (do moveDown' x l;`a2 (`ub `CS)) _ _;rw[moveDown'_eq];refine B8 (`IW (C7 ⟨rfl,g2.set (bubble_perm _ _ _),?_⟩));have Z:x<(`aeV).size:=by rw[g2.sz];exact hx
   have e3:min (x+1) n=x+1:=`p
   rw[e3];have Y:∀i,`aB?=if i=l then `bo else if l<i/\i<=x then `Oy[i - 1]? else `Oy[i]?:=λi=>by
    rw[getElem?_bubble Z _ `g,show x - (x - l)=l by omega,ev]
   intro i j y z J hj ey ez;have ey:`aB?=`d8:=ey;have ez:`aeW[j]?=`vx:=ez;rw[Y] at ey ez
   by_cases q1:j=l
   ·rw[`I q1] at ez
    rw[`ji,`ji] at ey;cases ez;exact lo i y `g ey
   ·rw[`ay q1] at ez
    by_cases q2:i=l
    ·rw[`I q2] at ey
     rw[`aCa] at ez;cases ey;exact hi `CP z `g `g ez
    ·rw[`ay q2] at ey
     by_cases q3:l<i
     ·rw[`I ⟨q3,`p⟩] at ey
      rw[`aCa] at ez;exact u2 (i - 1) `CP y z `g `g ey ez
     ·rw[`ji] at ey
      by_cases q4:l<j
      ·rw[`I ⟨q4,`p⟩] at ez
       exact u2 i `CP y z `g `g ey ez
      ·rw[`ji] at ez
       exact u2 i j y z J `g ey ez
 ·obtain⟨hc,g2,u2⟩:=hI
  refine⟨hc,g2,?_⟩
  rwa [show min (max (max a 1) n) n=n by omega] at u2
 ·intro i j x y J hj ex ey
  exact hu i j x y J `g ex ey
 ·obtain⟨e1,g2,u2⟩:=hI
  subst e1;exact C7 (k t g2 u2)
universe zz
section
variable{P:`aa}{w:`L}{s:`r}{b:`mJ}{κ:`yR}{cmp:`yS}
theorem runs(C:`aBO){st:`dS}{Q:Unit->`qj}(hg:`fm)(h2:2<=`b6)(h64:`b6<64)
  (k:∀t,`OA b->`OB->`aeY->Q () t):wpS `ch A E s sortRuns' Q st:=by
 rw[sortRuns'_eq];refine `sJ;dsimp only;have O:minRun' `b6 `b6 0=`b6:=by
  obtain⟨f,hf⟩:∃f,`b6=f+1:=⟨`b6 - 1,`p⟩;have e:minRun' (f+1) `b6 0=`b6:=by rw[minRun'_succ,`I h64];rfl
  rwa [← hf] at e
 simp only[hg.sz,O];refine B8 (`IX (i4 (I:=λx c t=>(x=0/\c=(`b,0)/\`vw)∨(1<=x/\`aCb))
  (Q:=λc t=>`aCb) (λx c t _ hx hI=>?_) `IV (`o ⟨rfl,rfl,hg⟩)) `Ow)
 ·rcases hI with⟨e1,e2,g2⟩|⟨e1,e2,d1⟩
  ·subst e1;subst e2
   dsimp only;rw[`ji];simp only[`aCc,`B2,`bR];refine B8 (run C g2 `aK `g λr t2 g3 r1 r2 u3=>?_);dsimp only;have J:∀t3,`aCd->Up cmp (`qi t3) `b6->(`aCe).Perm b/\`Oz `OC=`b/\(`vy `OC).size=1/\Up cmp (`aCe) `b6 :=
    λt3 g u=>⟨g.pm,g.fa,(by show (`aeZ).size=1;rw[g.pe];rfl),u⟩
   have F:∀t3,`aCd->(`vy t3).back?=`b:=λt3 g=>by rw[g.pe];rfl
   by_cases hlt:r<`b6
   ·rw[`I hlt]
    refine `aB5;refine B8 (ins C g3 `aK r2 u3 λt3 g4 u4=>?_);simp only[`Fj,`hG,`dp];refine `sJ;rw[F t3 g4];exact B8 (`IW (C7 (`q ⟨`p,rfl,J t3 g4 u4⟩)))
   ·rw[`ay hlt]
    have hr:r=`b6:=`p
    subst hr;refine `sJ;rw[F t2 g3];exact B8 (`IW (C7 (`q ⟨`p,rfl,J t2 g3 u3⟩)))
  ·subst e2
   dsimp only;rw[`I `aK];exact C7 ⟨rfl,d1⟩
 ·rcases hI with⟨e1,_,_⟩|⟨_,e2,d1⟩
  ·omega
  ·exact⟨e2,d1⟩
 ·obtain⟨e1,p1,p2,p3,p4⟩:=hI
  subst e1;dsimp only;refine B8 (`IX (i4 (I:=λ_ c t2=>`aCf) (Q:=λc t2=>`aCf) (λx c t2 _ _ hJ=>?_) (λ_ _ hJ=>hJ) `hb) `XW)
  ·obtain⟨e1,e2⟩:=hJ
   subst e1;subst e2;refine `sJ;rw[`I (by rw[p3];exact A2 1)];exact C7 `hb
  ·obtain⟨e1,e2⟩:=hJ
   subst e1;subst e2;exact C7 (k _ p1 p2 p4)
universe zz
noncomputable def PairAt(h:`u)(v:`t)(q:`dh):Prop:=∃a o n t u,`g8/\`d0/\`nR/\`h3=`a' #[`XX,`c q.2 u] n
theorem PairAt.one{h:`u}{r:`dh}(x:`vz)(y:`lz h v r):q=r:=by
 obtain⟨a,o,n,t,u,e,e1,_,e2⟩:=x;obtain⟨a',o',n',t',u',f,f1,_,f2⟩:=y;rw[e] at f;cases f;rw[e1] at f1;cases f1;rw[e2] at f2;injection f2 with f2 _
 have f3:=C6 `abj f2;simp only at f3;injection f3 with g1 g2
 injection g1 with g1 _
 injection g2 with g2 _
 injection g2 with g2 _
 exact U2 g1 g2
noncomputable def lt2(a b:`dh):`N:=`O `aCg
theorem p20{a b:`dh}:`aCh↔`aCg:=by unfold lt2;exact decide_eq_true_iff
open Classical in
noncomputable def pk(h:`u)(v:`t):`dh:=if e:∃q,`vz then e.choose else (0,0)
theorem md0{h:`u}(x:`vz):`CV=q:=by
 unfold pk;have e:`aCi:=⟨q,x⟩;rw[dif_pos e];exact e.choose_spec.one x
section
variable{P:`aa}{w:`L}{s:`r}
theorem br0(f:`N)(x y:`t):`aCj=(do
  let xs ← `HW x;let ys ← `HW y
  for ((p,q),i) in (xs.toList.zip ys.toList).zipIdx do
   if !(← eqBool p q) then return ← oneLt' (f&&i==0) p q
  return `O (`nB<`p?)):=rfl
theorem nw0{f:`N}{a c:Int}{t u:Tok}{Q:`jW}(h:Q (`O (a<c)) s):`i `ch A (oneLt' f (`c a t) (`c c u)) Q E s:=by
 cases f with
 | true=>exact oneLt_int h
 | false =>
  rw[oneLt'_eq];rw[`bD];refine A0 (wpAny_richCompare_same (l6 s a t) (l6 s c u) slot_int_lt (call_int_lt ⟨`gp,?_⟩));exact j3 h
theorem dv0{f:`N}{x:`t}{r:`dh}{Q:`jW}(hx:`lz `P x q)(hy:`lz `P y r)(h:Q (`IY) s):`i `ch A (`aCj) Q E s:=by
 obtain⟨a,o,n,t,u,rfl,e1,_,e2⟩:=hx;obtain⟨a',o',n',t',u',rfl,f1,_,f2⟩:=hy;rw[br0];refine A0 (A10 e1 e2 (A0 (A10 f1 f2 ?_)));simp only[`fl,List.zip_nil_right,`yH,`yI,`i9,`mD];refine A0 `aCk
 by_cases e:q.1=r.1
 ·rw[show `aCl=`d by simpa using e]
  rw[`bD];refine A1 `aCk
  by_cases e':q.2=r.2
  ·rw[show `aCm=`d by simpa using e']
   rw[`bD];refine A1 `NZ;have:`IY=`m:=by unfold lt2;rw[e,e'];simp
   rw[`B] at h;exact h
  ·rw[show `aCm=`m by simpa using e']
   rw[`I `D4];refine `aCn;have:`IY=`O (q.2<r.2):=by unfold lt2;rw[e];simp
   rw[`B] at h;exact h
 ·rw[show `aCl=`m by simpa using e]
  rw[`I `D4];refine `aCn;have:`IY=`O (q.1<r.1):=by unfold lt2;simp[e]
  rw[`B] at h;exact h
universe zz
structure Prs(h:`u)(vs:`H):Prop where
 all:∀v∈vs,`aCi
 nd:(`aCo).Nodup
noncomputable def od0(h:`u)(x y:`iy):`N:=lt2 (pk h x.1) (pk h y.1)
section
variable{P:`aa}{w:`L}{s:`r}
theorem Nu0{b:`mJ}{f:`N}(hb:∀x∈`mK,`aCp)(st:`dS)(i j:Nat)(x y:`iy)(Q:`aBK)(hg:Go b `OE st)(ei:`yT)(ej:`XQ)(k:Q (`a (od0 `P x y)) st):`aBL:=by
 obtain⟨q,hq⟩:=hb x (`vv ei).1;obtain⟨r,hr⟩:=hb y (`vv ej).1;unfold od0 at k;rw[md0 hq,md0 hr] at k;rw[ltAt'_eq];refine `sJ;show wpS _ _ _ _ (elem' `c1 i>>=λx=>elem' `c1 j>>=λy=>lt' x y) Q st;rw[elem'_eq,elem'_eq,ei,ej];refine B8 (C7 (B8 (C7 ?_)));rw[lt'_eq];refine `sJ;rw[hg.kd];exact B8 (`aeT (P3 (dv0 hq hr ⟨rfl,C7 k⟩)))
theorem cpP{vs:`H}(hv:`XY)(f:`N):Cp P w A E s (`OF) `OE (od0 `P):=by
 have el:∀x∈`aCq,x.1∈vs/\x=(x.1,x.1):=λx hx=>by
  rw[`XZ] at hx;obtain⟨i,hi,e⟩:=`jj hx;rw[`yW] at e;have e1:x.1=vs[i]'(by rw[`gt] at hi;omega):=by rw[← e]
  rw[e1];exact⟨L8 _,e.symm⟩
 have hb:∀x∈`aCq,`aCp:=λx hx=>hv.all _ (el x hx).1
 have O:vs.Nodup:=by
  refine `aCr
  have:=`sH hv.nd i j `tW `xQ F;rw[`eO,`eO,e] at this;exact `B rfl
 refine⟨Nu0 hb,?_,λx _ y _ z _ h1 h2=>?_,λx hx y hy J h=>?_⟩
 ·rw[`XZ]
  refine `aCr
  rw[`yW,`yW] at e;have e1:=C6 `u? e;simp only[`gt] at hi hj;exact `sH O i j `g `g F e1
 ·unfold od0 at *
  rw[p20] at *;omega
 ·unfold od0 at *
  have Y:`CU≠`CT:=λe=>by
   apply J;obtain⟨mx,ex⟩:=el x hx;obtain⟨my,ey⟩:=el y hy;obtain⟨i,hi,e1⟩:=`jj mx;obtain⟨j,hj,e2⟩:=`jj my;have F:i=j:=by
    rcases Cw0 i j with q|q|q
    ·have:=`sH hv.nd i j `tW `xQ q
     rw[`eO,`eO,e1,e2] at this;exact `X e `B
    ·exact q
    ·have:=`sH hv.nd j i `xQ `tW q
     rw[`eO,`eO,e1,e2] at this;exact `X e.symm `B
   subst F;rw[ex,ey,← e1,← e2]
  rw[p20];have h':¬(`IZ<`I_∨(`IZ=`I_/\(`CT).2<(`CU).2)):=λz=>by
   rw[p20.mpr z] at h;cases h
  have:`I_≠`IZ∨(`CU).2≠(`CT).2:=by
   by_cases q1:`I_=`IZ
   ·exact `q λq2=>Y (U2 q1 q2)
   ·exact `o q1
  omega
theorem Rd0{Q:`gH}(hv:`ae_)(h:∀t,Q (`a (`XX)) s):`i `ch A (`aCs v) Q E s:=by
 obtain⟨a,o,n,t,u,rfl,e1,e2,e3⟩:=hv;show `i _ _ (`tl `b_>>=λT=>if (T != `cW)=`d then `kZ else do return (← `HW `b_)[0]?) _ _ _;refine A0 (E8 (T := `dC) ⟨o,e1,e2⟩ ?_);rw[`bD];exact A0 (A10 e1 e3 (A1 (h t)))
theorem firstsP:∀{vs:`H} {Q:`ab (`gc)->`dy},(∀v∈vs,`X_)->(∀(fs:`H) (ns:`aG),IntsAre fs ns->fs.length=`bF->Q (`X0) s)->`i `ch A (vs.mapM `aCs) Q E s
 | [],Q,_,h=>by
  rw[List.mapM_nil];exact A1 (h [] [] `U rfl)
 | `sh,Q,hv,h=>by
  rw[List.mapM_cons];obtain⟨q,hq⟩:=hv v A7;refine A0 (Rd0 hq λt=>A0 (firstsP (`aCt) `aCu));exact h (`XX::fs) (q.1::ns) (`ak q.1 t a) (by rw[`ba,`ba,c])
theorem Pm0{v₁ v₂:`t}{r:`H}{Q:`yR->`dy}(hv:∀v∈`j1,`X_)(h:Q (`OD `d) s):`i `ch A (keyKind' `aCv) Q E s:=by
 rw[keyKind'_eq,`aCw];refine `co;rw[map_eq_pure_bind];refine A0 (firstsP hv `aCu);have h1:((`X0).toArray.all λx=>x.isSome)=`d:=`aB
 rw[`Gq];have h2:(`X0).toArray.filterMap id=fs.toArray:=`aB
 refine `Ia;rw[h2,oneTypeOnly'_eq,`aCw,mapM_typeOf_ints a];simp only[map_pure,`GK];obtain⟨f0,fr,rfl⟩:∃f0 fr,fs=f0::fr:=by
  cases fs with
  | nil=>simp at c
  | cons f0 fr=>exact⟨f0,fr,rfl⟩
 have h3:(`aCx).toArray[0]?=`aCy:=`aB
 rw[h3];have h4:((`aCx).toArray.all λx=>x==`gs `hh)=`d:=by
  simp only[List.all_toArray,`HP,`w1];exact `oN
 simp only[h4,`c7,`GK];exact A1 h
universe zz
section
variable{P:`aa}{w:`L}{s:`r}
theorem PairAt.to{h:`u}(x:`vz)(k:`aCz):`lz h' v q:=by
 obtain⟨a,o,n,t,u,e,e1,e2,e3⟩:=x;exact⟨a,o,n,t,u,e,k a o e1 e2,e2,e3⟩
theorem Prs.to{h:`u}{vs:`H}(x:Prs h vs)(k:`aCz):Prs h' vs/\∀v∈vs,`aCA:=by
 have e:∀v∈vs,`aCA:=λv hv=>by
  obtain⟨q,hq⟩:=`aCB;rw[md0 hq,md0 (`hc k)]
 refine⟨⟨`f!,?_⟩,e⟩
 ·obtain⟨q,hq⟩:=`aCB
  exact⟨q,`hc k⟩
 ·rw[`aCC e]
  exact x.nd
theorem Oo0{vs:`H}{F:`rh}(ho:`kL=`a (`vA `dE `fB n))(hv:`XY)(h64:`bF<64)
  (h:∀out:`aI,`X1->`I0->F `aCD { s with heap:=sortedHeap `P a vs out }) :
  `i `ch A (Builtin.«list.sort» `AX) F E s:=by
 rw[list_sort_plain];have la:a<`A:=A3 ho;obtain⟨ep,hu⟩:∃ep,(`OI).get? a=`aCE:=⟨_,get?_update_seq ho (`CW)⟩;refine A0 (A10 ho rfl (A0 (`X2 ho rfl (A0 (`X3 hu rfl (A0 (x8 (A0 (`aCF (`uZ))))))))));obtain⟨g,J⟩:∃g,g=`aCG:=`au;have b2:a≠(`OI).objs.size:=by rw[`X4];exact A6 la
 have h6:`vB a=`aCE:=by
  rw[J,`aCH _ _ _ (by rw[`aCI,`X4];exact A6 (Y3 la)),`aCH _ _ _ b2];exact hu
 have kp:`aCJ:=λc o e1 e2=>by
  have b1:c≠a:=λz=>by
   subst z;rw[ho] at e1;cases e1;have e3:`VN=`VO := e2;injection e3 with e3
   exact `X e3 `f
  rw[J];exact A5 _ (A5 _ (by rw[`aCK _ _ _ _ b1];exact e1))
 obtain⟨Z,a7⟩:=hv.to kp;show `i `ch A _ F E { s with heap:=`aCG };rw[← J];dsimp only;have b0:`aCL=`bF:=`aB
 have a5:∀out:`aI,`X1->`I0->F `aCD { s with heap:=g.update a (`e8 λ_=>out) }:=λout p1 p2=>by
  rw[J];exact h out p1 p2
 by_cases h2:`aCL<2
 ·rw[`T6,`T6]
  refine `rN;rw[StateT.run_pure];refine `rN;dsimp only;refine A0 (`X3 h6 rfl (A0 (`X2 h6 rfl ?_ (hsz2:=by rw[`aCM];show (`OF).size<=_;rw[`I1,`S2];omega))));simp only[`aCN,`hG,`dp];have e0:((vs.toArray.zip `fB).map `cf).toList=vs:=by
   have:=A20 (A2 `bF)
   simpa using `B
  refine A1 (a5 _ (by rw[e0]) ?_);rw[e0];refine `aCO
  rw[`F] at hi hj;omega
 ·rw[`ay h2,`ay h2]
  obtain⟨v₁,v₂,r,rfl⟩:∃v₁ v₂ r,vs=`j1:=by
   match vs,b0,h2 with
   | [],_,h2=>simp at h2
   | [_],_,h2=>simp at h2
   | `j1,_,_=>exact⟨v₁,v₂,r,rfl⟩
  refine A0 (Pm0 (s:=`X5) Z.all ?_);have C:=cpP (P:=P) (w:=w) (A:=A) (E:=E) (s:=`X5) Z `d;refine A0 (C9 (runs C (st:=SortSt.mk' (`OD `d) ((`j1).toArray.zip `aCv) #[] 7 `b)
   (Q:=λ_ t=>`OA (`aCP)/\`OB/\Up (od0 g) `iz (`aCP).size)
   ⟨rfl,Array.Perm.refl _,rfl,rfl⟩ (by rw[`I1];simp) (by rw[`I1];exact h64) λt a1 a2 a3=>⟨a1,a2,a3⟩) ?_ `FF)
  rintro⟨⟨⟩,t⟩ s' ⟨es,hp,hf,a8⟩;subst es;dsimp only;refine A0 (`X3 h6 rfl (A0 (`X2 h6 rfl ?_ (hsz2:=by refine B9 (x4 ((`aCM ..).trans (hp.size_eq.trans (`I1 _)))) ?_;rw[`S2];omega))));rw[hf];simp only[`aCN,`hG,`dp];have Y:(`nQ).toList.Perm ((`j1).zip (`j1)):=by
   have:=y8.mp hp
   rwa [`XZ] at this
  have O:∀x∈(`nQ).toList,x.1=x.2/\x.2∈`j1:=λx hx=>by
   have hm:=Y.mem_iff.mp hx;obtain⟨i,hi,e⟩:=`jj hm;rw[`yW] at e;rw[← e];exact⟨rfl,L8 _⟩
  have e2:((`nQ).map `cf).toList=(`nQ).toList.map `cf:=`aB
  refine A1 (a5 _ ?_ ?_)
  ·rw[e2]
   have:=Y.map Prod.snd
   rwa [A20 `aK] at this
  ·rw[e2,`aS]
   refine `aCO
   rw[`F] at hi hj;rw[`eO,`eO];have b3:i<`aCQ:=`Me
   have a4:j<`aCQ:=`uk
   have:=a8 i j `iz[i] `iz[j] a6 (by rw[← hp.size_eq];exact a4) (Bc0 _ i b3) (Bc0 _ j a4);have m1:=O `iz[i] `T;have m2:=O `iz[j] `T;unfold od0 at this;rw[m1.1,m2.1,a7 _ m1.2,a7 _ m2.2] at this
   simpa using `B
theorem T70{vs:`H}{Q:`Z}(hl:`p9 l `fB)(hv:`XY)(h64:`bF<64)
  (h:∀out:`aI,`X1->`I0->Q (`CG) { s with heap:=sortedAll `P vs out }) :
  `i `ch A (`b' `OJ `sm) Q E s:=by
 refine Calls.call_function_entry kind_sorted plain_sorted entry_sorted (args_sorted1 _) ?_;unfold Builtin.«sorted»;refine A0 (m:=checkCount `lA 1 1 _) (A1 (A0 (collect_list hl (A0 (`aCF ?_)))));have F:(`ae2).objs.size=`jw:=by rw[`X4,`aCI]
 obtain⟨g,hg⟩:∃g,g=`aCR:=`au;have J:`vB `jx=`a `ae3:=by
  rw[← F,hg];exact `eq
 have kp:`aCJ:=λc o e1 _=>by
  have lc:=`yB;rw[hg];refine A5 _ ?_;rw[`aCK _ _ _ _ (A6 lc)];exact A5 _ e1
 obtain⟨O,Y⟩:=hv.to kp;show `i _ _ _ _ _ { s with heap:=`aCR };rw[F,← hg];refine A0 (C5 (D8 slot_list_sort ⟨_,J,rfl⟩ entry_list_sort (Oo0 (s:=`X5) J O h64 λout p1 p2=>`NJ) (args_list_sort _)));refine `H7;have p3:`I0:=by
  rw[← `aCC λv hv=>Y v `aCS];exact p2
 have:=h out p1 p3;unfold sortedAll at this;rw[hg];exact `B
universe zz
universe SoT
namespace SoT
noncomputable def le2(a b:`dh):`N:=!lt2 b a
noncomputable def srt(ps:`eP):`eP:=ps.mergeSort le2
theorem wt0{a b:`dh}:`vC↔¬(b.1<a.1∨(b.1=a.1/\b.2<a.2)):=by
 unfold le2 lt2;rw[`Rr,decide_eq_false_iff_not]
theorem Sz0(a b c:`dh)(h1:`vC)(h2:le2 b c=`d):le2 a c=`d:=by rw[wt0] at *;omega
theorem R50(a b:`dh):(le2 a b||le2 b a)=`d:=by rw[Bool.or_eq_true,wt0,wt0];omega
theorem Sh0{a b:`dh}(h1:`vC)(h2:le2 b a=`d):a=b:=by
 rw[wt0] at *;exact `aCT
theorem d20:∀{l m:`eP},l.Perm m->`aCU `X6->m.Pairwise `X6->l=m
 | [],m,h,_,_=>by rw[List.nil_perm.mp h]
 | a::l,[],h,_,_=>by exact `X (List.perm_nil.mp h) `T
 | a::l,b::m,h,h1,h2=>by
  have self:∀x:`dh,le2 x x=`d:=λx=>by rw[wt0];omega
  have F:`vC:=by
   rcases `b1 (h.mem_iff.mpr (A7 (a:=b) (l:=m))) with e|e
   ·rw[e];exact self a
   ·exact Ds0 h1 e
  have J:le2 b a=`d:=by
   rcases `b1 (h.mem_iff.mp (A7 (a:=a) (l:=l))) with e|e
   ·rw[e];exact self b
   ·exact Ds0 h2 e
  have e:=Sh0 F J;subst e;rw[d20 (List.Perm.cons_inv h) (Dt0.mp h1).2 (Dt0.mp h2).2]
theorem oa0(ps:`eP):(`ql).Perm ps:=List.mergeSort_perm ps le2
theorem b70(ps:`eP):(`ql).Pairwise `X6:=List.pairwise_mergeSort Sz0 R50 ps
theorem Qk0{l ps:`eP}(hp:l.Perm ps)(h:`aCU (λa b=>`aCh)):l=`ql :=
 d20 (hp.trans (oa0 ps).symm) (h.imp λ{a b} z=>by rw[p20] at z;rw[wt0];omega) (b70 ps)
universe SoT
namespace L2
open Spec PyProof.Rows SoT
noncomputable def PrV(H:Hp):`C->`eP->Prop
 | [],[]=>`eh
 | `sh,`uF=>(∃a,`g8/\H a=`a (`X7))/\PrV H vs qs
 | _,_=>`cK
section
variable{s:`r}
theorem e40(I:`y)(h:H a=`a (`X7)):`lz `P `b_ q:=by
 obtain⟨its,rv,⟨o,e1,e2,n,e3⟩,_⟩:=`d4 (X:=X) (xs:=`ae4) (`o (`o h));cases rv with
 | cons r1 rv =>
  cases rv with
  | cons r2 rv =>
   cases rv;obtain⟨t,rfl⟩:=r1;obtain⟨u,rfl⟩:=r2;exact⟨a,o,n,t,u,rfl,e1,e2,e3⟩
theorem Yd0(I:`y):∀{ys:`C} {its:`H} {ps:`eP},`Tv->`X8->its.map `OH=ps/\(∀v∈its,`X_)/\∀v∈its,∃a,`g8/\`aCV/\H a=`a (`w [`c (`aCW).1,`c (`aCW).2])
 | [],_,[],`U,_=>⟨rfl,`aCX,`aCX⟩
 | [],_,`dR,`U,h=>`hK
 | `x4,_,[],`ak _ _,h=>`hK
 | `x4,_,q::ps,`ak r rv,h=>by
  obtain⟨⟨a,rfl,ha⟩,h2⟩:=h;cases (show _=`jR from r);obtain⟨i1,i2,i3⟩:=Yd0 I rv h2;have e:=md0 (e40 I ha);refine⟨by rw[`aC,i1,e],`f!,`f!⟩
  ·rcases `jk with rfl|hv
   ·exact⟨q,e40 I ha⟩
   ·exact i2 v hv
  ·rcases `jk with rfl|hv
   ·exact⟨a,rfl,A7,by rw[e];exact ha⟩
   ·obtain⟨b,e1,e2,e3⟩:=i3 v hv
    exact⟨b,e1,A9 _ e2,e3⟩
theorem ie0{h:`u}{ys:`C}:∀{vs:`H},(∀v∈vs,∃a,`g8/\`aCV/\H a=`a (`w [`c (`CV).1,`c (`CV).2]))->∃zs,`bm zs vs/\PrV H zs (`aCo)/\∀z∈zs,z∈ys
 | [],_=>⟨[],`U,`fE,λz hz=>by cases hz⟩
 | `sh,hv=>by
  obtain⟨a,rfl,m,e⟩:=hv v A7;obtain⟨zs,z1,z2,z3⟩:=ie0 (vs:=vs) `aCt
  exact⟨`a9::zs,`ak rfl z1,⟨⟨a,rfl,e⟩,z2⟩,λz hz=>by
   rcases `Xm with rfl|hz
   ·exact m
   ·exact z3 z hz⟩
theorem dy0:`cv X `OJ (λxs H Q=>∃(p:`e) (ys:`C) (ps:`eP),`hg/\`Gz/\`X8/\`Gg/\`X9/\∀l zs,`AN->PrV H zs (`ql)->(∀z∈zs,z∈ys)->Q `jC (upd H l (`n zs))):=by
 intro pins s σ H xs us Q I r h;obtain⟨p,ys,ps,rfl,hq,hp,hn,J,k⟩:=h;obtain⟨u,rfl,rx⟩:=`ko;cases rx;obtain⟨its,rv,pl,hz⟩:=`eJ;obtain⟨i1,i2,i3⟩:=Yd0 I rv hp;have hl:`k5=`M:=by rw[← i1,`F]
 refine T70 `fI ⟨i2,by rw[i1];exact hn⟩ `g λout p1 p2=>?_
 have hs:`ae0=`ql:=by
  refine Qk0 ?_ p2;have:=p1.map `OH
  rwa [i1] at this
 obtain⟨zs,z1,z2,z3⟩:=ie0 (H:=H) (h:=`P) (ys:=ys) (vs:=`aCY) λv hv=>i3 v `aCS
 rw[hs] at z2;obtain⟨e,he⟩:=sortedAll_at `P its out;have F:H `jx=`b:=`pz `I2;refine⟨`CG,_,`gx (t':=`a1) (a:=`jw) (o:=`n zs) (λb o hb=>sortedAll_old hb) `I2 ⟨?_,`aCY,e,z1,he⟩,rfl,k _ zs F z2 z3⟩;rw[z1.length,p1.length_eq];rw[`e7] at hz;exact hz
universe zz
universe L2
namespace DL
open Spec PyProof.Rows L2 SoT
noncomputable def pD(q:`dh):D:=`X7
noncomputable def qp0:`s->`aH (`eP)
 | []=>`r0
 | `aCZ::ds=>(`I3).map λr=>`lQ::r
 | _=>`b
noncomputable def qt0:`K
 | `mw=>(`I3).bind λps=>if `Gg/\`X9 then `aC_ else `b
 | _=>`b
theorem e00:∀ps:`eP,`X'=`a ps
 | []=>rfl
 | q::ps=>by show (`X').map _=_;rw[e00 ps];rfl
theorem Uf0{ps:`eP}(h1:`Gg)(h2:`X9):qt0 [`n (`ex pD)]=`aC_:=by
 show (`X').bind _=_;rw[e00,`E,`VI]
theorem Y20:∀{ds:`s} {ys:`C} {ps:`eP},Rps K H B ds ys->`I3=`a ps->`X8/\∀y∈ys,∃a,y=`a9/\`jM
 | [],ys,ps,r,h=>by
  rw[o8] at r;subst r;cases h;exact⟨`fE,λy hy=>by cases hy⟩
 | `aE,ys,ps,r,h=>by
  rw[o7] at r;obtain⟨x,t,rfl,r1,r2⟩:=r;unfold qp0 at h;split at h
  ·rename_i e;cases e
  ·rename_i i j ds' e
   injection e with e1 e2
   subst e1;subst e2;obtain⟨rs,e3,rfl⟩:=`x7;obtain⟨i1,i2⟩:=Y20 r2 e3;rw[W0] at r1;obtain⟨a,xs,rfl,hq,rr⟩:=r1;rw[o7] at rr;obtain⟨x1,t1,rfl,q1,rr⟩:=rr;rw[o7] at rr;obtain⟨x2,t2,rfl,q2,rr⟩:=rr;rw[o8] at rr;subst rr;rw[n6] at q1 q2;subst q1;subst q2;exact⟨⟨⟨a,rfl,hq.2⟩,i1⟩,λy hy=>by
    rcases `b1 hy with rfl|hy
    ·exact⟨a,rfl,hq.1⟩
    ·exact i2 y hy⟩
  ·cases h
theorem im0:∀{zs:`C} {qs:`eP} {a:`e},`aC0->`nC a∈zs->`pP
 | [],_,_,_,hz=>by cases hz
 | `dR,[],_,h,_=>`hK
 | z::zs,`uF,a,h,hz=>by
  obtain⟨⟨b,e,hb⟩,h2⟩:=h;rcases `Xm with e2|hz
  ·rw[e] at e2
   cases e2;rw[hb];exact λz=>nomatch z
  ·exact im0 h2 hz
theorem Zo0:∀{zs:`C} {qs:`eP},`aC0->(∀z∈zs,∃a,z=`a9/\`jM)->Rps K H B (`Er pD) zs
 | [],[],_,_=>by rw[`uB,o8]
 | [],`dR,h,_=>`hK
 | `dR,[],h,_=>`hK
 | z::zs,`uF,h,hb=>by
  obtain⟨⟨a,rfl,ha⟩,h2⟩:=h;rw[`aC,o7];refine⟨_,_,rfl,?_,Zo0 h2 λy hy=>hb y (A9 _ hy)⟩;obtain⟨b,e,nb⟩:=hb _ A7;cases e;unfold pD;rw[W0];refine⟨a,_,rfl,⟨nb,ha⟩,?_⟩;rw[o7];refine⟨_,_,rfl,`pQ,?_⟩;rw[o7];exact⟨_,_,rfl,`pQ,`go⟩
theorem Yh0(hm:`bn `lA=`b)(hv:`aC1)(ha:`bf)(hg:Gl X `lA := by rfl)
  (he:`fk:=by rfl) (hpl:`i?:=by rfl) :
  PDF X (`bi (`a! `lA p) [e] [] pos) (oA `lo qt0):=.mk λB δ=>(wz0 dy0 hg hm hv `yr `f `f he hpl).imp fun σ H Q ⟨d,en,h,k⟩=>by
 unfold oA z9 v6 at h;cases e1:`as with
 | none=>rw[e1] at h;cases h
 | some x =>
  rw[e1] at h;simp only[`E,`ds] at h;refine`ys;unfold qt0 at h;split at h
  ·rename_i ds he1
   injection he1 with he1
   subst he1;cases e2:`I3 with
   | none=>rw[e2] at h;cases h
   | some ps =>
    rw[e2] at h;simp only[`E] at h;split at h
    ·rename_i hz
     cases h;rw[Y7] at r1;obtain⟨q,ys,rfl,hq,rr⟩:=r1;obtain⟨v1,v2⟩:=Y20 rr e2;refine⟨q,ys,ps,rfl,`hc,v1,hz.1,hz.2,λl zs F J O=>?_⟩;refine k l _ `N? `Oa ⟨zs,j5,?_⟩;refine Rps.same (Z3 F) (Zo0 J λz hz=>?_);obtain⟨a,rfl,nb⟩:=v2 z (O z hz);refine⟨a,rfl,λq=>q.elim nb λq=>?_⟩;subst q;exact im0 J hz F
    ·cases h
  ·cases h
universe DL
namespace DL
open Spec PyProof.Rows L2
noncomputable def oy0(gk gv:GE):GE:=fun δ=>`Xs λa=>`aAt λk=>(gv δ).map λb=>`bk (`o [k]) [b]
section
variable{ke ve:`D}{gk gv:`el}
theorem ou0(hk:PD X ke gk)(hv:PD X ve gv):PDF X (.Dict `CY [ve] pos) (oy0 gk gv):=.mk λB δ pins s σ H Q I ⟨d,en,h,k⟩=>by
 unfold oy0 at h;cases e1:gk δ with
 | none=>rw[e1] at h;cases h
 | some a =>
  rw[e1] at h;simp only[`E] at h;cases e2:J2 a with
  | none=>rw[e2] at h;cases h
  | some key =>
   rw[e2] at h;simp only[`E] at h;cases e3:gv δ with
   | none=>rw[e3] at h;cases h
   | some b =>
    rw[e3] at h;cases h;have hb:`sb:=`x';have hp:`rS:=`fx;have I1:`aAp:=`aAq;have F:Env X.K `nN `yX σ δ:=en.fresh hp;have pp:=Xr0 (pos:=pos) (hk `yX δ) (hv `yX δ) (Vo0 (X:=X) (pos:=pos));rw[arm_eval_Dict,zip_pairTrees `CY [ve] `v pos rfl rfl,dictDisplay_pairs (pairTrees `CY [ve] `v pos) (λz=>by have hn:=`ae6;rw[z] at hn;cases hn) `aC2];refine A0 (k6 (`co));unfold subDict;refine A0 (wpAny_alloc ?_);refine `u_;rw[`I `aC2];refine A0 (thn (pp `h _ σ _ (λps H2=>∃v1 v2,ps=[(v1,v2)]/\Rp X.K H2 `yX a v1/\Rp X.K H2 `yX b v2/\`e1 `nN H2) I1
     ⟨a,F,e1,λv1 H1 s1 r1=>⟨b,`Hk s1,e3,λv2 H2 s2 r2=>⟨v1,v2,rfl,`lg,r2,`ur⟩⟩⟩) λvs s2 ⟨ps,H2,I2,rel,v1,v2,O,r1,r2,sm⟩=>?_)
    subst O;cases rel with
    | @cons _ q _ _ rh rt =>
     cases rt;obtain⟨q1,q2⟩:=q;have ek:=vr0 e2 r1;obtain⟨J,Y⟩:=rh;rw[ek] at J;refine `uZ;refine `co;simp only[`i9,`mD];refine A0 (A0 (k70 I2 (sm _ _ j5) `f J Y λh' tk I3 _=>`cw));refine A1 (A1 (A1 (A1 ⟨`cu,_,I3,rfl,?_⟩)));refine k `A _ hp (λc o e=>?_) ⟨[v2],j5,rfl,?_⟩
     ·have hc:c≠`A:=T7 e hp
      rw[Z0 hc];exact sm c o (by rw[Z0 hc];exact e)
     ·have:=r2.mono (Gr.own (H:=H2) (B:=`ae5) (a:=`A) (o:=.dK (`ig [] key v2)) (`dr))
      rw[o7];exact⟨v2,[],rfl,`B,`go⟩
universe zz
universe DL
namespace W
open DL
noncomputable def Nx0:D->Str
 | `w (`J n::_)=>n
 | _ => ""
inductive Pt where
 | text (w:Str)|row (vs:`s)|table (ps:`cV)|rcd (c:Str) (ps:`cV)
variable{ps qs:`ab W.Pt}
noncomputable def pr(p:`qm):D:=`w `aC3
noncomputable def Pt.d:Pt->D
 | `sK=>`aC4
 | `mL=>`w [`C3,`Qm]
 | `jl=>`w [`vK,`qU]
 | `yY=>`w [`qp,`mB,`qU]
noncomputable def Pt.vals:Pt->`s
 | `I4=>[]
 | `mL=>vs
 | `jl=>`hk
 | `X!=>`hk
noncomputable def Pt.pnames:Pt->`j
 | `I4=>[]
 | `lB _=>[]
 | `jl=>`fM
 | `X!=>`fM
noncomputable def Pt.cls:Pt->`j
 | `hj c _=>[c]
 | _=>[]
noncomputable def Pt.all(p:Pt):`j:=p.pnames++p.cls
theorem g00(ps:`cV):`aC5:=by
 rw[R8 `aC6 (λd hd=>by
  obtain⟨p,hp,rfl⟩:=`fn;exact`aC7),`aS]
 rfl
theorem i80(ps:`cV):R6 `bs noT `fL `CZ `hi=`a ((`fM).map `J):=by
 rw[R8 (λd=>`J (Nx0 d)) (λd hd=>by
  obtain⟨p,hp,rfl⟩:=`fn;exact`aC7),`aS,`aS]
 rfl
noncomputable def Pt.few(p:Pt):Prop:=`hv<=`R
noncomputable def zz0:Str := `aC8
noncomputable def cg(i:Int):Nat:=zz0.cps.toList.getD `g4 0
theorem ex0(i:Int)(h0:`na)(h1:i<36):ixD (`wa) `dL=`a (`J ⟨#[cg i]⟩):=by
 have hl:zz0.cps.toList.length=36:=`aq
 have hz:zz0.length<=`R:=`aq
 have:=ys0 (xs:=zz0.cps.toList) (i:=i) h0 (`aC9) 0;simp only[ixD,`I hz,`B,`ds];rfl
noncomputable def ones(l:`l):`j:=`d9 λc=>`abY
noncomputable def strOf(l:`l):Str:=⟨l.toArray⟩
theorem join_ones(l:`l):`acp "" (ones l)=`yZ:=by
 have J:∀(l:`l) (F:`l),`aC' (λa p=>a++`OO++p.cps) `ae9=(F++l).toArray:=by
  intro l
  induction l with
  | nil=>intro F;simp[ones]
  | cons c l ih =>
   intro F;show `aC' _ (`aC!)=_;have e:`aC!=(F++[c]).toArray:=by
    have:`OO=#[]:=rfl;rw[`B];simp
   rw[e,ih];simp
 cases l with
 | nil=>rfl
 | cons c l =>
  show `aC?=_;unfold strOf;congr 1;exact J l [c]
theorem qz0:∀l:`l,`aDa=`cO
 | []=>rfl
 | c::l=>by
  show 1+`aDa=`cO+1;rw[qz0 l];omega
universe W
variable{ps qs:`ab W.Pt}
namespace Ha
open DL
noncomputable def t40:GS:=(u6 (R0 1 (W8 (z9 (o2 `V `vH b8) v6)))
 (u6 (b7 `fK (o2 `V `vH G6))
 (u6 (U3 `aDb
 (u6 `aDc
 (u6 `aDd
 t6)) 100000)
 (u6 (Q7 (sj0 (oA `gB t00)))
 t6))))
variable{l:`ng}{g:DL.GE}{x b a:Nat}{p:W.Pt}{v:`k9}{B:`l}
noncomputable def th0:`j:=[`qn, "out", "rest"]
noncomputable def Q5:`K:=mkN 1 th0 t40
noncomputable def i40:GS:=(u6 (ifD (ob (o2 `V `cD ltD))
 (u6 (Z5 (o2 (o2 (unG zr0 `ea) `V K6) `aQ u40))
 t6)
 t6)
 (u6 (Z5 (o2 `ea `V K6))
 t6))
noncomputable def gg0:`j:=`oi
noncomputable def uj0:`K:=mkF 1 gg0 i40
noncomputable def js0:GS:=(u6 (Z5 (qn0 `vI (o2 `c2 `an `nU)))
 t6)
noncomputable def sg0:`j:=`l?
noncomputable def zq0:`K:=mkF 2 sg0 js0
noncomputable def q00:GS:=(u6 (Q7 (Z9 1 [] (Xy0 `V) `bs noT (oA `di dm0)))
 t6)
noncomputable def u90:`j:=`ET
noncomputable def ze0:`K:=mkN 1 u90 q00
noncomputable def q60:GS:=(u6 (ifD (ob `aDe)
 (u6 (Q7 (oA (z9 (o2 `ea (o2 `aDf (o2 `an `V ym0) u40) K6) v6) Q5))
 t6)
 t6)
 (u6 (Q7 (o2 (oA (z9 (o2 (o2 `ea `vT K6) `aQ o9) v6) Q5) (oA `di ze0) l00))
 t6))
noncomputable def qr0:`j:=`I5
noncomputable def wa0:`K:=mkN 2 qr0 q60
noncomputable def rc0:GS:=(u6 (Z5 (o2 (o2 `iD (oA `aDg V2) K6) (oA `X? (ck0 `Q4)) o9))
 t6)
noncomputable def rb0:`j:=`bB
noncomputable def yh0:`K:=mkF 1 rb0 rc0
noncomputable def qv0:GS:=(u6 (ifD `hW
 (u6 (Q7 (oA `vJ ze0))
 t6)
 t6)
 (u6 `oX
 t6))
noncomputable def p10:`j:=`bB
noncomputable def yp0:`K:=mkN 1 p10 qv0
noncomputable def rs0:GS:=(u6 (ifD (ob (o2 `V `nW mu0))
 (u6 (Z5 `cD)
 t6)
 t6)
 (u6 (ifD `qu
 (u6 (Z5 (o2 (o2 `iD (o2 `aDf `afC u40) K6) `ea o9))
 t6)
 t6)
 (u6 (Z5 (o2 (o2 `iD (oA `di uj0) K6) `aQ o9))
 t6)))
noncomputable def q80:`j:=`l?
noncomputable def y30:`K:=mkF 2 q80 rs0
noncomputable def qc0:GS:=(u6 (ifD `aDh
 (u6 (Q7 (oA (z9 `an `iA) wa0))
 t6)
 t6)
 (u6 (ifD (ob (oA `wn zq0))
 (u6 (b7 `c5 (o2 `V `QJ ixD))
 (u6 (Q7 (o2 (oA (z9 (o2 (o2 `iD (oA `hn yh0) K6) `j5 o9) v6) Q5) (oA `hn yp0) l00))
 t6))
 t6)
 (u6 (Q7 (oA (z9 (oA `wn y30) v6) Q5))
 t6)))
noncomputable def qd0:`j:=[`hp, `Q3, `C0, `C1, `hl]
noncomputable def y20:`K:=mkN 4 qd0 qc0
noncomputable def q50:GS:=(u6 (ifD `hW
 (u6 `oX
 t6)
 t6)
 (u6 (ifD `kC
 (u6 `I6
 t6)
 t6)
 (u6 `aDi
 (u6 (ifD (ob (o2 `fL `sL eqD))
 (u6 (Y0 (zf0 1 `c2))
 t6)
 t6)
 (u6 (G3 `C6 `fK
 (u6 `aDj
 t6))
 (u6 (my0 1)
 t6))))))
noncomputable def qe0:`j:=[`hl, "items", `q!]
noncomputable def zd0:`K:=mkN 1 qe0 q50
noncomputable def av0:GS:=(u6 `aDi
 (u6 `aDk
 (u6 `PT
 (u6 (R0 4 (W8 (z9 (j9 (z9 `qt `vU)) v6)))
 (u6 (U3 `aDl
 (u6 `aDm
 (u6 `aDn
 (u6 (ifD `aDo
 (u6 `aDp
 t6)
 (u6 (ifD `aDq
 (u6 `aDr
 (u6 `aDs
 t6))
 t6)
 t6))
 t6))) 100000)
 (u6 (my0 1)
 t6))))))
noncomputable def Z10:`j:=[`hp, "out", `C0, `C1, "waiting", `Q3]
noncomputable def qm0:`K:=mkN 1 Z10 av0
noncomputable def bt0:GS:=(u6 (Z5 (o2 (oA (z9 (Z9 2 [] (ju0 (z9 (oA `di qm0) v6) `aQ) `lU noT (o2 `V `an K6)) v6) Wh0) (gc (`aDt)) b8))
 t6)
noncomputable def it0:`j:=`oj
noncomputable def y50:`K:=mkF 1 it0 bt0
noncomputable def pz0:GS:=(u6 (Z5 (qn0 (K7 `gA `fL) (K7 `gA `c2)))
 t6)
noncomputable def t10:`j:=`l!
noncomputable def O6:`K:=mkF 1 t10 pz0
noncomputable def qq0:GS:=(u6 (ifD (ob0 `hW `kC)
 (u6 `oX
 t6)
 t6)
 (u6 (Q7 (Z9 1 [] `C6 `bs noT `fL))
 t6))
noncomputable def u50:`j:=`bB
noncomputable def z60:`K:=mkN 1 u50 qq0
noncomputable def Z70:GS:=(u6 (ifD `hW
 (u6 (Z5 (j9 (z9 `nS `vJ)))
 t6)
 t6)
 (u6 (ifD `kC
 (u6 (Z5 (j9 (z9 `hm (z9 (oA `vJ V2) v6))))
 t6)
 t6)
 (u6 (ifD `Ya
 (u6 (Z5 (j9 (z9 `C5 `aDu)))
 t6)
 t6)
 (u6 (Z5 (j9 (z9 `sL (z9 `c2 `aDu))))
 t6))))
noncomputable def ax0:`j:=`bB
noncomputable def xm0:`K:=mkF 1 ax0 Z70
noncomputable def sy0:GS:=(u6 (Z5 (j9 (z9 (o2 `fL `aQ ixD) (z9 (o2 `c2 `aQ ixD) v6))))
 t6)
noncomputable def rd0:`j:=`l!
noncomputable def Q3:`K:=mkF 1 rd0 sy0
noncomputable def gf0:GS:=(u6 (ifD `hW
 (u6 `oX
 t6)
 t6)
 (u6 (ifD `kC
 (u6 `I6
 t6)
 t6)
 (u6 `aDv
 t6)))
noncomputable def oh0:`j:=`bB
noncomputable def m_values:`K:=mkN 1 oh0 gf0
noncomputable def py0:GS:=(u6 (ifD `aDw
 (u6 `kD
 t6)
 t6)
 (u6 (G3 (q40 `aDx) `c5
 (u6 (ifD `aDy
 (u6 (ifD `aDz
 (u6 `kD
 t6)
 t6)
 t6)
 (u6 (ifD `aDA
 (u6 `kD
 t6)
 t6)
 t6))
 t6))
 (u6 (Z5 `vM)
 t6)))
noncomputable def pu0:`j:=[`l9, `l', `q!, `EN, `OT]
noncomputable def xn0:`K:=mkF 4 pu0 py0
noncomputable def tv0:GS:=(u6 (b7 `b! (oA (z9 (Z9 1 [] `jm `bs noT `aDB) v6) ni0))
 (u6 (Q7 (Z9 1 [0,1,3] `jm `bs (ob (oA (z9 `an (z9 `bt `PS)) xn0)) `V))
 t6))
noncomputable def xg0:`j:=[`l9, `l', `wU, `EN]
noncomputable def z10:`K:=mkN 3 xg0 tv0
noncomputable def t70:GS:=(u6 (R0 2 (W8 (z9 (j9 (z9 `cD `vU)) v6)))
 (u6 (R0 3 (oy0 `cD `vM))
 (u6 (R0 4 (oy0 `cD `vM))
 (u6 (b7 `ho `cD)
 (u6 (U3 `aDC
 (u6 `aDD
 (u6 `aDE
 (u6 (G3 `aDF `n4
 (u6 (ifD `aDG
 (u6 (V0 `qs (`ii 3 `OW))
 (u6 (V0 `qs (`ii 4 `OX))
 (u6 `aDH
 t6)))
 t6)
 t6))
 t6))) 100000)
 (u6 (my0 2)
 t6))))))
noncomputable def tr0:`j:=[`l9, `l', `wU, "mine", "yours", `qn, `q!, `OT]
noncomputable def xh0:`K:=mkN 2 tr0 t70
noncomputable def en0:GS:=(u6 (Q7 (Z9 1 [] `aDI `bs `qu `c2))
 t6)
noncomputable def lk0:`j:=`bB
noncomputable def xw0:`K:=mkN 1 lk0 en0
noncomputable def kq0:GS:=(u6 (R0 3 `qo)
 (u6 (R0 4 (oA `ey td0))
 (u6 (R0 5 (W8 `gB))
 (u6 (U3 `aDJ
 (u6 `aDK
 (u6 (ifD `aDL
 (u6 `aDM
 (u6 `aDN
 (u6 `aDO
 t6)))
 t6)
 t6)) 100000)
 (u6 (my0 3)
 t6)))))
noncomputable def kb0:`j:=[`hp, "k", "left", "order", "seen", "waiting", `hl]
noncomputable def vd0:`K:=mkN 3 kb0 kq0
noncomputable def V20:GS:=(u6 (Q7 (oA (z9 `V (z9 `an (z9 `qq v6))) vd0))
 t6)
noncomputable def Wt0:`j:=`hD
noncomputable def sr0:`K:=mkN 2 Wt0 V20
noncomputable def ra0:GS:=(u6 (ifD `hW
 (u6 `Yb
 t6)
 t6)
 (u6 (ifD `kC
 (u6 `aDP
 t6)
 t6)
 (u6 (b7 `fK (oA (z9 `aff `gB) mg0))
 (u6 (ifD `Ya
 (u6 (Z5 (j9 (z9 `C5 `ey)))
 t6)
 t6)
 (u6 (Z5 (j9 (z9 `sL (z9 `c2 `ey))))
 t6)))))
noncomputable def rf0:`j:=[`hl, `Q0, `wU]
noncomputable def yd0:`K:=mkF 2 rf0 ra0
noncomputable def mj0:GS:=(u6 (b7 `fK (Z9 1 [1] `aDI `bs noT (ifG `qu `aDQ `V)))
 (u6 (Z5 (oA (z9 `V `ey) yd0))
 t6))
noncomputable def sf0:`j:=[`hl, `oh, `Q0]
noncomputable def G5:`K:=mkF 2 sf0 mj0
noncomputable def er0:GS:=(u6 (b7 `fK (qi0 (oA `hr sr0)))
 (u6 `PT
 (u6 (G3 (ow0 `ey) (yj0 4 5)
 (u6 (V0 `aDR (`ii 3 `bM))
 t6))
 (u6 (Z5 (sj0 (oA (z9 (Z9 1 [0,3] `jm `bs noT (oA `aDS G5)) v6) V4)))
 t6))))
noncomputable def lm0:`j:=[`hp, "k", "order", `oh, `qn, `hl]
noncomputable def z20:`K:=mkF 2 lm0 er0
noncomputable def b30:GS:=(u6 (b7 `fK (oA `di `I7))
 (u6 (b7 `b! (oA `gB `I7))
 (u6 (b7 `c5 (oA `C4 xh0))
 (u6 `Yc
 (u6 (U3 `aDT
 (u6 (b7 `c5 `bM)
 (u6 `Yc
 t6)) 100000)
 (u6 (Q7 (oA `qr qt0))
 t6))))))
noncomputable def Z90:`j:=[`C9, `qA, `l9, `l', `wU, "rest"]
noncomputable def tx0:`K:=mkN 2 Z90 b30
noncomputable def b20:GS:=(u6 (b7 `fK (oA (z9 (Z9 1 [] (zt0 (oA `hr tx0)) `bs noT (j9 (z9 `c2 `X?))) v6) i10))
 (u6 (b7 `b! (Z9 2 [2] (tw0 (z9 (oA `gB `I7) v6)) `lU noT (ifG (ob (o2 `V `bt `OP)) (j9 (z9 `EB (z9 (o2 `bt `V ym0) v6))) `an)))
 (u6 (Z5 (j9 (z9 `ahN (z9 `aDU v6))))
 t6)))
noncomputable def m40:`j:=[`C9, `qA, `aif, "rows"]
noncomputable def rw0:`K:=mkF 2 m40 b20
noncomputable def q70:GS:=(u6 (ifD `hW
 (u6 `oX
 t6)
 t6)
 (u6 (b7 (gN 1) `C2)
 (u6 (ifD (ob (o2 `fL `hm neD))
 (u6 (b7 (gN 1) `afg)
 t6)
 t6)
 (u6 (Q7 (`aDV))
 t6))))
noncomputable def w70:`j:=`E6
noncomputable def O7:`K:=mkN 1 w70 q70
noncomputable def m70:GS:=(u6 (ifD `qu
 (u6 (Z5 `aDQ)
 t6)
 t6)
 (u6 `Yb
 t6))
noncomputable def oz0:`j:=`ok
noncomputable def U5:`K:=mkF 2 oz0 m70
noncomputable def to0:GS:=(u6 (ifD `hW
 (u6 `oX
 t6)
 t6)
 (u6 (ifD `kC
 (u6 `I6
 t6)
 t6)
 (u6 `aDv
 t6)))
noncomputable def wv0:`j:=`ol
noncomputable def X7:`K:=mkN 1 wv0 to0
noncomputable def ta0:GS:=(u6 (ifD (ob (o2 `an `vT ltD))
 (u6 (Z5 `age)
 t6)
 t6)
 (u6 (Z5 (o2 (o2 (o2 `an (gc (`c 7919)) K6) `lG o9) (o2 `an (gc (`c 31)) o9) K6))
 t6))
noncomputable def tn0:`j:=`E0
noncomputable def Z6:`K:=mkF 2 tn0 ta0
noncomputable def ng0:GS:=(u6 (Z5 (o2 (o2 (o2 (o2 (o2 (o2 `V (gc (`c 2147483629)) b8) `aQ o9) (o2 (o2 (gc (`aDW)) (o2 (gc (`aDX)) `an K6) o9) (o2 (o2 `ea `an K6) `an K6) o9) K6) `an o9) (gc (`aDY)) b8) `wK G6))
 t6)
noncomputable def m00:`j:=`EX
noncomputable def o6:`K:=mkF 2 m00 ng0
noncomputable def ub0:GS:=(u6 (b7 `b! `aDZ)
 (u6 (ifD `I8
 (u6 (Z5 `nW)
 t6)
 t6)
 (u6 (ifD `aD_
 (u6 (Z5 (j9 (z9 `qt (z9 (o2 (oA (z9 `V (z9 (o2 (gc (`c 40)) `an o9) v6)) o6) `bt b8) v6))))
 t6)
 t6)
 (u6 (ifD `aD0
 (u6 (Z5 (o2 (o2 (oA (z9 `V (z9 (o2 `nV `an o9) v6)) o6) (gc (`c 260)) b8) (gc (`c 130)) u40))
 t6)
 t6)
 (u6 (Z5 (o2 (o2 (o2 (o2 (o2 (o2 `V `aQ o9) (o2 `an `j5 o9) K6) (o2 (gc (`Yd)) `wK o90) Xn0) (o2 (o2 `ea `aD1 K6) `aQ u40) b8) `aQ o9) `aD1 u40))
 t6)))))
noncomputable def u80:`j:=[`c4, `hq, `kh, "_law_way"]
noncomputable def X8:`K:=mkF 3 u80 ub0
noncomputable def vn0:GS:=(u6 (b7 `b! (o2 `aD2 `lG b8))
 (u6 (b7 `c5 (o2 `agL `agM ixD))
 (u6 (ifD `I8
 (u6 (b7 `ho (gc (`J `aD3)))
 (u6 (Z5 (j9 (z9 `nS (z9 (ur0 `Ye (z9 (Z9 1 [0,5] (zm0 (z9 (o2 (oA (z9 `V `Db) o6) `aD4 b8) v6)) `bs noT `aD5) v6)) v6))))
 t6))
 t6)
 (u6 (b7 `j4 (Z9 1 `vR `O2 `bs noT (`Yf)))
 (u6 (ifD `aD6
 (u6 (Z5 (j9 (z9 `hm (z9 (oA `O9 V4) v6))))
 t6)
 t6)
 (u6 (b7 `n4 `aD7)
 (u6 (b7 (gN 8) `aD8)
 (u6 (ifD (ob (o2 `be `ea eqD))
 (u6 (Z5 (j9 (z9 `C5 (z9 (gv 8) v6))))
 t6)
 t6)
 (u6 (Z5 (j9 (z9 `sL (z9 (o2 `an (o2 (oA (z9 `V (z9 (gc (`c 31)) v6)) o6) `qz b8) ixD) (z9 (gv 8) v6)))))
 t6)))))))))
noncomputable def J6:`j:=[`c4, `iX, `kh, "_law_kind", "_law_size", `EY, `qw, `aim, `PV]
noncomputable def O2:`K:=mkF 3 J6 vn0
noncomputable def pw0:GS:=(u6 (b7 `fK (gc (`J `aC8)))
 (u6 (b7 `b! (ur0 `Ye `aD9))
 (u6 (b7 `c5 (o2 (oA (z9 `V (z9 `aD4 v6)) o6) (o2 `afO `aQ o9) b8))
 (u6 (Q7 (Z9 1 [0,2,3,4] (zm0 `gB) `bs noT `aD'))
 t6))))
noncomputable def v50:`j:=[`c4, `kh, `EY, `ail, `lT]
noncomputable def zy0:`K:=mkN 2 v50 pw0
noncomputable def rr0:GS:=(u6 (b7 `b! (o2 `aQ (o2 (oA (z9 (oA `hr Z6) `Db) o6) `bt b8) o9))
 (u6 (b7 `c5 (oA (z9 (oA (z9 `V (z9 (o2 `an `aQ o9) v6)) Z6) `C!) zy0))
 (u6 (Z5 (oA (z9 (Z9 1 [0,1,3,4] (zm0 `iA) `bs noT (`aD!)) v6) V4))
 t6)))
noncomputable def uf0:`j:=[`lE, `Q!, `ain, `kh, `iX]
noncomputable def K8:`K:=mkF 3 uf0 rr0
noncomputable def sw0:GS:=(u6 (b7 `b! `aD?)
 (u6 (ifD `hW
 (u6 (Z5 (j9 (z9 `nS (z9 (U9 (U9 `aEa `aEb W6) W6 (`e? `O4)) v6))))
 t6)
 t6)
 (u6 (ifD `kC
 (u6 (Z5 (j9 (z9 `hm (z9 (U9 (o2 `c2 `aEc o9) W6 (`e? (o2 `Da `qz b8))) v6))))
 t6)
 t6)
 (u6 (ifD `Ya
 (u6 (Z5 (j9 (z9 `sL (z9 `be `vJ))))
 t6)
 t6)
 (u6 (Z5 (j9 (z9 `sL (z9 `be (z9 (U9 (o2 `V `ea ixD) W6 (`e? (o2 `Da (gc (`c 13)) b8))) v6)))))
 t6)))))
noncomputable def sx0:`j:=[`qv, `c4, `iX, `aip]
noncomputable def ye0:`K:=mkF 3 sx0 sw0
noncomputable def pv0:GS:=(u6 (ifD `kC
 (u6 `aDP
 t6)
 t6)
 (u6 (ifD `hW
 (u6 `Yb
 t6)
 t6)
 (u6 (b7 `fK (Z9 2 [] `aEd `lU noT `aEe))
 (u6 (Z5 (o2 (U9 `V W6 `agT) (j9 (z9 (oA `ey V4) v6)) o9))
 t6))))
noncomputable def uz0:`j:=[`qv, `qw, `PV]
noncomputable def V5:`K:=mkF 2 uz0 pv0
noncomputable def tt0:GS:=(u6 (R0 3 (oA `di yu0))
 (u6 (G3 (zm0 (z9 (o2 (oA (z9 `an (z9 `wK v6)) o6) `iD b8) v6)) `c5
 (u6 `aEf
 (u6 `aEg
 (u6 `aEh
 (u6 (ifD `Yg
 (u6 `aEi
 t6)
 (u6 (ifD `aEj
 (u6 (ifD `aEk
 (u6 (Y0 (zf0 3 `aEl))
 (u6 (V0 `aEm `aEn)
 t6))
 (u6 (V0 `aEo `aEn)
 t6))
 (u6 `aEp
 t6))
 t6)
 t6))
 t6)))))
 (u6 (Z5 (sj0 `aDU))
 t6)))
noncomputable def ti0:`j:=[`gE, `c4, `iX, `PU, `aii, `aEq, `lT, `qw]
noncomputable def xa0:`K:=mkF 3 ti0 tt0
noncomputable def vp0:GS:=(u6 (R0 2 (W8 `vU))
 (u6 (G3 (n70 (z9 `aQ `aEr)) `b!
 (u6 `aEs
 t6))
 (u6 (ux0 2 (R0 4 `qq))
 (u6 (G3 `jm `b!
 (u6 `aEt
 t6))
 (u6 (ux0 4 `Yh)
 (u6 (G3 `jm `b!
 (u6 `aEu
 t6))
 (u6 `Yi
 t6)))))))
noncomputable def xi0:`j:=[`gE, `c4, "_law_order", `hq, `C', `PU]
noncomputable def M4:`K:=mkF 2 xi0 vp0
noncomputable def na0:GS:=(u6 (b7 (gN 1) (oA (z9 `V (z9 `aQ (z9 (o2 `aEv `aEw ixD) v6))) K8))
 (u6 (b7 `fK (oA (z9 (oA `afE Z6) `C!) zy0))
 (u6 (b7 `b! (oA (z9 `V (z9 (gc (`c 40)) v6)) Z6))
 (u6 (b7 `c5 (oA (z9 `an (z9 `be `ey)) xa0))
 (u6 (ifD `aEx
 (u6 `aEy
 t6)
 t6)
 (u6 (ifD `aEz
 (u6 `aEA
 t6)
 t6)
 (u6 (Z5 (j9 (z9 `an `hn)))
 t6)))))))
noncomputable def nj0:`j:=[`lE, `aEB, `iX, `c4, `aEC]
noncomputable def wl0:`K:=mkF 1 nj0 na0
universe Ha
variable{l:`ng}{g:DL.GE}{x b a:Nat}{p:W.Pt}{v:`k9}{B:`l}
namespace Pn
open Ha
open DL W
theorem O4(p:Pt)(h:`em):`I9:=by
 cases p with
 | text w=>kernel_rfl
 | row vs =>
  refine `aED
 | table ps =>
  refine `aEE;exact `aEF
 | rcd c ps =>
  refine `aEG;exact `aEF
theorem r00(p:Pt)(h:`em):z60 `ez=`a (`n (p.pnames.map `J)):=by
 cases p with
 | text w=>kernel_rfl
 | row vs=>kernel_rfl
 | table ps =>
  refine X4 rfl `af9;exact `aEH
 | rcd c ps =>
  refine X4 rfl `af';exact `aEH
noncomputable def hd:Pt->D
 | `sK=>`aC4
 | `mL=>`w [`C3,`c `bF]
 | `jl=>`w [`vK,`Pg]
 | `yY=>`w [`qp,`mB,`Pg]
noncomputable def put:Pt->`s->Pt
 | `sK,_=>`sK
 | `lB _,vs=>`mL
 | `jl,vs=>`vF (`Dg)
 | `yY,vs=>`hj c (`Dg)
theorem pq0(p:Pt)(h:`em):xm0 `ez=`a (hd p):=by
 have e:=r00 p h;cases p with
 | text w=>kernel_rfl
 | row vs=>kernel_rfl
 | table ps =>
  refine Z1 rfl (v9 (δ':=`vY) `aR (v9 (δ':=`vY) `aR `fP));rw[`fa];refine m7 (Z7 (Z4 (`x rfl `aEI) `qP));rw[o4 (`x `aEJ rfl)];rfl
 | rcd c ps =>
  refine Z1 rfl (v9 (δ':=`qD) `aR (v9 (δ':=`qD) `aR (v9 (δ':=`qD) `aR ?_)));refine m7 (Z7 (Z4 (`x rfl (`x (d:=`mB) rfl `aEI)) (by show 3<=`R;decide)));rw[o4 (`x `aEK rfl)];rfl
theorem ap0(ns:`j)(vs:`s):mg0 [`n `af!,`lI]=`a (`w ((ns.zip vs).map pr)):=by
 simp only[mg0];rw[List.zip_map_left,`aS];rfl
theorem wu0(p:Pt)(h:`em)(vs:`s):yd0 `Ef=`a (put p vs).d:=by
 have e:=r00 p h;cases p with
 | text w=>kernel_rfl
 | row us=>kernel_rfl
 | table ps =>
  refine Z1 rfl (v9 (δ':=`I') `aR (v9 (δ':=`I') `aR (v9 `aEL `fP)))
  ·rw[o4 (`x `aEJ `n1)]
   exact ap0 _ _
  ·rw[`fa]
   rfl
 | rcd c ps =>
  refine Z1 rfl (v9 (δ':=`I!) `aR (v9 (δ':=`I!) `aR (v9 `aEL
   (v9 (δ':=[`iF,`iG,.sh (`Ph)]) `aR ?_))))
  ·rw[o4 (`x `aEK `n1)]
   exact ap0 _ _
  ·rfl
theorem W90(h:∀d∈l,`ll):`c0 l n=`d:=by
 induction l with
 | nil=>unfold leans;rfl
 | cons d l ih =>
  unfold leans;rw[h d A7,ih `Yj];rfl
theorem ud0(s:Str)(n:Nat):`bx `iP n=`d:=`aEM
theorem u00(h:∀d∈l,`ll):`bx (`w l) (n+1)=`d:=by unfold lean;exact W90 h
mutual
theorem oo0:`atQ
 | `z,_,_=>`atR
 | `da,_,_=>`si
 | `eC,_,_=>`si
 | `rQ,_,_=>`si
 | `cz,0,h=>by unfold lean at h;cases h
 | `cz,n+1,h=>`aEN
 | `dc,0,h=>by unfold lean at h;cases h
 | `dc,n+1,h=>`aEN
 | `my,n,h=>by unfold lean at h;cases h
theorem ro0:`atT
 | [],_,_=>`atU
 | `aE,n,h=>by
  unfold leans at h;rw[`cQ] at h;unfold y60;rw[oo0 d n h.1,ro0 ds n h.2];rfl
end
mutual
noncomputable def nb:`eK
 | `cx=>`m
 | `my=>`m
 | `gT=>nbs xs
 | `gi=>nbs xs
 | _=>`d
noncomputable def nbs:`UY
 | []=>`d
 | `rG=>nb x&&nbs xs
end
mutual
theorem bu0:∀(d e:D),`I?->nb e=`d->`uU=`d->d=e
 | `z,e,_,h2,h=>by cases e<;>unfold deq at h<;>first|rfl|(cases h)
 | `da,e,h1,_,_=>by unfold nb at h1;cases h1
 | `a4,e,_,h2,h=>by
  cases e<;>unfold deq at h<;>first|(cases h;done)|(unfold nb at h2;cases h2;done)|(rw[`rk] at h;rw[h])
 | `es,e,_,h2,h=>by cases e<;>unfold deq at h<;>first|(cases h;done)|(rw[`rk] at h;rw[h])
 | `gT,e,h1,h2,h=>by
  cases e<;>unfold deq at h<;>try (cases h;done)
  unfold nb at h1 h2;rw[`aEO]
 | `gi,e,h1,h2,h=>by
  cases e<;>unfold deq at h<;>try (cases h;done)
  unfold nb at h1 h2;rw[`aEO]
 | `my,e,h1,_,_=>by unfold nb at h1;cases h1
theorem lb0:∀(ds es:`s),nbs ds=`d->nbs es=`d->y60 ds es=`d->ds=es
 | [],[],_,_,_=>rfl
 | [],`dR,_,_,h=>by unfold y60 at h;cases h
 | `dR,[],_,_,h=>by unfold y60 at h;cases h
 | `aE,`tG,h1,h2,h=>by
  unfold nbs at h1 h2;unfold y60 at h;rw[`cQ] at h1 h2 h;rw[bu0 d e h1.1 h2.1 h.1,lb0 ds es h1.2 h2.2 h.2]
end
theorem S20(h:∀d∈l,`I?):nbs l=`d:=by
 induction l with
 | nil=>unfold nbs;rfl
 | cons d l ih =>
  unfold nbs;rw[h d A7,ih `Yj];rfl
structure Pl(d:D):Prop where
 le:`Yk
 nb:`I?
theorem Ra0{d:D}(h:`Yk):zg0 d d=`GO:=by
 unfold zg0;rw[`aEP,oo0 d 50 h];rfl
theorem Qm0{d e:D}(h1:Pl d)(h2:Pl e)(n:d≠e):zg0 d e=`wP:=by
 unfold zg0;rw[`I ⟨h1.le,h2.le⟩];cases q:`uU with
 | false=>rfl
 | true=>exact `X (bu0 d e h1.nb h2.nb q) n
theorem qx0(s:Str):nb `iP=`d:=`aEQ
theorem Qy0(i:Int):nb `dL=`d:=`aEQ
theorem qg0(h:∀d∈l,`I?):nb (`w l)=`d:=by unfold nb;exact S20 h
theorem c40(p:Pt):Pl (hd p):=by
 have ls:∀(ns:`j) (n:Nat),`bx `aER (n+1)=`d:=λns n=>u00 λd hd=>by
  obtain⟨q,_,rfl⟩:=`fn;exact `y_
 have nn:∀(ns:`j),nb `aER=`d:=λns=>qg0 λd hd=>by
  obtain⟨q,_,rfl⟩:=`fn;exact `y0
 have li:∀(i:Int) (n:Nat),`bx `dL n=`d:=λi n=>`aEM
 cases p with
 | text w=>exact⟨u00 λd hd=>by simp only[`aO,`aU,`aV] at hd;rcases hd with rfl|rfl<;>exact `y_,qg0 λd hd=>by simp only[`aO,`aU,`aV] at hd;rcases hd with rfl|rfl<;>exact `y0⟩
 | row w=>exact⟨u00 λd hd=>by simp only[`aO,`aU,`aV] at hd;rcases hd with rfl|rfl<;>first|exact `y_|exact li _ _,qg0 λd hd=>by simp only[`aO,`aU,`aV] at hd;rcases hd with rfl|rfl<;>first|exact `y0|exact Qy0 _⟩
 | table w=>exact⟨u00 λd hd=>by simp only[`aO,`aU,`aV] at hd;rcases hd with rfl|rfl<;>first|exact `y_|exact ls _ _,qg0 λd hd=>by simp only[`aO,`aU,`aV] at hd;rcases hd with rfl|rfl<;>first|exact `y0|exact nn _⟩
 | rcd c w=>exact⟨u00 λd hd=>by simp only[`aO,`aU,`aV] at hd;rcases hd with rfl|rfl|rfl<;>first|exact `y_|exact ls _ _,qg0 λd hd=>by simp only[`aO,`aU,`aV] at hd;rcases hd with rfl|rfl|rfl<;>first|exact `y0|exact nn _⟩
universe Pn
namespace W
open DL StrLaws Builtin.Str
theorem vs0(l:`l):(`yZ).cps.toList=l:=by simp[`bU]
theorem zk0(l:`l):(`yZ).length=`cO:=by show l.toArray.size=_;simp
theorem if0(x:`Dy):`bU `azX=x:=by cases x;simp[`bU]
universe W
namespace Gw
open DL W
noncomputable def t30:GS:=(u6 (ifD `hW
 (u6 `oX
 t6)
 t6)
 (u6 (ifD `kC
 (u6 `I6
 t6)
 t6)
 (u6 (Q7 (Z9 2 [] `C6 `lU noT `an))
 t6)))
noncomputable def t20:`j:=["_law_part_here"]
noncomputable def K3:`K:=mkN 1 t20 t30
universe Gw
namespace Gw
open DL W StrLaws
theorem mul_r(i j:Int)(h:`abA):`aES:=by simp only[K6];rw[`I (`rT)]
theorem w90(i j:Int)(h:`abz):`aES:=by simp only[K6];rw[`I (`o h)]
theorem xp0(i j:Int)(h:0<j):b8 `dL (`d6)=`apX:=by simp only[b8,ii];rw[`f9]
theorem v90{d:D}(h1:`Yl)(h2:`oI)(h3:`cO<`R):Y0 (zf0 i g) δ=`a (.nx (`bq i (.ow (`aA!)))):=by
 unfold Y0 zf0;rw[h1,h2];simp only[`E];rw[`I h3];rfl
theorem bf0(l:`l)(k:Int)(h0:`fb)(h1:k<=`cO):`pU (`yZ) `b (`fU)=`bU (l.take `i4):=by
 show `aET;rw[sliceText_to `aEU,vs0];simp[`bU]
theorem Pa0(l:`l)(k:Int)(h0:`fb)(h1:k<=`cO):`pU (`yZ) (`fU) `b=`bU (l.drop `i4):=by
 show `aET;rw[sliceText_from `aEU,vs0];unfold strOf;congr 2;rw[`IL];rw[`i2];omega
theorem Ov0(a b:`l):`bU a++`bU b=`bU `y1:=by
 show `aC?=⟨_⟩;simp[`bU]
theorem Wx0(a b:`l)(h:`aEV):o9 (`J (`bU a)) (`J (`bU b))=`a (`J (`bU `y1)):=by
 simp only[o9];rw[`I (by rw[zk0,zk0];exact h),Ov0]
universe Gw
namespace Gw
open DL W
theorem ly0(ps:`cV):R6 `lU noT `an [.un,.un] `hi=`ae7:=by
 rw[R8 `aC6 (λd hd=>by
  obtain⟨p,hp,rfl⟩:=`fn;exact⟨_,rfl,rfl,rfl⟩),`aS]
 rfl
theorem po0(p:Pt)(h:`em):`aEW:=by
 cases p with
 | text w=>kernel_rfl
 | row vs =>
  refine `aED
 | table ps =>
  refine `aEE;exact `aEX
 | rcd c ps =>
  refine `aEG;exact `aEX
universe Gw
namespace K22
open Ha
open DL W
inductive Dfs (adj:`f?) (S:`l):Nat->`l->`l->`l->Prop
 | nil (o:`l):Dfs adj S 0 o [] o
 | skip {c:Nat} {o T r:`l} {x:Nat}:`aEY->`sM->`aEZ
 | visit {c:Nat} {o T r:`l} {x:Nat}:x∉o->`Dj->(`lJ++T).length+`gO<=10000->Dfs adj S c `lO `Dr r->`aEZ
theorem sub_len:∀{l m:`l},`Ym->(∀a∈l,a∈m)->`cO<=m.length
 | [],m,_,_=>`c_
 | a::l,m,h,hs=>by
  obtain⟨h1,h2⟩:=S0.mp h;obtain⟨m1,m2,rfl⟩:=List.append_of_mem (hs a A7);have:=`j7 (m:=m1++m2) h2 λb hb=>by
   have:=hs b (`RV);rcases `er `B with q|q
   ·exact B6.mpr (`hJ)
   ·rcases `y2 with rfl|q
    ·exact `X hb h1
    ·exact B6.mpr (`ym)
  simp only[`aM,`ba] at this ⊢;omega
theorem Sp0(adj:`f?)(S:`l)(n:Nat)(hn:`oY)(ha:∀i,i<n->`aE_<=12/\∀j∈`nZ,j<n):∀(M:Nat) (o T:`l),`hw+13*(n - `gO)<=M->M<=5000->`n_->(∀x∈o,`aE0)->`Ja ->
  ∃c r,`sM/\c<=M/\`v2/\(∀x∈r,`aE0)/\`gO<=`aL:=by
 intro M
 induction M with
 | zero =>
  intro o T hM a3 ho F hT;have:T=[]:=`Yn;subst this;exact⟨0,o,`U o,`g0,ho,F,`g0⟩
 | succ M ih =>
  intro o T hM a3 ho F hT;cases T with
  | nil=>exact⟨0,o,`U o,`c_,ho,F,`g0⟩
  | cons x T =>
   rw[`ba] at hM
   by_cases hx:`aEY
   ·obtain⟨c,r,h1,h2,h3⟩:=`aE1
    exact⟨c+1,r,.skip hx h1,`p,h3⟩
   ·have Y:=`Jb
    obtain⟨hl,hj⟩:=ha x Y;have Z:x∉o:=λz=>hx (`lh)
    have O:`Dj:=λz=>hx (`q z)
    have a1:`Yo:=`oZ ⟨ho,`aB,λa ha b hb e=>by
     have:=`Yp;subst this;subst e;exact Z ha⟩
    have J:∀y∈`nY,y<n/\y∉S:=λy hy=>by
     rcases `o_ with z|z
     ·exact F y z
     ·have:=L9.mp z;subst this;exact⟨Y,O⟩
    have a2:(`nY).length<=n:=by
     have:=`j7 a1 (m:=`v0) λy hy=>`j6 (J y hy).1
     rwa [P6] at this
    rw[`aM,`jV] at a2;obtain⟨c,r,h1,h2,h3,h4,h5⟩:=ih `lO `Dr `Yq `g a1 J (λy hy=>by
     rcases `o_ with z|z
     ·exact hj y z
     ·exact `Yr)
    refine⟨c+1,r,.visit Z O (`Jc) h1,`p,h3,h4,?_⟩;rw[`aM] at h5;omega
noncomputable def vis(adj:`f?)(S:`l):Nat->Nat->`l->`aH (`l)
 | 0,_,_=>`b
 | q+1,k,o=>if k∈o∨k∈S then `ae else (adj k).foldlM `Jd (`y3)
theorem q90{f g:`l->Nat->`aH (`l)}(h:∀o j r,f o j=`bL->g o j=`bL):∀(l:`l) (o r:`l),`Ys f o=`bL->`Ys g o=`bL
 | [],o,r,e=>e
 | j::l,o,r,e=>by
  rw[`sN] at e ⊢;cases e1:f o j with
  | none=>rw[e1] at e;cases e
  | some o1 =>
   rw[e1] at e;rw[h o j o1 e1];exact q90 h l o1 r e
theorem g60{adj:`f?}:∀(q k:Nat) (o r:`l),`aE2->vis adj S `qV k o=`bL
 | 0,_,_,_,e=>by cases e
 | q+1,k,o,r,e=>by
  rw[vis] at e ⊢;split at e
  ·rename_i h
   rw[`f9];exact e
  ·rename_i h
   rw[`hH];exact `aE3
theorem U10{adj:`f?}(hj:`Yt):∀{c:Nat} {o T r:`l},`sM->`n_->`Dk->`Ja->∀q,n+1<=q+`gO->T.foldlM `Jd o=`bL:=by
 intro c o T r h
 induction h with
 | nil o=>intro _ _ _ q _;rfl
 | @skip c o T r x hx hd ih =>
  intro ho F hT q hq;have h1:`gO<=n:=by
   have:=`aE4
   rwa [P6] at this
  obtain⟨q,rfl⟩:∃q',q=q'+1:=`aE5;rw[`sN,vis,`I hx];exact ih ho F (`Pj) `qV hq
 | @visit c o T r x hx hs hz hd ih =>
  intro ho F hT q hq;have O:=`Jb;have Y:`Yo:=`oZ ⟨ho,`aB,λa ha b hb e=>by
   have:=`Yp;subst this;subst e;exact hx ha⟩
  have J:∀y∈`nY,y<n:=λy hy=>by
   rcases `o_ with z|z
   ·exact F y z
   ·have:=L9.mp z;subst this;exact O
  have h1:`gO+1<=n:=by
   have:=`aE6
   rwa [P6,`aM,`jV] at this
  obtain⟨q,rfl⟩:∃q',q=q'+1:=`aE5;have e:=ih Y J (λy hy=>by
   rcases `o_ with z|z
   ·exact hj x O y z
   ·exact `Yr) q `avR
  rw[List.foldlM_append] at e;cases e1:(`lJ).foldlM `Jd `lO with
  | none=>rw[e1] at e;cases e
  | some o1 =>
   rw[e1] at e;rw[`sN,vis,`ay (λz=>`cU hx hs),e1];exact `aE3
theorem Y70{adj:`f?}(hj:`Yt){c:Nat}(h:Dfs adj S c [] [x] r)(hx:x<n)(q:Nat)(hq:n+1<=q):`aE7=`bL:=by
 have e:=U10 hj h P1 `aE8 `Yu q (by simpa using hq);rw[`sN] at e;cases e1:`aE7 with
 | none=>rw[e1] at e;cases e
 | some o1=>rw[e1] at e;exact e
noncomputable def t30:GS:=Gw.t30
noncomputable def t20:`j:=Gw.t20
noncomputable def K3:`K:=Gw.K3
noncomputable def nd(l:`l):`s:=`d9 λ(i:Nat)=>`cC `jz
noncomputable def nn(l:`s):`l:=`ajO λd=>match d with|`a4=>`Ml|_=>`b
theorem jh0:∀l:`l,nn (nd l)=l
 | []=>rfl
 | a::l=>by
  have:=jh0 l;unfold nn nd at this ⊢;rw[`aC,`w9];simp only[`aF];rw[`B]
structure GoodD(W:D)(n:Nat):Prop where
 few:`oY
 ex:∃Wb,W=`y4/\`aE9/\∀i,i<n->∃vs,K3 [`v3]=`sO/\`aE'
noncomputable def tgs(vs:`s):`l:=vs.filterMap λv=>match v with|`sP=>`a `h9|_=>`b
noncomputable def v30(W:D)(i:Nat):`l:=match W with
 | `y4=>(match K3 [`v3] with
  | `sO=>`lM
  | _=>[])
 | _=>[]
theorem um0(a b:`l):nd `y1=nd a++nd b:=by unfold nd;rw[`bl]
theorem Sg0(a:`l):(nd a).reverse=nd a.reverse:=by unfold nd;rw[`aE!]
theorem zb0(a:`l):(nd a).length=`v_:=by simp[nd]
theorem Qc0(o:`l)(x:Nat):((`lK).any λy=>eqF y `v5)=`aE?:=by
 unfold nd;rw[`aFa,`oz,`Je,`Yv];constructor
 ·rintro⟨y,hy,e⟩
  have e:`O ((y:Int)=`v1)=`d:=e;have e:=r9 e;have:y=x:=`p
  subst this;exact hy
 ·intro h
  exact⟨x,h,show `O (`v1=`v1)=`d from `PD⟩
theorem ga0(o:`l):((`lK).all λd=>`e4 d)=`d:=by
 unfold nd;rw[`HP,`w1];exact `oN
theorem gv0{adj:`f?}(hj:`Yt):∀(q k:Nat) (o r:`l),`aE2->k<n->`aFb
 | 0,_,_,_,e,_,_,_=>by cases e
 | q+1,k,o,r,e,hk,ho,hon=>by
  rw[vis] at e;split at e
  ·cases e;exact`aFc
  ·rename_i h
   have go:∀(l:`l) (o r:`l),`Ys `Jd o=`bL->(∀j∈l,j<n)->`aFb:=by
    intro l
    induction l with
    | nil=>intro o r e _ ho hon;cases e;exact`aFc
    | cons j l ih =>
     intro o r e hl ho hon;rw[`sN] at e;cases e1:`af? with
     | none=>rw[e1] at e;cases e
     | some o1 =>
      rw[e1] at e;obtain⟨a,b⟩:=gv0 hj q j o o1 e1 (hl j A7) ho hon;exact ih o1 r e (λi hi=>hl i (A9 _ hi)) a b
   refine go _ _ _ e (hj k hk) (`oZ ⟨ho,`aB,λa ha b hb e=>?_⟩) `rZ
   ·rw[`qe] at e;exact h (`o `Jf)
   ·rcases `Yw with z|z
    ·exact hon x z
    ·rw[`sQ];exact hk
theorem Ou0(o:`l)(x:Nat):v70 `d `v5 (`v4)=`a (.bl (`O (x∉o))):=by
 simp only[v70];rw[`I ⟨rfl,ga0 o⟩,Qc0];congr 2
 by_cases h:`Di<;>simp[h]
theorem mo0:∀{vs:`s},(∀v∈vs,`Pl)->∀j∈`lM,j<n:=by
 intro vs h j hj;obtain⟨v,hv,e⟩:=k9.mp hj;rcases h v hv with rfl|⟨z,rfl⟩|⟨i,rfl,hi⟩
 ·cases e
 ·cases e
 ·simp only[`aF,Option.some.injEq] at e
  omega
theorem mh0{W:D}(hW:GoodD W n)(hi:i<n):∃vs,`aFd=`aFd/\(∃d,`aFe/\K3 [d]=`sO)/\v30 W i=`lM/\`aE':=by
 obtain⟨Wb,rfl,hl,h⟩:=hW.ex;obtain⟨vs,e,h1,h2⟩:=h i hi;refine⟨vs,rfl,`aFf,?_,h1,h2⟩
 ·show atI Wb `jz=_
  rw[`Jg,`aF]
 ·unfold v30
  simp only[];rw[e]
theorem mk0{W:D}(hW:GoodD W n):∀i,i<n->∀j∈v30 W i,j<n:=λi hi j hj=>by
 obtain⟨vs,_,_,e,_,h⟩:=mh0 hW hi;rw[e] at hj;exact mo0 h j hj
theorem O4(p:Pt)(h:`em):`I9:=`y5
theorem Yq0(p:Pt)(h:`em)(vs:`s):yd0 `Ef=`ahj:=Pn.wu0 p h vs
theorem po0(p:Pt)(h:`em):`aEW:=Gw.po0 p h
noncomputable def Lv(n:Nat)(v:D):Prop:=`Pl
structure Pw(n:Nat)(p:Pt):Prop where
 few:`hv<=12
 lv:∀v∈`bu,`eQ
theorem Pw.f(h:`o0):`em:=by
 have z:(12:Nat)<=`R:=`ai
 exact B9 `sR z
structure Web(ps:`ao):Prop where
 len:`aFg
 pw:∀p∈ps,Pw `M p
noncomputable def wd(ps:`ao):D:=`aFh
theorem Web.at(h:`aY)(hi:`jg):`aFi=`a ps[i].d/\`Yx=ps[i].d/\Pw `M `vi:=by
 refine⟨?_,?_,h.pw _ (L8 hi)⟩
 ·show atI `n0 `jz=_
  rw[`Yy,`aF];simp[hi]
 ·simp[hi]
theorem Web.good(h:`aY):GoodD `dj `M:=⟨`Jh,`lL,rfl,`Dm,λi hi=>by
 obtain⟨_,e,q⟩:=`Ji;exact⟨`aFj,by rw[e];exact po0 _ q.f,q.few,q.lv⟩⟩
theorem Web.adj(h:`aY)(hi:`jg):`y6=tgs `aFj:=by
 obtain⟨_,e,q⟩:=`Ji;unfold v30 wd;simp only[];rw[e,po0 _ q.f]
theorem lp0(vs:`s):(`lM).length<=`bF:=List.length_filterMap_le _ _
theorem Rv0(j:Nat)(vs:`s):tgs (`j8::vs)=j::`lM:=by unfold tgs;rw[`w9];simp only[`aF]
theorem q20:∀vs:`s,(∀v∈vs,`eQ)->`aFk=`a `aFl
 | [],_=>rfl
 | `sh,h=>by
  have ih:=q20 vs λu hu=>h u `OG
  unfold R6;rcases h v A7 with rfl|⟨z,rfl⟩|⟨j,rfl,hj⟩
  ·exact ih
  ·exact ih
  ·show (match o2 `V `aQ ixD [`iQ] with|`b=>`b|`d8=>(`aFk).map λr=>y::r)=_
   rw[ih,Rv0];rfl
theorem sp0(h:`o0):xw0 `ez=`aFm :=
 X4 rfl (Y4 (V7 (Y9 (items:=`bu) (by
  show `gP (oA `di `iB [`kE]) uw0=_;rw[`Jj,O4 p h.f];rfl) h.f (q20 `bu h.lv))))
noncomputable def lkv(f:`gQ):D->D
 | `sP=>`w [`nT,`c (f `h9:Int)]
 | v=>v
noncomputable def rel(f:`gQ)(p:Pt):Pt:=`Dl p (`Pq)
theorem te0(h:`e9 `agb∈vs):j∈`lM:=k9.mpr ⟨_,h,by simp only[`aF]⟩
theorem yi0(h:`o0)(f:`gQ)(D':D)(hd:∀j∈`qG,`Yz):`YA:=by
 refine Z1 rfl (v9 (δ':=[`kE,`Jk,.sh (`aFn)]) (j8 (Y9 (items:=`bu) (by
  show `gP (oA `di `iB [`kE,`Jk,.un]) uw0=_;rw[`Jj,O4 p h.f];rfl) h.f ?_)) (m7 (Z7 (by rw[o4 (ds:=[p.d,`aFn]) rfl];exact Yq0 p h.f _))))
 refine R8 (lkv f) λv hv=>⟨[.sh v,`Jk],rfl,rfl,?_⟩
 rcases h.lv v hv with rfl|⟨z,rfl⟩|⟨j,rfl,hj⟩
 ·rfl
 ·rfl
 ·unfold ifG
  rw[show ob `vI [`iQ,`Jk]=`g7 from rfl];show j9 _ _=_;exact Z4 (`x rfl (`x (d:=`Po) (by
   rw[p6 (x:=D') (y:=`dg) rfl rfl];exact hd j (te0 hv)) rfl)) `qP
theorem o30(p:Pt)(vs:`s)(h:`y7):(`qF).vals=vs:=by
 cases p with
 | text w=>exact(List.eq_nil_of_length_eq_zero h).symm
 | row us=>rfl
 | table ps =>
  show `aFo;refine A20 ?_;have h':`wF:=h;simp only[`F] at h' ⊢;omega
 | rcd c ps =>
  show `aFo;refine A20 ?_;have h':`wF:=h;simp only[`F] at h' ⊢;omega
theorem Rb0(h:`o0)(f:`gQ)(hf:∀j∈`qG,f j<m):Pw m (`Pp):=by
 have e:(`Pp).vals=`Pq:=`aFp;refine⟨by rw[e,`F];exact `sR,`f!⟩;rw[e] at hv;obtain⟨u,hu,rfl⟩:=`sS;rcases h.lv u hu with rfl|⟨z,rfl⟩|⟨i,rfl,hi⟩
 ·exact `cd
 ·exact `YB
 ·exact `q (`q ⟨f i,rfl,hf i `ahf⟩)
noncomputable def kd(l:`l):`de:=`d9 λ(i:Nat)=>`hZ `jz
noncomputable def td(l:`l):`s:=`d9 λ_=>`jF
theorem n90(a b:`l):kd `y1=kd a++kd b:=by unfold kd;rw[`bl]
theorem ue0(o:`l)(x:Nat):T9 (kd o) `v7=`aE?:=by
 unfold T9 kd;rw[`aFa];rw[`oz,`Je,`Yv];constructor
 ·rintro⟨y,hy,e⟩
  have e:=r9 e;injection e with e
  have:y=x:=`p
  subst this;exact hy
 ·intro h;exact⟨x,h,`PD⟩
noncomputable def ded(S:`l):`l:=S.foldl (λa x=>`Pr) []
theorem gz0:∀(S a:`l),(∀y,y∈`aFq↔y∈a∨y∈S)/\(`aFq).length<=`v_+`YC
 | [],a=>⟨λy=>`aB,`aB⟩
 | x::S,a=>by
  obtain⟨h1,h2⟩:=gz0 S (`Pr);refine⟨λy=>?_,?_⟩
  ·rw[`aFr,h1]
   split
   ·rename_i hx
    constructor
    ·rintro (h|h)
     ·exact `o h
     ·exact `q (A9 _ h)
    ·rintro (h|h)
     ·exact `o h
     ·rcases `Du with rfl|h
      ·exact `Nl
      ·exact `rT
   ·rw[`aFs,`YD,`aO,or_assoc]
  ·rw[`aFr]
   refine B9 h2 ?_;split
   ·simp only[`ba];omega
   ·simp only[`aM,`ba,`ix];omega
theorem Uh0(S:`l)(y:Nat):y∈`qH↔y∈S:=by
 unfold ded;rw[(gz0 S []).1];simp
theorem Ve0(S:`l):(`qH).length<=`YC:=by
 have:=(gz0 S []).2;rw[`ix,`bR] at this;exact `B
noncomputable def MT:GB:=`aDJ
noncomputable def MB:GS:=(u6 `aDK
 (u6 (ifD `aDL
 (u6 `aDM
 (u6 `aDN
 (u6 `aDO
 t6)))
 t6)
 t6))
noncomputable def ms(W:D)(k l:Sl)(U o T:`l)(s:Sl):Ds:=[`cl,k,l,`Pu,.ow (`bk (`o `Dp) (nd U++td o)),`Dq,s]
section
variable{W:D}{k l:Sl}{U:`l}
theorem cf0(s:Sl)(o T:`l):MT `YE=`a (`O (0<`hw)):=by
 have e:S7 `OY `YE=`a (`YF):=by
  show `a (`cC (`aFt:Int))=_;rw[zb0,`oV]
 unfold MT ob;rw[p6 (x:=`YF) (y:=`c3) e rfl];show `a (`O (`rF<`Dn))=_;congr 1;rw[`Jl];omega
theorem Qg0(s:Sl)(o T:`l)(x:Nat):V0 (uy0 5) `j4 `Pt=`aFu:=by
 have e1:owL 5 `Pt=`a (`aFv):=rfl;have e2:`aFv=`Ps++[`qE]:=by rw[`ms,um0];rfl
 unfold V0 uy0;rw[e1,`E,e2,`aFw,`aFx];rfl
theorem Ws0(o T:`l)(x:Nat):xj0 `afx (`Do)=`a (`O (x∉U++o)):=by
 show `a (xor `d (`aFy))=_;rw[ue0,`oU];congr 1
 by_cases h:x∈U++o
 ·rw[`fX,`bS (λz=>z h)];rfl
 ·rw[`fV,`fX];rfl
theorem b80{adj:`f?}(hS:∀y,y∈U↔y∈S)(hU:U.length<=1000)(hA:∀x,x<n->∃d,ixD W `v5=`bb/\xw0 [d]=`a (`YG)/\(`lJ).length<=12/\∀j∈`lJ,j<n):∀{c:Nat} {o T r:`l},`sM->`Ja->`gO+`hw<=10001->∀(m:Nat) (s:Sl),c<m->∃s',U3 MT MB m `YE=`a (.nx (ms W k l U r [] s')):=by
 intro c o T r h
 induction h with
 | nil o =>
  intro _ _ m s hm;cases m with
  | zero=>omega
  | succ m =>
   refine`aFz;unfold U3;rw[cf0];rfl
 | @skip c o T r x hx hd ih =>
  intro hT hl m s hm;cases m with
  | zero=>omega
  | succ m =>
   rw[`ba] at hl;obtain⟨s',e⟩:=ih (`Pj) `g m `v6 `g;refine`y8;have F:x∈U++o:=B6.mpr (hx.symm.imp (hS x).mpr id);have eb:`aFA=`aFu :=
    v9 (Qg0 s o T x) (v9 (δ':=`Do) (by rw[j6 (by rw[Ws0,`bS (λz=>z F)])];rfl) rfl)
   unfold U3;rw[cf0,`bv `T];dsimp only;rw[eb];exact e
 | @visit c o T r x hx hxS hz hd ih =>
  intro hT hl m s hm;cases m with
  | zero=>omega
  | succ m =>
   have J:=`Jb;obtain⟨d,Y,O,a1,Z⟩:=hA x J;have zs:(20000:Nat)<=`R:=`ai
   rw[`aM] at hz;obtain⟨s',e⟩:=ih (λy hy=>by
    rcases `o_ with q|q
    ·exact Z y q
    ·exact hT y (A9 _ q)) `Yq m `v6 `g
   refine`y8;have F:x∉U++o:=λz=>(`er z).elim (λq=>hxS ((hS x).mp q)) hx
   have p1:V0 `qs `afy (`Do)=`a (.nx `aFB):=by
    have hk:`aFy=`m:=`aFC
    have e1:`aFD=`agf:=by
     unfold U6;rw[hk,`bD,← `fN,n90 (U++o)];rfl
    have e2:`aFE=`agg:=by
     unfold V6;rw[hk,`bD];unfold td;rw[`bl,`fN];rfl
    unfold V0 W5;show ((if (kd (U++o)).length<`R then `a ([`cl,k,l,`Pu,Sl.ow (`bk (`o (`aFD)) (`aFE)),`Dq,`lN]) else `b).map `mM)=_;rw[`I (by unfold kd;rw[`F,`aM];omega),e1,e2];rfl
   have p2:Y0 `afz `aFB=`a (.nx `YH):=by
    rw[`mN (l:=`lK) (d:=`qE) rfl rfl (`y9),um0];rfl
   have p3:Y0 `afB `YH=`aFF:=by
    have ev:oA `afA t00 `YH=`a (`n (`aFG)):=by
     rw[o4 (ds:=[`YG]) (`x (d:=`YG) (by
      rw[o4 (ds:=[d]) (`x (d:=d) (by rw[p6 (x:=W) (y:=`qE) rfl rfl];exact Y) rfl)];exact O) rfl)]
     show `a (`hf (nd (`lJ)).reverse)=_;rw[Sg0]
    unfold Y0 yk0;rw[ev];show `hX _ (if `aFt+(`aFG).length<=`R then _ else _)=_;rw[`I (by rw[zb0,zb0,`oV,`oV];omega),← um0,← `aFH];rfl
   have eb:`aFA=`aFF :=
    v9 (Qg0 s o T x) (v9 (δ':=`agi) (by
     rw[W9 (by rw[Ws0,`bv F])];exact v9 p1 (v9 p2 (v9 p3 rfl))) rfl)
   unfold U3;rw[cf0,`bv `T];dsimp only;rw[eb];exact e
universe zz
theorem sb0(h:`aY)(S:`l)(hS:`YC<=1000){c:Nat}(hx:`y')(hd:`aFI)(hc:`YI):vd0 [`cE,`qE,`Dt]=`YJ:=by
 have hl:=Ve0 S;obtain⟨s',e⟩:=b80 (W:=`cE) (k:=`lN) (l:=`y!) (U:=`qH) (n:=`M) (Uh0 S) `g (λy hy=>by
  obtain⟨e1,_,q⟩:=h.at hy;refine⟨_,e1,?_,?_,?_⟩
  ·rw[h.adj hy];exact sp0 q
  ·rw[h.adj hy];exact `aFJ
  ·exact mk0 h.good y hy) hd `Yu `T 100000 .un `g
 refine X4 rfl (v9 (δ':=[`ag,`lN,`y!,`hx,.un,.un,.un]) rfl (v9 (δ':=[`ag,`lN,`y!,`hx,.ow (`Dt),.un,.un]) rfl (v9 (δ':=ms `dj `v6 (`y!) (`qH) [] [x] .un) ?_ (v9 e `DL))))
 ·unfold ms
  rw[`f5];show `a (`mM [`ag,`lN,`y!,`hx,.ow (`Dt),.ow (`n [`qE]),.un])=_;have:`Pv++td []=`Pv:=i6 _;rw[`B];rfl
 ·rfl
theorem uq0{adj:`f?}:∀{c:Nat} {o T r:`l},`sM->(∀i∈o,∀j∈`nZ,j∈o∨j∈S∨j∈T)->(`aFK)/\∀i∈r,∀j∈`nZ,`aFL:=by
 intro c o T r h
 induction h with
 | nil o =>
  intro H;refine⟨`aFM,`aFN⟩;rcases `YK with q|q|q
  ·exact `hJ
  ·exact `ym
  ·cases q
 | @skip c o T r x hx hd ih =>
  intro H;refine ih `aFN
  rcases `YK with q|q|q
  ·exact `hJ
  ·exact `q (`hJ)
  ·rcases `y2 with rfl|q
   ·exact hx.imp id `o
   ·exact `q (`ym)
 | @visit c o T r x hx hxS hz hd ih =>
  intro H;obtain⟨⟨s,e⟩,h2⟩:=ih λi hi j hj=>by
   rcases `er hi with hi|hi
   ·rcases `YK with q|q|q
    ·exact `o (D6 _ q)
    ·exact `q (`hJ)
    ·rcases `y2 with rfl|q
     ·exact `o `T
     ·exact `q (`q (D7 _ q))
   ·rw[`d? hi] at hj
    exact `YL
  exact⟨`aFO,h2⟩
theorem walk(h:`aY)(S:`l)(hx:`y'):∃c r,`aFI/\`YI/\`v2/\(∀y∈r,y<`M/\y∉S)/\(∀i∈r,∀j∈`y6,`aFL)/\(x∈S->r=[])/\(`Dj->∃s,r=x::s):=by
 obtain⟨c,r,h1,h2,h3,h4,_⟩:=Sp0 (v30 `dj) S `M `Jh (λi hi=>by
  rw[h.adj hi];obtain⟨_,_,q⟩:=`Ji;exact⟨`aFJ,mo0 q.lv⟩) 1000 [] [x] (by have:=`Jh;simp only[`ba,`ix];omega) `f P1 `aE8 `Yu
 obtain⟨_,f2⟩:=uq0 h1 λi hi=>by cases hi
 refine⟨c,r,h1,`p,h3,h4,f2,λhS=>?_,λhS=>?_⟩
 ·cases h1 with
  | skip _ h=>cases h;rfl
  | visit _ q _ _=>exact `X hS q
 ·cases h1 with
  | skip q _=>exact `X (q.resolve_left `T) hS
  | visit _ _ _ hd =>
   obtain⟨⟨s,e⟩,_⟩:=uq0 hd λi hi j hj=>by
    rw[show i=x from `Me] at hj;exact `YL
   exact⟨s,e⟩
theorem fw0:∀(r:`l) (m j:Nat),`v8->yb0 (kd r) (nd (`iu m `aL)) `mO=`a (`c ((m+`D6:Nat):Int))
 | [],_,_,h=>by cases h
 | u::r,m,j,h=>by
  rw[`ba,`Xi];show (if (`hZ (u:Int):X5)=`o `br then `a (`cC (m:Int)) else yb0 (kd r) (nd (`iu (m+1) `aL)) `mO)=_
  by_cases e:u=j
  ·subst e;rw[`cp,List.idxOf_cons_self];rfl
  ·rw[`ay (by intro q;injection q with q;omega),fw0 r (m+1) j (`agV (B1 e)),show (u::r).idxOf j=`D6+1 from by rw[`aFP,`aFQ];rfl]
   congr 2;omega
universe K22
namespace K22
open Ha
open DL W
theorem z70{b:`N}(h:`aFR):`Jm=`fD:=`aFS
universe K22
namespace K22
open Ha
open DL W
theorem oq0(h:`eQ)(k:Nat):`bx v `e0=`d:=by
 rcases h with rfl|⟨z,rfl⟩|⟨j,rfl,_⟩<;>simp[`bx,`c0]
theorem us0{k:Nat}(h:∀x∈l,`bx x k=`d):`c0 l k=`d:=by
 induction l with
 | nil=>rfl
 | cons a l ih=>rw[`c0,h a A7,ih `TP];rfl
theorem Q60(h:`o0)(k:Nat):`bx p.d (k+4)=`d:=by
 have lp:∀ps:`cV,(∀v∈`hk,`eQ)->`c0 `hi (k+2)=`d:=λps hv=>us0 λx hx=>by
  obtain⟨q,hq,rfl⟩:=`Jn;have:=oq0 (hv q.2 (`aFT)) k;show `c0 [`J q.1,q.2] `e0=`d;rw[`c0,`c0,`c0,`B];simp[`bx]
 cases p with
 | text w=>simp[`eA,`bx,`c0]
 | row vs =>
  have e:`c0 vs (k+2)=`d:=us0 λx hx=>oq0 (h.lv x hx) `e0
  simp[`eA,`bx,`c0,e]
 | table ps =>
  have e:=`aFU;simp[`eA,`bx,`c0,e]
 | rcd c ps =>
  have e:=`aFU;simp[`eA,`bx,`c0,e]
theorem Uk0(h:`aY)(k:Nat):`bx `dj (k+5)=`d:=by
 unfold wd;rw[`bx];refine us0 `rZ
 obtain⟨p,hp,rfl⟩:=`Jn;exact Q60 (h.pw p hp) k
universe K22
namespace Bw
open Ha
open DL W StrLaws
theorem V9(c k:Int)(h0:`fb)(h1:`Jo):`Jp:=by
 obtain⟨q,hq⟩:∃q,q=(`YM+k)%2147483647:=`au;have q0:0<=q:=by rw[hq];exact `aFV
 have q1:q<2147483647:=by rw[hq];exact `aFW
 refine⟨q/7,`p,`p,`sT⟩;have kk:`v!<=2*1000000*1000000:=by
  have:=`aFX h1 h1 h0 `g;rw[`aFY];omega
 have F:0<=`v!:=by
  have:=`aFZ h0 h0;rw[`aFY];omega
 rw[p6 (x:=`c q) (y:=`lF) (by
  rw[p6 (x:=`c (`YM+k)) (y:=`aDY) (by
   rw[p6 (x:=`c (`YM)) (y:=`df) (by
    rw[p6 (x:=`c `agl) (y:=`c (`Pw+`v!)) rfl (by
     rw[p6 (x:=`c (`Pw)) (y:=`c (`v!)) (by
      rw[p6 (x:=`aDW) (y:=`c (69621*k)) rfl (by rw[p6 (x:=`aDX) (y:=`df) rfl rfl];exact `sU)];rfl) (by
      rw[p6 (x:=`c (2*k)) (y:=`df) (by rw[p6 (x:=`gz) (y:=`df) rfl rfl];exact `sU) rfl];exact `sU)]
     rfl)]
    exact `sU) rfl]
   rfl) rfl]
  rw[hq];exact `YN) rfl]
 rfl
structure Pool(nm:`j):Prop where
 len:nm.length=12
 short:∀s∈nm,`j9
theorem pk0(c:Int):∃nm,`aF_/\`YO:=by
 have z:`dv:=`ai
 obtain⟨O,a0,a1,a2⟩:=V9 c 20 `f `f;obtain⟨J,b0,b1,b2⟩:=V9 c 21 `f `f;obtain⟨f,hf⟩:∃f:Nat->Int,∀j:Nat,j<8->0<=f j/\f j<36/\∀δ:Ds,`aF0=`a (`c `sV):=by
  have:∀j:Nat,∃v:Int,j<8->0<=v/\v<36/\∀δ:Ds,`aF0=`a (`c v):=λj=>by
   by_cases hj:j<8
   ·obtain⟨x,y0,y1,y2⟩:=V9 c `br `g `g
    refine⟨x%36,λ_=>⟨`p,`p,`Jq⟩⟩;rw[p6 (x:=`dU) (y:=`O5) (by rw[o4 (ds:=[`a_,`dg]) rfl];exact y2) rfl];rfl
   ·exact`aF1
  obtain⟨f,hf⟩:=`Jr;exact`Js
 obtain⟨n,hn⟩:∃n:Nat,`bH=O%8:=⟨(O%8).toNat,`p⟩;have n8:n<8:=`p
 obtain⟨w,hw⟩:∃w:`l,w=`y? λj=>cg `sV:=`au
 have wl:`DJ=n:=`aF2
 have base:∀s3 s4:Sl,ur0 `Ye `aD9 [`W,.sh (`iC),`wb,s3,s4]=`a `wc:=λs3 s4=>by
  rw[de0 (x:=`O0) (ds:=`aF3) rfl (`x (Y9 (items:=`Jt) (xz0 (`x (by
   rw[p6 (x:=`c O) (y:=`vP) (by rw[o4 (ds:=[`a_,`O3]) rfl];exact a2) rfl,hn];rfl) rfl) `g `g) `za (by
   have q:=v00 (gt:=noT) (ge:=`afI) (δ:=[.un,`W,`wb]) (n:=`bH) (λj=>`J ⟨#[cg `sV]⟩) (λk hk=>⟨[`aN,`W,`wb],rfl,rfl,by
    have Y:k<n:=`p
    obtain⟨g0,g1,g2⟩:=`YP;rw[p6 (x:=`wa) (y:=`c (f k)) rfl (g2 _)];exact ex0 (f k) g0 g1⟩)
   refine `YQ;rw[`aF,hw];unfold ones;rw[`aS,`aS];rfl)) rfl)]
  have e1:=`aF4;have Z:`aF5:=`G_
  simp only[m30];rw[Z,`E,qz0,join_ones,`I (by
   have:`aF6:=`aq
   rw[`B];omega)]
 obtain⟨a,ha⟩:∃a:Nat,`ia=J%(`bH+1):=⟨(J%(`bH+1)).toNat,by have:=M0 J (`p:`bH+1≠0);omega⟩;have a3:a<=n:=by have:=M1 J (`p:`rF<`bH+1);omega
 obtain⟨F,hF⟩:∃F:`f?,F=λ(k:Nat)=>`YR:=`au
 have Fl:∀k,(F k).length=n+1:=λk=>by
  rw[hF];show (`YR).length=n+1;rw[`aM,`ba,`cm,`i2];omega
 refine⟨(`b5 12).map λk=>`aF7,X4 rfl (v9 (j8 (d:=`wa) rfl) (v9 (j8 (d:=`Dw) (`k _ _)) (v9 `aF8 (Y4 (V7 (Y9 (items:=R9 0 12) rfl (by rw[w40];show (12:Nat)<=_;omega) ?_)))))),`aB,`Ju⟩
 ·rw[p6 (x:=`c J) (y:=`c (`bH+1)) (by rw[o4 (ds:=[`a_,`O1]) rfl];exact b2) (by
   rw[p6 (x:=`lP) (y:=`ck) (by
    rw[o4 (ds:=[`Dw]) rfl];simp only[V2];rw[zk0,wl,`zb]) rfl]
   rfl),`zc,ha]
 ·have q:=v00 (gt:=noT) (ge:=`aD') (δ:=[.un,`W,`wb,.sh `wc,`cN]) (n:=12) (λk=>`J (`aF7)) (λk hk=>⟨`Jv,rfl,rfl,by
   have Y:`cL<12:=hk;have t1:U9 `be W6 `C? `Jv=`a (`J (`bU (`Py))):=by
    show slA `wc `b (`a `ia)=_;simp only[slA];rw[`aF9,Gw.bf0 _ _ `g `g,`aF]
   have t2:U9 `be `C? W6 `Jv=`a (`aF'):=by
    show slA `wc (`a `ia) `b=_;simp only[slA];rw[`aF9,Gw.Pa0 _ _ `g `g,`aF]
   have t3:o2 `bt `afJ ixD `Jv=`a (`J (`bU `aF!)):=by
    rw[p6 (x:=`wa) (y:=`c `agr) rfl (by
     rw[p6 (x:=`c `agq) (y:=`O5) (by
      rw[p6 (x:=`c (3*`cL)) (y:=`a_) (by rw[p6 (x:=`j3) (y:=`cM) rfl rfl];exact `jn) rfl];rfl) rfl]
     rfl)]
    exact ex0 _ `g `g
   rw[p6 (x:=`J (`bU (`Py++`aF!))) (y:=`aF') (by
    rw[p6 t1 t3];exact Gw.Wx0 _ _ (by rw[`cm];simp;omega)) t2]
   rw[Gw.Wx0 _ _ (by rw[`aM,`cm,`i2];simp;omega),hF];show `a (`iJ (`bU _))=`a (`iJ (`bU (`YR)));rw[`fN];rfl⟩)
  refine `YQ;rw[`aS];rfl
 ·obtain⟨k,hk,rfl⟩:=`fJ hs
  rw[zk0,Fl];omega
universe Bw
namespace Bw
open Ha
open DL W
theorem z70{b:`N}(h:`aFR):`Jm=`fD:=`aFS
noncomputable def dg(r:Nat):`aG:=if h:r=0 then [] else `sW::dg `zd
termination_by r
decreasing_by omega
theorem Pe0:dg 0=[]:=by unfold dg;rw[dif_pos rfl]
theorem Sd0(r:Nat)(h:r≠0):dg r=`sW::dg `zd:=by conv=>lhs;unfold dg;rw[dif_neg h]
noncomputable def hi(r:Nat):`aG:=(dg r).reverse
theorem Rm0:hi 0=[]:=by unfold hi;rw[Pe0];rfl
theorem Ng0(r:Nat)(h:r≠0):hi r=hi `zd++[`sW]:=by unfold hi;rw[Sd0 r h,`ms]
noncomputable def bs(n:Nat):`aG:=hi `Jw++[`ze]
theorem S50:∀(m r:Nat),r<`Dz->(hi r).length<=m:=by
 intro m
 induction m with
 | zero =>
  intro r h;have h2:r=0:=by
   simp at h;exact h
  subst h2;rw[Rm0];exact `g0
 | succ m ih =>
  intro r h
  by_cases h0:r=0
  ·subst h0;rw[Rm0];exact `c_
  ·rw[Ng0 r h0,`aM]
   have:`aF?:=`aGa;have:=ih `zd `g;simp only[`ba,`ix];omega
theorem ai0(n:Nat)(h:`zf):`aGb:=by
 unfold bs;rw[`aM];have:=S50 300 `Jw (`aGc);simp only[`ba,`ix];omega
noncomputable def WT:GB:=`aDb
noncomputable def WB:GS:=(u6 `aDc
 (u6 `aDd
 t6))
theorem wt(a b:Sl)(r:Nat):WT [a,b,`agt]=`a (`O (0<r)):=by
 show `a (`O (`rF<`wd))=_
 by_cases h:0<r
 ·rw[`fX,`Jx]
 ·rw[`fV,`zg]
theorem wh(a:Sl):∀(m r:Nat) (o:`aG) (f:Nat),r<`Dz->m<f->`gO+m<`R ->
  ∃s,U3 WT WB f `aGd=`a (.nx [a,.ow (`n ((o++dg r).map `c)),s])
 | m,r,o,0,_,hf,_=>`X hf (Nat.not_lt_zero _)
 | m,r,o,f+1,hr,hf,hl=>by
  by_cases h0:r=0
  ·subst h0
   unfold U3;rw[wt,Pe0,`f5];exact`au
  ·cases m with
   | zero=>simp at hr;omega
   | succ m =>
    have hb:WB `aGd=`a (.nx [a,.ow (`n ((o++[`sW]).map `c)),.sh (`c `aGe)]):=by
     have e1:(128:Int)+`wd%128=`sW:=`p
     have e2:`wd/128=`aGe:=`p
     refine v9 (`mN (l:=o.map `c) (d:=`c (128+`wd%128)) rfl rfl `gC) ?_;rw[`bl,← e1,← e2];rfl
    have h2:r/128<`Dz:=by
     have:`aF?:=`aGa;omega
    obtain⟨s,e⟩:=wh a m `zd (o++[`sW]) f h2 `g (by rw[`aM];simp only[`ba,`ix];omega);refine`aFz;unfold U3;rw[wt,`Jx];simp only[hb];rw[e,Sd0 r h0,`fN];rfl
theorem up0(n:Nat)(h:`zf):`aGf:=by
 have z:`dv:=`ai
 have h2:n/128<`DA:=`aGc;obtain⟨s,e⟩:=wh (`ka) 300 `Jw [`ze] 100000 h2 `f (by show 1+300<_;omega);refine X4 rfl ?_;have e1:`bH%128=`ze:=`p
 have e2:`bH/128=`aGg:=`p
 refine v9 (δ':=[`ka,.ow (`n [`c `ze]),.un]) (by rw[← e1];rfl) ?_;refine v9 (j8 (d:=`c `aGg) (by rw[← e2];rfl)) ?_;refine `aGh;show `a (`hf (((`ze::dg `Jw).map `cC).reverse))=_;rw[← `aE!,`ms];rfl
inductive Vb:`zh
 | non:Vb `z
 | lk (j:Nat) (h:j<1000):Vb `hu
 | int (z:Int) (h:`YS):Vb `DB
noncomputable def fold(z:Int):Nat:=if z<0 then (-2*z - 1).toNat else (2*z).toNat
theorem fold_lt(z:Int)(h:`YS):`we<2 ^ 252:=by
 unfold fold;have e:`aGi=4*`PA:=`aq
 generalize `aGj=w at h e;split<;>omega
theorem rm0(z:Int):`aGk:=by
 by_cases h:z<0
 ·refine `zi
  rw[W9 (by show `aGl;rw[`fX])];refine `v?;rw[p6 (x:=`c (-2*z)) (y:=`ck) (by rw[p6 (x:=`c (-2)) (y:=`j_) rfl rfl];exact `jn) rfl];have:`aGm=-2*z - 1:=by unfold fold;rw[`f9];omega
  rw[`B];rfl
 ·refine Z1 rfl (v9 (δ':=[`P6]) (by rw[j6 (by show `aGl;rw[`fV])];rfl) `eb)
  rw[p6 (x:=`gz) (y:=`j_) rfl rfl,`jn];have:`aGm=2*z:=by unfold fold;rw[`hH];omega
  rw[`B]
noncomputable def sg(s:Str):`aG:=s.cps.toList.map λ(c:Nat)=>(c:Int)
theorem ia0(s:Str):(sg s).length=`qL:=by unfold sg;rw[`F];rfl
theorem Xv0(s:Str):R6 `bs noT (oA `di dm0) `CZ (`xP s)=`a `agw:=by
 unfold signs;rw[R8 (λd=>match d with|`es=>`c ((x.cps.toList.headD 0:Nat):Int)|_=>`z) (λd hd=>by
  obtain⟨c,hc,rfl⟩:=`fn;exact⟨[.sh (`nh)],rfl,rfl,rfl⟩)]
 unfold sg;rw[`aS,`aS];rfl
theorem jl0(s:Str)(h:`YT):`aGn :=
 X4 rfl (Y4 (V7 (Y9 (items:=`xP s) rfl (by unfold signs;rw[`F];exact h) (Xv0 s))))
theorem Wo0(a b:`aG)(h:`aEV):l00 (`n (a.map `c)) (`n (b.map `c))=`a (`n ((a++b).map `c)):=by
 simp only[l00];rw[`I (by rw[`F,`F];exact h),`bl]
theorem Sw0{l e:`aG}(h1:`jS=`a `Qf)(h2:`as=`a (`n (e.map `c)))(h3:`aGo):`aGp=`a (.nx (`bq i (.ow (`n ((l++e).map `c))))):=by
 unfold Y0 yk0;rw[h1,h2];simp only[`E];rw[`I (by rw[`F,`F];exact h3),`bl];rfl
universe Bw
namespace Ta
open Ha
open DL W K22
open Classical in
theorem eg0{f:`aX}{G:GS}(st:Sl->Ds)(hf:∀d s,f d `PB=`a `zj)(ok:`zh):∀items:`s,(∀d∈`al,(ok d->G `zj=`a (.nx `zj))/\(¬ok d->G `zj=`YU)) ->
  ∀s,(`aGq->∃s',`aGr=`a (.nx (st s')))/\(¬`aGq->`aGr=`YU)
 | [],_,s=>⟨λ_=>`aGs,λh=>`X (λd hd=>by cases hd) h⟩
 | d::`al,h,s=>by
  have hd:=h d A7;obtain⟨i1,i2⟩:=eg0 st hf ok `al (`Yj) `k';have un:N7 f G (d::`al) `PB=(match G `zj with|`dO=>`aGt|`xN=>`aGt|`xO=>`dO|r=>r):=by
   conv=>lhs;unfold N7
   rw[hf d s];rfl
  rw[un]
  by_cases hk:ok d
  ·rw[hd.1 hk]
   refine⟨λz=>i1 λe he=>z e (A9 _ he),λz=>i2 λq=>z `aGu⟩;rcases `b1 he with rfl|he
   ·exact hk
   ·exact q e he
  ·rw[hd.2 hk]
   exact⟨λz=>`X (z d A7) hk,`ww⟩
noncomputable def pN(p:`b8):D:=`w [`DH,`PI]
noncomputable def k2(p:`b8):`de:=[`o `wf,`ahG]
theorem R80{p q:`b8}(h:k2 p=k2 q):p=q:=by
 unfold k2 at h;injection h with h1 h2
 injection h2 with h2 _
 injection h1 with h1
 injection h2 with h2
 exact `aCT
theorem Ys0(ks:`nL)(k:`de):`aGv:=by
 unfold T9;rw[`Je];constructor
 ·rintro⟨x,hx,e⟩
  rw[← `Xl e];exact hx
 ·intro h
  exact`aGw
theorem Zw0(ks:`nL)(k x:`de):x∈U6 ks k↔x∈ks∨x=k:=by
 unfold U6
 by_cases h:`PC
 ·rw[`f9]
  have:=(Ys0 ks k).mp h;exact⟨`o,λz=>`cU id λe=>e▸`B⟩
 ·rw[`hH,`aFs,`YD]
theorem kl0(v:D):∀(L:`_) (ks:`nL) (vs:`s),∃r,N8 ks vs (`fS λp=>`w [`qN,v])=`bL/\∀x,x∈r.1↔x∈ks∨∃p∈L,x=k2 p
 | [],ks,vs=>⟨(ks,vs),rfl,λx=>⟨`o,λz=>`cU id λ⟨p,hp,_⟩=>by cases hp⟩⟩
 | p::L,ks,vs=>by
  obtain⟨r,h1,h2⟩:=kl0 v L (U6 ks (k2 p)) (V6 ks vs (k2 p) v);refine⟨r,?_,λx=>?_⟩
  ·rw[← h1];rfl
  ·rw[h2,Zw0]
   constructor
   ·rintro ((z|z)|⟨q,hq,e⟩)
    ·exact `lh
    ·exact `q ⟨p,A7,z⟩
    ·exact `q ⟨q,`Wl,e⟩
   ·rintro (z|⟨q,hq,e⟩)
    ·exact `o (`lh)
    ·rcases `b1 hq with rfl|hq
     ·exact `o (`q e)
     ·exact `q ⟨q,hq,e⟩
noncomputable def Dc(L:`_)(d:D):Prop:=∃ks vs,d=`bk (`r2) vs/\∀x,x∈ks↔∃p∈L,x=k2 p
theorem Pk0{d:D}(h:`zk)(p:`b8):V3 `d `n2 d=`a (.bl (`O (p∉L))):=by
 obtain⟨ks,vs,rfl,hk⟩:=h;show `a (`kF (xor `d (`YV)))=_
 by_cases z:p∈L
 ·rw[(Ys0 ks _).mpr ((hk _).mpr ⟨p,z,rfl⟩),`bS (`YW)];rfl
 ·have:`YV=`m:=by
   cases e:`YV with
   | false=>rfl
   | true =>
    obtain⟨q,hq,e2⟩:=(hk _).mp ((Ys0 ks _).mp e);exact `X (R80 e2▸hq) z
  rw[`B,`bv z];rfl
noncomputable def okv(L:`_):D->`zh
 | `aGx,`sP=>`aGy∈L
 | v,w=>v=w
theorem W70(h:`eQ):Pn.Pl v:=by
 refine⟨oq0 h 49,?_⟩;rcases h with rfl|⟨z,rfl⟩|⟨j,rfl,_⟩<;>simp[Pn.nb,Pn.nbs]
noncomputable def vg0(p:Prop)(o:`db):Prop:=(p->o=`wP)/\(¬p->o=`GO)
theorem N50{w:D}(hv:`eQ)(hw:`o1):vg0 (v≠w) (zg0 v w) :=
 ⟨λe=>Pn.Qm0 (W70 hv) (W70 hw) e,λe=>by
  have:=`aGz;subst this;exact Pn.Ra0 (W70 hv).le⟩
theorem eo0{p:Prop}(h:vg0 p (`as)):(p->`Jm=`g7)/\(¬p->`Jm=`dk) :=
 ⟨λz=>by unfold ob;rw[h.1 z];rfl,λz=>by unfold ob;rw[h.2 z];rfl⟩
theorem Sv0{w:D}(hv:`eQ)(hw:`o1)(h:¬(`aGA)):`zl↔v=w:=by
 rcases hv with rfl|⟨z,rfl⟩|⟨j,rfl,_⟩<;>rcases hw with rfl|⟨z',rfl⟩|⟨j',rfl,_⟩<;>first|exact Iff.rfl|exact `X `hb h
noncomputable def UB:GS:=(u6 (ifD `aDy
 (u6 (ifD `aDz
 (u6 `kD
 t6)
 t6)
 t6)
 (u6 (ifD `aDA
 (u6 `kD
 t6)
 t6)
 t6))
 t6)
theorem pi0(v w:D):`aGB:=by
 refine `sT;unfold qn0;rw[show ob (K7 `gA `fL) (Z8 t10 [`wi])=`a (`wh) from rfl,`E];cases `wh with
 | false=>rfl
 | true=>rw[`cp];rfl
theorem Ok0{d:D}(hd:`zk){w:D}(hv:`eQ)(hw:`o1)(a b c:Sl) :
  (`zl->UB `qQ=`a (.nx `qQ))/\(¬`zl->UB `qQ=`YU):=by
 have hl:ob `afm `qQ=`aGC:=by
  unfold ob;rw[`aGD,pi0];rfl
 by_cases hb:`aGA
 ·rw[hb.1,hb.2] at hl
  obtain⟨i,rfl,_⟩:∃j:Nat,`agc:=by
   rcases hv with rfl|⟨z,rfl⟩|h
   ·exact `aGE
   ·exact `aGE
   ·exact h
  obtain⟨j,rfl,_⟩:∃j:Nat,w=`j8/\j<m:=by
   rcases hw with rfl|⟨z,rfl⟩|h
   ·exact `aGF
   ·exact `aGF
   ·exact h
  have e:okv L `Ed `hu↔`lQ∈L:=by
   unfold okv;simp only[`aF]
  have lp:`aGG :=
   `aGH
  have ht:ob `afn `agA=`a (`O (`lQ ∉L)):=by
   unfold ob;rw[p6 (x:=`PG) (y:=d) (by rw[`aGI];exact lp) rfl,Pk0 hd];rfl
  rw[e];refine`aGJ
  ·rw[`bS (`YW)] at ht
   refine `aGK;rw[W9 hl];refine `aGK;rw[`zm];rfl
  ·rw[`bv z] at ht
   refine `vZ;rw[W9 hl];refine `vZ;rw[`zn];rfl
 ·have hl2:(`qO)=`m:=by
   cases e1:`wh with
   | false=>rfl
   | true =>
    cases e2:`gA w with
    | false=>rfl
    | true=>exact `X ⟨e1,e2⟩ hb
  rw[hl2] at hl;rw[Sv0 hv hw hb];obtain⟨t1,t2⟩:=eo0 (g:=`afp) (δ:=`qQ) (p:=v≠w) (by
   rw[p6 (x:=v) (y:=w) rfl rfl];exact N50 hv hw)
  refine`aGJ
  ·refine `aGL
   rw[j6 hl];refine `aGL;rw[j6 (t2 `YW)];rfl
  ·refine `vZ
   rw[j6 hl];refine `vZ;rw[W9 (t1 z)];rfl
noncomputable def pa(ps:`ao)(i:Nat):Pt:=`YX
noncomputable def up(ps qs:`ao)(L:`_)(p:`b8):Prop:=`ga (`wj)=`ga (`DG)/\∀q∈`sX,okv L q.1 q.2
theorem N5(h:`aY)(hi:`jg):`aFi=`a (`n7).d/\Pw `M (`n7):=by
 obtain⟨a,_,c⟩:=`Ji;have:`n7=`vi:=by unfold pa;simp[hi]
 rw[`B];exact⟨a,c⟩
theorem pq0(p:Pt)(h:`em):xm0 `ez=`a (`ga p):=Pn.pq0 p h
theorem O4(p:Pt)(h:`em):`I9:=`y5
theorem rj0(hp:`aY)(hq:`eR){d:D}(hd:`zk){p:`b8}(h1:`YY)(h2:`YZ):`aGM:=by
 obtain⟨a1,a2⟩:=N5 hp h1;obtain⟨b1,b2⟩:=N5 hq h2;unfold up;generalize `wj=P at a1 a2;generalize `DG=R at b1 b2;have g1:∀δ:Ds,o2 `V `afh ixD `aGN=`a P.d:=fun δ=>by
  rw[`aGO];exact a1
 have g2:∀δ:Ds,o2 `an `afi ixD `aGN=`a R.d:=fun δ=>by
  rw[`aGP];exact b1
 obtain⟨t1,t2⟩:=eo0 (g:=`afl) (δ:=`zo) (p:=`ga P≠`ga R) (by
  rw[p6 (x:=`ga P) (y:=`ga R) (by rw[`aGQ];exact pq0 P a2.f) (by rw[`aGR];exact pq0 R b2.f)];exact⟨λe=>Pn.Qm0 (Pn.c40 P) (Pn.c40 R) e,λe=>by rw[`aGz];exact Pn.Ra0 (Pn.c40 R).le⟩)
 by_cases hh:`ga P=`ga R
 ·obtain⟨f1,f2⟩:=eg0 (f:=gN 4) (G:=UB) (λs=>[`ag,`c6,`qS,`jL,s]) (`oN) (λx=>∃v w,x=`wi/\`zl) `aGS (λx hx=>by
   obtain⟨q,F,rfl⟩:=`Jn;obtain⟨m1,m2⟩:=S1 F;obtain⟨u1,u2⟩:=Ok0 hd (a2.lv _ m1) (b2.lv _ m2) `Jy (`c6) `sY;refine⟨λ⟨v,w,e,o⟩=>?_,λz=>u2 λo=>z ⟨_,_,rfl,o⟩⟩;injection e with e
   injection e with e1 e
   injection e with e2 _
   rw[← e1,← e2] at o;exact u1 o) .un
  have hz:q40 `aDx `zo=`a `aGS:=by
   unfold q40;rw[`x (d:=`n P.vals) (ds:=[`n R.vals]) (by rw[`aGQ];exact O4 P a2.f) (`x (by rw[`aGR];exact O4 R b2.f) rfl)];rfl
  have hn:∀rest:GS,u6 (ifD `aDw (u6 `kD t6) t6) `d3 `zo=`d3 `zo:=λrest=>v9 (by rw[j6 (t2 λz=>z hh)];rfl) rfl
  refine⟨λJ=>?_,λJ=>?_⟩
  ·obtain⟨s',hs⟩:=f1 λx hx=>by
    obtain⟨q,F,rfl⟩:=`Jn;exact⟨_,_,rfl,J.2 q F⟩
   refine Z1 rfl ?_;refine`aGT (v9 (J0 hz hs) (m7 rfl))
  ·refine Z1 rfl ?_
   refine`aGT (m7 (J0 hz (f2 λz=>J ⟨hh,λq F=>?_⟩)));obtain⟨v,w,e,o⟩:=z _ (`v9 ⟨q,F,rfl⟩);injection e with e
   injection e with e1 e
   injection e with e2 _
   rw[e1,e2];exact o
 ·refine⟨λz=>`X z.1 hh,λ_=>`zi⟩
  show ifD _ _ _ `zo=_;rw[W9 (t1 hh)];rfl
universe Ta
namespace Bw
open Ha
open DL W
theorem Ww0{e:`s}(h1:`Yl)(h2:`as=`a (`n e))(h3:`aGo):`aGp=`a (.nx (`bq i (.ow (`n (l++e))))):=by
 unfold Y0 yk0;rw[h1,h2];simp only[`E];rw[`I h3];rfl
noncomputable def Ib(d:D):Prop:=`aGU∨Vb d
theorem small(h:n<=100000000):`zf:=N2 h `eT
theorem k50{s:Str}(h:`as=`a `iP)(hs:`YT):`auJ=`a (`aGV):=by
 rw[o4 (ds:=[`ht]) `VJ];simp only[V2];rw[`I hs]
noncomputable def cnt:Pt->Nat
 | `sK=>`DJ
 | `mL=>`bF
 | `jl=>`M
 | `X!=>`M
noncomputable def kn:Pt->Nat
 | `I4=>0
 | `lB _=>1
 | `vF _=>2
 | `hj _ _=>3
noncomputable def two(p:`qm):`s:=`aC3
noncomputable def its:Pt->`s
 | `I4=>[]
 | `mL=>vs
 | `jl=>`lR
 | `yY=>`mB::`lR
noncomputable def tx:Pt->`aG
 | `sK=>sg w
 | _=>[]
structure Gp(p:Pt):Prop where
 cnt:`o2
 len:(`j').length<=50
 it:∀d∈`j',Ib d
theorem Q30(h:Gp p):(tx p).length<=20:=by
 cases p with
 | text w=>show (sg w).length<=20;rw[ia0];exact `sZ
 | _=>exact `c_
theorem Po0(p:Pt):kn p<=3:=by cases p<;>simp[kn]
theorem Ta0(h:`o2)(δ:Ds):oA `aDg V2 (`kE::δ)=`a (`c `Y_):=by
 have z:`dv:=`ai
 cases p with
 | text w =>
  have h:`Y0:=h;exact k50 rfl `g
 | row vs=>rfl
 | table ps =>
  show `aGW;rw[`F];rfl
 | rcd c ps =>
  show `aGW;rw[`F];rfl
theorem Nn0(p:Pt)(δ:Ds):oA `X? (ck0 `Q4) (`kE::δ)=`a (`c (kn p:Int)):=by
 cases p<;>kernel_rfl
theorem Oj0(a b:Nat):4*`ia+`Y1=((4*a+b:Nat):Int):=`p
theorem dg0(h:`o2):`aGX:=by
 refine `sT
 change o2 _ _ _ [`kE]=_
 rw[p6 (x:=`c (4*`Y_)) (y:=`c (kn p:Int)) (by
  rw[p6 (x:=`lC) (y:=`c `Y_) rfl (Ta0 h _)];exact `jn) (Nn0 p _),← Oj0]
 rfl
theorem do0(h:`o2):`aGY:=by
 have z:`dv:=`ai
 cases p with
 | text w =>
  have h:`Y0:=h;refine `Y2;rw[`fa];refine `De;rw[o4 (ds:=[`J w]) rfl];exact jl0 w `g
 | row vs=>exact X4 rfl (v9 (δ':=[`nX]) `aR `qT)
 | table ps=>exact X4 rfl (v9 (δ':=`vY) `aR `qT)
 | rcd c ps=>exact X4 rfl (v9 (δ':=`qD) `aR `qT)
noncomputable def HB:GS:=(u6 `aDj
 t6)
theorem pp0:∀ps:`cV,`aGZ=2*`M
 | []=>rfl
 | `oW=>by rw[`Y3,`aM,pp0 ps,`ba];show 2+_=_;omega
theorem Xm0{ps:`cV}{p:`qm}(h:`awm):`aG_++two p=(`DM `eD).flatMap two:=by
 rw[`wy,h,List.flatMap_append];simp
theorem k80(a:Sl)(pre:`s)(ps:`cV)(hl:pre.length+2*`M<=`R)(s:Sl):∃s',N7 `fK HB `hi `aG0=`a (.nx [a,.ow (`n (pre++`lR)),s']):=by
 obtain⟨δ',l1,l2⟩:=M9 (f:=gN 2) (G:=HB) (λi δ=>∃s,δ=[a,.ow (`n (pre++(`DM i).flatMap two)),s]) `hi 0 `aG0 (by
  rintro j d δ hj ⟨s,rfl⟩;rw[`dQ] at hj;cases hp:ps[j]? with
  | none=>rw[hp] at hj;cases hj
  | some p =>
   rw[hp] at hj;cases hj;have F:=(`gg hp).1;rw[`bR];refine⟨_,_,rfl,v9 (Ww0 (l:=pre++`aG_) (e:=two p) rfl rfl (by
    rw[`aM,pp0,`cm];show _+2<=_;omega)) rfl,`ae8,?_⟩
   rw[`fN,Xm0 hp];rfl) ⟨s,`aB⟩
 obtain⟨s',rfl⟩:=l2;refine`y8;rw[l1,`bR,`F,`mI]
theorem cr0(h:Gp p):`aG1:=by
 have z:`dv:=`ai
 have hc:=`sZ;cases p with
 | text w=>kernel_rfl
 | row vs =>
  refine X4 rfl (v9 (δ':=[`nX,.un,.un]) `aR `DL);rw[`fa];rfl
 | table ps =>
  have hc:`iN:=hc;obtain⟨s',e⟩:=k80 (`iE) [] ps `aAs .un;refine X4 rfl (v9 (δ':=`aG2) `aR (v9 (δ':=`aG2) `aR (v9 (δ':=`aG3) rfl (v9 (δ':=`aG3) `aR `aG4))))
 | rcd c ps =>
  have hc:`iN:=hc;obtain⟨s',e⟩:=k80 (`iF) [`mB] ps `Jz .un;refine X4 rfl (v9 (δ':=`aG5) `aR (v9 (δ':=`aG5) `aR (v9 (δ':=[`iF,`hx,.un]) rfl (v9 (δ':=[`iF,.ow (`n [`mB]),.un]) `af8 `aG4))))
structure Gq(p:Pt):Prop where
 cnt:`o2
 vals:∀v∈`bu,`fc
 names:∀s∈p.all,`j9
 few:`hv<=12
theorem fz0{ps:`cV}(h1:∀v∈`hk,`fc)(h2:∀s∈`fM,`j9):∀d∈ps,`aG6:=λd hd=>⟨h2 _ `aG7,h1 _ `aG7⟩
theorem Z00{ps:`cV}(h:∀d∈ps,`aG6):∀d∈`lR,Ib d:=λd hd=>by
 obtain⟨p,hp,hm⟩:=Dy0.mp hd;obtain⟨q1,q2⟩:=h p hp;unfold two at hm;rcases `b1 hm with rfl|hm
 ·exact `o ⟨_,rfl,q1⟩
 ·rw[`d? hm];exact `q q2
theorem Gq.gp(h:`gb):Gp p:=by
 obtain⟨h1,h2,h3⟩:=h;cases p with
 | text w=>exact⟨h1,`c_,λd hd=>by cases hd⟩
 | row vs=>exact⟨h1,by have:`zp:=h1;show `bF<=50;omega,λd hd=>`q (h2 d hd)⟩
 | table ps =>
  have hp:=`aG8
  exact⟨h1,by have:`iN:=h1;show `aGZ<=50;rw[pp0];omega,Z00 hp⟩
 | rcd c ps =>
  have hp:=`aG8
  refine⟨h1,by have:`iN:=h1;show (`iJ c::`lR).length<=50;rw[`ba,pp0];omega,λd hd=>?_⟩;rcases `b1 hd with rfl|hd
  ·exact `o ⟨_,rfl,h3 c `aG9⟩
  ·exact Z00 hp d hd
noncomputable def web(ps:`ao):D:=`aFh
structure Gw'(ps:`ao):Prop where
 len:`M<=60
 it:∀p∈ps,`gb
theorem wj0(ns:`aG)(hb:∀z∈ns,`iw)(k:Int)(h0:`fb)(h1:`Y4):`aG':=by
 by_cases h:k<`nc
 ·have F:`i4<`nc:=`p
  refine⟨ns[k.toNat],`zi,hb _ (L8 F)⟩;rw[W9 (by
   show `aG!;rw[`bv `Y5])]
  refine `v?;show atI (`PL) k=_;rw[ys0 h0 `Y5 `z];simp[`ec,F]
 ·refine⟨`JA,Z1 rfl (v9 (δ':=[`fR,`PO]) ?_ `eb),?_⟩
  ·rw[j6 (by
    show `aG!;rw[`bS `Y5])]
   rfl
  ·rw[p6 (x:=`c `agI) (y:=`c (k+31)) (by
    rw[p6 (x:=`c (k*7919)) (y:=`qx) (by rw[p6 (x:=`df) (y:=`c 7919) rfl rfl];exact `agm _ _ `f) rfl];rfl) rfl]
   exact `sU
  ·have q1:`JA<=8000000*2000:=`aFX `g `g `g `g
   have q2:0<=`JA:=`aFZ `g `g;generalize `JA=w at q1 q2;rcases Dz0 w.natAbs with e|e
   ·rw[e];decide
   ·have:w.natAbs.log2<60:=`aG? `g
    omega
theorem lg(c k:Int)(L:Nat)(h:`agJ<=L)(hk:`fb/\`Y4):(`DN).natAbs.log2<=L+13:=by
 have h1:c.natAbs<2 ^ (L+1):=B4 Nat.lt_log2_self (Nat.pow_le_pow_right `f `g);have h2:(c+1).natAbs<=2 ^ (L+1):=`p
 have h3:(k+3).natAbs<=2 ^ 10:=by
  have:(2:Nat) ^ 10=1024:=`ai
  omega
 have h4:`aHa<=2 ^ (L+11):=by
  rw[Int.natAbs_mul];have:=Nat.mul_le_mul h2 h3;rw[← Nat.pow_add] at this;exact `B
 rcases Dz0 `aHa with e|e
 ·rw[e,Nat.log2_zero];omega
 ·have h5:(2:Nat) ^ (L+11)<2 ^ (L+12):=Nat.pow_lt_pow_right `f `g
  have:=`aG? (N2 h4 h5);omega
theorem M40:o90 (`Yd) (`lF)=`a (`aHb):=`lH
theorem Ol0:o90 `OZ (`qy)=`aHc:=`lH
theorem lg7:(`PM:Int).natAbs.log2<=2000:=`aq
noncomputable def Lk(m:Nat)(v:D):Prop:=∀j:Nat,v=`j8->j<m
theorem nm0(h:i<m):Lk m `Ed:=λj e=>by
 injection e with e
 injection e with _ e
 injection e with e _
 injection e with e
 omega
theorem s60(c k m:Int)(hc:`Y6)(hk:`aHd)(hm:`Y7):`aHe:=by
 have z:`dv:=`ai
 obtain⟨x,a0,a1,a2⟩:=V9 c k hk.1 `g;obtain⟨y,b0,b1,b2⟩:=V9 c (40+k) `g `g;obtain⟨w,c0,c1,c2⟩:=V9 c (60+k) `g `g;have s1:∀s:Sl,b7 `b! `aDZ [`W,`PO,`j!,s]=`JB:=λs=>by
  refine j8 (i:=3) (d:=`c (x%5)) ?_;rw[p6 (x:=`dU) (y:=`qx) (by rw[o4 (ds:=`agk) rfl];exact a2) rfl];rfl
 by_cases h0:x%5=0
 ·refine⟨`z,Z1 rfl (v9 `JC `fP),`z,λj h=>nomatch h⟩
  rw[W9 (by show `aHf;rw[`bv h0])];rfl
 have n0:∀G:GS,ifD `I8 G t6 `DP=`JB:=λG=>by
  rw[j6 (by show `aHf;rw[`bS h0])];rfl
 by_cases h3:x%5<3
 ·have j0:0<=y%m:=`s_
  have j1:y%m<m:=M1 _ hm.1;refine⟨`w [`nT,`c (((y%m).toNat:Nat):Int)],Z1 rfl (v9 `JC (v9 `s0 `fP)),`aHg,nm0 `g⟩;rw[W9 (by show `aHh;rw[`bv h3])];refine m7 (Z7 (Z4 (`x rfl `Y8) `dV));rw[p6 (x:=`c y) (y:=`iM) (by rw[o4 (ds:=[`a_,`c (40+k)]) rfl];exact b2) rfl,`aHi,`IM j0]
 have n3:∀G:GS,ifD `aD_ G t6 `DP=`JB:=λG=>by
  rw[j6 (by show `aHh;rw[`bS h3])];rfl
 by_cases h4:x%5=3
 ·refine⟨`c (w%260 - 130),Z1 rfl (v9 `JC (v9 `s0 (v9 (n3 _) `fP))),`aHj,λj h=>nomatch h⟩
  rw[W9 (by show `aHk;rw[`bv h4])];refine `v?;rw[p6 (x:=`c (w%260)) (y:=`c 130) (by
   rw[p6 (x:=`c w) (y:=`c 260) (by rw[o4 (ds:=[`a_,`c (60+k)]) rfl];exact c2) rfl];rfl) rfl]
  rfl
 have n4:∀G:GS,ifD `aD0 G t6 `DP=`JB:=λG=>by
  rw[j6 (by show `aHk;rw[`bS h4])];rfl
 obtain⟨u,hu⟩:∃u:Int,u=`aHl%(`Y9):=`au;have u0:0<=u:=by rw[hu];exact `aFV
 have u1:u<`Y9:=by rw[hu];exact `aFW
 refine⟨`c (u+1 - `wk),Z1 rfl (v9 `JC (v9 `s0 (v9 (n3 _) (v9 (n4 _) `eb)))),`c _ ?_,λj h=>nomatch h⟩
 ·have F:∀δ:Ds,o2 (gc `OZ) `nV o90 δ=`aHc:=fun δ=>by rw[p6 (x:=`c 10) (y:=`qy) rfl rfl];exact Ol0
  rw[p6 (x:=`c (u+1)) (y:=`PN) (by
   rw[p6 (x:=`c u) (y:=`ck) (by
    rw[p6 (x:=`c (`aHl)) (y:=`c (`Y9)) (by
     rw[p6 (x:=`c (`DN)) (y:=`aHb) (by
      rw[p6 (x:=`c (c+1)) (y:=`c (k+3)) rfl rfl];exact `sU) (by rw[p6 (x:=`Yd) (y:=`lF) rfl rfl];exact M40)]
     have:=lg c k 1048576 hc `g;simp only[Xn0,ii];rw[`I ⟨`p,lg7⟩]) (by
     rw[p6 (x:=`c (2*`wk)) (y:=`ck) (by rw[p6 (x:=`gz) (y:=`PN) rfl (F _)];exact `jn) rfl];rfl),`YN,hu]) rfl]
   rfl) (F _)]
  rfl
 ·have e:((10:Int) ^ 60)<2 ^ 240:=`aq
  have e2:((10:Int) ^ 60)=(`Y':Int):=`aq
  have e3:`Y'<`PA:=`aq
  rw[e2] at u1 ⊢;generalize `Y'=t at u1 e3;generalize `aGj=r at e3;omega
theorem jn0(nm:`j)(hp:`YO)(i:Int)(h0:`na)(h1:i<12):ixD `qM `dL=`a (`J (`aHm))/\`aHm∈nm:=by
 have hl:=hp.len;have F:`g4<nm.length:=`p
 constructor
 ·show atI (nm.map `iJ) i=_
  rw[ys0 h0 `gC `z];simp[`ec,F]
 ·rw[`ec,`iv F]
  exact L8 F
noncomputable def S37:Str := `aD3
theorem Nq0(i:Int)(h0:`na)(h1:i<37):∃c:Nat,ixD (`DR) `dL=`a (`nh):=by
 have hl:S37.cps.toList.length=37:=`aq
 refine⟨S37.cps.toList.getD `g4 0,?_⟩;simp only[ixD];rw[`auR,ys0 h0 (by rw[hl];exact h1) 0];rfl
theorem Uv0(c m:Int)(nm:`j)(hp:`YO)(hc:`Y6)(hm:`Y7):∃p:Pt,O2 [`a_,`iI,`iM]=`Y!/\`gb/\∀v∈`bu,`agK:=by
 have z:`dv:=`ai
 obtain⟨x1,p0,p1,p2⟩:=`aHn;obtain⟨x2,q0,q1,q2⟩:=`aHo;obtain⟨x3,r0,r1,r2⟩:=`aHp;obtain⟨xt,t0,t1,t2⟩:=V9 c 30 `f `f;obtain⟨xc,c0,c1,c2⟩:=V9 c 31 `f `f;obtain⟨n,a6,hn⟩:∃n:Nat,n<=12/\`aHq:=by
  have F:∀(n:Nat),ixD (`aHr) (`aHs)=`agN->`aHq:=λn h δ=>by
   rw[p6 (x:=`aHr) (y:=`aHs) (ua0 rfl (by show 8<=`R;omega)) (by
    rw[p6 (x:=`c x2) (y:=`vP) (by rw[`aHt];exact q2) rfl];rfl)]
   exact h
  have q:`j?=0∨`j?=1∨`j?=2∨`j?=3∨`j?=4∨`j?=5∨`j?=6∨`j?=7:=`p
  rcases q with q|q|q|q|q|q|q|q<;>rw[q] at F
  ·exact⟨0,`p,F 0 rfl⟩
  ·exact`aHu
  ·exact`aHv
  ·exact⟨3,`p,F 3 rfl⟩
  ·exact`aHv
  ·exact`aHu
  ·exact⟨4,`p,F 4 rfl⟩
  ·exact⟨12,`p,F 12 rfl⟩
 have s3:∀δ:Ds,o2 `aD2 `lG b8 (`Px)=`a (`PP):=fun δ=>by
  rw[p6 (x:=`c x1) (y:=`qx) (by rw[`aHw];exact p2) rfl];rfl
 by_cases k0:`n3=0
 ·obtain⟨f,hf⟩:∃f:`gQ,∀j:Nat,j<21->∀δ:Ds,`aHx=`a (`aHy):=by
   have:∀j:Nat,∃v:Nat,j<21->∀δ:Ds,`aHx=`a (`J ⟨#[v]⟩):=λj=>by
    by_cases hj:j<21
    ·obtain⟨x,y0,y1,y2⟩:=V9 c (80+`br) `g `g
     obtain⟨v,hv⟩:=Nq0 (x%37) `g `g;refine⟨v,λ_ δ=>?_⟩;rw[p6 (x:=`DR) (y:=`c (x%37)) rfl (by
      rw[p6 (x:=`dU) (y:=`c 37) (by rw[o4 (ds:=[`a_,`c (80+`br)]) rfl];exact y2) rfl];rfl)]
     exact hv
    ·exact`aF1
   obtain⟨f,hf⟩:=`Jr;exact`Js
  obtain⟨l,hl⟩:∃l:Nat,`Y?=x3%21:=⟨(x3%21).toNat,`p⟩;have a7:l<21:=`p
  obtain⟨w,hw⟩:∃w:`l,w=(`b5 l).map f:=`au;have wl:`DJ=l:=`aF2
  refine⟨`vD (`bU w),Z1 rfl (v9 `JD (v9 `JE `fP)),⟨by show (`bU w).length<=20;rw[zk0];omega,`q6,`l4,`c_⟩,`q6⟩;rw[W9 (by show `aHz;rw[`bv k0])];refine v9 (j8 (d:=`DR) rfl) (m7 (Z7 (Z4 (`x rfl (`x (d:=`Dw) ?_ rfl)) `dV)))
  change ur0 _ _ [`W,`bO,`j!,`wm,`ka,`DS,.un,.un,.un]=_
  rw[de0 (x:=`O0) (ds:=`aF3) rfl (`x (Y9 (items:=R9 0 `Y?) (xz0 (`x (by
   rw[p6 (x:=`c x3) (y:=`O1) (by rw[`aHA];exact r2) rfl,hl];rfl) rfl) `g `g) `za (by
   have q:=v00 (gt:=noT) (ge:=`aD5) (δ:=[.un,`W,`DS]) (n:=`Y?) (λj=>`aHy) (λk hk=>⟨[`aN,`W,`DS],rfl,rfl,hf k `g []⟩);refine `YQ;rw[`aF,hw];unfold ones;rw[`aS,`aS];rfl)) rfl)]
  have e1:=`aF4;have a4:`aF5:=`G_
  simp only[m30];rw[a4,`E,qz0,join_ones,`I (by
   have:`aF6:=`aq
   rw[`B];omega)]
 obtain⟨f,hf⟩:∃f:`HS,∀j:Nat,j<12->(Vb `sV/\Lk m.toNat `sV)/\`aHB=`a `sV:=by
  have:∀j:Nat,∃v:D,j<12->(`DO)/\`aHB=`bo:=λj=>by
   by_cases hj:j<12
   ·obtain⟨v,h1,h2⟩:=s60 c (4+`br) m hc `g hm
    exact⟨v,λ_=>⟨h2,h1⟩⟩
   ·exact⟨`z,`agn⟩
  obtain⟨f,hf⟩:=`Jr;exact`Js
 obtain⟨vs,J⟩:∃vs:`s,vs=`y? f:=`au;have vl:`bF=n:=by rw[J];simp
 have vv:∀v∈vs,`DO:=λv hv=>by
  rw[J] at hv;obtain⟨k,hk,rfl⟩:=`sS;exact(`JF).1
 have n0:∀G:GS,ifD `I8 G t6 `Za=`a (.nx `Za):=λG=>by
  rw[j6 (by show `aHz;rw[`bS k0])];rfl
 have s6:Z9 1 `vR `O2 `bs noT (`Yf) `Za=`sO:=by
  refine Y9 (items:=`Jt) `Zb `za ?_;have q:=v00 (gt:=noT) (ge:=`Yf) (δ:=[.un,`W,`j!]) (n:=`bH) f (λk hk=>⟨[`aN,`W,`j!],rfl,rfl,by
   rw[o4 (ds:=[`a_,`c (4+`cL),`iM]) rfl];exact(`YP).2⟩)
  rw[`aF] at q;rw[J];exact q
 by_cases k1:`n3=1
 ·refine⟨`mL,Z1 rfl (v9 `JD (v9 `JE (v9 `s0 (v9 `Zc `fP)))),⟨by show `zp;omega,λv hv=>(vv v hv).1,`l4,by show `Pk;omega⟩,λv hv=>(vv v hv).2⟩
  rw[W9 (by show `aHC;rw[`bv k1])];exact `JG
 have n1:∀G:GS,ifD `aD6 G t6 `Zd=`a (.nx `Zd):=λG=>by
  rw[j6 (by show `aHC;rw[`bS k1])];rfl
 obtain⟨st,a3⟩:∃st:Int,st=xt%12:=`au;have a8:0<=st:=`p
 obtain⟨nf,Y⟩:∃nf:Nat->Str,nf=λ(k:Nat)=>`DQ (`Ze).toNat "" := `au
 have a5:∀k,nf k∈nm:=λk=>by rw[Y];exact(jn0 nm hp (`Ze) `g `g).2
 obtain⟨ps,O⟩:∃ps:`cV,ps=`y? λk=>(nf k,f k):=`au
 have pl:`M=n:=by rw[O];simp
 have pv:∀v∈`hk,`DO:=λv hv=>by
  rw[O,`aS] at hv;obtain⟨k,hk,rfl⟩:=`sS;exact(`JF).1
 have short:=hp.short;have pn:∀s∈`fM,`j9:=λv hv=>by
  rw[O,`aS] at hv;obtain⟨k,hk,rfl⟩:=`sS;exact short _ (a5 k)
 have s7:b7 `n4 `aD7 `Zd=`a (.nx `aHD):=by
  refine j8 (i:=7) (d:=`c st) ?_;rw[p6 (x:=`c xt) (y:=`iC) (by rw[o4 (ds:=[`a_,`c 30]) rfl];exact t2) rfl,a3];rfl
 have s8:b7 (gN 8) `aD8 `aHD=`a (.nx `aHE):=by
  refine j8 (i:=8) (d:=`qU) ?_;rw[o4 (ds:=[`n `hi]) (`x (Y9 (items:=`Jt) `Zb `za (by
   rw[O,`aS];have q:=v00 (gt:=noT) (ge:=`afG) (δ:=[.un,`bO,`iG,`DW]) (n:=`bH) (λj=>pr (nf j,f j)) (λk hk=>⟨[`aN,`bO,`iG,`DW],rfl,rfl,by
    have Z:k<n:=`p
    refine Z4 (`x (d:=`J (nf k)) ?_ (`x (d:=f k) ?_ rfl)) `dV
    ·rw[p6 (x:=`iI) (y:=`c (`Ze)) rfl rfl,Y]
     exact(jn0 nm hp _ `g `g).1
    ·rw[p6 (x:=`lI) (y:=`cM) rfl rfl]
     show atI vs `cL=_;rw[`Jg,`aF,J];simp[`ec,Z]⟩)
   rw[`aF] at q;exact q)) rfl)]
  rfl
 by_cases k2:`n3=2
 ·refine⟨`jl,Z1 rfl (v9 `JD (v9 `JE (v9 `s0 (v9 `Zc (v9 (n1 _) (v9 s7 (v9 s8 `fP))))))),⟨`aHF,`aHG,λs hs=>pn s (by simpa [Pt.all,Pt.pnames,Pt.cls] using hs),`aHH⟩,`aHI⟩
  rw[W9 (by show `aHJ;rw[`bv k2])];exact `JG
 ·obtain⟨a1,a2⟩:=jn0 nm hp (xc%12) `g `g
  refine⟨`hj (`DQ (xc%12).toNat "") ps,Z1 rfl (v9 `JD (v9 `JE (v9 `s0 (v9 `Zc (v9 (n1 _) (v9 s7 (v9 s8 (v9 (δ':=`aHE) ?_ `eb)))))))),⟨`aHF,`aHG,`Ju,`aHH⟩,`aHI⟩
  ·rw[j6 (by show `aHJ;rw[`bS k2])];rfl
  ·exact Z4 (`x rfl (`x (by
    rw[p6 (x:=`iI) (y:=`c (xc%12)) rfl (by
     rw[p6 (x:=`c xc) (y:=`iC) (by rw[o4 (ds:=[`a_,`c 31]) rfl];exact c2) rfl];rfl)]
    exact a1) `n1)) `JH
  ·rcases `Zf with q|q
   ·exact pn s q
   ·have:=L9.mp q
    rw[`B];exact short _ a2
theorem wy0(ns:`aG)(hb:∀z∈ns,`iw)(a:Int)(ha:`Zg)(most:Int)(hm:`JI):∃ps:`ao,`Zh=`a (web ps)/\Gw' ps/\0<`M/\∀p∈ps,∀v∈`bu,Lk `M v:=by
 have z:`dv:=`ai
 obtain⟨c0,e0,_⟩:=wj0 ns hb a ha.1 `g;obtain⟨c1,e1,_⟩:=wj0 ns hb `mP `g `g;obtain⟨x,x0,x1,x2⟩:=V9 c0 3 `f `f;obtain⟨nm,hn,hp⟩:=pk0 c1;have j0:0<=`zq:=`s_;have j1:`zq<`lS:=M1 _ hm.1;obtain⟨n,F⟩:∃n:Nat,`bH=1+`zq:=⟨(1+`zq).toNat,`p⟩;have J:`oY:=`p
 have n1:0<n:=`p
 obtain⟨f,hf⟩:∃f:Nat->Pt,∀k:Nat,k<60->(Gq (f k)/\∀v∈(f k).vals,`s1)/\∀δ:Ds,`aHK=`a (f k).d:=by
  have:∀k:Nat,∃p:Pt,k<60->(`gb/\∀v∈`bu,`s1)/\∀δ:Ds,`aHK=`Y!:=λk=>by
   by_cases hk:k<60
   ·obtain⟨c,e,hc⟩:=wj0 ns hb (a+2+`cL) `g `g
    obtain⟨p,h1,h2⟩:=Uv0 c `bH nm hp hc `g;refine⟨p,λ_=>⟨h2,`Jq⟩⟩;rw[o4 (ds:=[`a_,`iI,`lP]) (`x (by
     rw[o4 (ds:=[`fQ,`c (a+2+`cL)]) rfl];exact e) `DD)]
    exact h1
   ·exact⟨`lB [],λh=>`X h hk⟩
  obtain⟨f,hf⟩:=`Jr;exact`Js
 refine⟨`y? f,Z1 rfl (v9 (j8 (d:=`lP) ?_) (v9 `aHL `eb)),⟨`pp,`f2⟩,`pp,`f2⟩
 ·rw[p6 (x:=`ck) (y:=`c (`zq)) rfl (by
   rw[p6 (x:=`dU) (y:=`DX) (by
    rw[o4 (ds:=[`c c0,`j3]) (`x (by rw[o4 (ds:=[`fQ,`hd]) rfl];exact e0) rfl)];exact x2) rfl]
   exact `aHi),F]
  rfl
 ·rw[o4 (ds:=[`c c1,`iC]) (`x (by rw[o4 (ds:=[`fQ,`c `mP]) rfl];exact e1) rfl)]
  exact hn
 ·rw[o4 (ds:=[`n ((`y? f).map `eA)]) (`x (Y9 (items:=`Jt) `Zb `za (by
   have q:=v00 (gt:=noT) (ge:=`aD!) (δ:=[.un,`fR,`PR,`ka,`bO]) (n:=`bH) (λk=>(f k).d) (λk hk=>⟨_,rfl,rfl,(`YP).2 []⟩);rw[`aF] at q;rw[`aS];exact q)) rfl)]
  rfl
 ·obtain⟨k,hk,rfl⟩:=`JJ
  exact(`JF).1.1
 ·obtain⟨k,hk,rfl⟩:=`JJ
  rw[`F,`fo];exact(`JF).1.2
universe Bw
namespace Km
open Ha
open DL W K22
structure GoodL(W:D)(n:Nat):Prop where
 few:`oY
 ex:∃Wb,W=`y4/\`aE9/\∀i,i<n->∃js:`l,O7 [`v3]=`a (`n `PZ)/\js.length<=20/\∀j∈js,j<n
noncomputable def ya0(W:D)(i:Nat):`l:=match W with
 | `y4=>(match O7 [`v3] with
  | `sO=>nn vs
  | _=>[])
 | _=>[]
noncomputable def R40(W:D)(k:Int)(od:`s):Prop:=∃(n:Nat) (o:`l),`zr/\`fb/\k<n/\od=`lK/\`n_/\∀x∈o,x<n
open Classical in
noncomputable def j4(q:Nat):`cP
 | `aHM=>if R40 W k od then (vis `PW [] q `i4 (nn od)).map nd else `b
 | _=>`b
noncomputable def T3:`cP:=j4 62
noncomputable def K5(T3:`cP):GS:=(u6 (ifD `aHN
 (u6 `aHO
 (u6 (G3 `aHP `b!
 (u6 `aHQ
 t6))
 t6))
 t6)
 t6)
noncomputable def G8:`j:=`aHR
section
noncomputable def y40:GS:=(u6 `aHS
 (u6 (vu0 2 `hr T3)
 (u6 `aHT
 (u6 (G3 `jm `c5
 (u6 `Zi
 t6))
 (u6 (ux0 3 `Yh)
 (u6 (G3 `jm `c5
 (u6 `Zj
 (u6 (ifD `Zk
 (u6 `Zl
 t6)
 (u6 (ifD `Zm
 (u6 `Zn
 (u6 `Zo
 t6))
 t6)
 t6))
 (u6 `Zp
 t6))))
 (u6 `Yi
 t6)))))))
noncomputable def K9:`j:=`aHU
noncomputable def S5:`K:=`aHV
universe zz
theorem jk0{W:D}(hW:`zr)(o:`l)(q j:Nat)(hj:j<n)(ho:`n_)(hon:∀x∈o,x<n):`aHW=(`Zq).map nd:=by
 unfold j4;simp only[];rw[`I ⟨n,o,hW,`p,`p,rfl,ho,hon⟩,jh0,`aF]
theorem mh0{W:D}(hW:`zr)(hi:i<n):(∃d,`aFe/\O7 [d]=`a (`n (nd (`JK))))/\(`JK).length<=20/\∀j∈`JK,j<n:=by
 obtain⟨Wb,rfl,hl,h⟩:=hW.ex;obtain⟨js,e,h1,h2⟩:=h i hi;have ea:ya0 (`y4) i=js:=by
  unfold ya0;simp only[];rw[e];exact jh0 js
 rw[ea];refine⟨`aFf,h1,h2⟩;show atI Wb `jz=_;rw[`Jg,`aF]
theorem mk0{W:D}(hW:`zr):∀i,i<n->∀j∈`JK,j<n:=λi hi=>(mh0 hW hi).2.2
noncomputable def CB(f:`cP):GS:=(u6 (vu0 2 `PS f)
 t6)
theorem iq0{W:D}(hW:`zr)(K:Sl)(p q:Nat):∀(js:`l) (o r:`l) (s3:Sl),(∀j∈js,j<n)->js.foldlM (λo j=>`Zq) o=`bL->`n_->`Dk ->
  ∃s3',N7 `b! `PY `PZ [`cl,K,`PX,s3]=`a (.nx [`cl,K,.ow (`nO p `qI),s3'])
 | [],o,r,s3,_,e,_,_=>by cases e;exact`aHX
 | j::js,o,r,s3,hv,e,ho,hon=>by
  rw[`sN] at e;cases e1:`Zq with
  | none=>rw[e1] at e;cases e
  | some o1 =>
   rw[e1] at e;have hj:=hv j A7;obtain⟨a,b⟩:=gv0 (mk0 hW) q j o o1 e1 hj ho hon;obtain⟨s',h⟩:=iq0 hW K p q js o1 r (`cF) (λi hi=>hv i (A9 _ hi)) e a b;refine`y8;have h1:`aHY=`a (.nx `aHZ):=by
    refine v9 (δ':=`aHZ) ?_ rfl;unfold vu0;show `hX _ (`aHW)=_;rw[jk0 hW o q j hj ho hon,e1];rfl
   show N7 `b! `PY (`dg::nd js) _=_;unfold N7;show (match `aHY with|`dO=>`aH_|`xN=>`aH_|`xO=>`dO|r=>r)=_;rw[h1];exact h
theorem vi0(q:Nat):`aH0:=by
 intro ds l l' h;have zs:`dv:=`ai
 obtain⟨W,k,od,he⟩:∃W k od,`Ot=`aHM:=by
  unfold j4 at h;split at h
  ·rename_i W k od e;exact⟨W,k,od,e⟩
  ·cases h
 have a1:ds=[W,`df]/\l=od:=by
  have:`Ot=[W,`df]++[`n od]:=he;have:=List.append_inj' `B rfl;refine⟨this.1,?_⟩;injection this.2 with z
  injection z
 obtain⟨rfl,rfl⟩:=a1;refine⟨rfl,λp=>`q `vj⟩;have h:j4 `qV [W,`df,`j0]=`CJ:=h;have ha:R40 W k l:=Classical.byContradiction λha=>by
  unfold j4 at h;simp only[] at h;rw[`ay ha] at h;cases h
 obtain⟨n,o,hW,k0,k1,rfl,ho,F⟩:=ha;obtain⟨k,rfl⟩:∃k':Nat,k=(k':Int):=⟨`i4,`p⟩;have hk:k<n:=`p
 rw[jk0 hW o `qV k hk ho F] at h;cases e1:vis `PW [] `qV k o with
 | none=>rw[e1] at h;cases h
 | some r =>
  rw[e1] at h;cases h;have a3:`gO<=60:=by
   have:=`aE4
   rw[`fo] at this;have:=hW.few;omega
  have ht:xj0 `agP `zs=`a (`O (k∉o)):=by
   show ob `agO [`cl,`aN,.sh (`v4),.un]=_;unfold ob;rw[p6 (x:=`cM) (y:=`v4) rfl rfl,Ou0];rfl
  rw[vis] at e1
  by_cases hc:k∈o
  ·rw[`I (`o hc)] at e1
   cases e1;refine⟨`zs,v9 (δ':=`zs) ?_ rfl,rfl⟩;rw[`bS (by simpa using hc)] at ht;show ifD _ _ _ `zs=_;rw[`zm];rfl
  ·rw[`ay (λz=>`cU hc `yM)] at e1
   have a2:(`y3).Nodup:=`oZ ⟨ho,`aB,λa ha b hb e=>by
    rw[`qe] at e;exact hc `Jf⟩
   have J:∀x∈`y3,x<n:=λx hx=>by
    rcases `Yw with z|z
    ·exact F x z
    ·rw[`sQ];exact hk
   obtain⟨⟨d,Y,O⟩,a4,Z⟩:=mh0 hW hk;obtain⟨s3,hf⟩:=iq0 hW (`aN) p q (ya0 W k) (`y3) r .un Z e1 a2 J;refine⟨`aH1,v9 (δ':=`aH1) ?_ rfl,rfl⟩;rw[`Zr] at ht;show ifD _ _ _ `zs=_;rw[`zn];refine v9 (δ':=[`cl,`aN,.ow (`nO p (nd (`y3))),.un]) ?_ (v9 (J0 (items:=nd (ya0 W k)) ?_ hf) rfl)
   ·unfold Y0 is0
    show `hX _ (if (`lK).length<`R then `a (D.non,([`cl,`aN,.ow (`w [`XC,`n (`lK++[`cM])]),.un]:Ds)) else `b)=_;rw[`I (`y9)];rw[um0];rfl
   ·show `gP (oA `Pm O7 _) uw0=_
    rw[o4 (ds:=[d]) (`x (by rw[p6 (x:=W) (y:=`cM) rfl rfl];exact Y) rfl),O];rfl
theorem ww0(ds:`s):`aH2:=by
 unfold j4;split
 ·split<;>rfl
 ·rfl
universe Km
namespace Km
open Ha
open DL W K22
open Bw (bs sg cnt kn its tx fold Vb Gp Gq)
noncomputable def pd(ks:`de):D:=`bk `Be `Zs
noncomputable def ix{α:Type}[`Zt]:`bP->α->Nat
 | [],_=>0
 | `n',a=>if b=a then 0 else ix l a+1
theorem mn0[`Zt]:∀{l:`bP} {a:α},a∈l->ix l a<`cO
 | [],_,h=>by cases h
 | `n',a,h=>by
  unfold ix;rw[`ba]
  by_cases e:b=a
  ·rw[`hU];omega
  ·have:=mn0 (l:=l) (a:=a) (`JL)
   rw[`gN];omega
theorem gl0:∀(ks:`de) (s:Nat) (k:X5),`DC->yb0 ks (nd (`iu s `gn)) k=`a (`c ((s+`JM:Nat):Int))
 | [],s,k,h=>by cases h
 | a::ks,s,k,h=>by
  rw[`ba,`Xi];show (if a=k then `a (`cC (s:Int)) else yb0 ks (nd (`iu (s+1) `gn)) k)=_;unfold ix
  by_cases e:a=k
  ·rw[`hU,`hU]
   rfl
  ·have hk:`DC:=`JL
   rw[`gN,`gN,gl0 ks (s+1) k hk,show s+1+`JM=s+(`JM+1) by omega]
theorem gh0{k:X5}(h:`DC):yb0 ks `Zs k=`a (`c (`JM:Int)):=by
 rw[List.range_eq_range',gl0 ks 0 k h,`bR]
theorem pm0(ks:`de)(k:X5):`aGv:=by
 unfold T9;rw[`Je];constructor
 ·rintro⟨x,hx,e⟩
  rw[← `Xl e];exact hx
 ·intro h
  exact`aGw
theorem ji0{k:X5}(h:k∉ks):`pY=`m:=by
 cases e:`pY with
 | false=>rfl
 | true=>exact `X ((pm0 ks k).mp e) h
theorem n80{k:X5}(h:k∉ks):(`bk (`o `yK) (V6 ks `Zs k (`c (`gn:Int))):D)=pd (ks++[k]):=by
 unfold U6 V6 pd;rw[ji0 h,`bD,`bD,`aM,`jV,`Zu,um0];rfl
theorem idx_map[`Zt][`M5 β](f:α->β)(a:α):∀l:`bP,(∀b∈l,f b=f a->b=a)->ix (`d9 f) (f a)=ix l a
 | [],_=>rfl
 | `n',h=>by
  rw[`aC];unfold ix
  by_cases e:b=a
  ·rw[`hU,`I `Zv]
  ·rw[`gN,`ay (λz=>e (h b A7 z)),`Zw f a l λc hc=>h c (A9 _ hc)]
noncomputable def kb(B:`l):`de:=B.map `aH3
noncomputable def kt(T:`j):`de:=T.map `aH4
theorem kb_mem(B:`l)(j:Nat):`aH5∈kb B↔`iR:=by
 unfold kb;rw[`Zx];constructor
 ·rintro⟨k,hk,e⟩
  have:`cL=`br:=`JN
  have:k=j:=`p
  rw[← `B];exact hk
 ·exact λh=>⟨j,h,rfl⟩
theorem u20(T:`j)(s:Str):`P2∈kt T↔`lV:=by
 unfold kt;rw[`Zx];constructor
 ·rintro⟨k,hk,e⟩
  have:k=s:=`JN
  rw[← `B];exact hk
 ·exact λh=>⟨s,h,rfl⟩
theorem P20(B:`l)(j:Nat):ix `lW `aH5=`P5:=`Zw (`aH3) j B λb _ e=>by
 have:`Y1=`br:=`JN
 omega
theorem R20(T:`j)(s:Str):ix `qW `P2=`P4:=`Zw (`aH4) s T λb _ e=>`JN
theorem nn0(B:`l):`D1=`n6:=by unfold kb;rw[`F]
theorem kt_len(T:`j):`wo=`hw:=by unfold kt;rw[`F]
structure Wb(ps:`ao):Prop where
 len:`aFg
 it:∀p∈ps,`gb
 lk:∀p∈ps,∀v∈`bu,Bw.Lk `M v
noncomputable def It(n:Nat)(d:D):Prop:=`aGU∨d=`z∨(∃z:Int,d=`j_/\`YS)∨∃j:Nat,d=`j8/\j<n
theorem It.of(h:`fc)(hl:`Zy):It n v:=by
 cases h with
 | non=>exact `q `h_
 | lk j _=>exact `q (`q (`q ⟨j,rfl,hl j rfl⟩))
 | int z hz=>exact `q (`q (`o ⟨z,rfl,hz⟩))
noncomputable def hb(ps:`ao)(B:`l)(T:`j):D->`aG
 | `ht=>`Zz
 | `sP=>if `ZA then bs (4*(`n6 - 1 - ix B `h9)+2) else bs (4*(4*cnt `JO+kn `JO)+3)++tx `JO
 | `j_=>bs (4*`we+1)
 | _=>bs 0
theorem up0(n:Nat)(h:`zf):`aGf:=Bw.up0 n h
theorem jl0(s:Str)(h:`YT):`aGn:=Bw.jl0 s h
theorem dg0(h:`o2):`aGX:=Bw.dg0 h
theorem do0(h:`o2):`aGY:=Bw.do0 h
theorem cr0(h:Gp p):`aG1:=Bw.cr0 h
theorem rm0(z:Int):`aGk:=Bw.rm0 z
theorem cx0(ks:`de):J9 [pd ks]=`a (`c (`gn:Int)):=rfl
theorem T50(T:`j)(s:Str):V3 `m `iP `D2=`a (.bl `aH6):=by
 show `a (`kF (xor `m (`aH7)))=_;rw[`sk]
 by_cases h:`lV
 ·rw[`aH8,`fX]
 ·rw[`aH9,`fV]
theorem Xt0(B:`l)(j:Nat):V3 `d `iH `D5=`aH':=by
 show `a (`kF (xor `d (T9 `lW `mO)))=_
 by_cases h:`iR
 ·rw[`agZ `aH!,`ZB];rfl
 ·rw[ji0 (λz=>h `aH?),`fX];rfl
theorem Wj0{s:Str}(h:`lV):ym0 `D2 `iP=`a (`aIa):=by
 show `aIb=_;rw[`aIc,R20]
theorem ki0(h:`iR):ym0 `D5 `iH=`a (`aId):=by
 show yb0 `lW `Qi `mO=_;rw[gh0 `aH!,P20]
theorem T80(T:`j)(hT:`JP)(s:Str)(hs:`j9)(ps:`ao)(B:`l):wa0 `aIe=`a (`n ((hb ps B T `iP).map `c)):=by
 have z:`dv:=`ai
 have ht:ob `aDe `JQ=`a `aH6:=by
  unfold ob;rw[p6 (x:=`ht) (y:=`qX) rfl rfl,T50];rfl
 show _=`a (`hf ((`Zz).map `c))
 by_cases h:`lV
 ·rw[`fX] at ht
  rw[`f9];have F:=mn0 h;refine `Y2;show ifD _ _ _ `JQ=_;rw[`zn];refine `De;rw[o4 (ds:=[`c ((`agW:Nat):Int)]) (`x (by
   rw[p6 (x:=`gz) (y:=`c (`Dn - 1 - `ag3)) rfl (by
    rw[p6 (x:=`c (`Dn - 1)) (y:=`aIa) (by
     rw[p6 (x:=`YF) (y:=`ck) (by rw[o4 (ds:=[`qX]) rfl,cx0,kt_len]) rfl];rfl) (by rw[p6 (x:=`qX) (y:=`ht) rfl rfl,Wj0 h])]
    rfl),`jn]
   congr 2;omega) rfl)]
  exact `JR
 ·rw[`fV] at ht
  rw[`hH];refine X4 rfl (v9 (δ':=`JQ) (by
   show ifD _ _ _ `JQ=_;rw[`zm];rfl) `hs)
  have h1:=Bw.ai0 `D_ `lX;have h2:=Bw.ia0 s;rw[p6 (x:=`n ((bs `D_).map `c)) (y:=`agx) (by
   rw[o4 (ds:=[`c ((2*`qL+1:Nat):Int)]) (`x (by
    rw[p6 (x:=`c (2*`agE)) (y:=`ck) (by
     rw[p6 (x:=`gz) (y:=`aGV) rfl (Bw.k50 rfl `g)];exact `jn) rfl]
    show `JS;congr 2) rfl)]
   exact `JR) (by rw[o4 (ds:=[`ht]) rfl];exact jl0 s `g)]
  exact `aIf
theorem h80(B:`l)(j:Nat):zq0 `D?=`aH':=by
 refine `sT;unfold qn0;rw[show ob `vI (Z8 sg0 `D?)=`g7 from rfl,`E,`cp];rw[p6 (x:=`dg) (y:=`iO) rfl rfl];exact Xt0 B j
theorem pf0{d:D}(h:`gA d=`m)(B:`l):zq0 [d,`iO]=`GO:=by
 refine `sT;unfold qn0;rw[show ob `vI (Z8 sg0 [d,`iO])=`a (`gA d) from rfl,h];rfl
theorem Xh0(X:D):y30 [`z,X]=`a (`JT):=`lH
theorem Xs0(z:Int)(X:D):y30 [`j_,X]=`a (`c ((4*`we+1:Nat):Int)):=by
 refine Z1 rfl (v9 (δ':=`aIg) `s2 (v9 (δ':=`aIg) `s2 `eb));rw[p6 (x:=`c (4*`agu)) (y:=`ck) (by
  rw[p6 (x:=`lC) (y:=`agv) rfl (by rw[o4 (ds:=[`j_]) rfl,rm0])];exact `jn) rfl]
 show `JS;congr 2
theorem Y40(h:`iR):y30 `D?=`a (`aIh):=by
 have F:=mn0 h;refine Z1 rfl (v9 (δ':=[`iQ,`D!]) `s2 `fP);rw[`JU];refine `v?;rw[p6 (x:=`c (4*`aIi)) (y:=`gz) (by
  rw[p6 (x:=`lC) (y:=`c `aIi) rfl (by
   rw[p6 (x:=`c (`P7 - 1)) (y:=`aId) (by
    rw[p6 (x:=`c `P7) (y:=`ck) (by rw[o4 (ds:=[`iO]) rfl,cx0,nn0]) rfl];rfl) (by rw[p6 (x:=`iO) (y:=`dg) rfl rfl,ki0 h])]
   rfl)]
  exact `jn) rfl]
 show `JS;congr 2;omega
universe Km
namespace Ta
open Ha
open DL W K22 SoT
noncomputable def zz(p:`b8):`dh:=(`wf,`wg)
noncomputable def nn2(q:`dh):`b8:=(q.1.toNat,q.2.toNat)
theorem ad0{p q:`b8}(h:zz p=zz q):p=q:=by
 obtain⟨a,b⟩:=p;obtain⟨c,d⟩:=q;have h1:`ia=(c:Int):=C6 `u? h;have h2:`Y1=(d:Int):=C6 Prod.snd h;exact U2 (by show a=c;omega) (by show b=d;omega)
theorem h50{f:α->β}(hf:∀a b,`aIj):∀{l:`bP},`Ym->(`d9 f).Nodup
 | [],_=>P1
 | a::l,h=>by
  rw[`Wm] at h;rw[`aC,`Wm];refine⟨`gD,h50 hf h.2⟩;obtain⟨b,hb,e⟩:=`fJ z;exact h.1 (hf _ _ e▸hb)
universe Ta
namespace Ua
open Ha
open DL W K22
open Ta (pa N5)
noncomputable def dr(ps:`ao)(r:`l):`ao:=r.map λk=>rel (`JV) (`q8)
structure Met(ps:`ao)(r:`l):Prop where
 ex:∃c,Dfs (v30 `dj) [] c [] [0] r/\`YI
 nd:`v2
 lt:∀y∈r,y<`M
 cl:∀i∈r,∀j∈`y6,`v8
 hd:∃s,r=0::s
theorem vc0(h:`aY):∃r,`dw:=by
 obtain⟨c,r,h1,h2,h3,h4,h5,_,h7⟩:=walk h [] h.len.1;exact⟨r,⟨c,h1,h2⟩,h3,λy hy=>(h4 y hy).1,λi hi j hj=>(h5 i hi j hj).resolve_right `T,h7 `T⟩
theorem Met.zero(m:`dw):0∈r:=by obtain⟨s,rfl⟩:=m.hd;exact A7
theorem g50(h:`aY)(hi:`jg):`y6=tgs (`n7).vals:=by
 rw[h.adj hi];unfold pa;simp[hi]
theorem Vx0{adj:`f?}{c:Nat}{o T:`l}(h:`sM):`aFK:=by
 induction h with
 | nil o=>exact`aFM
 | skip _ _ ih=>exact ih
 | @visit c o T r x _ _ _ _ ih =>
  obtain⟨s,e⟩:=ih;exact`aFO
theorem Ua0{adj adj':`f?}(f:`gQ){c:Nat}{o T:`l}(h:`aIk):(∀a∈r,∀b∈r,`aIj)->(∀i∈r,adj' (f i)=(`nZ).map f)->Dfs adj' [] c (o.map f) (T.map f) (r.map f):=by
 induction h with
 | nil o=>intro _ _;exact `U _
 | @skip c o T r x hx hd ih =>
  intro hi ha;exact .skip (`o (B60 (hx.resolve_right `T))) (ih hi ha)
 | @visit c o T r x hx hS hz hd ih =>
  intro hi ha;obtain⟨s,e⟩:=Vx0 hd;have F:x∈r:=`aa'
  have J:∀y∈o,y∈r:=λy hy=>by rw[e];simp[hy]
  have k:=ih hi ha;refine .visit (`gD) `T ?_ ?_
  ·obtain⟨y,hy,e2⟩:=`fJ z
   exact hx (hi y (J y hy) x F e2▸hy)
  ·rw[ha x F]
   simp only[`aM,`F] at hz ⊢;exact hz
  ·rw[ha x F]
   rw[`bl,`bl] at k;exact k
theorem o10:∀(a:`j) (b:`s),`v_=`Pi->(a.zip b).map `bG=a
 | [],_,_=>`aB
 | `dR,[],h=>`i1
 | `sy,b::bs,h=>by simp at h;simp[o10 as bs h]
theorem P80(f:`gQ)(j:Nat):lkv f `hu=`w [`nT,`Po]:=by unfold lkv;simp only[`aF]
theorem zo0(hp:`aY)(m:`dw):Web `lY/\`aIl:=by
 have hl:`aIm:=by
  have:=`aIn
  rwa [P6] at this
 have e:`aIl:=by unfold dr;rw[`F]
 refine⟨⟨?_,λp F=>?_⟩,e⟩
 ·rw[e]
  have:=`zt;exact⟨List.length_pos_of_mem m.zero,`p⟩
 ·rw[e]
  obtain⟨i,hi,rfl⟩:=`fJ F;refine Rb0 (N5 hp `qZ).2 _ `Uv
  exact List.idxOf_lt_length_of_mem (m.cl i hi j (by rw[g50 hp `qZ];exact hj))
universe Ua
namespace Ua
open Ha
open DL W K22
open Ta (pa N5 vg0)
theorem yi0(h:`o0)(f:`gQ)(D':D)(hd:∀j∈`qG,`Yz):`YA:=`aIo
theorem sb0(h:`aY)(m:`dw):vd0 `aIp=`YJ:=by
 obtain⟨c,h1,h2⟩:=m.ex;exact K22.sb0 h [] `f h.len.1 h1 h2
theorem Sc0(h:`aY)(m:`dw):sr0 `D9=`YJ :=
 X4 rfl (Y4 (V7 (by rw[o4 (ds:=`aIp) rfl];exact sb0 h m)))
noncomputable def nums(r:`l)(i:Nat):D:=`bk (`o (kd (`wr i))) (nd (`iu 0 i))
theorem Tu0(hn:`v2)(hj:j<`aL):U6 (`JW) `ZC=kd (`wr `eD)/\V6 (`JW) (`aIq) `ZC `iH=nd (`iu 0 `eD):=by
 have F:r[j]∉`D8:=λz=>by
  have q:(`D8++`Mk j).Nodup:=by rw[`aIr];exact hn
  exact(P5.mp q).2.2 _ z _ (by rw[`x1 hj];exact A7) rfl
 have hk:T9 (`JW) `ZC=`m:=`aFC
 have tk:`wr `eD=`D8++[r[j]]:=by rw[`wy,`Xk];rfl
 constructor
 ·unfold U6;rw[hk,`bD,tk,n90];rfl
 ·unfold V6;rw[hk,`bD,List.range'_concat,um0,Nat.one_mul,`bR];rfl
theorem Vi0(hj:`v8):ym0 (`P8) `iH=`a (`c ((`D6:Nat):Int)):=by
 show yb0 (kd (`wr `aL)) (nd (`iu 0 `aL)) `mO=_;rw[`mI,fw0 r 0 j hj,`bR]
theorem nv0{k:Nat}{gx:GE}(h1:`cA=`a (.ow (`bk `Be vs)))(h2:`sd=`bo)(h3:`as=`aIs)(h4:`gn<`R) :
  V0 (W5 gx) `avc δ=`a (.nx (`bq i (.ow (`bk (`o (U6 ks `n?)) (V6 ks vs `n? v))))):=by
 have e:`uE=`WN:=by unfold qf0;rw[h1]
 unfold V0 W5;rw[h2,`ds,`E];unfold DL.putAt;rw[e,`E,h3,`E];simp only[J2,`E];rw[`I h4];rfl
theorem Vg0(h:`aY)(m:`dw){mf:`K}(hm:∀i∈r,mf `aIt=`a (rel (`JV) (`n7)).d) :
  R6 `bs noT (oA `aDS mf) [.un,`ag,`ZD] `qI=`a ((`wq).map `eA):=by
 rw[R8 (λd=>match d with|`a4=>(rel (`JV) (pa ps `g4)).d|_=>`z) (λd hd=>by
  obtain⟨i,hi,rfl⟩:=`fn;refine⟨[.sh (`il),`ag,`ZD],rfl,rfl,?_⟩;rw[o4 (ds:=`aIt) (`x (by rw[p6 (x:=`cE) (y:=`il) rfl rfl];exact(`aIu).1) rfl),hm i hi];rfl)]
 unfold nd dr;rw[`aS,`aS];rfl
theorem Met.len(h:`aY)(m:`dw):`aIm/\`aL<=60:=by
 have:=`aIn
 rw[`fo] at this;exact⟨`B,B9 `B `Jh⟩
theorem Met.tg(h:`aY)(m:`dw)(hi:i∈r)(hj:j∈tgs (`n7).vals):`v8:=m.cl i hi j (by rw[g50 h `qZ];exact hj)
theorem i00(r:`l):(`zu).length=`aL:=by unfold K1;rw[`F,`fo,zb0]
theorem Yz0{d:D}(h:(`zu)[j]?=`bb):∃hj:j<`aL,d=`w [`dg,`JX]:=by
 have F:j<`aL:=by
  have:=`VE
  rwa [i00] at this
 refine⟨F,?_⟩;unfold K1 at h;rw[`dQ,`VF (by rw[zb0];exact F)] at h;have e:(nd r).getD j `z=`JX:=by unfold nd;simp[F]
 rw[← e];exact`VZ
theorem U60{gA:GA}(δ:Ds)(r:`l)(h:`bI=`a [`Ds]):ow0 gA δ=`a (`zu):=by
 unfold ow0;rw[h];rfl
noncomputable def NB:GS:=(u6 (V0 `aDR (`ZE 3 `bM)) t6)
theorem zw0(h:`aY)(m:`dw):`ZF:=by
 have zs:`hY:=`ai
 obtain⟨_,J⟩:=m.len h;obtain⟨δ',l1,s4,s5,rfl⟩:=M9 (f:=yj0 4 5) (G:=NB) (λi δ=>∃s4 s5:Sl,δ=[`ag,`ws,`D',.ow (nums r i),s4,s5]) (`zu) 0 `aIv (by
  rintro j d δ hj ⟨s4,s5,rfl⟩;rw[`bR];obtain⟨F,rfl⟩:=Yz0 hj;obtain⟨e1,e2⟩:=Tu0 m.nd F;refine⟨[`ag,`ws,`D',.ow (nums r j),`cF,.sh (`JX)],_,rfl,v9 (nv0 (ks:=`JW) (vs:=`aIq) (k:=r[j]) (v:=`dg) rfl rfl rfl (by unfold kd;rw[`F,`cm];omega)) rfl,`cF,.sh (`JX),?_⟩;rw[e1,e2];rfl) ⟨.un,.un,rfl⟩
 rw[`bR,i00] at l1;refine Z1 rfl (v9 (j8 (d:=`Ds) (d70 ?_ (ga0 r))) (v9 (δ':=`aIv) rfl (v9 (J0 (items:=`zu) ?_ l1) `eb)))
 ·show oA `hr sr0 [`ag,`ws,.un,.un,.un,.un]=_
  rw[o4 (ds:=`D9) rfl];exact Sc0 h m
 ·exact U60 _ r rfl
 ·show oA _ V4 [`ag,`ws,`D',`ZD,zc0 s4,zc0 s5]=_
  rw[o4 (ds:=[`n ((`wq).map `eA)]) (`x (Y9 (items:=nd r) rfl (`y9) (Vg0 h m λi hi=>yi0 (`aIu).2 _ _ λj hj=>Vi0 (m.tg h hi hj))) rfl)];rfl
universe Ua
namespace Ua
open Ha
open DL W K22 SoT
open Ta (pa N5 vg0 pN zz nn2 ad0 h50 up okv)
section
variable{s:`l}
noncomputable def SL(L:`_):`_:=`aIw nn2
theorem O30(L:`_):`aIw pD=(SL L).map pN:=by
 unfold SL;rw[`aS];refine Y2 `yq
 obtain⟨p,hp,rfl⟩:=`fJ ((oa0 _).mem_iff.mp hq);rfl
theorem yy0(L:`_):(SL L).Perm L:=by
 have h:=(oa0 (`fS zz)).map nn2;have e:`aIx nn2=L:=by
  rw[`aS];exact(Y2 λp _=>by show ((`wf).toNat,(`wg).toNat)=p;rw[`aF,`aF]).trans (`s3 L)
 rw[e] at h;exact h
theorem v20(hn:`kG)(h9:`bA<64):qt0 [`Ej]=`a (`n ((SL L).map pN)):=by
 have e1:`hy=`aIx pD:=by rw[`aS];rfl
 rw[e1,Uf0 (h50 (λa b=>ad0) hn) (by rw[`F];exact h9),O30]
universe zz
universe Ua
namespace Km
open Ha
open DL W K22
open Bw (bs sg cnt kn its tx fold Vb Gp Gq)
theorem Q9(hj:j<`M):ixD `l_ `iH=`a (`wt).d/\`wt∈ps:=by
 constructor
 ·show atI `n0 `br=_
  rw[`Yy,`aF];simp[`ec,hj]
 ·rw[`ec,`Xk]
  exact L8 hj
theorem du0(l:`aG):flats (`d9 `cC)=`d:=by
 unfold flats;rw[`HP,`w1];exact `oN
theorem fr0(hw:`bE)(hB:`zv)(hT:`JP){d:D}(hd:`zw):y20 `aIy=`a (`n ((`wv).map `c))/\(`wv).length<=400:=by
 have z:`dv:=`ai
 have one:∀n:Nat,`zf->`aGb:=Bw.ai0;rcases hd with⟨s,rfl,hs⟩|rfl|⟨x,rfl,hx⟩|⟨j,rfl,hj⟩
 ·refine⟨`Y2,?_⟩
  ·rw[`JU]
   refine `De;rw[o4 (ds:=`aIe) rfl];exact T80 T hT s hs ps B
  ·show (`Zz).length<=400
   split
   ·have:=one `agX `lX;omega
   ·have:=one `D_ `lX
    have:=Bw.ia0 s;rw[`aM];omega
 ·refine⟨X4 rfl (v9 (δ':=`ZG) `s2 (v9 (δ':=`ZG) ?_ `hs)),?_⟩
  ·show ifD _ _ _ `ZG=_
   rw[j6 (`fe `aIz)];rfl
  ·rw[o4 (ds:=[`JT]) (`x (by rw[`ag9];exact Xh0 _) rfl)]
   exact up0 0 `lX
  ·exact B9 (one 0 `lX) `g
 ·have hf:`aIA<`DA:=by
   have:=Bw.fold_lt x hx;have e:8*`aGi<`DA:=`aq
   generalize (2:Nat) ^ 300=w at e;omega
  refine⟨X4 rfl (v9 (δ':=`ZH) `s2 (v9 (δ':=`ZH) ?_ `hs)),?_⟩
  ·show ifD _ _ _ `ZH=_
   rw[j6 (`fe `aIB)];rfl
  ·rw[o4 (ds:=[`c ((`aIA:Nat):Int)]) (`x (by rw[`ag!];exact Xs0 x _) rfl)]
   exact up0 _ hf
  ·exact B9 (one _ hf) `g
 ·have F:∀G:GS,ifD `aDh G t6 `JY=`a (.nx `JY):=λG=>`ag5
  have ht:ob (oA `wn zq0) `JY=`aIC:=`fe `aID;have J:`aha=if `iR then bs (`ag6) else bs (4*(4*cnt `Ea+kn `Ea)+3)++tx `Ea:=by
   unfold hb;simp only[`aF]
  rw[J];obtain⟨w1,w2⟩:=Q9 hj;have hq:=`eB
  by_cases h:`iR
  ·rw[`ZB] at ht
   rw[`f9];refine⟨X4 rfl (v9 (F _) (v9 (δ':=`JY) ?_ `hs)),?_⟩
   ·rw[`zm];rfl
   ·rw[o4 (ds:=[`aIh]) (`x (by rw[`ag?];exact Y40 h) rfl)]
    exact `JR
   ·exact B9 (one _ `lX) `g
  ·rw[`fX] at ht
   rw[`hH];generalize `wt=p at w1 w2 hq ⊢;have hc:=hq.cnt;have O:=Bw.Po0 p;have h1:=one (4*(`DK)+3) `lX;have h2:=Bw.Q30 hq.gp;refine⟨X4 rfl (v9 (F _) `DL),`Jc⟩;rw[`zn];refine v9 `aIE `hs
   ·rw[`aIF]
    exact w1
   ·rw[p6 (x:=`n ((bs (4*(`DK)+3)).map `c)) (y:=`agH) (by
     rw[o4 (ds:=[`c ((4*(`DK)+3:Nat):Int)]) (`x (by
      rw[p6 (x:=`c (4*`agF)) (y:=`j3) (by
       rw[p6 (x:=`lC) (y:=`agG) rfl (by rw[`Jj];exact dg0 hc)];exact `jn) rfl]
      show `JS;congr 2) rfl)]
     exact `JR) (by rw[`Jj];exact do0 hc)]
    exact `aIf
noncomputable def nB(B:`l):D->`l
 | `sP=>if `ZA then B else B++[`h9]
 | _=>B
noncomputable def nT(T:`j):D->`j
 | `ht=>`aIG
 | _=>T
noncomputable def nW(ps:`ao)(B:`l)(W:`s):D->`s
 | `sP=>if `ZA then W else its `JO++W
 | _=>W
noncomputable def pk(ps:`ao):Nat->`l->`j->`s->`aG
 | 0,_,_,_=>[]
 | _+1,_,_,[]=>[]
 | f+1,B,T,d::W=>`wv++pk ps f (`s4) (nT T d) (`zx)
noncomputable def st(ps:`ao)(o:`aG)(B:`l)(T:`j)(W:`s)(s:Sl):Ds:=[`b7,`Pz,`zy,`P',.ow (`n `P!),s]
noncomputable def PT:GB:=`aDl
noncomputable def PB:GS:=(u6 `aDm
 (u6 `aDn
 (u6 (ifD `aDo
 (u6 `aDp
 t6)
 (u6 (ifD `aDq
 (u6 `aDr
 (u6 `aDs
 t6))
 t6)
 t6))
 t6)))
theorem p40(ps:`ao)(o:`aG)(B:`l)(T:`j)(W:`s)(s:Sl):PT `aIH=`a (`O (0<`Eb)):=by
 show `a (`O (`rF<(W.reverse.length:Int)))=_;rw[`oV];congr 1
 by_cases h:0<`Eb
 ·rw[`fX,`Jx]
 ·rw[`fV,`zg]
theorem Rf0{s:Str}(hT:`JP)(a b c e:Sl):Y0 `ae! `ZI=`a (.nx [a,b,c,.ow (pd (kt (nT T `iP))),e,`qY]):=by
 have zs:`s5:=`ai
 have e1:l40 3 `bM `OS `ZI=if `wo<`R then (if `aH7=`d then (`aIb).map λr=>(r,(`ZI:Ds)) else `a (`aII,[a,b,c,.ow (`bk (`o (U6 `qW `D0)) (V6 `qW (nd (`b5 `wo)) `D0 (`aII))),e,`qY])) else `b:=rfl
 unfold Y0;rw[e1,`I (by rw[kt_len];omega)];show `hX _ _=`a (`mM [a,b,c,.ow (pd (kt (`aIG))),e,`qY])
 by_cases h:`lV
 ·rw[`I (`aH8),`aIc,`f9]
  rfl
 ·rw[`aH9,`bD,n80 `ag0,`hH]
  show `a (`mM [a,b,c,.ow (pd (kt T++[`q s])),e,`qY])=_;unfold kt;rw[`bl];rfl
theorem ov0(hB:`zv)(hj:j∉B)(a b c e:Sl):V0 `afc `afd [a,b,`zy,c,e,`iQ]=`a (.nx [a,b,.ow (pd (kb (`n8))),c,e,`iQ]):=by
 have zs:`s5:=`ai
 show `hX `mM (if `ZJ then `a ([a,b,.ow (`bk (`o (U6 `lW `mO)) (V6 `lW `Qi `mO `ahn)),c,e,`iQ]:Ds) else `b)=_;rw[`ZK,n80 (λz=>hj `aH?)];unfold kb;rw[`bl];rfl
theorem Ux0(hw:`bE){o:`aG}{W:`s}{d:D}(s:Sl)(hB:`zv)(hT:`JP)(hd:`zw)(ho:`gO<=5000000)(hW:`Eb<=10000) :
  PB `aIJ=`a (.nx (st ps `ZL (`s4) (nT T d) (`zx) `k')):=by
 have zs:`aIK:=`ai
 obtain⟨i1,i2⟩:=fr0 hw hB hT hd;have p1:V0 (uy0 4) `ho `aIJ=`a (.nx `aIL):=by
  unfold st V0 uy0;rw[`ms];show `gP (`hX (λd'=>(d',([`b7,`Pz,`zy,`P',.ow (`n (`aIM).dropLast),s]:Ds))) (`aIM).getLast?) _=_;rw[`aFw,`aFx];rfl
 have p2:Y0 `ae' `aIL=`a (.nx (st ps `ZL B T W `k')) :=
  Bw.Sw0 (l:=o) (e:=`wv) rfl (d70 (by rw[o4 (ds:=`aIy) rfl];exact i1) (du0 _)) `g
 refine v9 p1 (v9 p2 ?_);rcases hd with⟨x,rfl,hs⟩|rfl|⟨x,rfl,hx⟩|⟨j,rfl,hj⟩
 ·refine v9 (δ':=st ps (o++hb ps B T `km) B (nT T `km) W (.sh `km)) ?_ rfl
  rw[`JU];exact v9 (Rf0 hT _ _ _ _) rfl
 ·refine `aIN
  rw[`wp];refine `aIN;rw[j6 (`fe (ws0 `aIz rfl))];rfl
 ·refine `aIO
  rw[`wp];refine `aIO;rw[j6 (`fe (ws0 `aIB rfl))];rfl
 ·obtain⟨w1,w2⟩:=Q9 hj
  have ht:ob `afa (`ahb)=`aIC :=
   `fe (ws0 `aID rfl)
  have e1:`aIP:=`aIQ
  have e2:`aIR:=`aIS
  have e3:nT T `hu=T:=rfl;rw[e1,e2,e3]
  by_cases h:`iR
  ·rw[`f9,`f9]
   rw[`ZB] at ht;refine `aIT;rw[`wp];refine `aIT;rw[`zm];rfl
  ·rw[`hH,`hH]
   rw[`fX] at ht;have hq:=`eB;generalize `wt=p at w1 w2 hq ⊢;have F:=hq.gp.len;have p4:Y0 `afe (st ps `P? (`n8) T W (`iQ))=`a (.nx (`ahc)):=by
    refine(Bw.Ww0 (l:=`P!) (e:=(`j').reverse) rfl (by
     rw[o4 (ds:=[`n (`j')]) (`x (by
      rw[o4 (ds:=`ez) (`x (by rw[`aIF];exact w1) rfl)];exact cr0 hq.gp) rfl)]
     rfl) (by rw[`oV,`oV];omega)).trans ?_
    unfold st;rw[`aFH];rfl
   refine `aIU;rw[`wp];refine `aIU;rw[`zn];exact v9 (ov0 hB h _ _ _ _) (v9 p4 rfl)
universe Km
namespace Km
open Ha
open DL W K22
open Bw (bs sg cnt kn its tx fold Vb Gp Gq two)
noncomputable def lkd(j:Nat):D:=`j8
theorem ac0{P:`zh}(hs:`aIV){ps:`cV}(h1:∀v∈`hk,P v)(h2:∀s∈`fM,`j9):∀d∈`lR,P d:=λd hd=>by
 obtain⟨p,hp,hm⟩:=Dy0.mp hd;unfold two at hm;rcases `b1 hm with rfl|hm
 ·exact hs _ (h2 _ `aIW)
 ·rw[`d? hm];exact h1 _ `aIW
theorem Tj0{P:`zh}(hs:`aIV)(hn:∀s∈p.all,`j9)(hv:∀v∈`bu,P v):∀d∈`j',P d:=by
 cases p with
 | text w=>intro d hd;cases hd
 | row vs=>exact hv
 | table ps=>exact ac0 hs hv `aIX
 | rcd c ps =>
  intro d hd;rcases `b1 hd with rfl|hd
  ·exact hs c (hn c `aG9)
  ·exact ac0 hs hv (`aIX) d hd
theorem Wb.its(hw:`bE)(hp:p∈ps):∀d∈`j',`zw :=
 Tj0 (λs h=>`o ⟨s,rfl,h⟩) (`Qa).names λv hv=>.of `aIY (`oc p hp v hv)
theorem Yr0(hw:`bE):∀(M f:Nat) (o:`aG) (B:`l) (T:`j) (W:`s) (s:Sl),`ahd->M<f->M<=4000->`gO+400*M<=4000000->`hw+M<=20000->B.Nodup->(∀x∈B,`y')->(∀d∈W,`zw) ->
  (`aIZ).length<=4000000/\∃B' T' s',U3 PT PB f `aIH=`a (.nx (st ps (`aIZ) B' T' [] s')):=by
 intro M
 induction M with
 | zero =>
  intro f o B T W s h1 h2 _ h4 _ _ _ _;have:W=[]:=`Yn;subst this;obtain⟨g,rfl⟩:∃g,f=g+1:=`JZ;rw[pk,`f5];refine`aI_;unfold U3;rw[p40,`bS `T]
 | succ M ih =>
  intro f o B T W s h1 h2 h3 h4 h5 hn F hW;obtain⟨g,rfl⟩:∃g,f=g+1:=`JZ;cases W with
  | nil =>
   rw[pk,`f5];refine`aI_;unfold U3;rw[p40,`bS `T]
  | cons d W =>
   rw[`ba] at h1;have hd:=hW d A7;have J:∀d∈W,`zw:=λe he=>hW e (A9 _ he)
   have a1:`n6<=`M:=by
    have:=`j7 hn (m:=`D7) `aga
    rwa [P6] at this
   have a3:=`J_;have sp:=Ux0 hw s (o:=o) (B:=B) (T:=T) (W:=W) (d:=d) `g `g hd `g `g;obtain⟨_,i2⟩:=fr0 hw (B:=B) (T:=T) `g `g hd;have Z:(`zx).length+51*(`M - (`s4).length)<=M/\(nT T d).length<=`hw+1/\(`s4).Nodup/\(∀x∈`s4,`y')/\∀e∈`zx,It `M e:=by
    rcases hd with⟨x,rfl,hs⟩|rfl|⟨x,rfl,hx⟩|⟨j,rfl,hj⟩
    ·refine⟨`ahe,?_,hn,F,J⟩
     show (if x∈T then T else T++[x]).length<=_;split
     ·omega
     ·rw[`aM,`jV];omega
    ·exact`aI0
    ·exact`aI0
    ·have e1:`aIP:=`aIQ
     have e2:`aIR:=`aIS
     rw[e1,e2]
     by_cases h:`iR
     ·rw[`f9,`f9]
      exact⟨`p,`Qb,hn,F,J⟩
     ·rw[`hH,`hH]
      obtain⟨_,w2⟩:=Q9 hj;have a2:=(`eB).gp.len;have Y:(`n8).Nodup:=`oZ ⟨hn,`aB,λa ha b hb e=>by rw[`qe] at e;exact h `Jf⟩;have O:∀x∈`n8,`y':=λx hx=>by
       rcases `Yw with z|z
       ·exact F x z
       ·rw[`sQ];exact hj
      have hl2:(`n8).length<=`M:=by
       have:=`j7 Y (m:=`D7) λy hy=>`j6 (O y hy)
       rwa [P6] at this
      refine⟨?_,`Qb,Y,O,`aGu⟩
      ·rw[`aM] at hl2 ⊢
       rw[`aM];simp only[`jV] at hl2 ⊢;omega
      ·rcases `er he with z|z
       ·exact hw.its w2 e z
       ·exact J e z
   obtain⟨k1,k2,k3,k4,k5⟩:=Z;have:=ih g `ZL (`s4) (nT T d) (`zx) `k' k1 `g `g (`Jc) `g k3 k4 k5;rw[`fN] at this;obtain⟨q0,B',T',s',q⟩:=`B;refine⟨q0,B',T',s',?_⟩;unfold U3;rw[p40,`bv (`ap')];simp only[sp];exact q
noncomputable def pak(ps:`ao)(r:Nat):`aG:=pk ps 100000 [] [] [lkd r]
theorem V80(hw:`bE):qm0 [`fT]=`a (`n ((`J0).map `c))/\(`J0).length<=4000000:=by
 have F:=`J_;obtain⟨q0,B',T',s',q⟩:=Yr0 hw 3500 100000 [] [] [] [lkd 0] .un `Jz `f `f `T `T P1 `vk (λd hd=>by
  rw[`d? hd];exact `q (`q (`q ⟨0,rfl,hw.len.1⟩)))
 rw[`oK] at q0 q;refine⟨X4 rfl ?_,q0⟩;refine v9 (δ':=[`b7,`hx,.un,.un,.un,.un]) rfl (v9 (δ':=[`b7,`hx,`kd,.un,.un,.un]) rfl (v9 (δ':=[`b7,`hx,`kd,`kd,.un,.un]) rfl (v9 (δ':=st ps [] [] [] [lkd 0] .un) rfl (v9 q `qT))))
theorem s00(f:D->D):∀ps:`cV,`Df ((`hk).map f)=`aI1
 | []=>rfl
 | `oW=>by
  rw[`aC,`aC,`aC,`fl,s00 f ps,`aC]
theorem l20(f:D->D)(hf:∀s,f `iP=`ht):∀ps:`cV,(`aI1).flatMap two=`aI2 f
 | []=>rfl
 | `oW=>by
  rw[`aC,`Y3,l20 f hf ps,`Y3,`bl];show[`iJ p.1,f p.2]++_=[f (`J p.1),f p.2]++_;rw[hf]
theorem ib0(π:`gQ)(p:Pt):cnt `J1=`DI/\kn `J1=kn p/\tx `J1=tx p/\its `J1=(`j').map `n9/\`aI3/\(`Qc).all=p.all:=by
 have hv:`aI3:=`aFp;cases p with
 | text w=>exact⟨rfl,rfl,rfl,rfl,hv,rfl⟩
 | row vs=>exact⟨by show (`qk `n9).length=`bF;rw[`F],rfl,rfl,rfl,hv,rfl⟩
 | table ps =>
  have e:rel π (`jl)=`vF (`Ec):=C6 `vX (s00 `n9 ps);refine`aI4
  ·rw[e];show `aI5;rw[`F]
  ·rw[e];exact `aI6
  ·rw[e];show `aI7++[]=`fM++[];rw[`aS];rfl
 | rcd c ps =>
  have e:rel π (`yY)=`hj c (`Ec):=C6 (`qC c) (s00 `n9 ps);refine`aI4
  ·rw[e];show `aI5;rw[`F]
  ·rw[e]
   show `iJ c::_=`iJ c::`aI2 `n9;rw[← `aI6]
  ·rw[e];show `aI7++[c]=`aI8;rw[`aS];rfl
theorem gx0(π:`gQ)(j:Nat):lkv π (lkd j)=lkd (π j):=by unfold lkd lkv;simp only[`aF]
noncomputable def laid(ps:`ao)(L:`l):`ao:=`ahp
theorem ek0(hw:`bE){L:`l}(h0:`aI9)(hL:∀k∈L,`oa)(hc:∀k∈L,∀i∈`q1,`ob):Wb (`Qj):=by
 have hl:(`Qj).length=`bA:=by unfold laid;rw[`F]
 refine⟨by rw[hl];exact h0,`f2,`ZM⟩
 ·obtain⟨k,hk,rfl⟩:=`JJ
  obtain⟨_,w2⟩:=`ZN;have hq:=`eB;obtain⟨r1,_,_,_,r5,r6⟩:=`aI';refine⟨by rw[r1];exact hq.cnt,`f!,by rw[r6];exact hq.names,by rw[r5,`F];exact hq.few⟩;rw[r5] at hv;obtain⟨u,hu,rfl⟩:=`sS;have hb:=`ke u hu;cases hb with
  | non=>exact `z
  | lk i _ =>
   rw[`aI!];exact .lk _ (by have:=`aI?;omega)
  | int z hz=>exact `c z hz
 ·obtain⟨k,hk,rfl⟩:=`JJ
  obtain⟨_,w2⟩:=`ZN;obtain⟨_,_,_,_,r5,_⟩:=`aI';rw[r5] at hv;obtain⟨u,hu,rfl⟩:=`sS;have hb:=`aJa u hu;rw[hl];cases hb with
  | non=>exact λj e=>nomatch e
  | lk i _ =>
   rw[`aI!];exact `J2 (`aI?)
  | int z hz=>exact λj e=>nomatch e
noncomputable def ws:Nat->`aG->Int
 | _,[]=>0
 | k,`n'=>`aJb
theorem ip0:∀(k:Nat) (l:`aG),(`aJc λ(j:Nat)=>`CM*`Ee).sum=ws k l
 | k,[]=>rfl
 | k,`n'=>by
  rw[`ba,`atX,`aC,List.sum_cons,`aS];show _=`aJb;rw[← ip0 `e0 l];have e:(λ(j:Nat)=>`CM*`aJd j 0) ∘ Nat.succ=λ(j:Nat)=>((k+1+j:Nat):Int)*`Ee:=by
   funext j
   show ((k+`eD:Nat):Int)*`aJd `eD 0=_;rw[show k+`eD=k+1+j by omega];rfl
  rw[e];rfl
theorem wx0(hw:`bE):y50 [`fT]=`a (`c (ws 1 (`J0)%65521)):=by
 have zs:`aIK:=`ai
 obtain⟨p1,p2⟩:=V80 hw;generalize `J0=l at p1 p2 ⊢;have hi:(`aJe).length=`cO:=by unfold wg0;rw[`F,`fo,`F]
 refine `sT;rw[p6 (x:=`c (ws 1 l)) (y:=`aDt) (by
  rw[o4 (ds:=[`n ((`aJc λ(j:Nat)=>`ahh*`Ee).map `c)]) (`x (Y9 (items:=`aJe) (by
   show `gP (z9 (oA `di qm0) v6 [`b7]) _=_;rw[`x (d:=`n `Qf) (ds:=[]) (by rw[`aJf];exact p1) rfl];rfl) (by rw[hi];omega) (by
   rw[R8 (λd=>match d with|`aJg=>`c (a*b)|_=>`z) (λd hd=>by
    unfold wg0 at hd;obtain⟨j,hj,rfl⟩:=`fn;rw[`ZO,`F] at hj;have eg:`aJh:=`aJi
    rw[eg];exact⟨[.sh (`ZP),.sh (`Qg)],rfl,rfl,by
     rw[p6 (x:=`ZP) (y:=`Qg) rfl rfl];exact Gw.w90 _ _ `g⟩)]
   unfold wg0;rw[`aS,`F,`aS];congr 1;refine Y2 `Uv
   rw[`ZO] at hj;have eg:`aJh:=`aJi
   show (match `e9 [`ZP,`ahg] with|`aJg=>`cC (a*b)|_=>`z)=_;rw[eg];rfl)) rfl)]
  show (og0 _).map _=_;rw[ko0,`ds,ip0]) rfl]
 exact `YN
theorem pc0(p:Pt)(h:`em):`aJj:=`y5
theorem ty0(h:`gb):`em/\`J3:=by
 have z:`dv:=`ai
 have hc:=`sZ;have:`J3:=by
  cases p with
  | text w=>exact `c_
  | row vs=>exact hc
  | table ps=>show `q3;rw[`F];exact hc
  | rcd c ps=>show `q3;rw[`F];exact hc
 exact⟨B9 `B `g,`B⟩
theorem bc0(h:`fc)(L:`l)(hl:`aJk):`aJl:=by
 cases h with
 | non=>kernel_rfl
 | int z _=>exact Z1 rfl (v9 (δ':=[`P6,`cG]) `s2 (m7 rfl))
 | lk j _ =>
  rw[show lkv `gF `hu=lkd (ix L j) from gx0 _ _];refine `zi;rw[`JU];refine m7 (Z7 (Z4 (`x rfl (`x (d:=`c (ix L j:Int)) ?_ rfl)) `qP));rw[p6 (x:=`n!) (y:=`dg) rfl rfl];exact ki0 (hl j rfl)
theorem wu0(p:Pt)(h:`J3)(vs:`s)(hl:`y7):`aJm:=by
 have z:`dv:=`ai
 have hc:∀(X:D) (ps:`cV),ixD X (`c (-1))=`aJn->`L?->`iN->Z9 2 [] `aEd `lU noT `aEe [.sh X,`iG,.un]=`a (`ahk):=λX ps hX hv hp=>by
  refine Y9 (items:=((`j2).zip vs).map `PK) ?_ (by rw[`F,`gt,`F];omega) ?_
  ·unfold mp0
   rw[`x (d:=`qU) (ds:=[`lI]) (by rw[p6 (x:=X) (y:=`c (-1)) rfl rfl];exact hX) rfl];rfl
  ·clear hX
   rw[R8 (λd=>match d with|`w [`w [a,_],b]=>`mA|_=>`z) (λd hd=>by
    obtain⟨q,hq,rfl⟩:=`fn;obtain⟨u,hu,e⟩:=`fJ (S1 hq).1;obtain⟨q1,q2⟩:=q;have e:pr u=q1:=e;subst e;exact⟨[.sh (pr u),.sh q2],rfl,rfl,`DU⟩)]
   congr 1;rw[`aS];clear hl h
   induction ps generalizing vs with
   | nil=>rfl
   | cons q ps ih =>
    cases vs with
    | nil=>rfl
    | cons v vs =>
     rw[`aC,`aC,`fl,`fl,`aC,`aC,ih vs `Tb (by simp only[`ba] at hp;omega)];rfl
 cases p with
 | text w =>
  have:vs=[]:=Y1.mp hl;subst this;kernel_rfl
 | row us =>
  refine `zi;rw[`fa];exact `JG
 | table ps =>
  have hp:`q3:=h;have hv:`wF:=hl;rw[`F] at hp hv;refine Z1 rfl (v9 (δ':=`I') `aR (v9 (δ':=`I') `aR `aJo));rw[p6 (x:=`aJp) (y:=`aJq) rfl `J4];rfl
 | rcd c ps =>
  have hp:`q3:=h;have hv:`wF:=hl;rw[`F] at hp hv;refine Z1 rfl (v9 (δ':=`I!) `aR (v9 (δ':=`I!) `aR `aJo));rw[p6 (x:=`w [`qp,`mB]) (y:=`aJq) rfl `J4];rfl
theorem V9(c k:Int)(h0:`fb)(h1:`Jo):`Jp:=`ZQ
theorem P70(L:`l)(p k:Nat):`aJr=`aJs p++`cM::`aJt p:=by
 unfold nd;rw[`bl,`aC,`o3,List.map_drop]
theorem Ro0{L:`l}{p k:Nat}(W C s4 s5:Sl)(hg:g `ZR=`a (`XC))(hp:p<=`bA)(hl:`bA<=1000) :
  Y0 (mv0 2 g `be) `ZR=`a (.nx [W,C,.ow (`n (`aJr)),`aN,s4,s5]):=by
 have zs:`ZS:=`ai
 unfold Y0 mv0;rw[show owL 2 `ZR=`a `hz from rfl,`E,hg,`E];show `hX _ (if 0<=`CH/\`CH<=`aJu/\`ahl<`R then `a (D.non,([W,C,.ow (`n (`aJs `aJv++`cM::`aJt `aJv)),`aN,s4,s5]:Ds)) else `b)=_;rw[`I ⟨`p,`y9,`y9⟩,`aF,P70];rfl
theorem Td0{gA:GA}{i j:Int}(h:`bI=`a `CX)(h1:`apR)(h2:`FY):n70 gA δ=`apS:=by
 unfold n70;rw[h,`E];simp only[c60];rw[`VI]
noncomputable def OB:GS:=(u6 `aEs
 t6)
theorem Wc0{d:D}(h:(`J5)[j]?=`bb):j+1<n/\d=`ZT:=by
 unfold R9 at h;rw[`dQ] at h;cases e:(`b5 (`bH - 1).toNat)[j]? with
 | none=>rw[e] at h;cases h
 | some k =>
  rw[e] at h;cases h;obtain⟨h1,h2⟩:=`gg e;rw[`fo] at h1;rw[`aJw] at h2;subst h2;refine⟨`p,?_⟩;show `cC (1+`br)=_;rw[show `px+`br=`q0 by omega]
theorem We0(W:Sl)(c:Int)(n:Nat)(h0:0<n/\`oY)(s3 s4 s5:Sl):∃(L:`l) (s3':Sl),N7 `b! OB (`J5) `aJx=`a (.nx [W,`W,`wx,s3',s4,s5])/\`bA=n/\`kG/\(∀k,k∈L↔k<n)/\`ZU:=by
 obtain⟨δ',l1,l2⟩:=M9 (f:=gN 3) (G:=OB) (λi δ=>∃(L:`l) (s3:Sl),δ=[W,`W,`wx,s3,s4,s5]/\`bA=i+1/\`kG/\(∀k,k∈L↔k<i+1)/\`ZU) (`J5) 0 `aJx (by
  rintro j d δ hj ⟨L,s3,rfl,a1,a2,a3,a4⟩;obtain⟨h1,rfl⟩:=Wc0 hj;rw[`bR] at a1 a3 ⊢;obtain⟨x,x0,x1,x2⟩:=V9 c (100+`q0) `g `g;have m0:0<=`zz:=`s_;have m1:`zz<`br+1:=`J6;obtain⟨p,hp⟩:∃p:Nat,`CH=1+`zz:=⟨(1+`zz).toNat,`p⟩;have J:p<=`bA:=`p
  have O:1<=p:=`p
  have hk:j+1∉L:=λz=>by have:=(a3 _).mp z;omega
  have F:(`aJy).Perm (`eD::L):=by
   have:=List.perm_middle (a:=j+1) (l₁:=`iS p) (l₂:=`Qh)
   rwa [`aIr] at this
  refine⟨[W,`W,`wx,.sh (`ZT),s4,s5],[W,`W,.ow (`n (nd (`aJy))),.sh (`ZT),s4,s5],rfl,v9 (Ro0 _ _ _ _ ?_ J `g) rfl,_,_,rfl,?_,?_,λk=>?_,?_⟩
  ·rw[hp,p6 (x:=`ck) (y:=`c (`zz)) rfl (by
    rw[p6 (x:=`dU) (y:=`c (`br+1)) (by
     rw[o4 (ds:=[`a_,`c (100+`q0)]) rfl];exact x2) (by
     show `gP (`a (`cC `aJu)) _=_;rw[zb0,a1];show `a (`cC `q0)=_;congr 2)]
    exact `zc)]
   rfl
  ·rw[F.length_eq,`ba,a1]
  ·exact F.nodup_iff.mpr (S0.mpr ⟨hk,a2⟩)
  ·rw[F.mem_iff,`aO,a3]
   omega
  ·obtain⟨a,L',rfl⟩:∃a L',L=a::L':=by
    cases L with
    | nil=>simp at a1
    | cons a L'=>exact⟨a,L',rfl⟩
   obtain⟨q,rfl⟩:∃q,p=q+1:=⟨p - 1,`p⟩;rw[`T!];exact a4) ⟨[0],s3,rfl,rfl,`aB,λk=>by rw[`YD];omega,rfl⟩
 obtain⟨L,s3',rfl,b1,b2,b3,b4⟩:=l2;have hl:(`J5).length=`sI:=by unfold R9;rw[`F,`fo];omega
 rw[hl,`bR] at b1 b3;have e:`sI+1=n:=`p
 rw[e] at b1 b3;exact⟨L,s3',l1,b1,b2,b3,b4⟩
theorem Nh0{k:Nat}(hB:`zv)(hk:k∉B)(a b c e:Sl):V0 `af_ `af0 [a,b,c,`aN,`zy,e]=`a (.nx [a,b,c,`aN,`aJz,e]):=by
 have zs:`s5:=`ai
 show `hX `mM (if `ZJ then `a ([a,b,c,`aN,`aJA,e]:Ds) else `b)=_;rw[`ZK,`aJB];unfold kb;rw[`bl];rfl
theorem nr0{L:`l}{d:D}(h:`hz[j]?=`bb):∃k,`aJC/\d=`cM:=by
 unfold nd at h;rw[`dQ] at h;cases e:L[j]? with
 | none=>rw[e] at h;cases h
 | some k=>rw[e] at h;cases h;exact⟨k,rfl,rfl⟩
theorem ig0{L:`l}(hn:`kG){k:Nat}(h:`aJC):k∉`iS j:=λz=>by
 obtain⟨i,hi,e⟩:=`jj z;obtain⟨hj,ej⟩:=`gg h;rw[`cm] at hi;rw[List.getElem_take] at e;exact `sH hn i j `g hj `g (e.trans ej.symm)
noncomputable def N4:GS:=(u6 `aEt
 t6)
theorem N10(a b c e s3:Sl)(L:`l)(hn:`kG)(hl:`kb):∃s3',N7 `b! N4 `hz `aJD=`a (.nx [a,b,c,s3',.ow (`n!),e]):=by
 obtain⟨δ',l1,l2⟩:=M9 (f:=gN 3) (G:=N4) (λi δ=>∃s3:Sl,δ=[a,b,c,s3,`aJE,e]) `hz 0 `aJD (by
  rintro j d δ hj ⟨s3,rfl⟩;obtain⟨k,hk,rfl⟩:=`J7;rw[`bR];have e1:`aJF:=`aJG
  refine⟨_,_,rfl,v9 (Nh0 (`ZV) `aJH _ _ _ _) rfl,`aN,by rw[e1]⟩) `aHX
 obtain⟨s3',rfl⟩:=l2;rw[zb0,`bR,`mI] at l1;exact⟨s3',l1⟩
theorem St0{L:`l}(h:`aJl):oA `hr U5 `aJI=`ahi:=by
 rw[o4 (ds:=[v,`n!]) rfl];exact h
theorem e70{L:`l}(hv:∀v∈vs,`fc)(hl:∀i∈`lM,`ob):R6 `bs noT `O? [.un,`cG] vs=`a `ZW:=by
 refine R8 `wz λv h=>⟨`aJI,rfl,rfl,?_⟩
 have h2:`aJk:=λj e=>by
  subst e;exact hl j (te0 h)
 exact St0 (bc0 (hv v h) L h2)
noncomputable def RN:GS:=(u6 `aEu
 t6)
theorem gc0(hw:`bE)(c:Int):∃L:`l,`bA=`M/\`ZX/\`ZY/\`ZU/\M4 [`fT,`a_]=`ahu:=by
 have zs:`ZS:=`ai
 have Y:=`fp;obtain⟨L,s3,l1,b1,b2,b3,b4⟩:=We0 `J8 c `M `fp .un .un .un;have hL:∀k∈L,`oa:=λk hk=>(b3 k).mp hk
 have hc:∀k∈L,∀i∈`q1,`ob:=λk hk i hi=>(b3 i).mpr (by
  obtain⟨_,w2⟩:=`ZN;refine mo0 (n:=`M) (vs:=`Qe) (`f!) i hi;have hb:=`aJa v hv;have hk:=`aJJ;cases hb with
  | non=>exact `cd
  | lk j _=>exact `aJK
  | int z _=>exact `YB)
 refine⟨L,b1,hL,hc,b4,?_⟩;obtain⟨F,l2⟩:=N10 `J8 (`W) (`fd) .un s3 L b2 `g;obtain⟨δ',l3,l4⟩:=M9 (f:=gN 3) (G:=RN) (λi δ=>∃s:Sl,δ=[`b7,`W,`fd,s,`cG,`aJL]) `hz 0 `aJM (by
  rintro j d δ hj ⟨s,rfl⟩;obtain⟨k,hk,rfl⟩:=`J7;have J:=E4 hk;rw[`bR];obtain⟨w1,w2⟩:=Q9 (hL k J);have hq:=`eB;have O:=hc k J;obtain⟨f1,f2⟩:=ty0 hq;have e1:`aJN:=`aJO
  generalize `l1=p at w1 w2 hq O f1 f2 e1;refine⟨[`b7,`W,`fd,`aN,`cG,`ZZ],_,rfl,v9 (`mN (l:=`Qk) (d:=`J9) rfl ?_ `aJP) rfl,`aN,`aJQ⟩;have g1:∀δ:Ds,o2 `V `be ixD (`b7::`W::`fd::`aN::δ)=`Y!:=fun δ=>by
   rw[`aJR];exact w1
  rw[o4 (ds:=[p.d,`n (`Pn `wz)]) (`x (g1 _) (`x (Y9 (items:=`bu) (by
   show `gP (oA `af1 X7 _) uw0=_;rw[o4 (ds:=`ez) `agD,pc0 p f1];rfl) f1 (e70 `ke O)) rfl))]
  exact wu0 p f2 _ (`Dm)) ⟨F,rfl⟩
 obtain⟨s,rfl⟩:=l4;rw[zb0,`bR,`mI] at l3;refine Z1 rfl (v9 (δ':=[`b7,`W,`ahm,.un,.un,.un]) rfl (v9 (J0 (items:=R9 1 `q2) ?_ l1) (v9 (δ':=[`b7,`W,`fd,s3,`kd,.un]) rfl (v9 `aJS (v9 (δ':=`aJM) rfl `aJT)))))
 ·refine Td0 (`x (d:=`ck) (ds:=[`J']) rfl `Y8) `g `g
  rw[`aJf];show `a (`cC (`aJU:Int))=_;rw[`F]
 ·show oA `qr V4 [`b7,`W,`fd,s,`cG,.sh (`Ql)]=_
  rw[`aJV];show `aJW;rw[`aS];rfl
theorem jf0(hb:`fc)(hk:`Zy):`eQ:=by
 cases hb with
 | non=>exact `cd
 | lk j _=>exact `aJK
 | int z _=>exact `YB
noncomputable def LG:GE:=`aDV
theorem cn0{X Y:D}(hv:∀v∈vs,`eQ)(hl:`zp)(hY:co0 Y=`a vs):LG [.sh X,.sh Y]=`a (`n `aFl):=by
 have z:`dv:=`ai
 exact Y9 (items:=vs) hY `g (q20 vs hv)
theorem io0(ps:`cV):`aC5:=by
 rw[R8 (λd=>match d with|`w [_,b]=>b|_=>`z) (λd hd=>by
  obtain⟨q,_,rfl⟩:=`fn;exact⟨[.sh (pr q)],rfl,rfl,rfl⟩),`aS]
 rfl
theorem sp0(hq:`gb)(hk:∀v∈`bu,`Zy):O7 `ez=`aFm:=by
 have z:`dv:=`ai
 have hv:∀v∈`bu,`eQ:=λv h=>jf0 (`ke v h) (hk v h)
 have hl:=`Z_;cases p with
 | text w=>kernel_rfl
 | row vs =>
  refine X4 rfl (v9 (δ':=[`nX,.un]) `aR (v9 (δ':=`aJX) rfl (v9 (δ':=`aJX) `aR `hs)));exact `Z0
 | table ps =>
  have hp:`iN:=`aJY
  refine X4 rfl (v9 (δ':=[`iE,.un]) `aR (v9 (δ':=[`iE,`PQ]) rfl (v9 (δ':=[`iE,.sh (`n `vG)]) ?_ `hs)))
  ·rw[`fa]
   exact `aJZ
  ·exact `Z0
 | rcd c ps =>
  have hp:`iN:=`aJY
  refine X4 rfl (v9 (δ':=[`iF,.un]) `aR (v9 (δ':=[`iF,`PQ]) rfl (v9 (δ':=[`iF,.sh (`n `vG)]) ?_ `hs)))
  ·rw[`fa]
   exact `aJZ
  ·exact `Z0
theorem Wb.tg(hw:`bE){k:Nat}(hk:`oa):(∀i∈`q1,`jg)/\(`q1).length<=20:=by
 obtain⟨_,w2⟩:=Q9 hk;have hq:=`eB;exact⟨mo0 (n:=`M) λv hv=>jf0 `aJ_ (`aJJ),B9 (lp0 _) `Z_⟩
theorem Wr0(hi:`jg):`Yx=(`YX).d:=by simp[`ec,hi]
theorem Wb.good(hw:`bE):GoodL `l_ `M:=⟨`J_,`lL,rfl,`Dm,λi hi=>by
 obtain⟨_,w2⟩:=Q9 hi;obtain⟨t1,t2⟩:=`Z1;exact⟨_,by rw[Wr0 hi];exact `aJ0,t2,t1⟩⟩
theorem Wb.adj(hw:`bE)(hi:`jg):`Z2=tgs (`YX).vals:=by
 obtain⟨_,w2⟩:=Q9 hi;show (match O7 [`Yx] with|`sO=>nn vs|_=>[])=_;rw[Wr0 hi,`aJ0];exact jh0 _
theorem Xu0(adj:`f?)(n:Nat)(hn:`oY)(ha:∀i,i<n->`aE_<=20/\∀j∈`nZ,j<n):∀(M:Nat) (o T:`l),`hw+21*(n - `gO)<=M->M<=5000->`n_->`Dk->`Ja ->
  ∃c r,`aIk/\`agd:=by
 intro M
 induction M with
 | zero =>
  intro o T hM a1 ho F hT;have:T=[]:=`Yn;subst this;exact`aJ1
 | succ M ih =>
  intro o T hM a1 ho F hT;cases T with
  | nil=>exact`aJ1
  | cons x T =>
   rw[`ba] at hM
   by_cases hx:`Di
   ·obtain⟨c,r,h1,h3⟩:=`aE1
    exact⟨c+1,r,.skip `uP h1,h3⟩
   ·have O:=`Jb
    obtain⟨hl,hj⟩:=ha x O;have Y:`Yo:=`oZ ⟨ho,`aB,λa ha b hb e=>by
     have:=`Yp;subst this;subst e;exact hx ha⟩
    have J:∀y∈`nY,y<n:=λy hy=>by
     rcases `o_ with z|z
     ·exact F y z
     ·have:=L9.mp z;subst this;exact O
    have Z:(`nY).length<=n:=by
     have:=`aE6
     rwa [P6] at this
    rw[`aM,`jV] at Z;obtain⟨c,r,h1,h3,h4⟩:=ih `lO `Dr `Yq `g Y J (λy hy=>by
     rcases `o_ with z|z
     ·exact hj y z
     ·exact `Yr)
    exact⟨c+1,r,.visit hx `yM (`Jc) h1,h3,h4⟩
theorem mx0(hw:`bE)(ha:a<`M):∃L:`l,`kG/\`ZX/\`ZY/\L[0]?=`nm/\`aJ2:=by
 have J:=`fp;have F:∀i,`jg->(`Z2).length<=20/\∀j∈`Z2,j<`M:=λi hi=>by
  rw[hw.adj hi];exact⟨(`Z1).2,(`Z1).1⟩
 obtain⟨c,r,h1,h2,h3⟩:=Xu0 (ya0 `l_) `M J.2 F 2000 [] [a] `Jz `f P1 `vk (λx hx=>by rw[`d? hx];exact ha);have hv:=Y70 (λi hi=>(F i hi).2) h1 ha 62 `g;have hf:=(uq0 h1 (λi hi=>by cases hi)).2;have O:r[0]?=`nm:=by
  cases h1 with
  | skip hx _=>exact hx.elim `yM `yM
  | visit _ _ _ hd =>
   obtain⟨⟨s,rfl⟩,_⟩:=uq0 hd (λi hi j hj=>by
    rw[`oK] at hi;rw[`d? hi] at hj;exact `YL)
   rfl
 refine⟨r,h2,h3,λk hk i hi=>?_,O,?_⟩
 ·rw[← hw.adj (h3 k hk)] at hi
  rcases hf k hk i hi with z|z
  ·exact z
  ·cases z
 ·show j4 62 [`fT,`fO,`aJ3]=_
  rw[jk0 `Z3 [] 62 a ha P1 `vk,hv];rfl
theorem put3{k:Nat}(hB:`zv)(hk:k∉B)(a b c e f g:Sl):V0 `agQ `agR [a,b,c,`zy,`aN,e,f,g]=`a (.nx [a,b,c,`aJz,`aN,e,f,g]):=by
 have zs:`s5:=`ai
 show `hX `mM (if `ZJ then `a ([a,b,c,`aJA,`aN,e,f,g]:Ds) else `b)=_;rw[`ZK,`aJB];unfold kb;rw[`bl];rfl
noncomputable def N3:GS:=(u6 `Zi
 t6)
theorem O80(a b c e f g s:Sl)(L:`l)(hn:`kG)(hl:`kb):∃s',N7 `c5 N3 `hz `aJ4=`a (.nx [a,b,c,.ow (`n!),s',e,f,g]):=by
 obtain⟨δ',l1,l2⟩:=M9 (f:=gN 4) (G:=N3) (λi δ=>∃s:Sl,δ=[a,b,c,`aJE,s,e,f,g]) `hz 0 `aJ4 (by
  rintro j d δ hj ⟨s,rfl⟩;obtain⟨k,hk,rfl⟩:=`J7;rw[`bR];have e1:`aJF:=`aJG
  refine⟨_,_,rfl,v9 (put3 (`ZV) `aJH _ _ _ _ _ _) rfl,`aN,by rw[e1]⟩) `aGs
 obtain⟨s',rfl⟩:=l2;rw[zb0,`bR,`mI] at l1;exact⟨s',l1⟩
noncomputable def R1:GS:=(u6 `Zl
 t6)
noncomputable def R2:GS:=(u6 `Zn
 (u6 `Zo
 t6))
noncomputable def R3:GS:=(u6 (ifD `Zm R2 t6) t6)
noncomputable def R4:GS:=(ifD `Zk R1 R3)
theorem d00{L:`l}{ps:`cV}(hv:∀v∈`hk,`fc)(hl:∀i∈tgs `vG,`ob):R6 `lU noT `agS [.un,.un,`cG] `hi=`a `Qo:=by
 have z:(2:Nat)<=`R:=`ai
 rw[R8 (λd=>match d with|`mA=>`w [a,lkv `gF b]|_=>`z) (λd hd=>by
  obtain⟨q,hq,rfl⟩:=`fn;have hm:q.2∈`hk:=`aFT;refine⟨[.sh (`J q.1),.sh q.2,`cG],rfl,rfl,Z4 (`x rfl (`x (d:=`ahr) ?_ rfl)) z⟩;rw[o4 (ds:=[q.2,`n!]) rfl];exact bc0 (hv _ hm) L λj e=>hl j (te0 (by rw[e] at hm;exact hm))),`aS,`aS]
 rfl
theorem O50{L:`l}(hq:`gb)(hl:∀i∈`qG,`ob)(a b c d e s7:Sl):∃s7',R4 [a,b,c,`cG,d,e,`kE,s7]=`a (.nx [a,b,c,`cG,d,e,.sh `J9,s7']):=by
 have z:`dv:=`ai
 have hv:=`ke;have F:=`Z_;cases p with
 | text w =>
  refine`aJ5;show ifD _ _ _ `aJ6=_;rw[`vW];refine v9 (δ':=`aJ6) ?_ rfl;rw[`vW];rfl
 | row vs =>
  refine`aJ5;show ifD _ _ _ [a,b,c,`cG,d,e,`nX,s7]=_;rw[`fa];have F:`zp:=F;refine v9 (j8 (d:=(rel `gF (`mL)).d) (Z4 (`x rfl (`x (d:=`w `ZW) ?_ rfl)) `dV)) rfl;rw[o4 (ds:=[`n `ZW]) (`x (Y9 (items:=vs) rfl `g (e70 hv hl)) rfl)];rfl
 | table ps =>
  have hp:`iN:=`aJ7
  have er:rel `gF (`jl)=`vF `J!:=C6 `vX (s00 `wz ps);rw[er];refine`aJ8;show ifD _ _ _ [a,b,c,`cG,d,e,`iE,s7]=_;rw[`vW];refine v9 (δ':=[a,b,c,`cG,d,e,.sh (`vX `J!).d,`Qp]) ?_ rfl;rw[`fa];refine `aJ9;rw[p6 (x:=`aJp) (y:=`aJ') rfl `J4];rfl
 | rcd cl ps =>
  have hp:`iN:=`aJ7
  have er:rel `gF (`hj cl ps)=`hj cl `J!:=C6 (`qC cl) (s00 `wz ps);rw[er];refine`aJ8;show ifD _ _ _ [a,b,c,`cG,d,e,`ahB,s7]=_;rw[`vW];refine v9 (δ':=[a,b,c,`cG,d,e,.sh (`qC cl `J!).d,`Qp]) ?_ rfl;rw[`fa];refine `aJ9;rw[p6 (x:=`w [`qp,`J cl]) (y:=`aJ') rfl `J4];rfl
noncomputable def DR:GS:=(u6 `Zj
 (u6 R4
 (u6 `Zp
 t6)))
theorem gs0(hw:`bE){L:`l}(b2:`kG)(hL:∀k∈L,`oa)(hc:∀k∈L,∀i∈`q1,`ob)(hcome:`aJ2):`aJ!:=by
 have zs:`ZS:=`ai
 have Z:=`fp;have O:`kb:=by
  have:=`aJ?
  rw[`fo] at this;omega
 obtain⟨s4,l2⟩:=O80 `J8 (`cN) (`fd) .un .un .un .un L b2 O;obtain⟨δ',l3,l4⟩:=M9 (f:=gN 4) (G:=DR) (λi δ=>∃s s6 s7:Sl,δ=[`b7,`cN,`fd,`cG,s,`aJL,s6,s7]) `hz 0 `aKa (by
  rintro j d δ hj ⟨s,s6,s7,rfl⟩;obtain⟨k,hk,rfl⟩:=`J7;have F:=E4 hk;rw[`bR];obtain⟨w1,w2⟩:=Q9 (hL k F);have hq:=`eB;have J:=hc k F;have e1:`aJN:=`aJO
  generalize `l1=p at w1 w2 hq J e1;obtain⟨Y,hr⟩:=O50 hq J `J8 (`cN) (`fd) (`aN) (`ZZ) s7;refine⟨[`b7,`cN,`fd,`cG,`aN,`ZZ,s6,s7],_,rfl,v9 `aIE (v9 hr (v9 (`mN (l:=`Qk) (d:=`J9) rfl rfl `aJP) rfl)),`aN,.sh `J9,Y,`aJQ⟩;rw[`aJR];exact w1) ⟨s4,.un,.un,rfl⟩
 obtain⟨s,s6,s7,rfl⟩:=l4;rw[zb0,`bR,`mI] at l3;refine Z1 rfl (v9 (δ':=[`b7,`cN,`hx,.un,.un,.un,.un,.un]) rfl (v9 (δ':=[`b7,`cN,`wx,.un,.un,.un,.un,.un]) ?_ (v9 (δ':=[`b7,`cN,`fd,`kd,.un,.un,.un,.un]) rfl (v9 `aJS (v9 (δ':=`aKa) rfl `aJT)))))
 ·unfold vu0
  show `hX _ (`ahq)=_;rw[hcome];rfl
 ·show oA `qr V4 [`b7,`cN,`fd,`cG,s,.sh (`Ql),`En,`zA]=_
  rw[`aJV];show `aJW;rw[`aS];rfl
theorem zw0(hw:`bE)(ha:a<`M):∃L:`l,(`aI9)/\`ZX/\`ZY/\L[0]?=`nm/\`aJ!:=by
 obtain⟨L,b2,hL,hc,b4,F⟩:=mx0 hw ha;have J:`kb:=by
  have:=`aJ?
  rw[`fo] at this;have:=`fp;omega
 have O:0<`bA:=by
  cases L with
  | nil=>cases b4
  | cons _ _=>simp
 exact⟨L,⟨O,J⟩,hL,hc,b4,gs0 hw b2 hL hc F⟩
theorem wy0(ns:`aG)(hb:∀z∈ns,`iw)(a:Int)(ha:`Zg)(most:Int)(hm:`JI):∃ps:`ao,`Zh=`a `l_/\`bE:=by
 obtain⟨ps,h1,h2,h3,h4⟩:=Bw.wy0 ns hb a ha `lS hm;exact⟨ps,h1,⟨h3,h2.len⟩,h2.it,h4⟩
universe Km
namespace Va
open Ha
open DL W K22
noncomputable def j4:`aKb:=Km.j4
noncomputable def T3:`cP:=j4 62
section
noncomputable def y40:GS:=Km.y40
noncomputable def K9:`j:=Km.K9
noncomputable def S5:`K:=Km.S5
universe zz
universe Va
namespace Va
open Ha
open DL W K22
open Ta (pa N5 vg0 pN k2 Dc okv up)
noncomputable def fs(L:`_):`l:=`fS `bG
noncomputable def sn(L:`_):`l:=`fS `cf
noncomputable def lnk:D->`CR
 | `aGx=>`Ml
 | _=>`b
theorem nt0(j:Nat):lnk `hu=`oC:=by unfold lnk;simp only[`aF]
noncomputable def wst(L:`_)(v w:D):`_:=match lnk v,lnk w with
 | `Gn,`oC=>`aKc
 | _,_=>L
theorem Z20(L:`_)(i j:Nat):wst L `Ed `hu=`aKc:=by
 unfold wst;rw[nt0,nt0]
theorem b60(L:`_){w:D}(hv:`eQ)(hw:`o1)(h:(`qO)=`m):`J?=L:=by
 rcases hv with rfl|⟨z,rfl⟩|⟨i,rfl,hi⟩
 ·rfl
 ·rfl
 ·rcases hw with rfl|⟨z,rfl⟩|⟨j,rfl,hj⟩
  ·unfold wst;rw[nt0];rfl
  ·unfold wst;rw[nt0];rfl
  ·cases h
noncomputable def lf0(L:`_)(zs:`Ka):`_:=zs.foldl (λL q=>`Z4) L
noncomputable def wk(ps qs:`ao):Nat->`aKd
 | 0,_,L=>L
 | k+1,a,L=>match `zB with
  | `a p=>wk ps qs k `mP (lf0 L (`sX))
  | `b=>L
structure WI(n m:Nat)(L:`_):Prop where
 inr:∀p∈L,p.1<n/\p.2<m
 f:`aKe
 s:`aKf
theorem WI.len(h:`o4):`bA<=n:=by
 have:=`j7 h.f (m:=`v0) λy hy=>by
  obtain⟨p,hp,rfl⟩:=`fJ hy;exact `j6 (`wB p hp).1
 rw[`fo] at this;unfold fs at this
 rwa [L4] at this
theorem WI.nd(h:`o4):`kG:=by
 have:=h.f;unfold fs at this;exact List.Pairwise.of_map _ (λa b F e=>F `Zv) `B
theorem gt0(L:`_)(p:`b8):fs (L++[p])=`iT++[p.1]:=by unfold fs;rw[`bl];rfl
theorem i30(L:`_)(p:`b8):sn (L++[p])=`iU++[p.2]:=by unfold sn;rw[`bl];rfl
theorem ew0{l:`l}(h:`Ym)(hx:x∉l):(l++[x]).Nodup:=`oZ ⟨h,`aB,λa ha b hb e=>by
 rw[`qe] at e;exact hx `Jf⟩
theorem ct0(h:`o4){w:D}(hv:`eQ)(hw:`o1):WI n m (`J?):=by
 cases hb:`qO with
 | false=>rw[`aKg];exact h
 | true =>
  rcases hv with rfl|⟨z,rfl⟩|⟨i,rfl,hi⟩
  ·cases hb
  ·cases hb
  ·rcases hw with rfl|⟨z,rfl⟩|⟨j,rfl,hj⟩
   ·cases hb
   ·cases hb
   ·rw[Z20]
    by_cases hc:`Qq
    ·rw[`rU]
     refine⟨`f2,by rw[gt0];exact ew0 h.f `im,by rw[i30];exact ew0 h.s `ls⟩;rcases `Ab with q|q
     ·exact `wB p q
     ·rw[`zC];exact⟨hi,hj⟩
    ·rw[`rV];exact h
theorem Uy0(L:`_)(v w:D):∃s,`J?=L++s:=by
 unfold wst;split
 ·split
  ·exact`au
  ·exact`Z5
 ·exact`Z5
theorem gy0:∀(zs:`Ka) (L:`_),∃s,`Z6=L++s
 | [],L=>`Z5
 | q::zs,L=>by
  obtain⟨s,e⟩:=Uy0 L q.1 q.2;obtain⟨t,e2⟩:=gy0 zs (`Z4);refine⟨s++t,?_⟩;show lf0 (`Z4) zs=_;rw[e2,e,`fN]
theorem l60:∀(zs:`Ka) {L:`_},`o4->`aKh->WI n m (`Z6)
 | [],_,h,_=>h
 | q::zs,L,h,hz=>l60 zs (ct0 h (`Z7).1 (`Z7).2) `aKi
theorem qo0(hp:`aY)(hq:`eR){p:`b8}(h1:`YY)(h2:`YZ):∀q∈`sX,Lv `M q.1/\Lv `bN q.2:=λq F =>
 ⟨(N5 hp h1).2.lv _ (S1 F).1,(N5 hq h2).2.lv _ (S1 F).2⟩
theorem jm0(hp:`aY)(hq:`eR):∀(k a:Nat) {L:`_},`zD->WI `M `bN `aKj
 | 0,_,_,h=>h
 | k+1,a,L,h=>by
  unfold wk;cases e:`zB with
  | none=>exact h
  | some p =>
   have hm:=E4 e;exact jm0 hp hq k `mP (l60 _ h (qo0 hp hq (`Kb).1 (`Kb).2))
theorem wi0(hp:`aY)(hq:`eR):WI `M `bN `Kc:=⟨λp h=>by rw[`d? h];exact⟨hp.len.1,hq.len.1⟩,by unfold fs;simp,by unfold sn;simp⟩
noncomputable def wkd(ps qs:`ao):`_:=wk ps qs 61 0 `Kc
theorem pi0(v w:D):`aGB:=Ta.pi0 v w
theorem Ot0(i j:Nat):`aGG :=
 `aGH
theorem O4(p:Pt)(h:`em):`I9:=`y5
theorem Rj0(a b:`l):td `y1=td a++td b:=by unfold td;rw[`bl]
noncomputable def dk(l:`l):D:=`bk (`o `zE) (td l)
theorem eu0{l:`l}{k:Nat}(h:k∉l):(`bk (`o (U6 `zE `n?)) (V6 `zE (td l) `n? `vL):D)=dk (l++[k]):=by
 have hk:T9 `zE `n?=`m:=`aKk
 unfold U6 V6 dk;rw[hk,`bD,`bD,n90,Rj0];rfl
theorem V60(l:`l)(x:Nat):V3 `d `v5 (dk l)=`a (.bl (`O (x∉l))):=by
 show `a (`kF (xor `d (T9 `zE `v7)))=_;rw[ue0]
 by_cases h:x∈l<;>simp[h]
noncomputable def ws(one other:D)(L:`_)(a:Nat)(s6 s7:Sl):Ds:=[.sh one,.sh `iV,.ow `Ek,.ow (`El),.ow (`Em),`cN,s6,s7]
noncomputable def FB:GS:=(u6 (ifD `aDG
 (u6 (V0 `qs (`ZE 3 `OW))
 (u6 (V0 `qs (`ZE 4 `OX))
 (u6 `aDH
 t6)))
 t6)
 t6)
theorem W40{g2:GB}{a b:`N}(h1:g1 δ=`nm)(h2:g2 δ=`fD):`aKl=`a (a&&b):=by
 unfold yc0;rw[h1,`E];cases a with
 | false=>rfl
 | true=>rw[`cp,h2];rfl
theorem Pw0{g2:GB}(h1:`aKm):`aKl=`dk:=by
 unfold yc0;rw[h1,`E];rfl
theorem Ym0(L:`_)(p:`b8):`hy++[`qN]=(L++[p]).map pN:=by rw[`bl];rfl
theorem Pt0{one other:D}{w:D}(hv:`eQ)(hw:`o1)(hl:`kb)(a:Nat)(s6:Sl):FB (`Z8)=`a (.nx (ws one `iV (`J?) a s6 (`PE))):=by
 have zs:`hY:=`ai
 have F:ob `afw (`Z8)=`aGC:=by
  unfold ob;rw[`aGD,pi0];rfl
 cases hb:`qO with
 | false =>
  rw[hb] at F;rw[`aKg];refine v9 (δ':=`Z8) ?_ rfl;rw[j6 (Pw0 F)];rfl
 | true =>
  rw[hb] at F;rcases hv with rfl|⟨z,rfl⟩|⟨i,rfl,hi⟩
  ·cases hb
  ·cases hb
  ·rcases hw with rfl|⟨z,rfl⟩|⟨j,rfl,hj⟩
   ·cases hb
   ·cases hb
   ·have t1:xj0 `aft (`Z9)=`a (`aKn):=by
     show ob `afs `aKo=_;refine `mQ;rw[p6 (x:=`il) (y:=`El) rfl rfl];exact V60 _ _
    have t2:xj0 `afv (`Z9)=`a (`aKp):=by
     show ob `afu `aKo=_;refine `mQ;rw[p6 (x:=`dg) (y:=`Em) rfl rfl];exact V60 _ _
    have t3:=W40 F (W40 t1 t2);rw[Z20]
    by_cases hc:`Qq
    ·rw[`rU]
     rw[`bv `im,`bv `ls] at t3;refine v9 (δ':=ws one `iV (`Ei) a s6 (`DE)) ?_ rfl;rw[W9 t3];have fl:(`iT).length<=60:=by unfold fs;rw[`F];exact hl
     have sl:(`iU).length<=60:=by unfold sn;rw[`F];exact hl
     refine v9 (Ua.nv0 (ks:=kd (`iT)) (vs:=td (`iT)) (k:=i) (v:=`jF) rfl rfl rfl `aKq) ?_;rw[eu0 `im];refine v9 (Ua.nv0 (ks:=kd (`iU)) (vs:=td (`iU)) (k:=j) (v:=`jF) rfl rfl rfl `aKq) ?_;rw[eu0 `ls];refine v9 (`mN (l:=`hy) (d:=`PG) rfl ?_ `gC) ?_
     ·rw[`aGI]
      exact Ot0 i j
     ·rw[Ym0,show `iT++[i]=fs (`Ei) from (gt0 L `lQ).symm,show `iU++[j]=sn (`Ei) from (i30 L `lQ).symm]
      rfl
    ·rw[`rV]
     have:(`d&&(`aKn&&`aKp))=`m:=by
      by_cases h1:i∈`iT
      ·simp[h1]
      ·by_cases h2:j∈`iU
       ·simp[h2]
       ·exact `X `BZ hc
     rw[`B] at t3;refine v9 (δ':=`Z9) ?_ rfl;rw[j6 t3];rfl
theorem Ye0(hn:`oY)(one other:D)(a:Nat)(s6:Sl):∀(zs:`Ka) {L:`_} (s7:Sl),`o4->`aKh->∃s7',N7 `n4 FB (zs.map `PK) `aKr=`a (.nx (ws one `iV (`Z6) a s6 s7'))
 | [],L,s7,_,_=>⟨s7,rfl⟩
 | q::zs,L,s7,h,hz=>by
  have hq:=`Z7;obtain⟨s',e⟩:=Ye0 hn one `iV a s6 zs (.sh (`PJ)) (ct0 h hq.1 hq.2) `aKi
  refine`y8;rw[`aC];unfold N7;show (match FB (ws one `iV L a s6 (.sh (`PJ))) with|`dO=>`aKs|`xN=>`aKs|`xO=>`dO|r=>r)=_;rw[Pt0 hq.1 hq.2 (B9 h.len hn)];exact e
noncomputable def PT:GB:=`aDC
noncomputable def PB:GS:=(u6 `aDD
 (u6 `aDE
 (u6 (G3 `aDF `n4
 FB)
 t6)))
theorem p40(one other:D)(L:`_)(a:Nat)(s6 s7:Sl):PT `aKr=`a (`O (a<`bA)):=by
 refine `mQ;rw[p6 (x:=`fO) (y:=`aKt) rfl (by
  show (if `e4 `aKu=`d then `a `aKu else `b)=_;rw[`F];rfl)]
 show `a (`kF (`O (`ia<`Qr)))=_;congr 2;rw[`Jl];omega
theorem Pn0{p:`b8}(h:`zB=`a p):ixD `Ek (`fO)=`a `n2:=by
 obtain⟨hl,e⟩:=`gg h;show atI (`hy) `ia=_;rw[`Yy,`aF];simp[hl,e]
theorem O90(hp:`aY)(hq:`eR)(h:`zD){p:`b8}(e:`zB=`a p)(s6 s7:Sl):∃s7',PB `aKv=`a (.nx (ws `dj `iL (lf0 L (`sX)) `mP `sY s7')):=by
 have hm:=`aKw;obtain⟨a1,a2⟩:=N5 hp hm.1;obtain⟨b1,b2⟩:=N5 hq hm.2;obtain⟨s',ef⟩:=Ye0 `zt `dj `iL `mP `sY (`sX) s7 h `aKx;refine⟨s',v9 (δ':=ws `dj `iL L a `sY s7) (j8 (d:=`qN) (ws0 ?_ rfl)) (v9 (δ':=ws `dj `iL L `mP `sY s7) rfl (v9 (J0 ?_ ef) rfl))⟩
 ·show o2 `bt `bM ixD [`ag,`c6,`q4,.sh (`El),.sh (`Em),`cN,`En,`zA]=_
  rw[p6 (x:=`Ej) (y:=`fO) rfl rfl];exact Pn0 e
 ·unfold q40
  rw[`x (d:=`n (`wj).vals) (ds:=[`n `agB]) (by
   rw[o4 (ds:=[(`wj).d]) (`x (by rw[`aGO];exact a1) rfl)];exact O4 _ a2.f) (`x (by
   rw[o4 (ds:=[(`DG).d]) (`x (by rw[`aGP];exact b1) rfl)];exact O4 _ b2.f) rfl)]
  rfl
theorem ee0(hp:`aY)(hq:`eR):∀(k a f:Nat) {L:`_} (s6 s7:Sl),a+k=61->k<f->a<=`bA->`zD->∃a' s6' s7',U3 PT PB f `aKv=`a (.nx (ws `dj `iL `aKj a' s6' s7'))
 | 0,a,f,L,s6,s7,h1,h2,h3,h=>by
  have:=h.len;have:=`zt;omega
 | k+1,a,f,L,s6,s7,h1,h2,h3,h=>by
  obtain⟨g,rfl⟩:∃g,f=g+1:=`JZ;unfold wk;cases e:`zB with
  | none =>
   have hl:=List.getElem?_eq_none_iff.mp e;refine⟨a,s6,s7,?_⟩;unfold U3;rw[p40,`zg]
  | some p =>
   have hl:=(`gg e).1;have hm:=`aKw;obtain⟨s',eb⟩:=O90 hp hq h e s6 s7;obtain⟨t,et⟩:=gy0 (`sX) L;obtain⟨a',s6',s7',ew⟩:=ee0 hp hq k `mP g `sY s' `g `g (by rw[et,`aM];omega) (l60 _ h `aKx);refine⟨a',s6',s7',?_⟩;unfold U3;rw[p40,`bv hl];dsimp only;rw[eb];exact ew
theorem cw0(hp:`aY)(hq:`eR):xh0 `q5=`a (`n ((wkd ps qs).map pN)):=by
 obtain⟨a',J,F,e⟩:=ee0 hp hq 61 0 100000 (L:=`Kc) .un .un rfl `f `f `aKy;exact X4 rfl (v9 (δ':=[`ag,`c6,`Z',.un,.un,.un,.un,.un]) rfl (v9 (δ':=[`ag,`c6,`Z',`Z!,.un,.un,.un,.un]) rfl (v9 (δ':=[`ag,`c6,`Z',`Z!,`Z!,.un,.un,.un]) rfl (v9 (δ':=ws `dj `iL `Kc 0 .un .un) rfl (v9 e `qT)))))
universe Va
namespace Va
open Ha
open DL W K22
open Ta (pa N5 vg0 pN k2 Dc okv up)
theorem pc0(p:Pt)(h:`em):`aJj:=`y5
theorem rj0(hp:`aY)(hq:`eR){d:D}(hd:`zk){p:`b8}(h1:`YY)(h2:`YZ):`aGM:=Ta.rj0 hp hq hd h1 h2
open Classical in
noncomputable def upf(ps qs:`ao)(L:`_):`_:=`Z? `aKz
theorem Tc0(L:`_)(hl:`kb)(h:`as=`aKA):∃d,`zk/\oA `lo ni0 δ=`bb:=by
 have zs:`hY:=`ai
 obtain⟨r,r1,r2⟩:=Ta.kl0 `vL L [] [];refine⟨`ayN,⟨r.1,r.2,rfl,λx=>by rw[r2];simp⟩,?_⟩;rw[o4 (ds:=[`ahw]) `VJ];show (if (`aKB).length<=`R then (N8 [] [] (`aKB)).map (λr=>D.dct (`q r.1) r.2) else `b)=_;rw[`aKC,r1];rfl
theorem P60(L:`_)(hl:`kb)(δ:Ds)(h:gv 2 δ=`a `Ek):Z9 1 [] `jm `bs noT `aDB δ=`aKA:=by
 have zs:`hY:=`ai
 refine Y9 (items:=`hy) (by show `gP (gv 2 δ) uw0=_;rw[h];rfl) `gC ?_;rw[R8 (λd=>`w [d,`jF]) (λd hd=>⟨[`jL],rfl,rfl,`DU⟩),`aS];rfl
theorem aj0(L:`_)(b:`eK)(c:`aKD)(h:∀p∈L,b `n2=c p):(`hy).filter b=(`Z? c).map pN:=by
 rw[List.filter_map];congr 1;exact List.filter_congr λp hp=>h p hp
noncomputable def qN:D->`b8
 | `aCZ=>`aGy
 | _=>(0,0)
theorem V40(p:`b8):qN `n2=p:=by
 unfold qN pN;simp only[`aF]
theorem Si0{f:`aX}{gt:GB}(L:`_)(c:`aKD)(h:∀p∈L,∃δ',f `n2 δ=`nj/\`pN=`a (c p)/\gv 0 δ'=`a `n2):R6 f gt `V δ (`hy)=`a ((`Z? c).map pN):=by
 rw[uk0 (λd=>c (qN d)) id (λd hd=>by
  obtain⟨p,hp,rfl⟩:=`fn;obtain⟨δ',h1,h2,h3⟩:=h p hp;exact⟨δ',h1,by rw[V40];exact h2,λ_=>h3⟩),`s3,aj0 L _ c λp _=>by rw[V40]]
open Classical in
theorem Zj0(hp:`aY)(hq:`eR)(h:`zD):z10 [`cE,`iK,`Ej]=`a (`wC):=by
 have zs:`hY:=`ai
 have hl:`kb:=B9 h.len `zt;obtain⟨d,hd,e⟩:=Tc0 L hl (P60 L hl [`ag,`c6,`q4,.un] rfl);refine X4 rfl (v9 (j8 (d:=d) e) (Y4 (V7 (Y9 (items:=`hy) rfl `gC ?_))));refine Si0 L (`aKz) λp hm=>⟨[`qS,`ag,`c6,`jL],rfl,?_,rfl⟩
 obtain⟨t1,t2⟩:=rj0 hp hq hd (`Kb).1 (`Kb).2;unfold ob;rw[o4 (ds:=`agC) rfl]
 by_cases hu:`PH
 ·rw[t1 hu,`bv hu];rfl
 ·rw[t2 hu,`bS hu];rfl
theorem Ts0(ps qs:`ao)(L:`_):∀p∈`l2,p∈L:=λp hp=>(w4.mp hp).1
theorem fx0(ps qs:`ao)(L:`_):`Qs<=`bA:=E00 _ _
theorem iv0(h:`Qs=`bA):`l2=L:=`acq (List.length_filter_eq_length_iff.mp h)
theorem i50(ps qs:`ao)(h:`o4):WI n m (`l2) :=
 ⟨λp hp=>`wB p (Ts0 ps qs L p hp),E10 `aKE h.f,E10 `aKE h.s⟩
noncomputable def fx(ps qs:`ao):`aKd
 | 0,L=>L
 | k+1,L=>if `_a then fx ps qs k (`l2) else L
theorem V30(ps qs:`ao):∀(k:Nat) {L:`_},`o4->WI n m (`Kd)
 | 0,_,h=>h
 | k+1,L,h=>by
  unfold fx;split
  ·exact V30 ps qs k `_b
  ·exact h
noncomputable def stays(ps qs:`ao):`_:=fx ps qs 61 (wkd ps qs)
theorem xt0(hp:`aY)(hq:`eR):WI `M `bN `q7:=V30 ps qs 61 (jm0 hp hq 61 0 `aKy)
noncomputable def ST:GB:=`aDT
noncomputable def SB:GS:=(u6 (b7 `c5 `bM)
 (u6 `Yc
 t6))
theorem V00(a b c d:Sl)(L M:`_):ST [a,b,c,d,`q4,.sh (`n (`_c))]=`a (`O (`Ep<`bA)):=by
 refine `mQ;rw[p6 (x:=`c `aKF) (y:=`aKt) (by rw[op0 (ds:=`_c) rfl,`F]) (by rw[op0 (ds:=`hy) rfl,`F])];show `a (`kF (`O (`aKF<`Qr)))=_;congr 2;rw[`Jl];omega
theorem ed0(hp:`aY)(hq:`eR)(a b:Sl):∀(k f:Nat) {L:`_},`bA<k->k<f->`zD ->
  ∃s4,U3 ST SB f `aKG=`a (.nx [a,b,`ag,`c6,s4,.sh (`n ((`Kd).map pN))])
 | 0,f,L,h1,_,_=>`p
 | k+1,f,L,h1,h2,h=>by
  obtain⟨g,rfl⟩:∃g,f=g+1:=`JZ;unfold fx
  by_cases hc:`_a
  ·rw[`rU]
   obtain⟨s4,e⟩:=ed0 hp hq a b k g (L:=`l2) `g `g `_b;refine⟨s4,?_⟩;unfold U3;rw[V00,`Zr];dsimp only;have eb:SB `aKG=`a (.nx [a,b,`ag,`c6,.sh (`wC),.sh (`aKH)]) :=
    v9 (j8 (d:=`wC) rfl) (v9 (j8 (d:=`aKH) (by
     rw[o4 (ds:=[`cE,`iK,`wC]) rfl];exact Zj0 hp hq `_b)) rfl)
   rw[eb];exact e
  ·rw[`rV]
   have:=fx0 ps qs L;rw[iv0 (ps:=ps) (qs:=qs) (L:=L) `g];refine⟨`q4,?_⟩;unfold U3;rw[V00,`zg]
universe Va
namespace Va
open Ha
open DL W K22
open Ta (pa N5 vg0 pN k2 Dc okv up)
open Ua (SL yy0 v20 Met dr zo0)
open Km (Wb)
theorem yg0(hw:`bE):`aY:=⟨`fp,λp hp=>⟨(`Qa).few,λv hv=>Km.jf0 `aIY (`oc p hp v hv)⟩⟩
theorem aa0(a:Nat):∀L:`l,Km.ix L a=L.idxOf a
 | []=>rfl
 | `n'=>by
  unfold Km.ix;rw[`aFP,aa0 a l]
  by_cases e:b=a
  ·rw[`hU,e];simp
  ·rw[`gN,`aFQ];rfl
theorem U90(ps:`ao)(r:`l):`QW ps r=`wq:=by
 unfold Km.laid dr;rw[show Km.ix r=`JV from funext λa=>aa0 a r];rfl
theorem mx0(hw:`bE)(m:`dw):Km.T3 [`fT,`JT,`A7]=`a `qI:=by
 have F:=`fp;obtain⟨c,h1,h2⟩:=m.ex;have ea:∀i∈r,Km.ya0 `l_ i=(`y6).map id:=λi hi=>by
  rw[`s3,hw.adj `qZ,Ua.g50 (yg0 hw) `qZ];rfl
 have d:=Ua.Ua0 (adj':=Km.ya0 `l_) id h1 (λa _ b _ e=>e) ea;rw[`s3,`s3,`s3] at d;have hv:=Y70 (Km.mk0 `Z3) d F.1 62 `g;show Km.j4 62 [`fT,`JT,`aJ3]=_;rw[Km.jk0 `Z3 [] 62 0 F.1 P1 `vk,hv];rfl
theorem be0(hw:`bE)(m:`dw):S5 `D9=`ag8:=by
 have h:=Km.gs0 hw (a:=0) m.nd m.lt (λk hk i hi=>m.tg (yg0 hw) hk hi) (mx0 hw m);rw[U90] at h;exact h
theorem zw0(h:`aY)(m:`dw):`ZF:=Ua.zw0 h m
theorem lo0(hp:`aY)(hq:`eR){s:`l}(mp:`dw)(mq:`_d):`aKI:=by
 have wp:=`aKJ;have wq:=(zo0 hq mq).1;have hw:=jm0 wp wq 61 0 (wi0 wp wq);have hl:=B9 `fp wp.len.2;have hs:=xt0 wp wq;obtain⟨s4,e⟩:=ed0 wp wq `Jy (`c6) 61 100000 (L:=`Qv) (by unfold wkd;omega) `f hw;refine X4 rfl (v9 (j8 (d:=`lZ) ?_) (v9 (j8 (d:=`o5) ?_) (v9 (j8 (d:=`aKK) ?_) (v9 (j8 (d:=`n ((upf `lY `fW (`Qv)).map pN)) ?_) (`aGh)))))
 ·rw[`Ke];exact zw0 hp mp
 ·rw[`aKL];exact zw0 hq mq
 ·rw[o4 (ds:=[`lZ,`o5]) rfl];exact cw0 wp wq
 ·rw[o4 (ds:=[`lZ,`o5,`aKK]) rfl];exact Zj0 wp wq hw
 ·rw[o4 (ds:=[`n ((`Qu).map pN)]) rfl]
  exact v20 hs.nd (by have:=hs.len;have:=wp.len.2;omega)
universe Va
namespace Va
open Ha
open DL W K22
open Km (Wb lkd)
open Bw (Vb Gq cnt Lk)
theorem o80(xs:`s)(k:Int)(h:`fb):`e5 xs `b (`fU)=`qh `i4:=by
 unfold cutD sIx;simp only[];rw[`ji,List.drop_zero,`aCc]
 by_cases q:`i4<=`aP
 ·rw[`Xr q]
 ·rw[`aKM,`mI,`IL `g]
theorem vz0(h:`gb):`ln p.d=`d:=by
 have tv:∀{v:D},`fc->`ln v=`d:=λ{v} hv=>by cases hv<;>rfl
 have tl:∀l:`s,(∀v∈l,`fc)->`nx l=`d:=by
  intro l
  induction l with
  | nil=>intro _;rfl
  | cons v l ih=>intro hl;rw[`nx,tv (hl v A7),`aKN];rfl
 have tp:∀l:`cV,(∀v∈`d9 `cf,`fc)->`nx (`d9 pr)=`d:=by
  intro l
  induction l with
  | nil=>intro _;rfl
  | cons v l ih =>
   intro hl;have e:`ln (pr v)=`d:=by
    show (`ln (`J v.1)&&(`ln v.2&&`d))=`d;rw[tv (hl v.2 A7)];rfl
   rw[`aC,`nx,e,`aKN];rfl
 cases p with
 | text w=>rfl
 | row vs=>show (`d&&(`nx vs&&`d))=`d;rw[tl vs `wE];rfl
 | table ps=>show `aKO=`d;rw[`aKP];rfl
 | rcd c ps=>show (`d&&`aKO)=`d;rw[`aKP];rfl
theorem jo0(h:`gb)(hl:`y7)(hv:∀v∈vs,`fc):Gq (`qF)/\(`qF).vals=vs:=by
 have e:=o30 p vs hl;have hf:=`sR;refine⟨⟨?_,by rw[e];exact hv,?_,by rw[e,hl];exact hf⟩,e⟩
 ·cases p with
  | text w=>exact `sZ
  | row us=>show `zp;omega
  | table ps=>show `aKQ;rw[`gt];omega
  | rcd c ps=>show `aKQ;rw[`gt];omega
 ·have hn:=`_e
  cases p with
  | text w=>exact hn
  | row us=>exact hn
  | table ps =>
   intro s hs;refine hn s ?_;have hs:s∈`aKR++[]:=hs;show s∈`fM++[];rw[`aKS] at hs;exact hs
  | rcd c ps =>
   intro s hs;refine hn s ?_;have hs:s∈`aKR++[c]:=hs;show s∈`aI8;rw[`aKS] at hs;exact hs
theorem V9(c k:Int)(h0:`fb)(h1:`Jo):`Jp:=`ZQ
theorem s60(c k m:Int)(hc:`Y6)(hk:`aHd)(hm:`Y7):`aHe:=Bw.s60 c k m hc hk hm
theorem pk0(c:Int):∃nm,`aF_/\`Kf:=Bw.pk0 c
theorem wj0(ns:`aG)(hb:∀z∈ns,`iw)(k:Int)(h0:`fb)(h1:`Y4):`aG':=Bw.wj0 ns hb k h0 h1
theorem wy0(ns:`aG)(hb:∀z∈ns,`iw)(a:Int)(ha:`Zg)(most:Int)(hm:`JI):∃ps:`ao,`Zh=`a `dj/\`bE:=Km.wy0 ns hb a ha `lS hm
theorem wu0(p:Pt)(h:`J3)(vs:`s)(hl:`y7):`aJm:=Km.wu0 p h vs hl
theorem O60(a b:Str):(a++b).length=`v_+`Pi:=by
 show (a.cps++b.cps).size=a.cps.size+b.cps.size;rw[`ats]
theorem To0(z:Str):(`pU z `b `Qw).length<=20:=by
 by_cases h:`AK<=20
 ·exact B9 `arL h
 ·have hz:(`bU `Mn).length=`anN:=zk0 _
  have e:=Gw.bf0 `Mn 20 `f (by rw[if0] at hz;rw[← hz];omega);rw[if0] at e;rw[e,zk0,`cm];omega
theorem Zq0(h:`gb)(hk:∀v∈`bu,`s1)(hp:`Kf)(c:Int):∃p',ye0 [p.d,`a_,`iI]=`a p'.d/\Gq p'/\∀v∈p'.vals,`s1:=by
 have z:`dv:=`ai
 obtain⟨x,x0,x1,x2⟩:=V9 c 5 `f `f;obtain⟨y,y0,y1,y2⟩:=V9 c 6 `f `f;obtain⟨a1,a2⟩:=Bw.jn0 nm hp (x%12) `g `g;generalize `DQ (x%12).toNat ""=nam at a1 a2;have short:nam.length<=20:=hp.short nam a2;have s3:∀s:Sl,b7 `b! `aD? [`kE,`W,`bO,s]=`a (.nx [`kE,`W,`bO,`wG]):=λs=>by
  refine j8 (i:=3) (d:=`J nam) ?_;rw[p6 (x:=`iI) (y:=`c (x%12)) rfl (by
   rw[p6 (x:=`dU) (y:=`iC) (by rw[o4 (ds:=[`a_,`qx]) rfl];exact x2) rfl];rfl)]
  exact a1
 have md:∀(m:Int),0<m->∀d0 d2 d3:Sl,o2 `Da `aKT b8 [d0,`W,d2,d3]=`a (`c (y%m)):=λm hm d0 d2 d3=>by
  rw[p6 (x:=`c y) (y:=`iM) (by rw[o4 (ds:=[`a_,`c 6]) rfl];exact y2) rfl];exact `aKU
 cases p with
 | text w =>
  have hw:`Y0:=`sZ;have e5:(`O7 : Str).length=5:=`aq
  have l1:(`ahx).length<=25:=by rw[O60,e5];omega
  have l2:(`Eq).length<=25:=B9 (`acT _ _ _) l1;refine⟨`vD `aKV,Z1 rfl (v9 `wl `fP),⟨To0 _,`q6,`l4,`c_⟩,`q6⟩;rw[`fa];refine m7 (Z7 (Z4 (`x rfl (`x (d:=`J `aKV) ?_ rfl)) `dV));have e1:o2 `c2 `afN o9 `_f=`a `aKW:=by
   rw[p6 (x:=`J w) (y:=`afM) rfl rfl];simp only[o9];rw[`I (by rw[e5];omega)]
  have e2:U9 `aEa `aEb W6 `_f=`a (`J (`Eq)):=by
   unfold U9 someO W6;rw[e1,md 4 `f,`E];show slA `aKW `ahz `b=_;simp only[slA];rw[`zb]
  show `gP (U9 _ _ _ `_f) _=_;rw[e2];show slA (`J (`Eq)) `b `Qw=_;simp only[slA];rw[`zb]
 | row vs =>
  have hv:`Pk:=`sR;refine⟨`lB (`Qx),Z1 rfl (v9 `wl (v9 (δ':=`aKX) `aR `fP)),⟨?_,`f!,`l4,?_⟩,`f!⟩
  ·rw[`fa]
   refine m7 (Z7 (Z4 (`x rfl (`x (d:=`w (`Qx)) ?_ rfl)) `dV));have e1:o2 `c2 `aEc o9 `aKX=`a (`w `aKY):=by
    rw[p6 (x:=`Qm) (y:=`w [`z,`j3]) rfl `DV];simp only[o9];rw[`I `Jz]
   unfold U9 someO W6;rw[e1,md 12 `f,`E];show `a (`e9 (`e5 `aKY `b (`a (y%12))))=_;rw[`aKZ]
  ·show `aK_<=20
   rw[`cm];omega
  ·rcases `er `Kg with q|q
   ·exact `wE v q
   ·rcases `y2 with rfl|q
    ·exact `z
    ·rw[`zC];exact `c 3 `f
  ·show `aK_<=12
   rw[`cm];omega
  ·rcases `er `Kg with q|q
   ·exact hk v q
   ·rcases `y2 with rfl|q
    ·exact λj e=>nomatch e
    ·rw[`zC];exact λj e=>nomatch e
 | table ps =>
  refine⟨`hj nam ps,Z1 rfl (v9 `wl (v9 (δ':=`aK0) `aR (v9 (δ':=`aK0) `aR `fP))),⟨`sZ,`wE,`Ju,`sR⟩,hk⟩
  ·rw[`fa]
   exact m7 (Z7 (Z4 (`x rfl `DD) `JH))
  ·have hs:s∈`fM++[nam]:=hs
   rcases `Zf with q|q
   ·exact `_e s (by show s∈`fM++[];rw[`f5];exact q)
   ·rw[`zC];exact short
 | rcd cl ps =>
  have hf:`qB<=12:=`sR;rw[`F] at hf;refine⟨`hj nam (`Qy),Z1 rfl (v9 `wl (v9 (δ':=`Kh) `aR (v9 (δ':=`Kh) `aR (v9 (δ':=`Kh) `aR `eb)))),⟨?_,`f!,`Ju,?_⟩,`f!⟩
  ·refine Z4 (`x rfl (`x rfl (`x (d:=`w (`Qz pr)) ?_ rfl))) `JH
   unfold U9 someO W6;rw[show o2 `V `ea ixD `Kh=`aJn from rfl,md 13 `f,`E];show `a (`e9 (`e5 `hi `b (`a (y%13))))=_;rw[`aKZ,`o3]
  ·show (`Qy).length<=20
   rw[`cm];omega
  ·have hv:v∈`_g:=hv
   rw[`o3] at hv;exact `wE v `Kg
  ·have hs:s∈`Qz `bG++[nam]:=hs
   rcases `Zf with q|q
   ·rw[`o3] at q
    exact `_e s (D6 _ (T0 q))
   ·rw[`zC];exact short
  ·show (`_g).length<=12
   rw[`F,`cm];omega
  ·have hv:v∈`_g:=hv
   rw[`o3] at hv;exact hk v `Kg
universe Va
namespace Va
open Ha
open DL W K22
open Km (Wb lkd Q9)
open Bw (Vb Gq cnt Lk)
open Ta (pN)
open Ua (SL yy0 Met dr zo0 vc0)
theorem p90(h:n<=m)(x:`s1):Lk m v:=λj e=>B4 (x j e) h
theorem nl0(hw:`jo)(hp:`gb)(hk:∀v∈`bu,`aK1):Wb (`_h):=by
 have hl:(`_h).length=`bN:=A40;refine⟨by rw[hl];exact `fp,`yq,`yq⟩
 ·rcases i7 hq with z|rfl
  ·exact `wu q z
  ·exact hp
 ·rw[hl]
  rcases i7 hq with z|rfl
  ·exact `oc q z
  ·exact hk
theorem Ru0(hw:`jo)(h:`Ki)(hp:`gb)(hk:∀v∈`bu,`aK2):Wb (qs++[p]):=by
 have hl:(qs++[p]).length=`bN+1:=`aB
 refine⟨`aC9,`yq,λq hq v hv=>?_⟩
 ·rcases `er hq with z|z
  ·exact `wu q z
  ·rw[`sQ];exact hp
 ·rw[hl]
  rcases `er hq with z|z
  ·exact p90 `I2 (`oc q z v hv)
  ·rw[`sQ] at hv;exact hk v hv
theorem ns0{k:Nat}{gk:GE}(h1:`Yl)(h2:`as=`bo)(h3:gk δ=`aIs)(h4:k<`cO):V0 (W5 g) (`vS i gk) δ=`a (.nx (`bq i (.ow (`n (l.set k v))))):=by
 have e:ixN `cO `cL=`fU:=by
  unfold ixN;rw[`zb,`zb,`aF]
 unfold V0 W5;rw[h2,`ds,`E];unfold setAt;rw[h1,`E,h3,`E];simp only[];rw[e];rfl
theorem gq0(a b:Int):wp0 `Cq (`eC)=`a (.bl (`Rv)):=by
 unfold wp0;rw[`aK3];rw[deq];rfl
theorem tm0(h:gv i `lj=`a (`j0)):S7 (oA (z9 (gv i) v6) V2) δ=`a (`c (`cO:Int)):=by
 unfold S7;rw[op0 h];rfl
theorem fd(x m:Int)(h0:0<m)(h1:m<1073741824):G6 `v' (`iM)=`a (`c (x/m)):=by
 simp only[G6,ii];rw[`I ⟨h0,h1⟩]
theorem dm{x:Int}(h:gv i δ=`a `v')(a m:Int)(ha:0<a/\a<1073741824)(hm:0<m):o2 (o2 (gv i) (gc `Cq) G6) `aKT b8 δ=`a (`c (x/a%m)):=by
 rw[p6 (x:=`c (x/a)) (y:=`iM) (by rw[p6 (x:=`dU) (y:=`hd) h rfl];exact fd x a ha.1 ha.2) rfl];exact `aKU
noncomputable def CA:GS:=(u6 `aEi
 t6)
noncomputable def CI:GE:=`afX
noncomputable def CP:GE:=`aEl
noncomputable def CN:GS:=(u6 (Y0 (zf0 3 CP))
 (u6 (V0 `aEm `aK4)
 t6))
noncomputable def CV:GS:=(u6 (V0 `aEo `aK4)
 t6)
noncomputable def CT:GB:=`aEk
noncomputable def CW:GS:=(u6 (ifD CT
 CN
 CV)
 (u6 `aEp
 t6))
noncomputable def CE:GS:=(u6 (ifD `aEj
 CW
 t6)
 t6)
noncomputable def CB:GS:=(u6 `aEf
 (u6 `aEg
 (u6 `aEh
 (u6 (ifD `Yg
 CA
 CE)
 t6))))
noncomputable def cs(W NM:D)(c:Int)(l:`s)(j x:Int)(a:Nat)(s7:Sl):Ds:=[`cl,`W,.sh NM,.ow (`j0),.sh (`d6),`l0,`cN,s7]
theorem d90(qs:`ao)(i:Nat)(p:Pt):(`l3).set i p.d=(`_h).map `eA:=by rw[`aK5]
theorem ov0(hw:`jo)(ha:a<`bN)(hp:`Kj=p)(hl:`y7)(hv:∀v∈vs,`fc)(hk:∀v∈vs,`aK1)(W NM:D)(c j x:Int) :
  ∃qs',`Kk/\V0 `afZ `O8 (cs W NM c `od j x a `_i)=`a (.nx (cs W NM c `Et j x a `_i)):=by
 obtain⟨w1,w2⟩:=Q9 ha;rw[hp] at w1 w2;obtain⟨g1,g2⟩:=jo0 (`eB) hl hv;have hf:=(`eB).few;refine⟨`QA a (`qF),nl0 hw g1 (by rw[g2];exact hk),?_⟩;rw[ns0 (l:=`l3) (v:=(`qF).d) (k:=a) rfl (ws0 (by
  show oA `afY V5 [`cl,`W,.sh NM,`Eu,.sh (`d6),`l0,`cN,`iG]=_;rw[o4 (ds:=`Ef) (`x (by rw[`_j];exact w1) rfl)];exact wu0 p `g vs hl) (vz0 g1)) rfl `aK6,d90]
 rfl
theorem O20(W NM:D)(c j x:Int)(l:`s)(a:Nat)(h:0<`bF):∃i,i<`bF/\CI (cs W NM c l j x a `_i)=`a (`c (`SN:Int)):=by
 have e0:0<=`_k:=`s_;have e1:`_k<`QB:=`J6;refine⟨(`_k).toNat,`p,?_⟩;unfold CI;rw[p6 (x:=`c (x/2400)) (y:=`c `QB) (by rw[p6 (x:=`dU) (y:=`afW) rfl rfl];exact fd _ _ `f `f) (tm0 rfl),`zc,`IM e0]
theorem Pf0(hw:`jo)(ha:a<`bN)(hp:`Kj=p)(hne:0<`hv)(W NM:D)(c j x:Int)(hx:0<=x/\`agj) :
  ∃qs' s7,`Kk/\CW `s6=`a (.nx (cs W NM c `Et j x a s7)):=by
 have zs:`hY:=`ai
 obtain⟨w1,w2⟩:=Q9 ha;rw[hp] at w1 w2;have hq:=`eB;have O:=`Eg;have a6:=`fp;have t:CT `s6=`a (`O (x/300%4=0)&&`O (`Ki)):=by
  refine W40 (`mQ) (`mQ)
  ·rw[p6 (x:=`c (x/300%4)) (y:=`c3) (dm rfl 300 4 `f `f) rfl]
   exact gq0 _ _
  ·rw[p6 (x:=`c `aK7) (y:=`qy) (tm0 rfl) rfl]
   show `a (`kF (`O (`aK7<60)))=_;rw[`F];congr 2;rw[`Jl];omega
 obtain⟨i,hi,ei⟩:=O20 W NM c j x `od a hne;have F:∀{v:D} {n:Nat},`fc->`s1->(∀u∈`bu,Lk n u)->(∀u∈`Kl,Vb u)/\∀u∈`Kl,Lk n u:=λhv hk Y =>
  ⟨λu hu=>`Km (`ke u) λe=>e▸hv,λu hu=>`Km (Y u) λe=>e▸hk⟩
 by_cases hc:x/300%4=0/\`Ki
 ·rw[`bv `im,`bv `ls] at t
  obtain⟨np,a5,a2,a3⟩:∃np:Pt,Gq np/\(∀v∈np.vals,`aK2)/\CP `s6=`a np.d:=by
   have e2:`_l=0∨`_l=1:=`p
   have el:W8 `afV `s6=`a (`_m):=ua0 (`x `DV (`x (Z4 (`x rfl (`x (Z4 (`x `DV `n1) `dV) rfl)) `dV) rfl)) `dV;have ec:∀b:Int,`_l=b->CP `s6=ixD (`_m) (`eC):=λb hb=>by
    unfold CP;rw[p6 (x:=`_m) (y:=`eC) el (by rw[← hb];exact dm rfl 1200 2 `f `f)]
   rcases e2 with q|q
   ·exact⟨`vD `qA,`aK8,`q6,ec 0 q⟩
   ·refine⟨`lB `ahD,⟨`aK9,`f!,`l4,`aK'⟩,`f!,ec 1 q⟩
    ·rcases `jk with rfl|hv
     ·exact .lk a `g
     ·rw[`s7];exact `z
    ·rcases `jk with rfl|hv
     ·exact `J2 `g
     ·rw[`s7];exact λj e=>nomatch e
  have Z:=Ru0 hw `ls a5 a2;have hl1:`aK!=`bN+1:=`aB
  obtain⟨s1,s2⟩:=F (v:=`QD) (n:=`aK!) (`aHg) (`J2 `g) λu hu=>p90 `g (O u hu)
  obtain⟨qs',J,e'⟩:=ov0 Z (a:=a) `g (p:=p) (by rw[← hp];simp[`ec,`AA ha]) (vs:=`aK?) A40 s1 s2 W NM c j x;refine⟨qs',_,J,v9 (δ':=cs W NM c (`QE) j x a (.ow (`n (`aK?)))) ?_ `_n⟩;rw[W9 t];obtain⟨i',a1,a4⟩:∃i',i'=i/\CI (`aLa)=`a (`c ((i':Nat):Int)):=⟨i,rfl,ei⟩;subst a1;refine v9 (δ':=`aLa) ?_ (v9 (ns0 (l:=`bu) (v:=`QD) (k:=i') rfl ?_ a4 hi) rfl)
  ·rw[`mN (l:=`l3) (d:=np.d) rfl a3 `gC]
   rw[`bl];rfl
  ·refine Z4 (`x rfl (`x (d:=`_o) ?_ rfl)) `dV
   rw[p6 (x:=`c `aLb) (y:=`ck) (tm0 rfl) rfl];show `a (`cC (`aLb - 1))=_;rw[`F,hl1];congr 2;omega
 ·have t':CT `s6=`dk:=by
   rw[t]
   by_cases h1:x/300%4=0
   ·have h2:¬`Ki:=λz=>hc ⟨h1,z⟩
    simp[h2]
   ·simp[h1]
  obtain⟨v,v1,v2,v3⟩:=s60 x 4 `Es (by
   have:`_p<2 ^ 32:=`p
   have h2:=Bg0 (n:=`_p) (k:=32)
   by_cases h0:`_p=0
   ·rw[h0];decide
   ·have:=(h2 h0).mpr `B
    omega) `f `g
  rw[`aF] at v3;obtain⟨s1,s2⟩:=F v2 v3 O;obtain⟨qs',J,e'⟩:=ov0 hw ha hp (vs:=`Kl) A40 s1 s2 W NM c j x;refine⟨qs',_,J,v9 (δ':=cs W NM c `od j x a (.ow (`n (`Kl)))) ?_ `_n⟩;rw[j6 t'];refine v9 (ns0 (l:=`bu) (v:=v) (k:=i) rfl ?_ ei hi) rfl;rw[o4 (ds:=[`dU,`lC,`_o]) (`x rfl (`x rfl (`x `aLc rfl)))];exact v1
theorem Pq0(hw:`jo)(hp:`Kf)(W:D)(c:Int)(j:Nat)(hj:j<=100)(s5 s6 s7:Sl) :
  ∃qs' s5' s6' s7',`Kk/\CB [`cl,`W,`bO,`_q,`cF,s5,s6,s7]=`a (.nx [`cl,`W,`bO,.ow (`n `Et),`cF,s5',s6',s7']):=by
 obtain⟨x,x0,x1,x2⟩:=V9 c (8+`br) `g `g;have Z:=`fp;have e0:0<=`Kn:=`s_;have e1:`Kn<`Es:=`J6;obtain⟨a,ea⟩:∃a:Nat,`ia=`Kn:=⟨(`Kn).toNat,`p⟩;have ha:a<`bN:=`p
 obtain⟨w1,w2⟩:=Q9 ha;obtain⟨p,J⟩:∃p,`Kj=p:=`au;have w1:ixD (`wH) (`fO)=`a (`Kj).d:=w1;rw[J] at w1 w2;have hq:=`eB;have O:=`Eg;have Y:`em:=`aLd;obtain⟨qs',s7',F,e'⟩:∃qs' s7',`Kk/\ifD `Yg CA CE (`zF)=`a (.nx (`aLe)):=by
  have t:ob `afS (`zF)=`a (`O (x/60%5=0)):=`fe (by
   rw[p6 (x:=`c (x/60%5)) (y:=`c3) (dm rfl 60 5 `f `f) rfl];exact gq0 _ _)
  by_cases hc:x/60%5=0
  ·rw[`Zr] at t
   obtain⟨p',h1,h2,h3⟩:=Zq0 hq O hp x;refine⟨`QA a p',`wI,nl0 hw h2 h3,?_⟩;rw[W9 t];refine v9 (ns0 (l:=`l3) (v:=p'.d) (k:=a) rfl ?_ rfl `aK6) ?_
   ·rw[o4 (ds:=[p.d,`dU,`iI]) (`x (ws0 (by
     show o2 `be `e! ixD `aLf=_;rw[`_j];exact w1) (vz0 hq)) rfl)]
    exact h1
   ·rw[d90];rfl
  ·rw[`bS hc] at t
   rw[j6 t];have tn:xj0 `afU (`zF)=`a (`O (0<`hv)):=by
    show ob `afT `aLf=_;refine `mQ;rw[p6 (x:=`Pb) (y:=`A7) rfl rfl];show (if `bx `vV 50=`d/\`bx `qJ 50=`d then `a (`kF (!deq `vV `qJ)) else `b)=_;rw[`I ⟨by unfold lean;exact us0 λv hv=>oq0 (Km.jf0 `aJ_ (O v hv)) 48,by simp[`bx,`c0]⟩];cases `bu with
    | nil=>simp[deq,y60]
    | cons v vs=>simp[deq,y60]
   by_cases hne:0<`hv
   ·rw[`bv hne] at tn
    obtain⟨qs',s7',F,e'⟩:=Pf0 hw ha J hne W `qM c `br x ⟨x0,x1⟩;refine⟨qs',s7',F,v9 (δ':=`aLe) ?_ rfl⟩;rw[W9 tn];exact e'
   ·rw[`bS hne] at tn
    refine⟨qs,`wI,hw,v9 (δ':=`zF) ?_ rfl⟩;rw[j6 tn];rfl
 refine⟨qs',`l0,`cN,s7',F,v9 (j8 (d:=`dU) ?_) (v9 `aF8 (v9 (δ':=`zF) ?_ `_n))⟩
 ·rw[o4 (ds:=[`a_,`c (8+`br)]) rfl]
  exact x2
 ·rw[p6 (x:=`dU) (y:=`_o) rfl `aLc,`zc,ea]
 ·show R0 7 `afR [`cl,`W,`bO,`_q,`cF,`l0,`cN,`zA]=_
  unfold R0;rw[o4 (ds:=`ez) (`x (ws0 (by
   show o2 `be `e! ixD [`cl,`W,`bO,`Eu,`cF,`l0,`cN,zc0 (`zA)]=_;rw[`_j];exact w1) (vz0 hq)) rfl),pc0 p Y]
  rfl
theorem cg0(hw:`bE)(hp:`Kf)(c:Int):∃qs,xa0 `aLg=`a `iL/\`jo:=by
 obtain⟨x,x0,x1,x2⟩:=V9 c 7 `f `f;obtain⟨δ',l1,qs,s4,s5,s6,s7,hq,rfl⟩:=M9 (f:=gN 4) (G:=CB) (λi δ=>∃(qs:`ao) (s4 s5 s6 s7:Sl),`jo/\δ=[`ag,`W,`bO,`_q,s4,s5,s6,s7]) (`aLh) 0 `aLi (by
  rintro j d δ hj ⟨qs,s4,s5,s6,s7,hq,rfl⟩;obtain⟨a1,rfl⟩:=le0 hj;obtain⟨O,F,Z,J,Y,e⟩:=Pq0 hq hp `dj c j `g s5 s6 s7;exact⟨_,_,rfl,e,O,`cF,F,Z,J,Y,rfl⟩) ⟨ps,.un,.un,.un,.un,hw,rfl⟩
 refine⟨qs,Z1 rfl (v9 (δ':=`aLi) rfl (v9 (J0 (items:=`aLh) (xz0 `Y8 `g `g) l1) `eb)),hq⟩
 ·rw[p6 (x:=`dU) (y:=`lC) (by rw[o4 (ds:=[`a_,`lF]) rfl];exact x2) rfl]
  rfl
 ·show oA `iA V4 [`ag,`W,`bO,`Eu,zc0 s4,zc0 s5,`En,`zA]=_
  rw[o4 (ds:=[`wH]) rfl];rfl
theorem gc0(hw:`bE)(c:Int):∃qs,M4 `_r=`a `iL/\`jo:=by
 obtain⟨L,h1,h2,h3,h4,h5⟩:=Km.gc0 hw c;exact⟨`QW ps L,h5,Km.ek0 hw (by rw[h1];exact `fp) h2 h3⟩
theorem Ri0(ns:`aG)(hb:∀z∈ns,`iw):∃ps qs,wl0 `wO=`a (`w `q5)/\`bE/\`jo:=by
 have zs:`hY:=`ai
 obtain⟨c0,e0,_⟩:=wj0 ns hb 0 `f `f;obtain⟨c2,e2,_⟩:=wj0 ns hb 2 `f `f;obtain⟨c,e4,_⟩:=wj0 ns hb 40 `f `f;obtain⟨most,hm,a4⟩:∃most:Int,(`JI)/\∀δ:Ds,o2 `aEv `aEw ixD (`fR::δ)=`a (`DX):=by
  have t:∀δ:Ds,oA `af4 `Pa (`fR::δ)=`a (`c (if `aLj then 1 else 0)):=fun δ=>by
   rw[o4 (ds:=[.bl (`aLj)]) (`x (by
    rw[p6 (x:=`c (c0%8)) (y:=`qx) (by
     rw[p6 (x:=`c c0) (y:=`vP) (by rw[o4 (ds:=[`fQ,`c3]) rfl];exact e0) rfl];rfl) rfl]
    rfl) rfl)]
   rfl
  have el:∀δ:Ds,W8 `af3 δ=`a (`_s):=fun δ=>ua0 rfl `dV
  by_cases h:c0%8=5
  ·refine⟨60,`ai,`Jq⟩
   rw[p6 (x:=`_s) (y:=`ck) (el _) (by rw[t,`fX];rfl)];rfl
  ·refine⟨16,`ai,`Jq⟩
   rw[p6 (x:=`_s) (y:=`c3) (el _) (by rw[t,`fV];rfl)];rfl
 obtain⟨ps,Y,J⟩:=wy0 ns hb 1 `f `lS hm;obtain⟨nm,hn,hp⟩:=pk0 c2;obtain⟨q0,a8,a1⟩:=cg0 J hp c;obtain⟨x1,_,_,Z⟩:=`aHn;obtain⟨x2,_,_,O⟩:=`aHo;obtain⟨b0,a2,a6⟩:=wy0 ns hb 20 `f 12 `f;have i1:∃q1,Wb q1/\ifD `aEx (u6 `aEy t6) t6 `aLk=`a (.nx `_t):=by
  have t:ob `af5 `aLk=`a (`O (x1%8=3)):=`fe (by
   rw[p6 (x:=`c (x1%8)) (y:=`j3) (by
    rw[p6 (x:=`c x1) (y:=`vP) (by rw[`aHw];exact Z) rfl];rfl) rfl]
   rfl)
  by_cases h:x1%8=3
  ·refine⟨b0,a6,?_⟩
   rw[`aLl];exact v9 (j8 (d:=wd b0) (by rw[o4 (ds:=[`fQ,`O3,`iC]) rfl];exact a2)) rfl
  ·refine⟨q0,a1,?_⟩
   rw[`aLm];rfl
 obtain⟨q1,F,i1⟩:=i1;obtain⟨r0,a7,a3⟩:=gc0 F c;have i2:∃q2,Wb q2/\ifD `aEz (u6 `aEA t6) t6 `_t=`a (.nx [`fR,`ag,`bO,`W,.sh (wd q2)]):=by
  have t:ob `af6 `_t=`a (`O (x2%2=1)):=`fe (by
   rw[p6 (x:=`c (x2%2)) (y:=`ck) (by
    rw[p6 (x:=`c x2) (y:=`gz) (by rw[`aHt];exact O) rfl];rfl) rfl]
   rfl)
  by_cases h:x2%2=1
  ·refine⟨r0,a3,?_⟩
   rw[`aLl];exact v9 (j8 (d:=wd r0) (by rw[o4 (ds:=[wd q1,`a_]) rfl];exact a7)) rfl
  ·refine⟨q1,F,?_⟩
   rw[`aLm];rfl
 obtain⟨q2,a5,i2⟩:=i2;refine⟨ps,q2,Z1 rfl (v9 (j8 (d:=`cE) ?_) (v9 `aHL (v9 `aLn (v9 (j8 (d:=wd q0) ?_) (v9 i1 (v9 i2 (`JG))))))),J,a5⟩
 ·change oA _ _ (`fR::[.un,.un,.un,.un])=_
  rw[o4 (ds:=[`fQ,`ck,`DX]) (`x rfl (`x rfl (`x (a4 _) rfl)))];exact Y
 ·rw[o4 (ds:=[`c c2,`iC]) (`x (by rw[o4 (ds:=[`fQ,`gz]) rfl];exact e2) rfl)]
  exact hn
 ·rw[o4 (ds:=[`fQ,`c 40]) rfl]
  exact e4
 ·rw[o4 (ds:=`aLg) rfl]
  exact a8
universe Va
namespace Za
open Ha
open DL W K22
open Km (Wb lkd Q9)
open Bw (Vb Gq cnt Lk)
open Ta (pN pa N5)
open Ua (SL yy0 Met dr zo0 vc0 v20)
open Va (fs sn WI stays xt0 yg0 vz0)
theorem lo0(hp:`aY)(hq:`eR){s:`l}(mp:`dw)(mq:`_d):`aKI:=Va.lo0 hp hq mp mq
theorem wx0(hw:`bE):y50 [`cE]=`a (`aLo):=Km.wx0 hw
theorem zw0(h:`aY)(m:`dw):`ZF:=Va.zw0 h m
theorem dc0(h:L.Perm M)(hs:`_u):`aKf:=by
 unfold Va.sn at *;exact(h.map (λp:`b8=>p.2)).nodup_iff.mpr hs
theorem Vq0(h:L.Perm M)(hs:`zG):`aKe:=by
 unfold Va.fs at *;exact(h.map (λp:`b8=>p.1)).nodup_iff.mpr hs
noncomputable def gt:`_->`gQ
 | [],_=>0
 | p::M,j=>if p.2=j then p.1 else `l5
noncomputable def sd(M:`_):D:=`bk (`o `oe) `Ex
theorem dn0(M:`_)(j:Nat):V3 `m `iH `QG=`a (.bl (`QH)):=by
 show `a (`kF (xor `m (T9 `oe `mO)))=_;rw[ue0,`sk]
theorem ri0:∀(M:`_) (j:Nat),`kf->ym0 `QG `iH=`a (`Ey)
 | [],j,h=>by cases h
 | p::M,j,h=>by
  show (if (`hZ `wg:X5)=`P3 then `a (`cC `wf) else yb0 `oe `Ex (`P3))=_;unfold gt
  by_cases e:p.2=j
  ·rw[`I `Zv,`hU]
  ·have hj:`kf:=`JL
   rw[`ay (λz=>by injection z with z;omega),`gN];exact ri0 M j hj
theorem mc0{p:`b8}(h:`aLp):(`bk (`o `aLq) `aLr:D)=sd `_v:=by
 have hk:T9 `oe `QF=`m:=`aKk
 unfold U6 V6 sd;rw[hk,`bD,`bD,Va.i30,Va.gt0,n90,um0];rfl
theorem kr0:∀(L M:`_),(sn (M++L)).Nodup->O8 `oe `Ex (`fS `aLs)=`a (kd (sn (M++L)),nd (fs (M++L)))
 | [],M,_=>by rw[`f5];rfl
 | p::L,M,h=>by
  have h2:(sn (`_v++L)).Nodup:=by rw[`fN];exact h
  have hp:`aLp:=λz=>by
   unfold sn at h z;rw[`bl,`aC,List.nodup_append] at h;exact h.2.2 _ z _ A7 rfl
  have ih:=kr0 L `_v h2;rw[`fN] at ih;have e:=mc0 hp;unfold sd at e;injection e with e1 e2
  injection e1 with e1
  show O8 `aLq `aLr _=_;rw[e1,e2];exact ih
noncomputable def J5(M:`_)(qs:`ao)(j:Nat):D:=if `kf then `aLt else (`q9).d
noncomputable def rows(M:`_)(qs:`ao):`s:=`QI (J5 M qs)
theorem nc0(M:`_):(`eE).length=`Ep:=by unfold sn;rw[`F]
noncomputable def slp(ps:`ao)(M:`_)(qs:`ao):D:=`w [`aLo,`w (`Ko)]
theorem lq0(qs:`ao):K1 `od=`QI λ(k:Nat)=>`w [`cM,(pa qs k).d]:=by
 unfold K1;rw[`F];refine Y2 λk hk=>?_
 have:=`DT;unfold pa;rw[show (`l3).getD k `z=(qs.getD k `qR).d from by simp[`ec,`B]]
theorem Vk0(wp:`bE)(wq:`jo){s:`l}(mp:`dw)(mq:`_d):rw0 `q5=`a (slp ps (`wD) `fW):=by
 have zs:`hY:=`ai
 have Wp:=yg0 wp;have Wq:=yg0 wq;have dp:=`aLu;have dq:=`aLv;have O:=lo0 Wp Wq mp mq;have F:=xt0 dp dq;have pm:=yy0 (`Qu);have J:(sn (`wD)).Nodup:=dc0 pm F.s;have Y:(`wD).length<=60:=by
  have:=F.len;have:=dp.len.2;rw[pm.length_eq];omega
 generalize `wD=M at O J Y;have Z:=dq.len.2;refine Z1 rfl (v9 (j8 (d:=sd M) ?_) (v9 (j8 (d:=`aLw) ?_) `eb))
 ·rw[o4 (ds:=[`n (M.map `aLs)]) (`x (Y9 (items:=`_c) (by
   show `gP (oA `hr tx0 [`ag,`c6,.un,.un]) uw0=_;rw[`aLx,O];rfl) `gC (by
   rw[R8 (λd=>match d with|`mA=>`w [b,a]|_=>`z) (λd hd=>by
    obtain⟨p,_,rfl⟩:=`fn;exact⟨[`qS],rfl,rfl,`DU⟩),`aS]
   rfl)) rfl)]
  show (if (`ahI).length<=`R then (`aLy).map (λr=>D.dct (`o r.1) r.2) else `b)=_;rw[`aKC];have:=kr0 M [] (by rw[`oK];exact J);rw[`oK] at this;rw[show `aLy=`a (kd (`eE),nd `Ew) from `B];rfl
 ·refine Y9 (items:=(`b5 (`Qt).length).map λ(k:Nat)=>`w [`cM,`ahJ]) ?_ (by rw[`F,`fo];omega) ?_
  ·unfold tw0
   rw[`x (d:=`o5) (ds:=[]) (by rw[`aKL];exact zw0 Wq mq) rfl,`E];show `a (K1 ((`Qt).map `eA))=_;rw[lq0]
  ·rw[R8 (λd=>match d with|`w [`df,_]=>J5 M `fW `i4|_=>`z) (λd hd=>by
    obtain⟨k,_,rfl⟩:=`fn;refine⟨`aLz,rfl,rfl,?_⟩;show ifG _ _ _ `aLz=`a (J5 M `fW (`cL).toNat);rw[`aF];unfold ifG J5;rw[`fe (b:=`O (k∈`eE)) (by rw[p6 (x:=`cM) (y:=sd M) rfl rfl];exact dn0 M k),`E]
    by_cases hk:k∈`eE
    ·rw[`Kp,`cp,`rJ]
     exact Z4 (`x rfl (`x (by rw[p6 (x:=sd M) (y:=`cM) rfl rfl];exact ri0 M k hk) rfl)) `dV
    ·rw[`Kq,`bD,`Gc]
     rfl),`aS]
   congr 1
 ·refine Z4 (`x (by rw[`Ke];exact wx0 wp) (`x (d:=`w (rows M `fW)) ?_ rfl)) `dV
  rw[o4 (ds:=[`aLw]) rfl];rfl
universe Za
namespace Zm
open Ha
open DL W K22
open Km (Wb lkd Q9)
open Bw (Vb Gq cnt Lk)
open Ta (pN pa N5 okv up)
open Ua (SL yy0 Met dr zo0 vc0 v20)
open Va (fs sn WI stays xt0 yg0 vz0 upf fx)
open Za (gt sd dn0 ri0 mc0 J5 rows slp lq0 nc0)
theorem yi0(h:`o0)(f:`gQ)(D':D)(hd:∀j∈`qG,`Yz):`YA:=`aIo
theorem bs0(ps qs:`ao):∀(k:Nat) (L:`_),`bA<k->upf ps qs (`Kd)=`Kd
 | 0,L,h=>`p
 | k+1,L,h=>by
  unfold fx
  by_cases hc:`_a
  ·rw[`rU]
   exact bs0 ps qs k _ `g
  ·rw[`rV]
   have:=Va.fx0 ps qs L;exact Va.iv0 `g
theorem bk0(h:∀p,p∈L↔p∈M){w:D}(hv:`eQ)(hw:`o1)(x:`zl):okv M v w:=by
 rcases hv with rfl|⟨z,rfl⟩|⟨i,rfl,hi⟩
 ·exact x
 ·exact x
 ·rcases hw with rfl|⟨z,rfl⟩|⟨j,rfl,hj⟩
  ·exact x
  ·exact x
  ·exact(h _).mp x
structure Cl(ps qs:`ao)(M:`_):Prop where
 wi:WI `M `bN M
 up:∀p∈M,up ps qs M p
 so:(fs M).Pairwise (·<=·)
open Classical in
theorem nz0(hp:`aY)(hq:`eR):Cl ps qs (SL `q7):=by
 have F:=xt0 hp hq;have pm:=yy0 `q7;have hl:(Va.wkd ps qs).length<61:=by
  have:=(Va.jm0 hp hq 61 0 (Va.wi0 hp hq)).len;have:=`zt;unfold Va.wkd;omega
 have hf:`aLA=`Eo:=bs0 ps qs 61 _ hl;have J:∀p,p∈`Eo↔p∈SL `q7:=λp=>pm.mem_iff.symm
 refine⟨⟨λp h=>F.inr p (`aLB),Za.Vq0 pm F.f,Za.dc0 pm F.s⟩,λp h=>?_,?_⟩
 ·have h1:=`aLB
  have h2:p∈`aLA:=by rw[hf];exact h1
  have h3:=r9 (w4.mp h2).2;refine⟨h3.1,λq O=>bk0 J (`aLC).1 (`aLC).2 (h3.2 q O)⟩
 ·have h:=SoT.b70 `aLD
  have e:(fs (SL `q7))=(SoT.srt `aLD).map λq=>q.1.toNat:=by
   unfold fs Ua.SL;rw[`aS];rfl
  rw[e,List.pairwise_map];refine h.imp λ{a b} z=>?_
  rw[SoT.wt0] at z;omega
theorem ea0(h:`zG){c:Nat}(h1:(a,b)∈M)(h2:(a,c)∈M):b=c:=by
 obtain⟨i,hi,ei⟩:=`jj h1;obtain⟨j,hj,ej⟩:=`jj h2;have hl:(fs M).length=`Ep:=by unfold fs;rw[`F]
 have e:`Ew[i]'`g=`Ew[j]'`g:=by unfold fs;rw[`eO,`eO,ei,ej]
 have:=(Ab0 h).mp e;subst this;rw[ei] at ej;injection ej
theorem Tm0(h:`_u){c:Nat}(h1:(b,a)∈M)(h2:(c,a)∈M):b=c:=by
 obtain⟨i,hi,ei⟩:=`jj h1;obtain⟨j,hj,ej⟩:=`jj h2;have hl:=nc0 M;have e:(`eE)[i]'`g=(`eE)[j]'`g:=by unfold sn;rw[`eO,`eO,ei,ej]
 have:=(Ab0 h).mp e;subst this;rw[ei] at ej;injection ej
theorem ug0:∀{M:`_} {j:Nat},`kf->(`l5,j)∈M
 | [],j,h=>by cases h
 | p::M,j,h=>by
  unfold Za.gt
  by_cases e:p.2=j
  ·rw[`hU,← e];exact A7
  ·rw[`gN]
   exact A9 _ (ug0 (`JL))
theorem ny0(h:(a,b)∈M):b∈`eE:=`v9 ⟨_,h,rfl⟩
noncomputable def jj(M:`_)(i:Nat):`l:=(`b5 i).filter `aLE
noncomputable def kk(M:`_)(i:Nat):`_:=(jj M i).map λj=>(j,`l5)
theorem Z80:j∈jj M i↔j<i/\`kf:=by
 unfold jj;rw[List.mem_filter,`ZO,`Yv]
theorem aq0(h:i∈`eE):`aLF=`s8++[(i,gt M i)]:=by
 unfold kk jj;rw[`Zu,`aLG,`bl];simp[h]
theorem Zb0(h:i∉`eE):`aLF=`s8:=by
 unfold kk jj;rw[`Zu,`aLG,`bl];simp[h]
theorem ij0:(a,b)∈`s8↔a<i/\a∈`eE/\b=gt M a:=by
 unfold kk;rw[`Zx];constructor
 ·rintro⟨j,hj,e⟩
  injection e with e1 e2
  subst e1;obtain⟨h1,h2⟩:=Z80.mp hj;exact⟨h1,h2,e2.symm⟩
 ·rintro⟨h1,h2,h3⟩
  exact⟨a,Z80.mpr `BZ,by rw[h3]⟩
theorem Q50(hf:`zG)(h:i∈`eE):gt M i∉sn (`s8):=λz=>by
 obtain⟨⟨a,b⟩,hp,e⟩:=`fJ z;obtain⟨h1,h2,h3⟩:=ij0.mp hp;have e:b=gt M i:=e;have q1:=ug0 h2;have q2:=ug0 h;rw[← h3,e] at q1;have:=ea0 hf q1 q2;omega
theorem Qu0(hf:`zG)(hs:`_u)(h:`lQ∈M)(hj:j<n):i∈sn (kk M n)/\gt (kk M n) i=j:=by
 have e:i=`l5:=Tm0 hs h (ug0 (ny0 h));have m:(j,i)∈kk M n:=ij0.mpr ⟨hj,ny0 h,e⟩;refine⟨ny0 m,?_⟩;have q:=ug0 (ny0 m);obtain⟨_,h2,h3⟩:=ij0.mp q;have q2:=ug0 h2;rw[← h3] at q2;exact ea0 hf q2 h
theorem Qi0(M:`_)(i:Nat):(`s8).length<=i:=by
 unfold kk jj;rw[`F];have:=E00 (`aLE) (`b5 i);rw[`fo] at this;exact `B
theorem qh0:∀ps:`cV,`Df `vG=ps
 | []=>rfl
 | `oW=>by rw[`aC,`aC,`fl,qh0 ps]
theorem o40:∀{a b:`j},a.map `iJ=b.map `iJ->a=b
 | [],[],_=>rfl
 | [],`dR,h=>by cases h
 | `dR,[],h=>by cases h
 | `sy,b::bs,h=>by
  rw[`aC,`aC] at h;injection h with h1 h2
  injection h1 with h1
  rw[h1,o40 h2]
theorem T00{q:Pt}(h:`ga p=`ga q):`hv=q.vals.length/\`Dl p q.vals=q:=by
 cases p with
 | text w =>
  cases q with
  | text v=>injection h with h;injection h with _ h;injection h with h _;injection h with h;subst h;exact`hb
  | row vs=>injection h with h;injection h with h _;injection h with h;exact `gR
  | table ps=>injection h with h;injection h with h _;injection h with h;exact `gR
  | rcd c ps=>injection h with h;injection h with h _;injection h with h;exact `gR
 | row us =>
  cases q with
  | text v=>injection h with h;injection h with h _;injection h with h;exact `gR
  | row vs=>injection h with h;injection h with _ h;injection h with h _;injection h with h;exact⟨by show `e'=`bF;omega,rfl⟩
  | table ps=>injection h with h;injection h with h _;injection h with h;exact `gR
  | rcd c ps=>injection h with h;injection h with h _;injection h with h;exact `gR
 | table ps =>
  cases q with
  | text v=>injection h with h;injection h with h _;injection h with h;exact `gR
  | row vs=>injection h with h;injection h with h _;injection h with h;exact `gR
  | table qs =>
   injection h with h;injection h with _ h;injection h with h _;injection h with h
   have e:=o40 h;have el:`M=`bN:=`aLH
   refine`aLI;show `vX `aLJ=_;rw[e,qh0]
  | rcd c ps=>injection h with h;injection h with h _;injection h with h;exact `gR
 | rcd c ps =>
  cases q with
  | text v=>injection h with h;injection h with h _;injection h with h;exact `gR
  | row vs=>injection h with h;injection h with h _;injection h with h;exact `gR
  | table ps=>injection h with h;injection h with h _;injection h with h;exact `gR
  | rcd c' qs =>
   injection h with h;injection h with _ h;injection h with hc h;injection h with h _;injection h with h;injection hc with hc
   have e:=o40 h;have el:`M=`bN:=`aLH
   refine`aLI;show `qC c `aLJ=_;rw[e,qh0,hc]
theorem Pb0(hp:`aY)(hq:`eR)(hc:Cl ps qs M){k:Nat}(h:(k,j)∈M):rel (gt `EA) (`q8)=`q9/\∀i∈tgs `aLK,`aLL:=by
 obtain⟨h1,h2⟩:=hc.up _ h;have F:=hc.wi.inr _ h;have lp:=(N5 hp F.1).2.lv;have lq:=(N5 hq F.2).2.lv;have h1:`ga (`q8)=`ga (`q9):=h1;have h2:∀q∈(`q8).vals.zip `aLM,okv M q.1 q.2:=h2;have lp:∀v∈`aLK,Lv `M v:=lp;have lq:∀v∈`aLM,Lv `bN v:=lq;generalize `q8=p at h1 h2 lp;generalize `q9=q at h1 h2 lq;obtain⟨hl,J⟩:=T00 h1;have pt:∀x (hx:x<`hv),lkv (gt `EA) `zH=`zI/\∀i:Nat,`zH=`PF->`aLL:=λx hx=>by
  have ok:okv M `zH (`zI):=h2 (`zH,`zI) (I0.mpr ⟨x,by rw[`gt];omega,`yW⟩);have lw:=lq (`zI) (L8 _);generalize `zI=w at ok lw;rcases lp `zH (L8 hx) with e|⟨z,e⟩|⟨i,e,hi⟩
  ·rw[e] at ok ⊢
   exact`aLN
  ·rw[e] at ok ⊢
   exact`aLN
  ·rw[e] at ok ⊢
   rcases lw with rfl|⟨z,rfl⟩|⟨j',rfl,O⟩
   ·exact `aLO
   ·exact `aLO
   ·have m:(i,j')∈M:=ok
    obtain⟨g1,g2⟩:=Qu0 hc.wi.f hc.wi.s m O;refine⟨by rw[Ua.P80,g2],λi' z=>?_⟩;injection z with z
    injection z with _ z
    injection z with z _
    injection z with z
    have:i'=i:=`p
    rw[`B];exact g1
 constructor
 ·unfold K22.rel
  rw[← J];congr 1;refine E40 (`aoD) λx a b=>?_
  rw[`F] at a;rw[`eO];exact(pt x a).1
 ·intro i hi
  obtain⟨v,hv,e⟩:=k9.mp hi;obtain⟨x,hx,ex⟩:=`jj hv;rcases lp v hv with rfl|⟨z,rfl⟩|⟨i',rfl,_⟩
  ·cases e
  ·cases e
  ·have:i'=i:=`Lx
   rw[← `B];exact(pt x hx).2 i' ex
universe Zm
namespace Zm
open Ha
open DL W K22
open Km (Wb lkd Q9)
open Bw (Vb Gq cnt Lk)
open Ta (pN pa N5 okv up)
open Ua (SL yy0 Met dr zo0 vc0 v20)
open Va (fs sn WI stays xt0 yg0 vz0 upf fx)
open Za (gt sd dn0 ri0 mc0 J5 rows slp lq0 nc0)
theorem ez0{f:`aX}{gt:GB}{ge:GE}(r h:`HS)(b:`U_):∀l:`l,(∀j∈l,∃δ',f (r j) δ=`nj/\`pN=`a (b j)/\(b j=`d->`aLP))->`aLQ=`a ((l.filter b).map h)
 | [],_=>rfl
 | j::l,H=>by
  obtain⟨δ',e1,e2,e3⟩:=H j A7;have ih:=ez0 r h b l λi hi=>H i (A9 _ hi)
  rw[`aC];unfold R6;rw[e1];dsimp only;rw[e2];cases hb:b j with
  | false =>
   dsimp only;rw[`ap4 (by simp[hb])];exact ih
  | true =>
   dsimp only;rw[e3 hb,ih,`ap5 hb];rfl
theorem Vc0{f:`aX}{gt:GB}{ge:GE}(r h:`HS)(l:`l)(H:∀j∈l,∃δ',f (r j) δ=`nj/\`T3/\`aLP):`aLQ=`ap9:=by
 have:=ez0 (f:=f) (gt:=gt) (ge:=ge) (δ:=δ) r h (`Gd) l λj hj=>by
  obtain⟨δ',a,b,c⟩:=H j hj;exact`ap6
 rw[`ap7] at this;exact `B
theorem Y90(h:`as=`a (`EC)):ob (o2 (o2 g `cD ixD) `EB eqD) δ=`aLR:=by
 refine `mQ;unfold Za.J5 at h
 by_cases hk:`kf
 ·rw[`rJ] at h
  rw[p6 (x:=`lD) (y:=`lD) (by rw[p6 (x:=`aLt) (y:=`c3) h rfl];rfl) rfl,`Kp];kernel_rfl
 ·rw[`Gc] at h
  rw[`Kq];generalize `q9=p at h;cases p with
  | text w =>
   rw[p6 (x:=`OL) (y:=`lD) (by rw[p6 (x:=`Qn) (y:=`c3) h rfl];rfl) rfl];kernel_rfl
  | row vs =>
   rw[p6 (x:=`C3) (y:=`lD) (by rw[p6 (x:=`af7) (y:=`c3) h rfl];rfl) rfl];kernel_rfl
  | table ps =>
   rw[p6 (x:=`vK) (y:=`lD) (by rw[p6 (x:=`Pd) (y:=`c3) h rfl];rfl) rfl];kernel_rfl
  | rcd c ps =>
   rw[p6 (x:=`qp) (y:=`lD) (by rw[p6 (x:=`Pf) (y:=`c3) h rfl];rfl) rfl];kernel_rfl
noncomputable def NB:GS:=(u6 (ifD `aLS
 (u6 `aLT
 t6)
 t6)
 t6)
theorem oj0(M:`_)(qs:`ao):(`Ko).length=`bN:=by unfold Za.rows;rw[`F,`fo]
theorem enum_rows(M:`_)(qs:`ao):K1 (`Ko)=`_w:=by
 unfold K1;rw[oj0];refine Y2 λk hk=>?_
 have:=`DT;rw[show (`Ko).getD k `z=`ahM from by unfold Za.rows;simp[`ec,`B]]
theorem el0(a b f:Sl)(qs:`ao)(hf:`zG)(hl:`bN<=60)(s3 s4:Sl):∃s3' s4',N7 (`_x) NB (`_w) `aLU=`a (.nx [a,b,.ow (sd `EA),s3',s4',f]):=by
 have zs:`hY:=`ai
 obtain⟨δ',l1,s3',s4',rfl⟩:=M9 (f:=`_x) (G:=NB) (λi δ=>∃s3 s4:Sl,δ=[a,b,.ow (sd (`s8)),s3,s4,f]) (`_w) 0 `aLU (by
  rintro j x δ hj ⟨s3,s4,rfl⟩;rw[`bR];have F:j<`bN:=by
   have:=`az2
   rwa [L4,P6] at this
  rw[`dQ,`VF F] at hj;cases hj;have t:ob `ahL `aLV=`aLR:=Y90 rfl;refine⟨`aLV,[a,b,.ow (sd (kk M `eD)),`cF,.sh (`EC),f],rfl,`ah!,_,_,rfl⟩
  by_cases hk:`kf
  ·rw[W9 (by rw[t,`Kp])]
   refine v9 (Ua.nv0 (ks:=kd (sn (kk M j))) (vs:=nd (fs (kk M j))) (k:=`l5) (v:=`dg) rfl rfl ?_ (by
    have:=Qi0 M j;unfold kd;rw[`F,nc0];omega)) ?_
   ·rw[p6 (x:=`EC) (y:=`ck) rfl rfl]
    unfold Za.J5;rw[`rJ];rfl
   ·have e:=mc0 (M:=kk M j) (p:=(j,`l5)) (Q50 hf hk)
    rw[aq0 hk,← e];rfl
  ·rw[j6 (by rw[t,`Kq]),Zb0 hk]
   rfl) ⟨s3,s4,rfl⟩
 rw[`bR,`F,`fo] at l1;exact⟨s3',s4',l1⟩
theorem Xl0(hp:`aY)(mp:`dw){Q:`ao}(hQ:Web Q)(hc:`aLW)(a s3 s4:Sl):oA `aLX V4 [a,`l7,`aLY,s3,s4,`_y]=`a (wd Q):=by
 have zs:`hY:=`ai
 have F:=hQ.len.2;have dp:=`aKJ;rw[o4 (ds:=[`n (`aLZ)]) (`x (Y9 (items:=`_z) rfl (by rw[oj0];omega) ?_) rfl)]
 ·rfl
 ·have e:`aLZ=`aL_ `aL0:=by
   refine E40 `T λi a b=>?_
   rw[`F] at a;rw[`eO,`eO,`aJw];unfold Ta.pa;simp[`ec,a]
  rw[e];refine Vc0 (J5 M Q) (`aL0) (`b5 `QL) λj hj=>⟨[.sh (`_A),`aLY,`_y],rfl,rfl,?_⟩
  unfold ifG;rw[Y90 (M:=M) (qs:=Q) (j:=j) rfl,`E]
  by_cases hk:`kf
  ·have hm:=ug0 hk
   obtain⟨r1,r2⟩:=Pb0 dp hQ hc hm;obtain⟨a1,a2⟩:=N5 dp (hc.wi.inr _ hm).1;have a1:ixD (`lZ) (`Ey)=`a `aL1:=a1;rw[`Kp,`cp,o4 (ds:=[`aL1,sd `wJ]) (`x (by
    rw[p6 (x:=`lZ) (y:=`Ey) rfl (by
     rw[p6 (x:=`_A) (y:=`ck) rfl rfl];unfold Za.J5;rw[`rJ];rfl)]
    exact a1) rfl),yi0 a2 (gt `wJ) _ λi hi=>ri0 _ i (r2 i hi),r1]
  ·rw[`Kq,`bD]
   show `a (`_A)=_;unfold Za.J5;rw[`Gc]
universe Zm
namespace Ha
open DL W K22
noncomputable def Zh0:GZ:=(xr0 (ifZ (ob `aL2)
 (xr0 (az0 `q')
 iy0)
 iy0)
 (xr0 (okZ `aDk)
 (xr0 (okZ (G3 (tw0 (z9 `QJ v6)) (`_x)
 (u6 (ifD `aLS
 (u6 `aLT
 t6)
 t6)
 t6)))
 (xr0 (okZ (ux0 2 (b7 `ho (oA `di `I7))))
 (xr0 (okZ (Z5 (oA `aLX V4)))
 iy0)))))
noncomputable def hh0:`j:=[`hp, `ra, `oh, `qn, `vE, "base"]
noncomputable def xl0:`jh:=mkX 2 hh0 Zh0
noncomputable def j4:`aKb:=Km.j4
noncomputable def T3:`cP:=j4 62
noncomputable def K5(T3:`cP):GS:=(u6 (ifD `aHN
 (u6 `aHO
 (u6 (G3 `aHP `b!
 (u6 `aHQ
 t6))
 t6))
 t6)
 t6)
noncomputable def G8:`j:=`aHR
section
noncomputable def y40:GS:=(u6 `aHS
 (u6 (vu0 2 `hr T3)
 (u6 `aHT
 (u6 (G3 `jm `c5
 (u6 `Zi
 t6))
 (u6 (ux0 3 `Yh)
 (u6 (G3 `jm `c5
 (u6 `Zj
 (u6 (ifD `Zk
 (u6 `Zl
 t6)
 (u6 (ifD `Zm
 (u6 `Zn
 (u6 `Zo
 t6))
 t6)
 t6))
 (u6 `Zp
 t6))))
 (u6 `Yi
 t6)))))))
noncomputable def K9:`j:=`aHU
noncomputable def S5:`K:=`aHV
noncomputable def s30:GS:=(u6 (b7 `fK `nW)
 (u6 (cm0 `rb 3 (xr0 (nk0 `hr xl0)
 iy0)
 (u6 (cpX 2 3)
 t6))
 (u6 (ifD (ob (exI 2 `rb λc=>[`QQ, `QS, `ahO, `QN, `QR, `QM, `QO, "NoWay", `QP].any `aet))
 (u6 `kD
 t6)
 t6)
 (u6 (Z5 (qn0 (exI 2 `rb λc=>`O (c = `q')) (exI 2 `rb `Gd)))
 t6))))
noncomputable def tc0:`j:=[`gE, `Re, "_law_kept", "e"]
noncomputable def y00:`K:=mkF 2 tc0 s30
noncomputable def sz0:GS:=(u6 `aL3
 (u6 (ifD `aL4
 (u6 `aL5
 t6)
 t6)
 (u6 (Y0 (zf0 2 (oA (z9 `V (z9 (o2 (oA (z9 `an `Db) o6) `vT b8) v6)) S5)))
 (u6 (G3 (zm0 `aEr) `b!
 (u6 `aL6
 (u6 (G3 `aL7 `ho
 (u6 (ifD `aL8
 (u6 `aL9
 (u6 `aL'
 t6))
 t6)
 t6))
 t6)))
 (u6 (Z5 (sj0 (U9 `bt W6 (`e? (gc (`c 9))))))
 t6)))))
noncomputable def re0:`j:=[`gE, `c4, `DY, `hq, `qw, `lT, `aEq]
noncomputable def zh0:`K:=mkF 2 re0 sz0
noncomputable def Wp0:GS:=(u6 (V0 (W5 (oA `di wl0)) (yj0 1 2))
 (u6 (b7 `b! (oA (z9 `V (z9 (gc (`c 41)) v6)) Z6))
 (u6 (b7 `c5 (oA `wn rw0))
 (u6 (G3 (zt0 (o2 (o2 (W8 `ey) (oA (z9 `an `iA) zh0) o9) (U9 (oA `C4 zh0) W6 (`e? `j5)) o9)) `ho
 (u6 (ifD `aL!
 (u6 `kD
 t6)
 t6)
 t6))
 (u6 (Z5 (o2 (oA (z9 `an `hn) (w60 xl0)) (oA (z9 `bt `vU) S5) wp0))
 t6)))))
noncomputable def Wv0:`j:=[`lE, `aEB, `aEC, `c4, `Re, `gE]
noncomputable def pl0:`K:=mkF 1 Wv0 Wp0
universe zz
universe Ha
namespace Ha
open DL W K22
open Km (Wb Q9)
open Bw (Vb Gq Lk)
open Va (nl0 jo0 p90)
theorem V9(c k:Int)(h0:`fb)(h1:`Jo):`Jp:=`ZQ
noncomputable def wl(L:`Kr):D:=`n (`zJ)
noncomputable def OB:GS:=(u6 (ifD `aL8
 (u6 `aL9
 (u6 `aL'
 t6))
 t6)
 t6)
noncomputable def OA:GS:=(u6 `aL6
 (u6 (G3 `aL7 `ho
 OB)
 t6))
theorem i20(xs:`s)(k:Nat):`e5 xs `_B `b=`nM k:=by
 unfold cutD sIx;simp only[];rw[`ji,`aF]
 by_cases q:k<=`aP
 ·rw[`Xr q,`IL (by rw[`i2];exact `g0)]
 ·rw[`aKM,`aL? `aK,`aL? `g,List.take_nil]
theorem m60(xs:`s)(k:Nat):`e5 xs `b `_B=`qh k:=by
 have:=Va.o80 xs `cL `g;rw[`aF] at this;exact `B
theorem d60(l:`bP){k:Nat}(h:k<`cO)(a:α):l.take k++[a]++l.drop `e0=l.set k a:=by
 rw[List.set_eq_take_append_cons_drop,`f9,`fN];rfl
section
variable(hw:`bE)(c:Int)
include hw
theorem Oh0{k:Nat}(hk:`oa)(hj:j<`ah6)(L:`Kr)(hL:∀w∈L,`l6)(hl:`bA<=100000)(s6:Sl) :
  ∃L' s6',`Ks/\`Kt<=`bA+1/\OB [`ag,`W,`wM,`aN,`ED,`cF,s6]=`a (.nx `aMa):=by
 have zs:`s5:=`ai
 obtain⟨w1,w2⟩:=Q9 hk;have hq:=`eB;have Y:=`Eg;have a5:=`J_;generalize `l1=p at hj w1 w2 hq Y ⊢;have a4:=hq.few;obtain⟨v,hv⟩:∃v,v=`bu[j]:=`au;have O:v∈`bu:=by rw[hv];exact L8 hj
 have ev:o2 `dT `bM ixD `mR=`bo:=by
  rw[p6 (x:=`Pb) (y:=`dg) rfl rfl];show atI `bu `br=_;rw[`Jg,hv];simp[`ec,hj]
 obtain⟨b,hb⟩:∃b,ob0 `ahW `ahX `mR=`fD:=by
  have t1:∃b,ob `ahU `mR=`fD:=by
   unfold ob;rw[p6 (x:=v) (y:=`z) ev rfl];cases `ke v O<;>exact`au
  have t2:∃b,v60 `ahV `mR=`fD:=by
   unfold v60 ob K7;rw[ev];cases `ke v O<;>exact`au
  obtain⟨b1,t1⟩:=t1;obtain⟨b2,t2⟩:=t2;unfold ob0;rw[t1,`E];cases b1
  ·exact⟨b2,by rw[`bD];exact t2⟩
  ·exact⟨`d,by rw[`cp]⟩
 cases b with
 | false=>exact⟨L,s6,hL,c6 _,v9 (δ':=`mR) (by rw[j6 hb];rfl) rfl⟩
 | true =>
  obtain⟨x,x0,x1,x2⟩:=V9 c (5+`br) `g `g;have F:(`wN).length=`hv:=A40;have a3:∀u∈`wN,Vb u:=λu hu=>`Km (`ke u) λe=>e▸`aHj
  have a2:∀u∈`wN,Lk `M u:=λu hu=>`Km (Y u) λe=>e▸λi h=>nomatch h
  obtain⟨g1,g2⟩:=jo0 hq F a3;have J:=nl0 (i:=k) hw g1 (by rw[g2];exact a2);obtain⟨np,Z⟩:∃np,np=`Dl p (`wN):=`au;rw[← Z] at J;refine⟨L++[`EE],`QV,λw a1=>?_,`aB,`aMb⟩
  ·rcases `er a1 with z|z
   ·exact hL w z
   ·rw[`sQ];exact J
  ·rw[W9 hb]
   refine v9 (j8 (i:=6) (d:=`QU) ?_) (`aMb)
   ·have e1:U9 `dT W6 `ah_ `mR=`a (`n (p.vals.take j)):=by
     show `a (`hf (`e5 `bu `b (`a `br)))=_;rw[m60]
    have e2:W8 `ahZ `mR=`a (`n [`QT]):=ua0 (`x (by
     rw[p6 (x:=`dU) (y:=`ahY) (by rw[o4 (ds:=[`a_,`c (5+`br)]) rfl];exact x2) rfl];rfl) rfl) `kc
    have e3:U9 `dT `ah0 W6 `mR=`a (`aMc):=by
     show `a (`hf (`e5 `bu (`a `q0) `b))=_;rw[i20]
    rw[p6 (x:=`n (p.vals.take j++[`QT])) (y:=`aMc) (by
     rw[p6 e1 e2];simp only[o9];rw[`I (by rw[`cm];show _+1<=_;omega)]) e3]
    simp only[o9];rw[`I (by rw[`aM,`cm,`i2];show _+1+_<=_;omega),d60 _ hj]
   ·refine(`mN (i:=2) (l:=`zJ) (d:=wd (`EE)) rfl ?_ `gC).trans ?_
    ·have e1:U9 `V W6 `ah2 `Ku=`a (`w ((`lL).take k)):=by
      show `a (`e9 (`e5 `n0 `b `_B))=_;rw[m60]
     have e2:j9 `ah1 `Ku=`a (`w [np.d]):=Z4 (`x (by
      rw[o4 (ds:=[p.d,`QU]) `aMd,Z];exact Va.wu0 p `g _ F) rfl) `kc
     have e3:U9 `V `ah3 W6 `Ku=`a (`aMe):=by
      show `a (`e9 (`e5 `n0 (`a ((k+1:Nat):Int)) `b))=_;rw[i20]
     change o2 _ _ _ `Ku=_
     rw[p6 (x:=`w ((`lL).take k++[np.d])) (y:=`aMe) (by
      rw[p6 e1 e2];simp only[o9];rw[`I (by rw[`cm,`F];show _+1<=_;omega)]) e3]
     simp only[o9];rw[`I (by rw[`aM,`cm,`i2,`F];show _+1+_<=_;omega),d60 _ (by rw[`F];exact hk)];unfold wd;rw[`aK5]
    ·show `a (`mM [_,_,.ow (`n (`zJ++[wd (`EE)])),_,_,_,_])=_
     unfold wl;rw[`bl];rfl
theorem Pv0{k:Nat}(hk:`oa)(L:`Kr)(hL:∀w∈L,`l6)(hl:`bA<=90000)(s4 s5 s6:Sl) :
  ∃L' s4' s5' s6',`Ks/\`Kt<=`bA+12/\OA [`ag,`W,`wM,`aN,s4,s5,s6]=`a (.nx [`ag,`W,`wL,`aN,s4',s5',s6']):=by
 obtain⟨w1,w2⟩:=Q9 hk;have hq:=`eB;have O:=hq.few;obtain⟨δ',l1,L',s5',s6',h1,h2,rfl⟩:=M9 (f:=gN 5) (G:=OB) (λi δ=>∃L' s5' s6',`Ks/\`Kt<=`bA+i/\δ=[`ag,`W,`wL,`aN,`ED,s5',s6']) (`aMf) 0 [`ag,`W,`wM,`aN,`ED,s5,s6] (by
  rintro j d δ hj ⟨L',s5',s6',h1,h2,rfl⟩;obtain⟨F,rfl⟩:=le0 hj;rw[`aF] at F;rw[`bR] at h2 ⊢;obtain⟨L2,J,g1,g2,g3⟩:=Oh0 hw c hk F L' h1 `g s6';exact⟨`aMa,_,rfl,g3,L2,_,J,g1,`p,rfl⟩) ⟨L,s5,s6,hL,`p,rfl⟩
 rw[`bR,w40,`aF] at h2;refine⟨L',_,s5',s6',h1,`p,v9 (j8 (i:=4) (d:=`ah5) ?_) (v9 (J0 (items:=`aMf) (xz0 (`x (op0 rfl) rfl) `g `g) l1) rfl)⟩;rw[o4 (ds:=[(`l1).d]) `aMd];exact Va.pc0 _ `aLd
theorem Qt0:Wb (`Kv)/\(`M<60->Wb (`Kw)):=by
 have h:=`fp;have hl:(`Kv).length=`M:=by rw[`ba,`aMg];omega
 have hl2:(`Kw).length=`M+1:=`pp
 have v7:Vb (`lF):=`c 7 `eT;have hm:∀p∈`EF,p∈ps:=λp hp=>List.mem_of_mem_tail hp
 refine⟨⟨by rw[hl];exact h,`f2,`ZM⟩,λF=>⟨by rw[hl2];omega,`f2,`ZM⟩⟩
 ·rcases `Kx with rfl|hp
  ·exact⟨`aK9,λv hv=>by
    rcases `jk with rfl|hv
    ·exact v7
    ·rw[`s7];exact `z,`l4,`aK'⟩
  ·exact `aMh
 ·rw[hl]
  rcases `Kx with rfl|hp
  ·rcases `jk with rfl|hv
   ·exact λj e=>nomatch e
   ·rw[`s7];exact λj e=>nomatch e
  ·exact `aMi
 ·rw[`r4] at hp
  rcases `Kx with rfl|hp
  ·refine⟨by show 3<=20;decide,`f!,`l4,by show 3<=12;decide⟩
   rcases `jk with rfl|hv
   ·exact v7
   ·rcases `jk with rfl|hv
    ·exact .lk 1 `g
    ·rw[`s7];exact `z
  ·rcases `Ab with hp|hp
   ·exact `aMh
   ·rw[`d? hp]
    exact`aK8
 ·rw[hl2]
  rw[`r4] at hp;rcases `Kx with rfl|hp
  ·rcases `jk with rfl|hv
   ·exact λj e=>nomatch e
   ·rcases `jk with rfl|hv
    ·exact `J2 (i:=1) `g
    ·rw[`s7];exact λj e=>nomatch e
  ·rcases `Ab with hp|hp
   ·exact p90 `I2 (`aMi)
   ·rw[`d? hp] at hv
    cases hv
theorem k90:∃L:`Kr,(∀w∈L,`l6)/\`bA<=9/\zh0 `_r=`a (wl L):=by
 have zs:`s5:=`ai
 have a6:=`fp;obtain⟨o1,a3⟩:=Qt0 hw;obtain⟨x,x0,x1,x2⟩:=`aHp;have j0:0<=`Ky:=`s_;have j1:`Ky<`q2:=`J6;obtain⟨a,ha⟩:∃a:Nat,`ia=`Ky:=⟨(`Ky).toNat,`p⟩;obtain⟨R,r1,r2,r3,_,r5⟩:=Km.zw0 hw (a:=a) `g;have hR:=Km.ek0 hw r1 r2 r3;have J:∀δ:Ds,oA `di V2 (`ag::δ)=`a (`J'):=fun δ=>by
  rw[`Ke];show `a (`cC ((`aJU:Nat):Int))=_;rw[`F]
 have O:∀δ:Ds,U9 `V `ahP W6 (`ag::δ)=`a (`_C):=fun δ=>by
  show `a (`e9 (`e5 `n0 (`a (`WX:Int)) `b))=_;rw[i20,List.drop_one,← List.map_tail];rfl
 have tl:ps.tail.length+1=`M:=by rw[`aMg];omega
 obtain⟨w,a2,f1⟩:∃w:`ao,`l6/\∀G:GS,u6 `aL3
   (u6 (ifD `aL4
   (u6 `aL5
   t6)
   t6) G) `aMj=G [`ag,`W,.ow (wl [w]),.un,.un,.un,.un]:=by
  have t:∀s2:Sl,ob `ahS [`ag,`W,s2,.un,.un,.un,.un]=`a (`O (`q2<60)):=λs2=>`fe (by
   rw[p6 (x:=`J') (y:=`qy) (J _) rfl];rfl)
  have a1:R0 2 `ahR `aMj=`a (.nx [`ag,`W,.ow (wl [`Kv]),.un,.un,.un,.un]):=by
   unfold R0;rw[ua0 (ds:=[wd (`Kv)]) (`x (by
    rw[p6 (x:=`w [(`ah7).d]) (y:=`_C) (Z4 (`x (Z4 `aMk `dV) rfl) `kc) (O _)];unfold wd;simp only[o9];rw[`_D];rfl) rfl) `kc]
   rfl
  by_cases h:`M<60
  ·refine⟨_,a3 h,`aMl⟩
   rw[W9 (by rw[t,`Jx])];refine v9 (δ':=[`ag,`W,.ow (wl [`Kw]),.un,.un,.un,.un]) ?_ rfl;unfold R0;rw[ua0 (ds:=[wd (`Kw)]) (`x (by
    rw[p6 (x:=wd (`ah9)) (y:=`w [(`Eh "a").d]) (by
     rw[p6 (x:=`w [(`ah8).d]) (y:=`_C) (Z4 (`x (Z4 (`x rfl (`x (Z4 `aMk `JH) rfl)) `dV) rfl) `kc) (O _)];unfold wd;simp only[o9];rw[`_D];rfl) (Z4 `ah' `kc)]
    unfold wd;simp only[o9];rw[`I (by rw[`F,`ba];show _+1<=_;omega),`bl];rfl) rfl) `kc]
   rfl
  ·refine⟨_,o1,`aMl⟩
   rw[j6 (by rw[t,`zg])];rfl
 obtain⟨δ',l1,L',s3,s4,s5,s6,h1,h2,rfl⟩:=M9 (f:=gN 3) (G:=OA) (λi δ=>∃L' s3 s4 s5 s6,`Ks/\`Kt<=2+12*i/\δ=[`ag,`W,`wL,s3,s4,s5,s6]) (`aMm) 0 `aMn (by
  rintro j d δ hj ⟨L',s3,s4,s5,s6,h1,h2,rfl⟩;obtain⟨Y,rfl⟩:=le0 hj;rw[`aF] at Y;rw[`bR] at h2 ⊢;obtain⟨L2,a4,Z,a5,g1,g2,g3⟩:=Pv0 hw c Y L' h1 `g s4 s5 s6;exact⟨[`ag,`W,`wL,`cF,s4,s5,s6],_,rfl,g3,L2,_,a4,Z,a5,g1,`p,rfl⟩) ⟨[w,`QX],.un,.un,.un,.un,λw' F=>by
   rcases `b1 F with rfl|F
   ·exact a2
   ·rw[`d? F];exact hR,by show 2<=2+12*0;omega,rfl⟩
 refine⟨L'.take 9,λw F=>h1 w (T0 F),`ZV,Z1 rfl ((f1 _).trans (v9 (δ':=`aMn) ?_ (v9 (J0 (items:=`aMm) (xz0 (`x (J _) rfl) `g `g) l1) `eb)))⟩
 ·exact `mN (i:=2) (l:=[wd w]) (d:=wd (`QX)) rfl (by
   rw[o4 (ds:=[`cE,`fO]) (`x rfl (`x (by
    rw[p6 (x:=`dU) (y:=`J') (by rw[`aHA];exact x2) (J _),`zc,ha]) rfl))]
   exact r5) (by show 1<`R;omega)
 ·show `a (`hf (`e5 (L'.map wd) `b (`a ((9:Nat):Int))))=_
  rw[m60,← `o3];rfl
universe zz
universe Ha
namespace Ha
open DL W K22
open Km (Wb)
open Va (yg0)
open Ua (SL Met dr zo0 vc0)
open Za (J5 rows slp)
open Zm (Cl nz0 kk el0 enum_rows oj0)
open Ta (pa)
theorem vi0(q:Nat):`aH0:=Km.vi0 q
theorem ww0(ds:`s):`aH2:=Km.ww0 ds
section
variable{G1 G2 Ga:GZ}{G:GS}{c:Str}{m:`aT}{d:D}{r:`aH RX}
theorem zex(h:`h?=`aMo):`_E=`aMo:=`aMp
theorem zto(h:`h?=`WY)(k:`xM=r):`_E=r:=by unfold xr0;rw[h];exact k
theorem zrt(h:`h?=`Cx):`_E=`Cx:=`aMp
theorem zok{r:Res}(h:`Us):okZ G δ=`a (.ok r):=by unfold okZ;rw[h];rfl
theorem zt(h:g1 δ=`g7):`aMq=Ga δ:=`aMr
theorem zf(h:`aKm):`aMq=`uh:=`aMr
universe zz
noncomputable def mk(ps:`ao):Int:=`ahF
theorem wx0(hw:`bE):y50 [`cE]=`a (`_F):=Km.wx0 hw
theorem e20{w:`ao}(hw:`l6)(M:`_)(Q:`ao)(δ:Ds):ob `aL2 (`QY::`l7::δ)=`a (!`O (`EG=mk w)):=`fe (by
 rw[p6 (x:=`_F) (y:=`aMs) rfl `aMt];rfl)
theorem Vd0{w:`ao}(hw:`l6)(M:`_)(Q:`ao)(h:`EG≠mk w):xl0 [wd w,`QK]=`aMu:=by
 refine Sn0 (δ:=`aMv) rfl (zex ?_);show ifZ _ _ _ `aMv=_;rw[zt (by rw[e20 hw,`fV];rfl)];rfl
theorem Xx0(wp:`bE)(mp:`dw){Q:`ao}(hQ:Web Q)(hc:`aLW):xl0 [`cE,`QK]=`a (.ok (wd Q)):=by
 have hp:=yg0 wp;obtain⟨s3,s4,l1⟩:=el0 `Jy (`l7) .un (M:=M) Q hc.wi.f hQ.len.2 .un .un;have k2:=Zm.Xl0 hp mp hQ hc `Jy s3 s4;refine S10 rfl (zto (δ':=`aMw) ?_ (zto (δ':=[`ag,`l7,`kd,.un,.un,.un]) (zok rfl) (zto (zok (J0 (items:=`aL_ λ(k:Nat)=>`w [`cM,J5 M Q k]) ?_ l1)) (zto (δ':=[`ag,`l7,.sh (Za.sd `wJ),s3,s4,`_y]) (zok ?_) (zrt (zok (Z7 k2)))))))
 ·show ifZ _ _ _ `aMw=_
  rw[zf (by rw[e20 wp,`bv rfl];rfl)];rfl
 ·unfold tw0
  rw[`x (d:=`w (`_z)) (ds:=[]) rfl rfl,`E];show `a (K1 (`_z))=_;rw[enum_rows]
 ·show b7 `ho _ [`ag,`l7,.sh (Za.sd `wJ),s3,s4,.un]=_
  rw[j8 (d:=`lZ) (by rw[`Ke];exact Va.zw0 hp mp)];rfl
theorem refused{W S:D}(h:xl0 [W,S]=`aMu):y00 [W,S]=`wP:=by
 refine Z1 rfl (v9 (δ':=`aMx) rfl (v9 (δ':=`aMy) ?_ (v9 (δ':=`aMy) ?_ `eb)))
 ·unfold cm0
  rw[zex (c := `q') (m:=`b) (δ':=`aMx) (by
   unfold nk0;show `hX _ (xl0 [W,S])=_;rw[h];rfl)]
  rfl
 ·rfl
 ·rfl
theorem Yx0(a b:Int):zg0 `Cq (`eC)=`a (.bl (!`Rv)):=by
 unfold zg0;rw[`aK3,deq];rfl
theorem eq_self{d:D}(h:`Yk):wp0 d d=`wP:=by
 unfold wp0;rw[`aEP,Pn.oo0 _ 50 h]
noncomputable def LB1:GS:=(u6 (ifD `aL!
 (u6 `kD
 t6)
 t6)
 t6)
theorem Xq0(ns:`aG)(hl:`nc<=63)(hb:∀z∈ns,`iw):`aMz:=by
 have zs:`hY:=`ai
 obtain⟨ps,qs,h2,wp,wq⟩:=Va.Ri0 ns hb;obtain⟨c,ec,_⟩:=Bw.wj0 ns hb 41 `f `f;have Wp:=yg0 wp;have Wq:=yg0 wq;obtain⟨r,mp⟩:=vc0 Wp;obtain⟨s,mq⟩:=vc0 Wq;have dp:=`aLu;have dq:=`aLv;have c1:=nz0 dp dq;have F:rw0 `q5=`a (slp ps (`aMA) `fW):=Za.Vk0 wp wq mp mq;have J:=Xx0 wp mp dq c1;have O:S5 `aMB=`a (`o5):=Va.be0 wq mq;generalize `aMA=M at c1 F J;obtain⟨L1,a1,a2,a3⟩:=k90 wp c;obtain⟨L2,b1,b2,b3⟩:=k90 wq c;obtain⟨L,hL⟩:∃L,L=qs::(L1++L2.take 3):=`au;have Y:∀w∈L,`l6:=λw hw=>by
  rw[hL] at hw;rcases `b1 hw with rfl|hw
  ·exact wq
  ·rcases `er hw with hw|hw
   ·exact a1 w hw
   ·exact b1 w (T0 hw)
 obtain⟨δ',l1,s5,rfl⟩:=M9 (f:=gN 5) (G:=LB1) (λ_ δ=>∃s5:Sl,δ=[`fR,`ag,`c6,`W,`QZ,s5]) (`zJ) 0 `_G (by
  rintro j d δ hj ⟨s5,rfl⟩;rw[`dQ] at hj;obtain⟨w,hw,rfl⟩:=`By hj;have hw:=Y w (E4 hw);refine⟨`_H,_,rfl,v9 (δ':=`_H) ?_ rfl,_,rfl⟩;rw[j6 ?_]
  ·rfl
  ·have t1:ob `ah4 `_H=`a (!`O (`aMC)):=`fe (by
    rw[p6 (x:=`aMs) (y:=`_F) `aMt rfl];exact Yx0 _ _)
   unfold yc0;rw[t1,`E]
   by_cases h:`aMC
   ·rw[`fX,`bD]
   ·rw[`fV,`I (show (!`m)=`d from rfl)]
    unfold v60;rw[z70 (b:=`d) (by rw[o4 (ds:=[wd w,`EH]) rfl];exact refused (Vd0 hw M _ λe=>h e.symm))];rfl) ⟨.un,rfl⟩
 refine Z1 rfl (v9 (δ':=[`fR,`ag,`c6,.un,.un,.un]) ?_ (v9 `aLn (v9 (j8 (d:=`EH) ?_) (v9 (J0 (items:=`zJ) ?_ l1) `eb))))
 ·unfold V0 W5
  rw[o4 (ds:=`wO) rfl,show wl0 `wO=_ from h2];rfl
 ·rw[o4 (ds:=[`fQ,`c 41]) rfl]
  exact ec
 ·rw[`aLx]
  exact F
 ·show `gP (o2 _ _ _ `_G) _=_
  rw[p6 (x:=`n ((qs::L1).map wd)) (y:=`n ((L2.take 3).map wd)) (by
   rw[p6 (x:=`n [`iK]) (y:=wl L1) (ua0 rfl `kc) (by rw[o4 (ds:=`_r) rfl];exact a3)];unfold wl;simp only[o9];rw[`_D];rfl) (by
   show `gP (oA `C4 zh0 `_G) _=_;rw[o4 (ds:=[`iK,`a_]) rfl,b3];show `a (`hf (`e5 (L2.map wd) `b (`a ((3:Nat):Int))))=_;rw[m60,← `o3])]
  simp only[o9];rw[`I (by rw[`F,`F,`cm,`ba];omega),← `bl,hL];rfl
 ·rw[p6 (x:=`o5) (y:=`o5) (by rw[o4 (ds:=[`cE,`EH]) rfl];exact aw0 J) (by rw[o4 (ds:=`aMB) rfl];exact O)]
  exact eq_self (Uk0 dq 45)
universe Ha
namespace Ha
open L2 DL W
noncomputable def top(i:Nat):`a8:=PySem.Challenge.pw_graphpack_k48_no_base.main.body.getD i (.Pass ⟨0,0,0,0⟩)
theorem b_ValueError:`dF `zV=`a `Fd:=`aq
theorem b_dict:`Ij:=`aq
theorem b_int:`dF `hh=`aCy:=`aq
theorem b_list:`auX:=`aq
theorem b_ord:`dF `xl=`a (`cb `xl):=`aq
theorem b_sorted:`aC1:=`aq
theorem b_str:`dF `i6=`a (`aZ `i6):=`aq
theorem b_sum:`dF `yP=`a (`cb `yP):=`aq
theorem b_tuple:`dF `dC=`a `GA:=`aq
theorem b_zip:`awH:=`aq
structure Txt(mg:`a7):Prop where
 b_ValueError:mg `zV=`b
 b_dict:mg `gq=`b
 b_enumerate:mg `d5=`b
 b_int:mg `hh=`b
 b_isinstance:mg `pa=`b
 b_len:mg `pB=`b
 b_list:mg `dE=`b
 b_ord:mg `xl=`b
 b_range:mg `pd=`b
 b_reversed:mg `lq=`b
 b_sorted:mg `lA=`b
 b_str:mg `i6=`b
 b_sum:mg `yP=`b
 b_tuple:mg `dC=`b
 b_zip:mg `fv=`b
 c_BASE:∃t,mg "BASE"=`a (`c 128 t)
 c_MARK_BASE:∃t,mg `aMD=`a (`c 65521 t)
theorem fsc{P:`j}(a:`amz)(b:`amA)(c:`amB)(d:`amC)(e:`FG/\(∀x∈P,`RR)/\∀y∈`F!,`amD):`ar N P sc:=⟨a,b,c,e.1,d,e.2.1,e.2.2⟩
theorem cok(a:scope.kind=`m8)(b:`aoZ)(c:(∀y∈`fw,`aoW)/\(∀y∈`fw,`aoX)/\(∀y∈`fw,`aoY)/\N'.Nodup/\∀k∈`b5 `pH,`ao_):`Hy:=⟨a,c.1,c.2.1,c.2.2.1,c.2.2.2.1,b,c.2.2.2.2⟩
section
variable{P:`aa}{w:`L}
theorem kw0:`ar u50 `bB (t7 `Kz):=`ax
theorem kz0{fd:`S}(F:Fun K `EJ `EJ `Kz fa fd)(T:`aw)  : `Y P w K mg `k CX0 1 fa fd `bB (spN K z60) :=
 okN (k:=0) (G:=qq0) F kw0 (λcdv A outer s H E hr=>(v5 (d8 (`zK (bx0 `ca (fq0 `ca)))
   (v5 `s9
   u9)
   u9)
   (v5 (X3 (yq0 (sc:=t7 `Kz) (N:=u50) (N':=`wR) (n:=1) (caps:=[]) `bY `f `zL `KA `cr `s'))
   u9))) `dx
theorem U80:`ar ax0 `bB (t7 `_I):=`ax
theorem Ti0{fd:`S}(F:Fun K `KB `KB `_I fa fd)(T:`aw)(C_pair_names:`aME):`Y P w K mg `k CX0 2 fa fd `bB (spD K xm0) :=
 okD (k:=1) (G:=Z70) F U80 (λcdv A outer s H E hr=>(v5 (d8 `ca
   (v5 (j7 (Z2 (w6 m8 `s!)))
   u9)
   u9)
   (v5 (d8 `ca
   (v5 (j7 (Z2 (w6 m8 (w6 (Q8 `fY `s!) v8))))
   u9)
   u9)
   (v5 (d8 `ca
   (v5 (j7 (Z2 (w6 m8 `aMF)))
   u9)
   u9)
   (v5 (j7 (Z2 (w6 m8 (w6 `dl `aMF))))
   u9))))) `bw
theorem Zn0:`ar oh0 `bB (t7 `KC):=`ax
theorem bo0{fd:`S}(F:Fun K `EK `EK `KC fa fd)(T:`aw)  : `Y P w K mg `k CX0 1 fa fd `bB (spN K `iB) :=
 okN (k:=0) (G:=gf0) F Zn0 (λcdv A outer s H E hr=>(v5 (d8 `ca
   (v5 `s9
   u9)
   u9)
   (v5 (d8 `ca
   (v5 `_J
   u9)
   u9)
   (v5 (X3 (yq0 (sc:=t7 `KC) (N:=oh0) (N':=`wR) (n:=1) (caps:=[]) `bY `f `zL `KA `cr `s'))
   u9)))) `dx
theorem t90:`ar rf0 `_K (t7 `_L):=`ax
theorem l30{fd:`S}(F:Fun K `KD `KD `_L fa fd)(T:`aw)(C_pair_names:`aME):`Y P w K mg `k CX0 2 fa fd `_K (spD K yd0) :=
 okD (k:=1) (G:=ra0) F t90 (λcdv A outer s H E hr=>(v5 (d8 `ca
   (v5 `_M
   u9)
   u9)
   (v5 (d8 `ca
   (v5 `aMG
   u9)
   u9)
   (v5 (c7 (Zs0 lj0 b50 `ed `KE `ee b_zip (w6 `aia `iW)) (o5 2 t90.nd))
   (v5 (d8 `ca
   (v5 (j7 (Z2 (w6 m8 `eG)))
   u9)
   u9)
   (v5 (j7 (Z2 (w6 m8 (w6 `dl `eG))))
   u9)))))) `bw
theorem Wa0:`ar lk0 `bB (t7 `KF):=`ax
theorem Yv0{fd:`S}(F:Fun K `KG `KG `KF fa fd)(T:`aw)(C_values:`KH):`Y P w K mg `k CX0 2 fa fd `bB (spN K xw0) :=
 okN (k:=1) (G:=en0) F Wa0 (λcdv A outer s H E hr=>(v5 (X3 (yq0 (sc:=t7 `KF) (N:=lk0) (N':=[`C_]) (n:=1) (caps:=[]) `bY `f `aMH (λcl s H ex=>o5 0 (`aq:([`C_]:`j).Nodup)) `aMI `s'))
   u9)) `dx
theorem Qv0:`ar Wt0 `hD (t7 `zM):=`ax
theorem Zc0{fd:`S}(F:FunV K `kH `kH `zM fa fd dV)(T:`aw)(C_met_but:FnN P w K mg `k `KI 3 `_N vd0):`Y P w K mg `k CX0 4 fa fd `hD (spN K sr0) :=
 Ne0 (k:=3) (G:=V20) F Qv0 (λcdv A outer s H E hr=>(v5 (X3 (wk0 C_met_but hr `f (w6 `ah (w6 `aA (w6 Xp0 v8)))))
   u9)) `dx
theorem w80:`ar kb0 `_N (t7 `_O):=`ax
theorem c30{fd:`S}(F:Fun K `KI `KI `_O fa fd)(T:`aw)(C_links:FnN P w K mg `k `KG 2 `bB xw0):`Y P w K mg `k CX0 3 fa fd `_N (spN K vd0) :=
 okN (k:=2) (G:=kq0) F w80 (λcdv A outer s H E hr=>(v5 (V8 3 `og `KJ)
   (v5 (V8 4 (ds0 `_P b_dict `bV) `KJ)
   (v5 (V8 5 (Q6 `iW) `KJ)
   (v5 (vf0 100000 D2 (m9 dp0 jz0 (zn0 `aMJ) u5)
   (v5 (O9 (bg0 5) (gp0 (o5 6 `KJ)))
   (v5 (d8 (t80 (sd0 `dm `hE `eF))
   (v5 (O9 (z00 xo0) (w50 4 `dm `hE))
   (v5 (S8 (wd0 3 `hE))
   (v5 (S8 (mi0 5 (`zN (om0 `q? `_Q (S6 C_links hr `f (w6 (p7 `ah `hE) v8))))))
   u9)))
   u9)
   u9)))
   (v5 (so0 3)
   u9)))))) `dx
theorem o00:`ar sf0 `Q2 (t7 `KK):=`ax
theorem f70{fd:`S}(F:Fun K `EM `EM `KK fa fd)(T:`aw)(C_values:`KH)(C_with_values:FnD P w K mg `k `KD 2 `_K yd0):`Y P w K mg `k CX0 3 fa fd `Q2 (spD K G5) :=
 okD (k:=2) (G:=mj0) F o00 (λcdv A outer s H E hr=>(v5 (u70 2 o00.nd (sc:=t7 `KK) (N:=sf0) (N':=`aMK) (n:=1) (caps:=[1]) `bY `f `aMH (λcl s H ex=>o5 0 (`aq:(`aMK:`j).Nodup)) `cr (λcl s H ex=>(cj0 `EL `aML `ah)))
   (v5 (j7 (d7 C_with_values hr `f (w6 `ah `eG)))
   u9))) `bw
theorem s40:`ar lm0 `hD (t7 `s?):=`ax
theorem jw0{fd:`S}(F:FunV K `kg `kg `s? fa fd dV)(T:`aw)(C_met:FnN P w K mg `k `kH 4 `hD sr0)(C_relinked:`aMM):`Y P w K mg `k CX0 5 fa fd `hD (spD K z20) :=
 N40 (k:=4) (G:=er0) F s40 (λcdv A outer s H E hr=>(v5 (c7 (gi0 (wk0 C_met hr `f `rd)).pd (o5 2 s40.nd))
   (v5 (V8 3 xy0 s40.nd)
   (v5 (M8 D2 rfl (Xk0 `KL `eG) (xu0 4 5 s40.nd `f)
   (v5 (O9 (z00 `eF) (w50 3 `dm `cH))
   u9))
   (v5 (uo0 (U4 Y8 J8 `ed `ee (w6 (zi0 (sc:=t7 `s?) (N:=lm0) (N':=`aMN) (n:=1) (caps:=[0,3]) `bY `f `o6 (λcl s H ex=>o5 0 (`aq:(`aMN:`j).Nodup)) `cr (λcl s H ex=>(d7 `aMO hr `f (w6 (p7 `aA `ah) `eG)))) v8)))
   u9))))) `bw
theorem iw0:`ar t10 `l! (t7 `_R):=`ax
theorem jq0{fd:`S}(F:Fun K `EO `EO `_R fa fd)(T:`aw)  : `Y P w K mg `k CX0 1 fa fd `l! (spD K O6) :=
 okD (k:=0) (G:=pz0) F iw0 (λcdv A outer s H E hr=>(v5 (j7 (gm0 `aMP (f00 `aMP)))
   u9)) `bw
theorem la0:`ar rd0 `l! (t7 `_S):=`ax
theorem ls0{fd:`S}(F:Fun K `EP `EP `_S fa fd)(T:`aw)  : `Y P w K mg `k CX0 1 fa fd `l! (spD K Q3) :=
 okD (k:=0) (G:=sy0) F la0 (λcdv A outer s H E hr=>(v5 (j7 (Z2 (w6 `aMQ (w6 `aMQ v8))))
   u9)) `bw
theorem rq0:`ar pu0 `_T (t7 `_U):=`ax
theorem ik0{fd:`S}(F:Fun K `KM `KM `_U fa fd)(T:`aw)(C_are_links:`aMR)(C_head:FnD P w K mg `k `KB 2 `bB xm0)(C_linked_pair:`aMS)(C_values:`KH):`Y P w K mg `k CX0 3 fa fd `_T (spD K xn0) :=
 okD (k:=2) (G:=py0) F rq0 (λcdv A outer s H E hr=>(v5 (d8 (m9 `KN p50 (d7 C_head hr `f `aMT) (d7 C_head hr `f `aMU))
   (v5 `ta
   u9)
   u9)
   (v5 (M8 D2 rfl (he0 `KE (w6 (S6 `wS hr `f `aMT) (w6 (S6 `wS hr `f `aMU) v8))) (o5 4 rq0.nd)
   (v5 (d8 (M7 (d7 `aMV hr `f `gG))
   (v5 (d8 (sd0 `dm (d7 `aMW hr `f `gG) `cn)
   (v5 `ta
   u9)
   u9)
   u9)
   (v5 (d8 (m9 `KN p50 `zO `zO)
   (v5 `ta
   u9)
   u9)
   u9))
   u9))
   (v5 `ta
   u9)))) `bw
theorem yn0:`ar th0 `oi (t7 `_V):=`ax
theorem no0{fd:`S}(F:Fun K `ER `ER `_V fa fd)(T:`aw)  : `Y P w K mg `k CX0 1 fa fd `oi (spN K Q5) :=
 okN (k:=0) (G:=t40) F yn0 (λcdv A outer s H E hr=>(v5 (V8 1 (Q6 (w6 (Y5 `ah `zP) v8)) yn0.nd)
   (v5 (c7 (w00 `ah `zP) (o5 2 yn0.nd))
   (v5 (vf0 100000 D2 (m9 dp0 jz0 `bV u5)
   (v5 (S8 (wd0 1 (d9 `zP (Y5 `bV `zP))))
   (v5 (c7 (w00 `bV `zP) (o5 2 yn0.nd))
   u9)))
   (v5 (a90 (om0 `q? `_Q `aA))
   u9))))) `dx
theorem a70:`ar gg0 `oi (t7 `_W):=`ax
theorem bj0{fd:`S}(F:Fun K `KO `KO `_W fa fd)(T:`aw)  : `Y P w K mg `k CX0 1 fa fd `oi (spD K uj0) :=
 okD (k:=0) (G:=i40) F a70 (λcdv A outer s H E hr=>(v5 (d8 (m9 se0 uc0 `ah u5)
   (v5 (j7 (wf0 (O5 `wQ `ah) u5))
   u9)
   u9)
   (v5 (j7 `aMX)
   u9))) `bw
theorem vy0:`ar Z10 `oj (t7 `_X):=`ax
theorem Uw0{fd:`S}(F:Fun K `KP `KP `_X fa fd)(T:`aw)(C_held_items:FnN P w K mg `k `KQ 1 `bB zd0)(C_is_new:`aMY)(C_item_bytes:FnN P w K mg `k `KR 3 `_Y y20):`Y P w K mg `k CX0 4 fa fd `oj (spN K qm0) :=
 okN (k:=3) (G:=av0) F vy0 (λcdv A outer s H E hr=>(v5 (V8 1 `og `zQ)
   (v5 (V8 2 xy0 `zQ)
   (v5 (V8 3 xy0 `zQ)
   (v5 (V8 4 (Q6 (w6 `aMZ v8)) `zQ)
   (v5 (vf0 100000 D2 (m9 dp0 jz0 (zn0 `_Z) u5)
   (v5 (O9 (bg0 4) (gp0 (o5 5 `zQ)))
   (v5 (S8 (mi0 1 (`zN (gi0 (wk0 C_item_bytes hr `f (w6 `ah (w6 `cH `__)))))))
   (v5 (d8 (M7 (yr0 e80 b_str `l8 T.b_str `cH))
   (v5 (S8 (R10 3 `cH `aM_))
   u9)
   (v5 (d8 (M7 (tj0 (d7 C_is_new hr `f (w6 `cH `eG))))
   (v5 (O9 (z00 (zn0 (y70 xx0 vx0 `fY S2 `eG))) (w50 2 `dm `aM0))
   (v5 (S8 (mi0 4 (`zN (om0 `q? `_Q (S6 C_held_items hr `f (w6 (p7 `ah `aM0) v8))))))
   u9))
   u9)
   u9))
   u9))))
   (v5 (so0 1)
   u9))))))) `dx
theorem a00:`ar sg0 `l? (t7 `_0):=`ax
theorem ah0{fd:`S}(F:Fun K `EQ `EQ `_0 fa fd)(T:`aw)  : `Y P w K mg `k CX0 1 fa fd `l? (spD K zq0) :=
 okD (k:=0) (G:=js0) F a00 (λcdv A outer s H E hr=>(v5 (j7 (gm0 `aib (f00 (T20 `dm `dl `aA))))
   u9)) `bw
theorem sv0:`ar qd0 `_Y (t7 `_1):=`ax
theorem j00{fd:`S}(F:Fun K `KR `KR `_1 fa fd)(T:`aw)(C_is_new:`aMY)(C_known_head:FnD P w K mg `k `KS 2 `l? y30)(C_name_bytes:FnN P w K mg `k `KT 2 `I5 wa0)(C_number_bytes:`aM1)(C_part_number:FnD P w K mg `k `KU 1 `bB yh0)(C_text_bytes:FnN P w K mg `k `KV 2 `bB yp0):`Y P w K mg `k CX0 3 fa fd `_Y (spN K y20) :=
 okN (k:=2) (G:=qc0) F sv0 (λcdv A outer s H E hr=>(v5 (d8 (M7 (yr0 e80 b_str `l8 T.b_str `aA))
   (v5 (X3 (wk0 C_name_bytes hr `f (w6 `aA `hC)))
   u9)
   u9)
   (v5 (d8 (M7 (d7 C_is_new hr `f `KW))
   (v5 (c7 (p7 `ah `KX) (o5 4 sv0.nd))
   (v5 (X3 (fv0 (S6 `KY hr `f (w6 (d9 (O5 u5 (d7 C_part_number hr `f `gG)) u5) v8)) (S6 C_text_bytes hr `f `gG)))
   u9))
   u9)
   (v5 (X3 (wk0 `KY hr `f (w6 (d7 C_known_head hr `f `KW) v8)))
   u9)))) `dx
theorem kv0:`ar qr0 `I5 (t7 `_2):=`ax
theorem j70{fd:`S}(F:Fun K `KT `KT `_2 fa fd)(T:`aw)(C_number_bytes:`aM1)(C_sign_bytes:`aM2):`Y P w K mg `k CX0 2 fa fd `I5 (spN K wa0) :=
 okN (k:=1) (G:=q60) F kv0 (λcdv A outer s H E hr=>(v5 (d8 (ep0 `dm `ah `aA)
   (v5 (X3 (wk0 `KY hr `f (w6 (O5 u5 (wf0 `aM3 (tq0 `dm `aA `ah))) v8)))
   u9)
   u9)
   (v5 (X3 (fv0 (S6 `KY hr `f (w6 (d9 (O5 u5 `wX) u5) v8)) (S6 `aM4 hr `f `hA)))
   u9))) `dx
theorem ky0:`ar u90 `ET (t7 `KZ):=`ax
theorem kx0{fd:`S}(F:Fun K `ES `ES `KZ fa fd)(T:`aw)  : `Y P w K mg `k CX0 1 fa fd `ET (spN K ze0) :=
 okN (k:=0) (G:=q00) F ky0 (λcdv A outer s H E hr=>(v5 (X3 (yq0 (sc:=t7 `KZ) (N:=u90) (N':=["sign"]) (n:=1) (caps:=[]) `bY `f (Tz0 `ah) (λcl s H ex=>o5 0 (`aq:(["sign"]:`j).Nodup)) `cr (λcl s H ex=>(y70 X70 S00 T.b_ord b_ord `hA))))
   u9)) `dx
theorem lr0:`ar rb0 `bB (t7 `_3):=`ax
theorem l70{fd:`S}(F:Fun K `KU `KU `_3 fa fd)(T:`aw)(K_KINDS:`aM5):`Y P w K mg `k CX0 1 fa fd `bB (spD K yh0) :=
 okD (k:=0) (G:=rc0) F lr0 (λcdv A outer s H E hr=>(v5 (j7 (d9 (O5 u5 (Q8 `fY (w6 `EI v8))) (Uo0 K_KINDS `s!)))
   u9)) `bw
theorem j10:`ar p10 `bB (t7 `_4):=`ax
theorem j90{fd:`S}(F:Fun K `KV `KV `_4 fa fd)(T:`aw)(C_sign_bytes:`aM2):`Y P w K mg `k CX0 2 fa fd `bB (spN K yp0) :=
 okN (k:=1) (G:=qv0) F j10 (λcdv A outer s H E hr=>(v5 (d8 `ca
   (v5 (X3 (wk0 `aM4 hr `f `s!))
   u9)
   u9)
   (v5 `s9
   u9))) `dx
theorem j60:`ar q80 `l? (t7 `_5):=`ax
theorem j20{fd:`S}(F:Fun K `KS `KS `_5 fa fd)(T:`aw)(C_folded:FnD P w K mg `k `KO 1 `oi uj0):`Y P w K mg `k CX0 2 fa fd `l? (spD K y30) :=
 okD (k:=1) (G:=rs0) F j60 (λcdv A outer s H E hr=>(v5 (d8 (m9 Y10 ey0 `ah v80)
   (v5 (j7 u5)
   u9)
   u9)
   (v5 (d8 `EL
   (v5 (j7 (d9 (O5 u5 (wf0 `aM3 `aic)) u5))
   u9)
   u9)
   (v5 (j7 (d9 (O5 u5 (d7 C_folded hr `f `hA)) u5))
   u9)))) `bw
theorem vh0:`ar qe0 `bB (t7 `_6):=`ax
theorem jc0{fd:`S}(F:Fun K `KQ `KQ `_6 fa fd)(T:`aw)  : `Y P w K mg `k CX0 1 fa fd `bB (spN K zd0) :=
 okN (k:=0) (G:=q50) F vh0 (λcdv A outer s H E hr=>(v5 (d8 `ca
   (v5 `s9
   u9)
   u9)
   (v5 (d8 `ca
   (v5 `_J
   u9)
   u9)
   (v5 (V8 1 `og vh0.nd)
   (v5 (d8 `ca
   (v5 (S8 (wd0 1 `dl))
   u9)
   u9)
   (v5 (M8 D2 rfl `zL (o5 2 vh0.nd)
   (v5 (S8 (mi0 1 (U4 rp0 Ut0 `q? `Q_ `eG)))
   u9))
   (v5 (so0 1)
   u9))))))) `dx
theorem v10:`ar Z90 `tb (t7 `_7):=`ax
theorem Vt0{fd:`S}(F:Fun K `K_ `K_ `_7 fa fd)(T:`aw)(C_upheld_pairs:FnN P w K mg `k `K0 4 `_8 z10)(C_walked_pairs:FnN P w K mg `k `K1 2 `_9 xh0)(Cd_drawn:`_'):`Y P w K mg `k CX0 6 fa fd `tb (spN K tx0) :=
 okN (k:=5) (G:=b30) F v10 (λcdv A outer s H E hr=>(v5 (c7 `aM6 (o5 2 `EU))
   (v5 (c7 `aM7 (o5 3 `EU))
   (v5 (c7 (S6 C_walked_pairs hr `f `__) `aM8)
   (v5 `aM9
   (v5 (vf0 100000 D2 (m9 se0 uc0 `aMJ `_Z)
   (v5 (c7 `cH `aM8)
   (v5 `aM9
   u9)))
   (v5 (X3 (Yh0 T.b_sorted b_sorted `cH))
   u9))))))) `dx
theorem O3:`ar tr0 `_9 (t7 `_!):=`ax
theorem ma0{fd:`S}(F:Fun K `K1 `K1 `_! fa fd)(T:`aw)(C_are_links:`aMR)(C_linked_pair:`aMS)(C_values:`KH):`Y P w K mg `k CX0 2 fa fd `_9 (spN K xh0) :=
 okN (k:=1) (G:=t70) F O3 (λcdv A outer s H E hr=>(v5 (V8 2 (Q6 (w6 (Z2 `K2) v8)) `o7)
   (v5 (V8 3 (ou0 u5 xo0) `o7)
   (v5 (V8 4 (ou0 u5 xo0) `o7)
   (v5 (c7 u5 (o5 5 `o7))
   (v5 (vf0 100000 D2 (m9 se0 uc0 `cH `aM')
   (v5 (c7 (tj0 (p7 `bV `cH)) (o5 6 `o7))
   (v5 (Va0 5 `o7 u5)
   (v5 (M8 D2 rfl (he0 `KE (w6 (S6 `wS hr `f (w6 (p7 `ah `zR) v8)) (w6 (S6 `wS hr `f (w6 (p7 `aA `zR) v8)) v8))) (o5 7 `o7)
   (v5 (d8 (`zK (p30 (M7 (d7 `aMV hr `f `wW)) (p30 (t80 (sd0 `dm `K3 `cn)) (on0 (t80 (sd0 `dm `K3 `eF))))))
   (v5 (O9 (z00 xo0) (w50 3 `dm `K3))
   (v5 (O9 (z00 xo0) (w50 4 `dm `K3))
   (v5 (S8 (wd0 2 (d7 `aMW hr `f `wW)))
   u9)))
   u9)
   u9))
   u9))))
   (v5 (so0 2)
   u9))))))) `dx
theorem ut0:`ar xg0 `_8 (`_?):=`ax
theorem m80{fd:`S}(F:Fun K `K0 `K0 `Q5 fa fd)(T:`aw)(C_is_upheld:FnD P w K mg `k `KM 3 `_T xn0):`Y P w K mg `k CX0 4 fa fd `_8 (spN K z10) :=
 okN (k:=3) (G:=tv0) F ut0 (λcdv A outer s H E hr=>(v5 (c7 (`zN (Z30 `aM! rfl `_P b_dict (zi0 (sc:=`_?) (N:=xg0) (N':=`wR) (n:=1) (caps:=[]) `bY `f `o6 `KA `cr (λcl s H ex=>(Z2 (w6 `ah (w6 xo0 v8))))))) (o5 3 ut0.nd))
   (v5 (X3 (yq0 (sc:=`_?) (N:=xg0) (N':=`aM?) (n:=1) (caps:=[0,1,3]) `bY `f `o6 (λcl s H ex=>o5 0 (`aq:(`aM?:`j).Nodup)) (λcl s H ex=>(ld0 (M7 (d7 C_is_upheld hr `f (w6 `aA (w6 `bV (w6 `ah `hC))))))) (λcl s H ex=>`ah)))
   u9))) `dx
theorem U30:`ar it0 `oj (t7 `K4):=`ax
theorem Vs0{fd:`S}(F:Fun K `EV `EV `K4 fa fd)(T:`aw)(C_pack:FnN P w K mg `k `KP 4 `oj qm0):`Y P w K mg `k CX0 5 fa fd `oj (spD K y50) :=
 okD (k:=4) (G:=bt0) F U30 (λcdv A outer s H E hr=>(v5 (j7 (Y5 (y70 (ar0 rfl) R30 T.b_sum b_sum (w6 (zi0 (sc:=t7 `K4) (N:=it0) (N':=`aNa) (n:=2) (caps:=[]) `bY `f (Yc0 `KL (w6 (S6 C_pack hr `f `hA) v8) u5) (λcl s H ex=>xu0 0 1 (`aq:(`aNa:`j).Nodup) `f) `cr (λcl s H ex=>(O5 `ah `aA))) v8)) (vv0 T.c_MARK_BASE)))
   u9)) `bw
theorem mw0:`ar m40 `tb (`aaa):=`ax
theorem Te0{fd:`S}(F:Fun K `ra `ra `Q6 fa fd)(T:`aw)(C_mark:`aab)(C_stay:FnN P w K mg `k `K_ 6 `tb tx0)(Cd_drawn:`_'):`Y P w K mg `k CX0 7 fa fd `tb (spD K rw0) :=
 okD (k:=6) (G:=b20) F mw0 (λcdv A outer s H E hr=>(v5 (c7 (`zN (Zp0 `aM! rfl `_P b_dict (zi0 (sc:=`aaa) (N:=m40) (N':=`wR) (n:=1) (caps:=[]) `bY `f (N6 (S6 C_stay hr `f `rd)) `KA `cr (λcl s H ex=>(Z2 (w6 `dl `s!)))))) (o5 2 mw0.nd))
   (v5 (u70 3 mw0.nd (sc:=`aaa) (N:=m40) (N':=`aNb) (n:=2) (caps:=[2]) `bY `f (k00 `KL (w6 `aM7 v8)) (λcl s H ex=>xu0 0 1 (`aq:(`aNb:`j).Nodup) `f) `cr (λcl s H ex=>(cj0 (ep0 `dm `ah `bV) (Z2 (w6 m8 (w6 (tq0 `dm `bV `ah) v8))) `aA)))
   (v5 (j7 (Z2 (w6 `aNc (w6 `aNd v8))))
   u9)))) `bw
theorem pd0:`ar hh0 `tc (t7 `K5):=`ax
theorem Vy0{fd:`S}(F:Fun K `td `td `K5 fa fd)(T:`aw){rr:`e}(XT:`aNe)(C_mark:`aab)(C_relinked:`aMM)(Cd_drawn:`_'):`Y P w K mg `k `Cv 6 fa fd `tc (spX K xl0) :=
 okX (k:=5) (G:=Zh0) F pd0 (λcdv A outer s H E hr=>(yo0 (Qz0 (m9 dw0 gu0 `KX `aNc)
   (yo0 (bz0 XT `f `f)
   ss0)
   ss0)
   (yo0 (ml0 (V8 2 xy0 pd0.nd))
   (yo0 (ml0 (M8 PassesOwn.leaving rfl (k00 `KL (w6 `KX v8)) (xu0 3 4 pd0.nd `f)
   (v5 (d8 (m9 U7 W2 `zO m8)
   (v5 (O9 (z00 `cn) (w50 2 `dm `zO))
   u9)
   u9)
   u9)))
   (yo0 (ml0 (wm0 2 (c7 `aM6 (o5 5 pd0.nd))))
   (yo0 (ml0 (j7 (U4 Y8 J8 `ed `ee (w6 (zi0 (sc:=t7 `K5) (N:=hh0) (N':=`aNf) (n:=1) (caps:=[2,5]) `bY `f (xd0 `KX) (λcl s H ex=>o5 0 (`aq:(`aNf:`j).Nodup)) `cr (λcl s H ex=>(cj0 `ca (d7 `aMO hr `f (w6 (p7 `bV `dl) `iW)) `ah))) v8))))
   ss0))))))
theorem mf0:`ar tn0 `E0 (t7 `aac):=`ax
theorem n00{fd:`S}(F:Fun K `E_ `E_ `aac fa fd)(T:`aw)  : `Y P w K mg `k CX0 1 fa fd `E0 (spD K Z6) :=
 okD (k:=0) (G:=ta0) F mf0 (λcdv A outer s H E hr=>(v5 (d8 (m9 se0 uc0 `aA `wX)
   (v5 (j7 (p7 `ah `aA))
   u9)
   u9)
   (v5 (j7 (O5 (d9 (O5 `aA u5) u5) `aad))
   u9))) `bw
theorem f80:`ar m00 `EX (t7 `aae):=`ax
theorem fl0{fd:`S}(F:Fun K `EW `EW `aae fa fd)(T:`aw)  : `Y P w K mg `k CX0 1 fa fd `EX (spD K o6) :=
 okD (k:=0) (G:=ng0) F f80 (λcdv A outer s H E hr=>(v5 (j7 (w00 (Y5 (d9 (O5 (d9 (Y5 `ah u5) u5) (d9 (d9 u5 `aNg) (O5 `aNg `aA))) `aA) u5) u5))
   u9)) `bw
theorem wh0:`ar v50 `Q? (`aaf):=`ax
theorem ir0{fd:`S}(F:Fun K `E1 `E1 `Q7 fa fd)(T:`aw)(C__law_mix:`kI):`Y P w K mg `k CX0 2 fa fd `Q? (spN K zy0) :=
 okN (k:=1) (G:=pw0) F wh0 (λcdv A outer s H E hr=>(v5 (c7 m8 (o5 2 wh0.nd))
   (v5 (c7 (et0 m8 (w6 (zi0 (sc:=`aaf) (N:=v50) (N':=`Q8) (n:=1) (caps:=`vR) `bY `f `aNh `aNi `cr (λcl s H ex=>(p7 `bV (Y5 (d7 `hF hr `f (w6 `aA `hA)) u5)))) v8)) (o5 3 wh0.nd))
   (v5 (c7 (Y5 `aik (d9 (Q8 `fY `hC) u5)) (o5 4 wh0.nd))
   (v5 (X3 (yq0 (sc:=`aaf) (N:=v50) (N':=`aNj) (n:=1) (caps:=[0,2,3,4]) `bY `f (G4 `ki `iW) (λcl s H ex=>o5 0 (`aq:(`aNj:`j).Nodup)) `cr (λcl s H ex=>(d9 (d9 (S9 `cn O1 `aNk) (p7 `bV (Y5 (d9 `aMX `aA) u5))) (S9 `cn `aNk O1)))))
   u9))))) `dx
theorem vo0:`ar u80 `Q' (t7 `aag):=`ax
theorem ps0{fd:`S}(F:Fun K `EZ `EZ `aag fa fd)(T:`aw)(C__law_mix:`kI):`Y P w K mg `k CX0 2 fa fd `Q' (spD K X8) :=
 okD (k:=1) (G:=ub0) F vo0 (λcdv A outer s H E hr=>(v5 (c7 (Y5 (d7 `hF hr `f `rd) u5) (o5 3 vo0.nd))
   (v5 (d8 `zS
   (v5 (j7 v80)
   u9)
   u9)
   (v5 (d8 (m9 se0 uc0 `cn u5)
   (v5 (j7 (Z2 (w6 m8 (w6 (Y5 `aNl `bV) v8))))
   u9)
   u9)
   (v5 (d8 `zS
   (v5 (j7 (wf0 (Y5 `aNl u5) u5))
   u9)
   u9)
   (v5 (j7 (wf0 (d9 (Y5 (T10 (O5 (d9 `ah u5) `aad) `aah) (wf0 (O5 u5 `aah) u5)) u5) `aah))
   u9)))))) `bw
theorem R7:`ar J6 `aai (`K6):=`ax
theorem qb0{fd:`S}(F:Fun K `K7 `K7 `Q9 fa fd)(T:`aw)(C__law_mix:`kI)(C__law_one_value:`aNm):`Y P w K mg `k CX0 3 fa fd `aai (spD K O2) :=
 okD (k:=2) (G:=vn0) F R7 (λcdv A outer s H E hr=>(v5 (c7 `wV (o5 3 `te))
   (v5 (c7 (p7 (tb0 (w6 u5 (w6 u5 (w6 u5 (w6 u5 (w6 u5 (w6 u5 `K2))))))) `wV) (o5 4 `te))
   (v5 (d8 `zS
   (v5 (c7 m8 (o5 5 `te))
   (v5 (j7 (Z2 (w6 m8 (w6 (et0 m8 (w6 (zi0 (sc:=`K6) (N:=J6) (N':=`Q8) (n:=1) (caps:=[0,5]) `bY `f `aNh `aNi `cr (λcl s H ex=>(p7 `bV (Y5 (d7 `hF hr `f (w6 `aA (w6 `aNn v8))) u5)))) v8)) v8))))
   u9))
   u9)
   (v5 (c7 (zi0 (sc:=`K6) (N:=J6) (N':=`aNo) (n:=1) (caps:=`vR) `bY `f (G4 `ki `gG) (λcl s H ex=>o5 0 (`aq:(`aNo:`j).Nodup)) `cr (λcl s H ex=>(d7 `aNp hr `f (w6 `aA (w6 `aNn `eG))))) (o5 6 `te))
   (v5 (d8 `zS
   (v5 (j7 (Z2 (w6 m8 (w6 (U4 Y8 J8 `ed `ee `aaj) v8))))
   u9)
   u9)
   (v5 (c7 `wV (o5 7 `te))
   (v5 (c7 (U4 Y8 J8 `ed `ee (w6 (zi0 (sc:=`K6) (N:=J6) (N':=`aNq) (n:=1) (caps:=[1,6,7]) `bY `f (G4 `ki `gG) (λcl s H ex=>o5 0 (`aq:(`aNq:`j).Nodup)) `cr (λcl s H ex=>(Z2 (w6 (p7 `aA (Y5 (d9 `cn `ah) u5)) (w6 (p7 `bV `ah) v8))))) v8)) (o5 8 `te))
   (v5 (d8 `zS
   (v5 (j7 (Z2 (w6 m8 (w6 (v4 8) v8))))
   u9)
   u9)
   (v5 (j7 (Z2 (w6 m8 (w6 (p7 `aA `wV) (w6 (v4 8) v8)))))
   u9)))))))))) `bw
theorem vl0:`ar uf0 `aak (t7 `K8):=`ax
theorem j80{fd:`S}(F:Fun K `K9 `K9 `K8 fa fd)(T:`aw)(C__law_cell_at:`aal)(C__law_drawn_part:FnD P w K mg `k `K7 3 `aai O2)(C__law_mix:`kI)(C__law_pool:`aNr):`Y P w K mg `k CX0 4 fa fd `aak (spD K K8) :=
 okD (k:=3) (G:=rr0) F vl0 (λcdv A outer s H E hr=>(v5 (c7 (d9 u5 (Y5 (d7 `hF hr `f (w6 (d7 `E8 hr `f `rd) `hB)) `bV)) (o5 3 vl0.nd))
   (v5 (c7 (S6 `aNs hr `f (w6 (d7 `E8 hr `f (w6 `ah (w6 `aad v8))) `hB)) (o5 4 vl0.nd))
   (v5 (j7 (U4 Y8 J8 `ed `ee (w6 (zi0 (sc:=t7 `K8) (N:=uf0) (N':=`aNt) (n:=1) (caps:=[0,1,3,4]) `bY `f (G4 `ki `hC) (λcl s H ex=>o5 0 (`aq:(`aNt:`j).Nodup)) `cr (λcl s H ex=>(d7 C__law_drawn_part hr `f (w6 (d7 `E8 hr `f (w6 `aA (w6 (d9 (d9 `bV u5) `ah) v8))) (w6 `eF `hC))))) v8)))
   u9)))) `bw
theorem vk0:`ar w70 `ol (`aam):=`ax
theorem ja0{fd:`S}(F:Fun K `K' `K' `Ra fa fd)(T:`aw)  : `Y P w K mg `k CX0 1 fa fd `ol (spN K O7) :=
 okN (k:=0) (G:=q70) F vk0 (λcdv A outer s H E hr=>(v5 (d8 `ca
   (v5 `s9
   u9)
   u9)
   (v5 (c7 `EI (o5 1 vk0.nd))
   (v5 (d8 (m9 dw0 gu0 `dl m8)
   (v5 (u70 1 vk0.nd (sc:=`aam) (N:=w70) (N':=[`E2]) (n:=1) (caps:=[]) `bY `f `zL `aNu `cr `s')
   u9)
   u9)
   (v5 (X3 (yq0 (sc:=`aam) (N:=w70) (N':=[`vO]) (n:=1) (caps:=[]) `bY `f (Uj0 `aA) (λcl s H ex=>o5 0 (`aq:([`vO]:`j).Nodup)) `aMI `s'))
   u9))))) `dx
theorem rh0:`ar G8 `on (t7 `aan):=`ax
theorem jt0{fd:`S}(F:Fun K `o8 `o8 `aan fa fd)(T:`aw)(mp mq:`cP)(kk:Nat)(hkk:1<=kk)(C__law_come:FnM P w K mg `k `o8 kk `on `m mp)(C__law_links:FnN P w K mg `k `K' 1 `ol O7)
  (hf:∀ds l l',mq `Os=`CJ->`P_=3/\∀p,(`pt/\`aNv=`P0)∨(`m=`m/\∃δ',`aNv=`dO/\`P1)):`Y P w K mg `k CX0 (kk+1) fa fd `on (spM K `m mq) :=
 okM (k:=kk) (G:=K5 mp) F rh0 (λcdv A outer s H E hr=>(v5 (d8 (t80 (m9 jy0 (bn0 `d) `aA `bV))
   (v5 (S8 (Uu0 2 `aA))
   (v5 (M8 D2 rfl (N6 (S6 C__law_links hr (B9 (`ai:1<=1) hkk) (w6 (p7 `ah `aA) v8))) (o5 3 rh0.nd)
   (v5 (kp0 2 `aNw hr `aK (s50 `ah (s50 `cn (e90 2))))
   u9))
   u9))
   u9)
   u9)) hf
theorem fg0:`ar oz0 `ok (t7 `aao):=`ax
theorem ff0{fd:`S}(F:Fun K `E3 `E3 `aao fa fd)(T:`aw)  : `Y P w K mg `k CX0 1 fa fd `ok (spD K U5) :=
 okD (k:=0) (G:=m70) F fg0 (λcdv A outer s H E hr=>(v5 (d8 `EL
   (v5 (j7 `aML)
   u9)
   u9)
   (v5 `_M
   u9))) `bw
theorem Q4:`ar K9 `Rf (`aap):=`ax
theorem j40{fd:`S}(F:Fun K `E' `E' `Rb fa fd)(T:`aw)(C__law_come:FnM P w K mg `k `o8 63 `on `m T3)(C__law_led:`aNx):`Y P w K mg `k CX0 64 fa fd `Rf (spD K S5) :=
 okD (k:=63) (G:=y40) F Q4 (λcdv A outer s H E hr=>(v5 (V8 2 `og `rc)
   (v5 (kp0 2 `aNw hr `f (s50 `ah (s50 `aA (e90 2))))
   (v5 (wm0 2 (V8 3 xy0 `rc))
   (v5 (M8 D2 rfl `o6 `aNy
   (v5 (O9 (z00 `aM_) (w50 3 `dm `eF))
   u9))
   (v5 (wm0 3 (V8 5 `og `rc))
   (v5 (M8 D2 rfl `o6 `aNy
   (v5 (c7 (p7 `ah `eF) `aaq)
   (v5 (d8 (m9 U7 W2 `zR m8)
   (v5 (c7 (Z2 (w6 m8 (w6 (U4 Y8 J8 `ed `ee (w6 (zi0 (sc:=`aap) (N:=K9) (N':=`ok) (n:=1) (caps:=[3]) `bY `f (xd0 `zR) `aNz `cr `aNA) v8)) v8))) `aaq)
   u9)
   (v5 (d8 (m9 dw0 gu0 `zR m8)
   (v5 (u70 7 `rc (sc:=`aap) (N:=K9) (N':=`aNB) (n:=2) (caps:=[3]) `bY `f (xd0 (p7 `hE `wQ)) (λcl s H ex=>xu0 0 1 (`aq:(`aNB:`j).Nodup) `f) `cr (λcl s H ex=>(Z2 (w6 `ah (w6 (d7 `aio hr `f `KW) v8)))))
   (v5 (c7 (d9 (S9 `hE O1 (P0 `wQ)) (Z2 (w6 (U4 Y8 J8 `ed `ee `wW) v8))) `aaq)
   u9))
   u9)
   u9))
   (v5 (S8 (wd0 5 `hE))
   u9))))
   (v5 `aNC
   u9)))))))) `bw
theorem m20:`ar wv0 `ol (t7 `K!):=`ax
theorem nd0{fd:`S}(F:Fun K `E4 `E4 `K! fa fd)(T:`aw)  : `Y P w K mg `k CX0 1 fa fd `ol (spN K X7) :=
 okN (k:=0) (G:=to0) F m20 (λcdv A outer s H E hr=>(v5 (d8 `ca
   (v5 `s9
   u9)
   u9)
   (v5 (d8 `ca
   (v5 `_J
   u9)
   u9)
   (v5 (X3 (yq0 (sc:=t7 `K!) (N:=wv0) (N':=[`E2]) (n:=1) (caps:=[]) `bY `f `zL `aNu `cr `s'))
   u9)))) `dx
theorem qu0:`ar uz0 `E6 (t7 `K?):=`ax
theorem in0{fd:`S}(F:Fun K `E5 `E5 `K? fa fd)(T:`aw)  : `Y P w K mg `k CX0 1 fa fd `E6 (spD K V5) :=
 okD (k:=0) (G:=pv0) F qu0 (λcdv A outer s H E hr=>(v5 (d8 `ca
   (v5 `aMG
   u9)
   u9)
   (v5 (d8 `ca
   (v5 `_M
   u9)
   u9)
   (v5 (u70 2 qu0.nd (sc:=t7 `K?) (N:=uz0) (N':=`aND) (n:=2) (caps:=[]) `bY `f (Wb0 `KE (w6 `EI `iW)) (λcl s H ex=>xu0 0 1 (`aq:(`aND:`j).Nodup) `f) `cr (λcl s H ex=>(Z2 (w6 `dl `iW))))
   (v5 (j7 (d9 (S9 `ah O1 (P0 `wQ)) (Z2 (w6 (U4 Y8 J8 `ed `ee `eG) v8))))
   u9))))) `bw
theorem tg0:`ar sx0 `aar (t7 `aas):=`ax
theorem mz0{fd:`S}(F:Fun K `La `La `aas fa fd)(T:`aw)(C__law_mix:`kI):`Y P w K mg `k CX0 2 fa fd `aar (spD K ye0) :=
 okD (k:=1) (G:=sw0) F tg0 (λcdv A outer s H E hr=>(v5 (c7 (p7 `bV `Rc) (o5 3 tg0.nd))
   (v5 (d8 `ca
   (v5 (j7 (Z2 (w6 m8 (w6 (S9 (S9 (d9 `dl m8) `aat O1) O1 `zT) v8))))
   u9)
   u9)
   (v5 (d8 `ca
   (v5 (j7 (Z2 (w6 m8 (w6 (S9 (d9 `dl (Z2 (w6 v80 `hB))) O1 `aat) v8))))
   u9)
   u9)
   (v5 (d8 `ca
   (v5 (j7 (Z2 (w6 m8 (w6 `cn `s!))))
   u9)
   u9)
   (v5 (j7 (Z2 (w6 m8 (w6 `cn (w6 (S9 `dl O1 `aat) v8)))))
   u9)))))) `bw
theorem J1:`ar ti0 `aau (t7 `aav):=`ax
theorem m50{fd:`S}(F:Fun K `Lb `Lb `aav fa fd)(T:`aw)(C__law_headed:FnD P w K mg `k `La 2 `aar ye0)(C__law_mix:`kI)(C__law_one_value:`aNm)(C__law_some_of:`aaw)(C__law_with:`aax):`Y P w K mg `k CX0 3 fa fd `aau (spD K xa0) :=
 okD (k:=2) (G:=tt0) F J1 (λcdv A outer s H E hr=>(v5 (V8 3 (si0 `q? `Q_ `ah) `zU)
   (v5 (M8 D2 rfl (G4 `ki (w6 `Rc v8)) (o5 4 `zU)
   (v5 (c7 (d7 `hF hr `f (w6 `aA (w6 (d9 u5 `eF) v8))) (o5 5 `zU))
   (v5 (c7 (Y5 `cH `Lc) (o5 6 `zU))
   (v5 (wm0 7 (V8 7 (wk0 `aiu hr `f (w6 `aNE v8)) `zU))
   (v5 (d8 `aNF
   (v5 (O9 (z00 (d7 C__law_headed hr `f (w6 `aNE (w6 `cH `eG)))) `aNG)
   u9)
   (v5 (d8 (t80 (m9 `KN p50 (v4 7) (tb0 v8)))
   (v5 (d8 (`zK (p30 `aNF (on0 (m9 se0 uc0 `Lc u5))))
   (v5 (S8 (wd0 3 (p7 (tb0 (w6 `aNH (w6 (Z2 (w6 m8 (w6 (Z2 (w6 (Z2 (w6 m8 `aaj)) `aay)) v8))) v8))) `ait)))
   (v5 (O9 (z00 (Z2 (w6 m8 (w6 (wf0 `Lc u5) v8)))) `aNI)
   u9))
   (v5 (O9 (z00 (d7 `aNp hr `f (w6 `cH (w6 u5 (w6 `Lc v8))))) `aNI)
   u9))
   (v5 (O9 (z00 (tj0 (d7 `aaz hr `f (w6 `air `wW)))) `aNG)
   u9))
   u9)
   u9))
   u9)))))
   (v5 (uo0 `aNd)
   u9)))) `bw
theorem Q0:`ar xi0 `tf (t7 `Ld):=`ax
theorem p00{fd:`S}(F:Fun K `Le `Le `Ld fa fd)(T:`aw)(C__law_led:`aNx)(C__law_mix:`kI)(C__law_some_of:`aaw)(C__law_with:`aax):`Y P w K mg `k CX0 2 fa fd `tf (spD K M4) :=
 okD (k:=1) (G:=vp0) F Q0 (λcdv A outer s H E hr=>(v5 (V8 2 (Q6 `hB) `E7)
   (v5 (M8 D2 rfl (dz0 `ki (w6 u5 `aNJ)) `aaA
   (v5 (S8 (P40 2 (d9 u5 (Y5 (d7 `hF hr `f (w6 `aA (w6 (d9 u5 `cn) v8))) `aM')) `cn))
   u9))
   (v5 (wm0 2 (V8 4 xy0 `E7))
   (v5 (M8 D2 rfl `o6 `aaA
   (v5 (O9 (z00 (zn0 (y70 xx0 vx0 `fY S2 `gG))) (w50 4 `dm `cn))
   u9))
   (v5 (wm0 4 (V8 5 `og `E7))
   (v5 (M8 D2 rfl `o6 `aaA
   (v5 (S8 (wd0 5 (d7 `aaz hr `f (w6 `Rd (w6 (zi0 (sc:=t7 `Ld) (N:=xi0) (N':=`ok) (n:=1) (caps:=[4]) `bY `f (N6 `aNK) `aNz `cr `aNA) v8)))))
   u9))
   (v5 `aNC
   u9)))))))) `bw
theorem zs0:`ar nj0 `tg (t7 `aaB):=`ax
theorem fc0{fd:`S}(F:Fun K `Lf `Lf `aaB fa fd)(T:`aw)(C__law_built:FnD P w K mg `k `K9 4 `aak K8)(C__law_cell_at:`aal)(C__law_changed:FnD P w K mg `k `Lb 3 `aau xa0)(C__law_mix:`kI)(C__law_pool:`aNr)(C__law_renumbered:FnD P w K mg `k `Le 2 `tf M4):`Y P w K mg `k CX0 5 fa fd `tg (spD K wl0) :=
 okD (k:=4) (G:=na0) F zs0 (λcdv A outer s H E hr=>(v5 (c7 (d7 `aNL hr `f (w6 `ah (w6 u5 (w6 (p7 (tb0 `K2) (U4 bv0 Qq0 T.b_int b_int (w6 (Zz0 U7 W2 (Y5 `Lg u5) u5) v8))) v8)))) (o5 1 `E9))
   (v5 (c7 (S6 `aNs hr `f (w6 `Lg `hB)) (o5 2 `E9))
   (v5 (c7 `Lg (o5 3 `E9))
   (v5 (c7 (d7 C__law_changed hr `f (w6 `aA (w6 `cn `eG))) `aaC)
   (v5 (d8 `aNM
   (v5 (c7 (d7 `aNL hr `f (w6 `ah `K2)) `aaC)
   u9)
   u9)
   (v5 (d8 `aNM
   (v5 (c7 (d7 C__law_renumbered hr `f (w6 `eF `hC)) `aaC)
   u9)
   u9)
   (v5 (j7 (Z2 (w6 `aA `gG)))
   u9)))))))) `bw
theorem yl0:`ar tc0 `aaD (t7 `aaE):=`ax
theorem nh0{fd:`S}(F:Fun K `Lh `Lh `aaE fa fd)(T:`aw){rr:`e}(XT:`aNe)(X_laid:FnX P w K mg `k `td 6 `tc xl0):`Y P w K mg `k CX0 7 fa fd `aaD (spD K y00) :=
 okD (k:=6) (G:=s30) F yl0 (λcdv A outer s H E hr=>(v5 (c7 v80 (o5 2 yl0.nd))
   (v5 (Ug0 3 XT (λpn xe=>(yo0 (Z60 X_laid hr `f `rd)
   ss0))
   (λea=>(v5 (U70 2 3 yl0.nd)
   u9)) yl0.nd)
   (v5 (d8 (M7 (Yy0 2 XT `f (y80 XT `f (y80 XT `f (y80 XT `f (y80 XT `f (y80 XT `f (y80 XT `f (y80 XT `f (y80 XT `f (y80 XT `f T60))))))))) `f `l8))
   (v5 `ta
   u9)
   u9)
   (v5 (j7 (gm0 (Tw0 2 XT `f `f `l8) (f00 (Uq0 2 XT b_ValueError ty_ValueError `eT `l8 T.b_ValueError))))
   u9))))) `bw
theorem M6:`ar re0 `tf (t7 `aaF):=`ax
theorem ms0{fd:`S}(F:Fun K `Li `Li `aaF fa fd)(T:`aw)(C__law_drawn:`aNN)(C__law_mix:`kI)(C__law_some_of:`aaw)(C__law_with:`aax):`Y P w K mg `k CX0 65 fa fd `tf (spD K zh0) :=
 okD (k:=64) (G:=sz0) F M6 (λcdv A outer s H E hr=>(v5 (V8 2 (Q6 (w6 (d9 (Z2 (w6 (Z2 (w6 m8 (w6 (Z2 (w6 u5 `aay)) v8))) v8)) (S9 `ah `zT O1)) v8)) `th)
   (v5 (d8 (m9 se0 uc0 `wX u5)
   (v5 (V8 2 (Q6 (w6 (d9 (d9 (Z2 (w6 (Z2 (w6 m8 (w6 (Z2 (w6 u5 (w6 `aMZ `aay))) v8))) v8)) (S9 `ah `zT O1)) (Z2 (w6 `aNH v8))) v8)) `th)
   u9)
   u9)
   (v5 (S8 (wd0 2 (d7 `aNO hr `f (w6 `ah (w6 (Y5 `aiq `wX) v8)))))
   (v5 (M8 D2 rfl (G4 `ki `aNJ) (o5 3 `th)
   (v5 (c7 `aNK (o5 4 `th))
   (v5 (M8 D2 rfl (G4 `ki (w6 `_Z v8)) (o5 5 `th)
   (v5 (d8 (`zK (bx0 (m9 Y10 ey0 (p7 `eF `cH) v80) (fq0 (d80 (M7 (yr0 zp0 `ee `l8 `ed (p7 `eF `cH)))))))
   (v5 (c7 (d9 (d9 (S9 `eF O1 (P0 `cH)) (tb0 (w6 (Y5 (d7 `hF hr `f (w6 `aA (w6 (d9 u5 `cH) v8))) u5) v8))) (S9 `eF (P0 (d9 `cH u5)) O1)) (o5 6 `th))
   (v5 (S8 (wd0 2 (d9 (d9 (S9 `ah O1 (P0 `cn)) (Z2 (w6 (d7 `aaz hr `f (w6 `Rd `aaj)) v8))) (S9 `ah (P0 (d9 `cn u5)) O1))))
   u9))
   u9)
   u9))
   u9)))
   (v5 (uo0 (S9 `bV O1 `zT))
   u9)))))) `bw
theorem qa0:`ar Wv0 `tg (t7 `wZ):=`ax
theorem So0{fd:`S}(F:Fun K `om `om `wZ fa fd)(T:`aw)(C__law_cell_at:`aal)(C__law_drawn:`aNN)(C__law_others:FnD P w K mg `k `Li 65 `tf zh0)(C__law_refused:FnD P w K mg `k `Lh 7 `aaD y00)(C__law_two:FnD P w K mg `k `Lf 5 `tg wl0)(C_laid:FnD P w K mg `k `td 6 `tc (w60 xl0))(C_mark:`aab)(C_slip:FnD P w K mg `k `ra 7 `tb rw0):`Y P w K mg `k CX0 66 fa fd `tg `aNP :=
 okD (k:=65) (G:=Wp0) F qa0 (λcdv A outer s H E hr=>(v5 (O9 (z00 (d7 C__law_two hr `f `hA)) (gp0 (xu0 1 2 `Lj `f)))
   (v5 (c7 `Lg (o5 3 `Lj))
   (v5 (c7 (d7 C_slip hr `f `KW) (o5 4 `Lj))
   (v5 (M8 D2 rfl (N6 (d9 (d9 (tb0 `eG) (d7 `aNQ hr `f (w6 `aA `hC))) (S9 (d7 `aNQ hr `f `__) O1 `zT))) (o5 5 `Lj)
   (v5 (d8 (`zK (p30 (m9 `KN p50 (d7 C_mark hr `f `Q1) `zO) (on0 (d80 (M7 (d7 C__law_refused hr `f (w6 `cH `gG)))))))
   (v5 `ta
   u9)
   u9)
   u9))
   (v5 (j7 (Zz0 (jv0 `wT) li0 (d7 C_laid hr `f (w6 `aA `gG)) (d7 `aNO hr `f (w6 `bV `hB))))
   u9)))))) `bw
universe zz
theorem us1:∀{us:`bP},`e'=1->∃a,us=[a]
 | [a],_=>⟨a,rfl⟩
theorem us2:∀{us:`bP},`e'=2->∃a b,us=`h8
 | `h8,_=>⟨a,b,rfl⟩
theorem us3:∀{us:`bP},`e'=3->∃a b c,us=[a,b,c]
 | [a,b,c],_=>⟨a,b,c,rfl⟩
theorem us4:∀{us:`bP},`e'=4->∃a b c d,us=[a,b,c,d]
 | [a,b,c,d],_=>⟨a,b,c,d,rfl⟩
noncomputable def Hd(K:`G)(x:Str)(st:`a8):Prop:=∃f fd,`aNR/\`aaG
theorem Y6{x:Str}{st:`a8}{f:`e}{kV:`t}(a:`aaG)(l:`t!=`a ⟨oc,od,`jI `wY,osl⟩)(c:`tX K cdv x=`d)(k:`xE):Hd K x st:=⟨f,_,Zu0 l c k,a⟩
section
variable(P9:`aa)(w9:`L)(b9:`u){h:`u}{x:Str}{st:`a8}{f:`e}{fd:`S}{ps:`j}{m:`K}(X9:`he)(G9:`Fi)(F9:`aNR)(a9:`aaG)
include X9 G9 F9 a9
theorem cD1(o:`Lk)(hl:`M=1)(b:`aNS):`Ll:=`aNT
theorem cD2(o:`Lk)(hl:`M=2)(b:`aNU):`Ll:=`aNV
theorem cD3(o:`Lk)(hl:`M=3)(b:`aNW):`Ll:=`aNX
theorem cD4(o:`Lk)(hl:`M=4)(b:`aNY):`Ll:=`aNZ
theorem cN1(o:`Lm)(hl:`M=1)(b:`aNS):`Ln:=`aNT
theorem cN2(o:`Lm)(hl:`M=2)(b:`aNU):`Ln:=`aNV
theorem cN3(o:`Lm)(hl:`M=3)(b:`aNW):`Ln:=`aNX
theorem cN4(o:`Lm)(hl:`M=4)(b:`aNY):`Ln:=`aNZ
universe zz
theorem all_mk{l:W.OpenLaw}{w:`L}{h:`u}(X:`he)(G:`Fi)(hfa:mg `om=`BC)
  {f5 f8 f47:`e}
  {od5 an5 od8 an8 od47 an47:`a6} {sl5 sl8 sl47:`ff} {oc5 kV5 dc5 pm5 cd5 ct5 oc8 kV8 dc8 pm8 cd8 ct8 oc47 kV47 dc47 pm47 cd47 ct47:`t}
  {t_BASE t_MARK_BASE:Tok}
  (h0:Hd K `EJ `Kz)
  (h1:Hd K `KB `_I)
  (h2:Hd K `EK `KC)
  (h3:Hd K `KD `_L)
  (h4:Hd K `KG `KF)
  {T5:`e} {tc5:`t} {td5:`a6} {tn5:Nat} {ts5:`ff} {tt5_0:Tok}
  (a5:`b2 K `a3 `kH=`a (`a (`Q f5))) (l5:`eW f5=`a ⟨oc5,od5,`jI (`m9 `kH `kH (R5 `zM) (W3 `zM) (t7 `zM) (`Q T5) kV5 dc5 pm5 an5 cd5 ct5),sl5⟩) (c5:`tX K cd5 `kH=`d) (k5:`m7 K (`Q f5)=`d)
  (t5:`eW T5=`a ⟨tc5,td5,`a' #[`aN_] tn5,ts5⟩)
  (h6:Hd K `KI `_O)
  (h7:Hd K `EM `KK)
  {T8:`e} {tc8:`t} {td8:`a6} {tn8:Nat} {ts8:`ff} {tt8_0:Tok}
  (a8:`b2 K `a3 `kg=`a (`a (`Q f8))) (l8:`eW f8=`a ⟨oc8,od8,`jI (`m9 `kg `kg (R5 `s?) (W3 `s?) (t7 `s?) (`Q T8) kV8 dc8 pm8 an8 cd8 ct8),sl8⟩) (c8:`tX K cd8 `kg=`d) (k8:`m7 K (`Q f8)=`d)
  (t8:`eW T8=`a ⟨tc8,td8,`a' #[`aN0] tn8,ts8⟩)
  (h9:Hd K `EO `_R)
  (h10:Hd K `EP `_S)
  (h11:Hd K `KM `_U)
  (h12:Hd K `ER `_V)
  (h13:Hd K `KO `_W)
  (h14:Hd K `KP `_X)
  (h15:Hd K `EQ `_0)
  (h16:Hd K `KR `_1)
  (h17:Hd K `KT `_2)
  (h18:Hd K `ES `KZ)
  (h19:Hd K `KU `_3)
  (h20:Hd K `KV `_4)
  (h21:Hd K `KS `_5)
  (h22:Hd K `KQ `_6)
  (h23:Hd K `K_ `_7)
  (h24:Hd K `K1 `_!)
  (h25:Hd K `K0 `Q5)
  (h26:Hd K `EV `K4)
  (h27:Hd K `ra `Q6)
  (h28:Hd K `td `K5)
  (h29:Hd K `E_ `aac)
  (h30:Hd K `EW `aae)
  (h31:Hd K `E1 `Q7)
  (h32:Hd K `EZ `aag)
  (h33:Hd K `K7 `Q9)
  (h34:Hd K `K9 `K8)
  (h35:Hd K `K' `Ra)
  (h36:Hd K `o8 `aan)
  (h37:Hd K `E3 `aao)
  (h38:Hd K `E' `Rb)
  (h39:Hd K `E4 `K!)
  (h40:Hd K `E5 `K?)
  (h41:Hd K `La `aas)
  (h42:Hd K `Lb `aav)
  (h43:Hd K `Le `Ld)
  (h44:Hd K `Lf `aaB)
  (h45:Hd K `Lh `aaE)
  (h46:Hd K `Li `aaF)
  (a47:`b2 K `a3 `om=`a (`a `aN1)) (l47:`eW f47=`a ⟨oc47,od47,`jI (`aN2),sl47⟩) (c47:`tX K cd47 `om=`d) (k47:`m7 K `aN1=`d)
  (z_ValueError:`b2 K `a3 `zV=`c8)
  (z_dict:`b2 K `a3 `gq=`c8)
  (z_enumerate:`b2 K `a3 `d5=`c8)
  (z_int:`b2 K `a3 `hh=`c8)
  (z_isinstance:`b2 K `a3 `pa=`c8)
  (z_len:`b2 K `a3 `pB=`c8)
  (z_list:`b2 K `a3 `dE=`c8)
  (z_ord:`b2 K `a3 `xl=`c8)
  (z_range:`b2 K `a3 `pd=`c8)
  (z_reversed:`b2 K `a3 `lq=`c8)
  (z_sorted:`b2 K `a3 `lA=`c8)
  (z_str:`b2 K `a3 `i6=`c8)
  (z_sum:`b2 K `a3 `yP=`c8)
  (z_tuple:`b2 K `a3 `dC=`c8)
  (z_zip:`b2 K `a3 `fv=`c8)
  (y_BASE:`b2 K `a3 "BASE"=`a (`a (`c 128 t_BASE)))
  (y_MARK_BASE:`b2 K `a3 `aMD=`a (`a (`c 65521 t_MARK_BASE)))
  {kA_KINDS:`e} {kn_KINDS:Nat} {ks_KINDS:`ff} {kt_KINDS_0 kt_KINDS_1 kt_KINDS_2 kt_KINDS_3:Tok}
  (kN_KINDS:`b2 K `a3 "KINDS"=`a (`a (`Q kA_KINDS))) (kL_KINDS:`eW kA_KINDS=`a ⟨`cW,`b,`a' #[`J `OK kt_KINDS_0,`J `vE kt_KINDS_1,`J `OM kt_KINDS_2,`J `ON kt_KINDS_3] kn_KINDS,ks_KINDS⟩)
  (xt:XC.X10 K `aig `rb `aih=`d)
  : ∃fd:`S,(∀(s:`r) (v:`t),`AU s fd ⟨[v],[]⟩ [(`lE,v)])/\∀base:`u,`RO->`Fs->`Y `ap w K mg `k CX0 66 fa fd `tg `aNP:=by
 have e:=hfa.symm.trans (D3 X G a47);cases e;have T:`aw:=⟨D5 X G z_ValueError,D5 X G z_dict,D5 X G z_enumerate,D5 X G z_int,D5 X G z_isinstance,D5 X G z_len,D5 X G z_list,D5 X G z_ord,D5 X G z_range,D5 X G z_reversed,D5 X G z_sorted,D5 X G z_str,D5 X G z_sum,D5 X G z_tuple,D5 X G z_zip,⟨_,D3 X G y_BASE⟩,⟨_,D3 X G y_MARK_BASE⟩⟩;have m5:`aM5:=⟨_,_,_,_,D3 X G kN_KINDS,kL_KINDS,rfl,rfl,rfl,(by show 4<=`R;decide),`ak `au (`ak `au (`ak `au (`ak `au (`U))))⟩;obtain⟨rr,XT⟩:=XC.tab_of X G xt;obtain⟨f0,g0,F0,a0⟩:=h0;obtain⟨f1,g1,F1,a1⟩:=h1;obtain⟨f2,g2,F2,a2⟩:=h2;obtain⟨f3,g3,F3,a3⟩:=h3;obtain⟨f4,g4,F4,a4⟩:=h4;have F5:=d30 (st:=top 19) l5 c5 k5;obtain⟨f6,g6,F6,a6⟩:=h6;obtain⟨f7,g7,F7,a7⟩:=h7;have F8:=d30 (st:=top 22) l8 c8 k8;obtain⟨f9,g9,F9,a9⟩:=h9;obtain⟨f10,g10,s0,x3⟩:=h10;obtain⟨I1,H9,r3,w2⟩:=h11;obtain⟨I2,g12,q4,H4⟩:=h12;obtain⟨f13,g13,s6,w1⟩:=h13;obtain⟨f14,g14,q2,t4⟩:=h14;obtain⟨f15,I9,p1,z7⟩:=h15;obtain⟨f16,g16,t0,v1⟩:=h16;obtain⟨f17,g17,p5,u3⟩:=h17;obtain⟨f18,g18,q9,y9⟩:=h18;obtain⟨f19,g19,q5,y0⟩:=h19;obtain⟨H6,g20,s7,z3⟩:=h20;obtain⟨f21,L1,r5,z4⟩:=h21;obtain⟨f22,g22,s1,z0⟩:=h22;obtain⟨f23,I8,q7,x0⟩:=h23;obtain⟨f24,I4,s8,H0⟩:=h24;obtain⟨f25,g25,t2,w0⟩:=h25;obtain⟨f26,H7,p8,H3⟩:=h26;obtain⟨f27,g27,s3,u2⟩:=h27;obtain⟨w3,g28,n5,z1⟩:=h28;obtain⟨f29,g29,r6,v3⟩:=h29;obtain⟨f30,H8,r1,v7⟩:=h30;obtain⟨f31,g31,q6,z8⟩:=h31;obtain⟨f32,g32,r2,u4⟩:=h32;obtain⟨I5,g33,q0,z5⟩:=h33;obtain⟨I6,g34,q3,z2⟩:=h34;obtain⟨f35,g35,q8,D1⟩:=h35;obtain⟨p3,x7,m1,r4⟩:=h36;obtain⟨f37,g37,s9,w7⟩:=h37;obtain⟨f38,g38,p4,H5⟩:=h38;obtain⟨f39,g39,s2,z6⟩:=h39;obtain⟨f40,g40,t1,y2⟩:=h40;obtain⟨I3,g41,s5,y5⟩:=h41;obtain⟨f42,g42,o1,v2⟩:=h42;obtain⟨I7,g43,r0,v0⟩:=h43;obtain⟨f44,g44,r7,u1⟩:=h44;obtain⟨f45,g45,q1,w5⟩:=h45;obtain⟨f46,g46,s4,C2⟩:=h46;have y1:=Zu0 (st:=top 68) l47 c47 k47;refine⟨`aN2,λs v=>.of_eq rfl,λbase _ _=>?_⟩;have b6:=cN1 `ap w `k X G F0 a0 (kz0 F0 T) rfl `aD;have b2:=cN1 `ap w `k X G F2 a2 (bo0 F2 T) rfl `aD;have c2:=cD1 `ap w `k X G F9 a9 (jq0 F9 T) rfl `aD;have b3:=cD1 `ap w `k X G s0 x3 (ls0 s0 T) rfl `aD;have b0:=cN1 `ap w `k X G q4 H4 (no0 q4 T) rfl `aD;have m2:=cD1 `ap w `k X G s6 w1 (bj0 s6 T) rfl `aD;have k3:=cD2 `ap w `k X G p1 z7 (ah0 p1 T) rfl `aD;have b5:=cN1 `ap w `k X G q9 y9 (kx0 q9 T) rfl `aD;have e5:=cD1 `ap w `k X G q5 y0 (l70 q5 T m5) rfl `aD;have g5:=cN1 `ap w `k X G s1 z0 (jc0 s1 T) rfl `aD;have O:=cD2 `ap w `k X G r6 v3 (n00 r6 T) rfl `aD;have F:=cD2 `ap w `k X G r1 v7 (fl0 r1 T) rfl `aD;have i3:=cN1 `ap w `k X G q8 D1 (ja0 q8 T) rfl `aD;have d1:=cD2 `ap w `k X G s9 w7 (ff0 s9 T) rfl `aD;have J:=cN1 `ap w `k X G s2 z6 (nd0 s2 T) rfl `aD;have Z:=cD2 `ap w `k X G t1 y2 (in0 t1 T) rfl `aD;have n4:=cD1 `ap w `k X G F1 a1 (Ti0 F1 T b6) rfl `aD;have e4:=cD2 `ap w `k X G F3 a3 (l30 F3 T b6) rfl `aD;have m4:=cN1 `ap w `k X G F4 a4 (Yv0 F4 T b2) rfl `aD;have k0:=cN2 `ap w `k X G p5 u3 (j70 p5 T b0 b5) rfl `aD;have h5:=cN1 `ap w `k X G s7 z3 (j90 s7 T b5) rfl `aD;have j1:=cD2 `ap w `k X G r5 z4 (j20 r5 T m2) rfl `aD;have e1:=cN2 `ap w `k X G s8 H0 (ma0 s8 T c2 b3 b2) rfl `aD;have c3:=cN2 `ap w `k X G q6 z8 (ir0 q6 T F) rfl `aD;have Y:=cD3 `ap w `k X G r2 u4 (ps0 r2 T F) rfl `aD;have e7:=cD3 `ap w `k X G s5 y5 (mz0 s5 T F) rfl `aD;have c1:=cD2 `ap w `k X G r0 v0 (p00 r0 T d1 F J Z) rfl `aD;have e3:=cN3 `ap w `k X G F6 a6 (c30 F6 T m4) rfl `aD;have b1:=cD2 `ap w `k X G F7 a7 (f70 F7 T b2 e4) rfl `aD;have l3:=cD4 `ap w `k X G r3 w2 (ik0 r3 T c2 n4 b3 b2) rfl `aD;have e8:=cN4 `ap w `k X G t0 v1 (j00 t0 T k3 j1 k0 b0 e5 h5) rfl `aD;have c0:=cD3 `ap w `k X G q0 z5 (qb0 q0 T F Y) rfl `aD;have d2:=cD3 `ap w `k X G o1 v2 (m50 o1 T e7 F Y J Z) rfl `aD;have m3:FnN `ap w K mg `k `kH 4 `hD sr0:=⟨f5,_,`aN3,D3 X G a5,k5,λs us X hl=>match us,hl with|[_,_],_=>`aN4⟩;have y7:Nl0 `ap w K mg `k `kH 4 `hD sr0 `C8:=⟨f5,_,[`aN_],[`c3],`aN3,D3 X G a5,k5,λs us X hl=>by obtain⟨u0,rfl⟩:=`aN5;exact `aN4,`aN6,`aN7⟩;have n7:=cN1 `ap w `k X G q2 t4 (Uw0 q2 T g5 k3 e8) rfl `aD;have d3:=cN3 `ap w `k X G t2 w0 (m80 t2 T l3) rfl `aD;have g8:=cD3 `ap w `k X G q3 z2 (j80 q3 T O c0 F c3) rfl `aD;have t3:FnD `ap w K mg `k `kg 5 `hD z20:=⟨f8,_,`aN8,D3 X G a8,k8,λs us X hl=>match us,hl with|[_,_],_=>`aN9⟩;have c4:gd0 `ap w K mg `k `kg 5 `hD z20 `C8:=⟨f8,_,[`aN0],[`c3],`aN8,D3 X G a8,k8,λs us X hl=>by obtain⟨u0,rfl⟩:=`aN5;exact `aN9,`aN6,`aN7⟩;have j2:=cD1 `ap w `k X G p8 H3 (Vs0 p8 T n7) rfl `aD;have l4:=cD1 `ap w `k X G r7 u1 (fc0 r7 T g8 O d2 F c3 c1) rfl `aD;have n8:=cN2 `ap w `k X G q7 x0 (Vt0 q7 T d3 e1 c4) rfl `aD;have m0:FnX `ap w K mg `k `td 6 `tc xl0:=⟨⟨w3,_,Vy0 n5 T XT j2 b1 c4,D3 X G z1,n5.kp,n5.binds (ps:=`tc) λ_ _ _ _ _ _ us hl=>by obtain⟨_,_,rfl⟩:=us2 hl;rfl⟩⟩;have n0:=m0.plain;have m6:=cD2 `ap w `k X G s3 u2 (Te0 s3 T j2 n8 c4) rfl `aD;have e2:=cD2 `ap w `k X G q1 w5 (nh0 q1 T XT m0) rfl `aD;have j0:∀q,FnM `ap w K mg `k `o8 (1+q) `on `m `DZ:=by
  intro q
  induction q with
  | zero=>exact⟨p3,x7,fh0 ww0,D3 X G r4,m1.kp,`aN'⟩
  | succ q ih=>exact⟨p3,_,jt0 m1 T _ _ (1+q) (C0 _ _) ih i3 (vi0 q),D3 X G r4,m1.kp,`aN'⟩
 have k4:FnM `ap w K mg `k `o8 63 `on `m T3:=j0 62;have b4:=cD2 `ap w `k X G p4 H5 (j40 p4 T k4 d1) rfl `aD;have e6:=cD2 `ap w `k X G s4 C2 (ms0 s4 T b4 F J Z) rfl `aD;exact So0 y1 T O b4 e6 e2 l4 n0 j2 m6
theorem h70{B:BS}:∀ns:`aG,Rps K H B (`PL) `AV
 | []=>by rw[`uB,`uB,o8]
 | n::ns=>by
  rw[`aC,`aC,o7];exact⟨_,_,rfl,`pQ,h70 ns⟩
theorem Yg0{a:`e}{ns:`aG}(hS:`GH)(hm:`aMz):spD K pl0 `jG H `TI `mm:=by
 refine⟨λ_=>`cK,`wO,`jF,λ_ z=>`cU,?_,hm,λv H' _ r=>`acB⟩;rw[o7];refine⟨_,[],rfl,?_,`go⟩;rw[Y7];refine⟨a,`nd `t7,rfl,?_,h70 ns⟩;rcases hS with h|h
 ·exact `o ⟨λz=>z,h⟩
 ·exact `q (`rT)
universe Ha
open PySem.W PyProof.Rows
namespace PySem.W.Fast
def tw1799013299787677421:=0
def tw4902324471125062127:=0
def tw10304251693427170882:=0
def tw5874466749737363920:=0
def tw10415648686934574954:=0
def tw15060403570236391524:=0
def tw9246879337027848044:=0
def tw1325142924140696205:=0
def tw6462799623262659367:=0
def tw6041988380266260564:=0
def tw1477715894518247877:=0
def tw9704360731250807657:=0
def tw12149289551488639923:=0
def tw17566431154213294762:=0
def tw13741182872792807339:=0
def tw5656548146773992716:=0
def tw4469725970083070479:=0
def tw8110119022295580741:=0
def tw277487488160123705:=0
def tw6668201358897180270:=0
def tw5094573523914309353:=0
def tw14769734547574895434:=0
def tw363626193804949645:=0
def tw10522361412618662196:=0
def tw11802026039890168682:=0
def tw15278910212668861776:=0
def tw4103319243407678806:=0
def tw4604726616899752025:=0
def tw7406928240651786875:=0
def tw12716571457967732861:=0
def tw887035046266934441:=0
def tw12895478136008006106:=0
def tw6869065209517767729:=0
def tw12414923113789535869:=0
def tw15303553592198192915:=0
def tw18445702062573355024:=0
def tw12275352326039194055:=0
def tw15215816317326458748:=0
def tw4363654803383260438:=0
def tw17956356441832639284:=0
def tw17232845359356173618:=0
def tw9351565294277353050:=0
def tw395643993852141733:=0
def tw6533892651492922094:=0
def tw16161627085530588412:=0
def tw9366905137521004142:=0
def tw17058569503066252227:=0
def tw11264940226573730305:=0
def tw2872870330911132480:=0
def tw16649182841350032590:=0
def tw10599253580087161032:=0
def tw7620419042459066197:=0
def tw13256918087643361233:=0
def tw1856570956848037714:=0
def tw9159655935970887925:=0
def tw1902917406845062380:=0
def tw6523704479386781317:=0
def tw18252235576765574537:=0
def tw2982152136728556575:=0
def tw4844220791511338516:=0
def tw17268457272263377915:=0
def tw16481190007097541716:=0
def tw6138419330092138439:=0
def tw12956406876417775490:=0
def tw7930292452509070196:=0
def tw11889709340327934766:=0
def tw15720166147887534388:=0
def tw6405201292885636233:=0
def tw15545180665488006561:=0
def tw17825564340077519325:=0
def tw7782576605817073777:=0
def tw4631375341562299190:=0
def tw14973408668015651080:=0
def tw9116659845990090884:=0
def tw10819294817196178772:=0
def tw7670826503331152173:=0
def tw4909138954382223693:=0
def tw13363438264045085393:=0
def tw237038195135243217:=0
def tw6288957159360416893:=0
def tw18131523697386410314:=0
def tw8976791380168066263:=0
def tw13862265991239841295:=0
def tw4924230389969392525:=0
def tw898692825857785018:=0
def tw2563671847422011055:=0
def tw1611108176627136218:=0
def tw4260654898583682738:=0
def tw16681465940879273796:=0
def tw6272216619550024688:=0
def tw12249516788323431304:=0
def tw11786265464770038620:=0
def tw14632633588977039214:=0
def tw6537023254537273102:=0
def tw16866846309429758082:=0
def tw18152294392323764748:=0
def tw8823513931945657493:=0
def tw1699425850453127027:=0
def tw4903010139114274139:=0
def tw1342054972728061684:=0
def tw2182114036184725920:=0
def tw15736115326875246275:=0
def tw12680691360748875533:=0
def tw13700428554041624100:=0
def tw17657191869015594100:=0
def tw14091356885390925685:=0
def tw17219943937857651032:=0
def tw5186346795058279752:=0
def tw13314531110007970336:=0
def tw10778327047317977706:=0
def tw7064805834863065715:=0
def tw16288963110455216910:=0
def tw2879822610221788750:=0
def tw9439351923678316194:=0
def tw6631543807514010169:=0
def tw7487300375819713809:=0
def tw14255902037941794579:=0
def tw18101903924006329479:=0
def tw11338639733741937052:=0
def tw6522860508318053084:=0
def tw9156622199547359513:=0
def tw15598330783702348290:=0
def tw13679736169505981512:=0
def tw10996699556853020461:=0
def tw4846861940327229788:=0
def tw11809006205000610130:=0
def tw17007067215639662666:=0
def tw4299954149890472896:=0
def tw1349726775719533043:=0
def tw6210957769242427096:=0
def tw15284069327080135280:=0
def tw6343586776570212520:=0
def tw13314716087408178857:=0
def tw14345832270576670564:=0
def tw2512497205952551759:=0
def tw15303512300802553479:=0
def tw11620076548510445130:=0
def tw7234903003320754191:=0
def tw10413099782942145315:=0
def tw18286733791659846978:=0
def tw16280372830285953619:=0
def tw7322928538222403795:=0
def tw6031770210479998403:=0
def tw15014504786221376561:=0
def tw14577175392901808343:=0
def tw6960801382095281599:=0
def tw7455466326301542222:=0
def tw17044152816254504163:=0
def tw12832203543887538002:=0
def tw18087023731770655321:=0
def tw11936737026076447400:=0
def tw15783364259362679328:=0
def tw12501503436096966677:=0
def tw4377230771536988890:=0
def tw14539193113804700198:=0
def tw2316532175103337835:=0
def tw9376921269970799359:=0
def tw7930971501270847412:=0
def tw4333805300614958580:=0
def tw4579729586025378493:=0
def tw5014174338865108523:=0
def tw4425286758570918101:=0
def tw12323547954513221242:=0
def tw5680415685649340876:=0
def tw454003602203189795:=0
def tw15904138899706657029:=0
def tw3646585143202642436:=0
def tw524279678808166674:=0
def tw15309131743481476832:=0
def tw4624753677051551988:=0
def tw5089415803355425703:=0
def tw3371363779349085945:=0
def tw8009100518261782998:=0
def tw6774609032115370950:=0
def tw6995209832190696491:=0
def tw12315297258684515359:=0
def tw14638228440344100794:=0
def tw5567855643837646714:=0
def tw8063300535513336485:=0
def tw4394798514132803338:=0
def tw17643452160507400286:=0
def tw1486762515799264106:=0
def tw16793184174652152193:=0
def tw13400161620524217936:=0
def tw8803169609031131460:=0
def tw11390477327077120426:=0
def tw15219532395802535635:=0
def tw6442247104187573246:=0
def tw9748690281384105071:=0
def tw12680169060096024953:=0
def tw6930337092378433454:=0
def tw6999122791566653117:=0
def tw7291113579398088789:=0
def tw5439373837901785199:=0
def tw6208904422876322231:=0
def tw13790078763247533119:=0
def tw17265981250393210954:=0
def tw12812014976883313013:=0
def tw4786066961763117459:=0
def tw9268570744578372029:=0
universe PySem.W.Fast
end
set_option maxRecDepth 100000 in
theorem PySem.Challenge.cw_graphpack_k48_no_base_holds : PySem.Challenge.rw_graphpack_k48_no_base.Holds := by
 w_on;o_law;k_head;(case hw=>w_witness2)
 k_fill
 refine L2.X30 (l:=PySem.Challenge.rw_graphpack_k48_no_base) (n:=63) (k:=66) (x := "_law_script") (CX:=L2.CX0) (sp:=λK=>DL.spD K Ha.pl0) rfl (by decide) rfl ⟨rfl,by decide,by decide⟩ (λw h Y=>W.kIn_of Y) ?F ?S ?C
 case F =>
  intro w mg fa h KX G hmg;refine' Ha.all_mk KX G hmg ?h0 ?h1 ?h2 ?h3 ?h4 ?a5 ?l5 ?c5 ?k5 ?t5 ?h6 ?h7 ?a8 ?l8 ?c8 ?k8 ?t8 ?h9 ?h10 ?h11 ?h12 ?h13 ?h14 ?h15 ?h16 ?h17 ?h18 ?h19 ?h20 ?h21 ?h22 ?h23 ?h24 ?h25 ?h26 ?h27 ?h28 ?h29 ?h30 ?h31 ?h32 ?h33 ?h34 ?h35 ?h36 ?h37 ?h38 ?h39 ?h40 ?h41 ?h42 ?h43 ?h44 ?h45 ?h46 ?a47 ?l47 ?c47 ?k47 ?z_ValueError ?z_dict ?z_enumerate ?z_int ?z_isinstance ?z_len ?z_list ?z_ord ?z_range ?z_reversed ?z_sorted ?z_str ?z_sum ?z_tuple ?z_zip ?y_BASE ?y_MARK_BASE ?kN_KINDS ?kL_KINDS ?xt
  (case h0=>exact Ha.Y6 (by k_is) (by k_is) (by k_is) (by k_is))
  (case h1=>exact Ha.Y6 (by k_is) (by k_is) (by k_is) (by k_is))
  (case h2=>exact Ha.Y6 (by k_is) (by k_is) (by k_is) (by k_is))
  (case h3=>exact Ha.Y6 (by k_is) (by k_is) (by k_is) (by k_is))
  (case h4=>exact Ha.Y6 (by k_is) (by k_is) (by k_is) (by k_is))
  (case a5=>k_is)
  (case l5=>k_is)
  (case c5=>k_is)
  (case k5=>k_is)
  (case t5=>k_is)
  (case h6=>exact Ha.Y6 (by k_is) (by k_is) (by k_is) (by k_is))
  (case h7=>exact Ha.Y6 (by k_is) (by k_is) (by k_is) (by k_is))
  (case a8=>k_is)
  (case l8=>k_is)
  (case c8=>k_is)
  (case k8=>k_is)
  (case t8=>k_is)
  (case h9=>exact Ha.Y6 (by k_is) (by k_is) (by k_is) (by k_is))
  (case h10=>exact Ha.Y6 (by k_is) (by k_is) (by k_is) (by k_is))
  (case h11=>exact Ha.Y6 (by k_is) (by k_is) (by k_is) (by k_is))
  (case h12=>exact Ha.Y6 (by k_is) (by k_is) (by k_is) (by k_is))
  (case h13=>exact Ha.Y6 (by k_is) (by k_is) (by k_is) (by k_is))
  (case h14=>exact Ha.Y6 (by k_is) (by k_is) (by k_is) (by k_is))
  (case h15=>exact Ha.Y6 (by k_is) (by k_is) (by k_is) (by k_is))
  (case h16=>exact Ha.Y6 (by k_is) (by k_is) (by k_is) (by k_is))
  (case h17=>exact Ha.Y6 (by k_is) (by k_is) (by k_is) (by k_is))
  (case h18=>exact Ha.Y6 (by k_is) (by k_is) (by k_is) (by k_is))
  (case h19=>exact Ha.Y6 (by k_is) (by k_is) (by k_is) (by k_is))
  (case h20=>exact Ha.Y6 (by k_is) (by k_is) (by k_is) (by k_is))
  (case h21=>exact Ha.Y6 (by k_is) (by k_is) (by k_is) (by k_is))
  (case h22=>exact Ha.Y6 (by k_is) (by k_is) (by k_is) (by k_is))
  (case h23=>exact Ha.Y6 (by k_is) (by k_is) (by k_is) (by k_is))
  (case h24=>exact Ha.Y6 (by k_is) (by k_is) (by k_is) (by k_is))
  (case h25=>exact Ha.Y6 (by k_is) (by k_is) (by k_is) (by k_is))
  (case h26=>exact Ha.Y6 (by k_is) (by k_is) (by k_is) (by k_is))
  (case h27=>exact Ha.Y6 (by k_is) (by k_is) (by k_is) (by k_is))
  (case h28=>exact Ha.Y6 (by k_is) (by k_is) (by k_is) (by k_is))
  (case h29=>exact Ha.Y6 (by k_is) (by k_is) (by k_is) (by k_is))
  (case h30=>exact Ha.Y6 (by k_is) (by k_is) (by k_is) (by k_is))
  (case h31=>exact Ha.Y6 (by k_is) (by k_is) (by k_is) (by k_is))
  (case h32=>exact Ha.Y6 (by k_is) (by k_is) (by k_is) (by k_is))
  (case h33=>exact Ha.Y6 (by k_is) (by k_is) (by k_is) (by k_is))
  (case h34=>exact Ha.Y6 (by k_is) (by k_is) (by k_is) (by k_is))
  (case h35=>exact Ha.Y6 (by k_is) (by k_is) (by k_is) (by k_is))
  (case h36=>exact Ha.Y6 (by k_is) (by k_is) (by k_is) (by k_is))
  (case h37=>exact Ha.Y6 (by k_is) (by k_is) (by k_is) (by k_is))
  (case h38=>exact Ha.Y6 (by k_is) (by k_is) (by k_is) (by k_is))
  (case h39=>exact Ha.Y6 (by k_is) (by k_is) (by k_is) (by k_is))
  (case h40=>exact Ha.Y6 (by k_is) (by k_is) (by k_is) (by k_is))
  (case h41=>exact Ha.Y6 (by k_is) (by k_is) (by k_is) (by k_is))
  (case h42=>exact Ha.Y6 (by k_is) (by k_is) (by k_is) (by k_is))
  (case h43=>exact Ha.Y6 (by k_is) (by k_is) (by k_is) (by k_is))
  (case h44=>exact Ha.Y6 (by k_is) (by k_is) (by k_is) (by k_is))
  (case h45=>exact Ha.Y6 (by k_is) (by k_is) (by k_is) (by k_is))
  (case h46=>exact Ha.Y6 (by k_is) (by k_is) (by k_is) (by k_is))
  (case a47=>k_is)
  (case l47=>k_is)
  (case c47=>k_is)
  (case k47=>k_is)
  (case z_ValueError=>k_is)
  (case z_dict=>k_is)
  (case z_enumerate=>k_is)
  (case z_int=>k_is)
  (case z_isinstance=>k_is)
  (case z_len=>k_is)
  (case z_list=>k_is)
  (case z_ord=>k_is)
  (case z_range=>k_is)
  (case z_reversed=>k_is)
  (case z_sorted=>k_is)
  (case z_str=>k_is)
  (case z_sum=>k_is)
  (case z_tuple=>k_is)
  (case z_zip=>k_is)
  (case y_BASE=>k_is)
  (case y_MARK_BASE=>k_is)
  (case kN_KINDS=>k_is)
  (case kL_KINDS=>k_is)
  (case xt=>kernel_rfl)
 case S=>exact λK H a ns hl hb hO hS=>Ha.Yg0 hS (Ha.Xq0 ns hl hb)
 case C=>exact λ_ _ _ _ z=>z
#print axioms PySem.Challenge.cw_graphpack_k48_no_base_holds
