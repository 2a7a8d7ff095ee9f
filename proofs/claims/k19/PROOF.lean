import PyProof.Rows.All
import Wide.All
import OpenK.AllK
import Wide.FinOn
import Lean
import PyProof.EqAt
import PyProof.EqKinds
import PyProof.TupleCall
import PyProof.NeKinds
import PyProof.Rows.SetFrom
import KE.KRevIter
import PyProof.ZipIter
import PyProof.TupleOfGen
import PyProof.Rows.ZipGen
import PyProof.EnumMake
import PyProof.EnumFor
import PyProof.ListRange
import PyProof.LayNew
import KE.KDictOf
import KE.KIntText
import KE.IntTextLaws
import PyProof.StrCalls2
import PyProof.Rows.StrNews2
import PyProof.StrLawsTight
import PyProof.ExcArgsOwn
import PyProof.ExcAttrAll.ValueError
import PyProof.IsInstanceT
import PyProof.RulesAs
import PyProof.Rows.Tup
import OpenK.KOwn
import PyProof.ExcInit
import OpenK.KCls
import OpenK.KMake
import PyProof.InstStoreFacts
import PyProof.FactsAll.object
import PyProof.IsiStr
import KE.KIsAll
import PyProof.ListMulRight
import PyProof.AttrMissHeap
import PyProof.RaisesMany
import PyProof.RulesTry
import PyProof.NsDelKeeps
import PyProof.Rows.FStr
import OpenK.KWalk
import PyProof.AutoListH
import PyProof.CallFns
import PyProof.Rows.SortStr
import KE.KDictSum
import PyProof.Draws
import PyProof.Rows.CallKwBuiltin
import PyProof.SumWalkG
import KE.KDictLaws
import PyProof.DictTruth
import PyProof.Rows.SortShellK
import PyProof.Rows.SortWalk
import KE.KDictList
import PyProof.MinMaxWalk
import PySem.Challenge.RW_graphpack_k19_where_webs_part
set_option maxHeartbeats 0
set_option bootstrap.genMatcherCode false
set_option genSizeOf false
set_option compiler.postponeCompile true
set_option compiler.extract_closed false
set_option linter.all false
set_option linter.all false
open Lean in
def xi(s:List Char):Nat:=match s.map λc=>"abcdefghijklmnopqrstuvwxyzABCDEFGHIJKLMNOPQRSTUVWXYZ_0123456789'!?".toList.idxOf c with
|[a]=>a
|[a,b]=>53+a*66+b
|[a,b,c]=>3551+(a*66+b)*66+c
|_=>0
open Lean in
def xp(t:Array Syntax):Nat→Syntax→Syntax
|0,s=>s
|n+1,s=>s.rewriteBottomUp λs=>match s with
 |.node _ k a=>if k==``Lean.Parser.Term.quotedName then xp t n (t.getD (xi s[0][0].getAtomVal.toList.tail) s) else .node .none k a
 |.atom _ v=>.atom .none v
 |.ident _ r v p=>.ident .none r v p
 |s=>s
open Lean in
local macro_rules
|`(command|mutual $cs* end)=>do
 let l:=(cs.getD 0 default).raw[1]
 if l[1][0].getId != `T then Lean.Macro.throwUnsupported
 let t:=l[3][1][1].getSepArgs
 return mkNullNode ((cs.drop 1).map λc=>let c:=xp t 99 c.raw
  if c.getKind==``Lean.Parser.Command.universe then .node .none ``Lean.Parser.Command.end (List.toArray [mkAtom "end",if c[1][0].getId==`zz then mkNullNode else mkNullNode (List.toArray [c[1][0],mkNullNode])]) else c)
mutual
def T:=[some,none,true,.int,`T Nat,Addr,(`p),.inr,pins,Option.bind_some,.inl,wpAny,.tup,`T D,.lst,by omega,false,Shared,(`O),base,`T Str,cons_of,.non,this,absurd,Expr,Value,X.env,Inv X `i σ H s,W.Frag,.str,Nat×Nat,decide,if_pos,(gv 0),`n->`cs,`T V,.nil,List.length_map,World,by decide,if_neg,Web ps,Heap,(`aS),List,`T `A,Bool,sizeLine,`A->`fH,`T Pt,List.map_cons,`a o,s.heap,.ref,(`s7 `a9 X.w),Web qs,xs.length,FnOk,Program,.cons,List.length_append,`d i,B₀,(v4 0),ps.length,s.heap.objs.size,(`s7 `dE w),.sh `vl,⟨_,rfl⟩,`a d,.sh `ck,0,`T Int,d::ds,H₀,`T (`aaN),g δ,X.xe,Int.toNat_natCast,`H rfl,(gv 1),Option,.none,(gv 3),`T `s5,FnScope,l.prog,D->Ds->`aD Ds,items,`a v,(gc (`eK)),D×D,Txt mg,.dct,D.int,fsc rfl rfl rfl rfl `el,by simp,`c0 H H',(v4 3),(v4 1),List.map_append,List.mem_cons,by decide +kernel,s.toks,List.getElem?_map,(by intros;rfl),rest,`a u,`k rfl,Rps K H B ds xs,`T α,.sh (`ek),List.not_mem_nil,or_false,X.prog,r.length,List.replicate,`a (.nx δ'),strOf,(gN 0),Env K H B σ δ,`a x,its.toArray,Around,pure,`ma `A,Vals,`E _,.sh `u',.type,`a y,(`hl),List.length_cons,Paired,(k:Int),wd ps,Bool.and_eq_true,(x==`tl)=`q,.seq,(·.1),δ.set,lean,0,X.calm=`c,Ds->`cs,False,`aD Int,.bl _,`Md rfl,A.in1,(gc (`c5)),`a `q,List.getD_eq_getElem?_getD,(λds d h=>U0 h),.Name,.Call,(i+1),ds.length,`m ds,(gN 3),(gv 2),decide_eq_true,(k+1),Nat.zero_add,PD X e g,(ha B δ),en.ex,Str->`mb,`E x,eval,(·.2),List.size_toArray,`h rfl,`T `z,List.map_map,mainGlobals,A5.mp,`T `f,(n:Int),(by rw[Z3 (`N8)];rfl),List.length_take,wd qs,`d _,D->`LV,`T (`aN),ObjOk,I.hok,.bool,.bl b,vs.length,gA δ,(`e9),(`Mi),(gv 4),(`br),(`k!),(0,0),X.N[i]?=`bd,(W8 I q `S),Rp K H B d v,Nat->Nat,caps,`aD D,`o ds,r.mono,δ[i]?,leans,List.range,(j:Int),(`BR),if_false,_::_,Option.map_some,D->`V,decide_eq_false,outer,scope,H p=`b,isTup,Pn.hd,Bw.z10,String,(v4 2),SubO,s.heap.get?,H b=`b,`o xs,q.to,l.length,`aD `f,`bi xs us,`P A6,X.mg,A7 e,`d j,A1 ?_,B1.mp,Same,(`AD H),`dq K `aw `ak H σ δ,List.getElem?_eq_getElem,k.toNat,
`d 0,(z9 `bQ v7),(gv 5),"_law_k",(by show 2<=`W;omega),List.length_singleton,Scope,List.cons_append,Ds->`ky,(`ay).bind,(`dD),RelV,`T Key,B7 _ rfl,`bl `ew,`aD V,starEach,(`aj),I.list,CallR,z.length,A0 ?_,0,W.nsIn,EnvS,(gv 6),.sh (`k_),h.len,C3.mp,`a `c,`a `b,PD X a ga,PD X b gb,Pw n p,Met ps r,.builtin,.ret,`ab a,prog,(λz=>nomatch z),s.heap.push,items.size,cpos,l.map,`T U6,`d `bq,List.length_zip,`d `fO,.sh `ql,Pt.d,Lv n v,T.b_tuple,b_tuple,(v4 4),Gl X x,`ab3=`mF::`tk,by simp at h,λz=>?_,List.replicate_succ,CoeFun,Gr H H' B B',h.nd,`fX hd,show (v.1,v.2)=v from rfl,Z3 `k8,Q.nd,`bl `ev,`T T,`m xs,bootBuiltins,`a c,B5.mp,`ab `an,I.tok _,s1.heap.objs.size,i.toNat,`a k,`a b,List.mem_singleton.mp,get_set,(o8 ?_),.sh (`nk),(`v rfl rfl),.sh (`k0),`d x,(`aY),qs.length,cm s,S.1.length,(dk S),(a,b),`T `fI,if_true,List.zip_cons_cons,`T (Str×D),"tuple","list",X.env.locals,backTo,qual,⟨rfl,rfl⟩,List.getElem?_append_left,h₁,ga δ,gb δ,`pJ rfl,flat,`a q,Gr.less,`T (`de×V),`d 1,(z9 `I v7),someO,(gN 2),.sh (`jv),List.append_assoc,List.range',gl1 v,`ah r t,`ae<=`W,HOk P w H h,X.N.Nodup,`dd y u,(I.ok.hd hc),x=`dD,`P `S,p.few,(`ab f),v=`dD,k _ _ `gq e,X.base,I.loc,I.len,I.tuple,compareOp,(`zA),`ab p,scope.names,`K->`zz,call,(`abq),s₁,(`acD),λa z=>?_,rawInt,IsPair,`o `uP,(Z7 v7),(gN 5),p.vals,`d k,(by rw[`M];omega),(`h4),prt ps qs v,v::z,(gN 4),ents,[`uT],(v4 5),(w6 `cM v9),List.append_nil,us.length,True,`T (`zl),`T Env,Vis `o8 x,λb hb=>?_,`dk hq,List.length_drop,Ds->`An,D.tup,(j7 M3 R0 `jN Z5),(by exact cok rfl rfl `el),`r->Prop,Stmt,h'.get?,hs.2,I.kIn,assign,`dd x u,(i:Int),(m:Int),as.zip sos,(a:Int),e.all,A2 e,`hI s1,`a r,List.map_nil,A9.mp,(gc `w),`d `cy,0<=k,(c+1),(i,j),¬`fn,λx hx=>?_,crs y x,n6 m,Option.bind,(by show 1<=`W;omega),T.b_len,(X8 `f8 `lm),FuncData,`cE `dF,I.free,(x==`abr)=`q,PE X e te,`dd x v,`y (show `tw from hs) A6,"int",I.laid,List.lookup_cons,`pJ (`bE),`pJ (`eF),k::ks,`P e,`y h `el,PWD.pt,Bool.eq_iff_iff,Sum.inl,H' b,(`a3),.frz,X.fs,
List.getElem?_set_ne,Hp->Prop,`dd v u,assignEach,{ s with heap:=h' },body,SqL K H a xs,ns.map,HT.sIx,0<=i,its.toArray.size,items.length,`mU K H B as ds xs,NB (H a),(X3 hp),z.elim,(`aeF),(gc (`d 8)),"_law_cell",`E "at",(gc (`kZ)),(oA `eL b7),(z9 `aF v7),(`B3),D.lst,(`qE),(n+1),.sh D',(`LX),(j+1),I.eq,oD o,Prod.swap_swap,(v4 6),T.b_isinstance,T.b_range,"_law_web_here",is_tup,I.ok.kind,I.bare,∀x,foldedSetIterable `i_ `B x=`bg x,args,λy hy=>?_,`ma (`mb),`d b,Ds->`py,(`cg).bind,`a (.ct δ'),`a (.bk δ'),RpO K H B d a,(`AN).any `bv=`q,`Mz κ,`T κ,C8 hl,nilB,(K3 v9),`mc a,s.TypeIs,A3 _,.own,es.size,`a `o5,.free,`KO x=`d9,X.stack,Heap.SameBut,St->`gu,`a `hp,(`K2),"enumerate","zip",[a,b],s'.heap,Room,A1 h,`E z,`ab l,D1 _,z.symm,(`LY),(`fQ),en.same,`KP=`ac0,`di [] `B,gx δ,n.toNat,(·++·),cutD,(upd H a o),(`pZ hb),e.bad,HT.lexLt,{ s with heap:=h',toks:=tk },`Bq `b_,(o2 `I `aM ixD),(gN 6),(z9 `aC v7),`o vs,`d c,.sh (`u2),.sh `nl,List.length_nil,(0:Int),x/32%8,.sh (`k6),pa ps i,L.length,.sh `Cq,s.1.length,Ta.os,.sh p.d,L.map,.sh (`o `vX),(`q0,`q1),(A4 h1),(`aid),(w6 u9 v9),List.nil_append,0,Array.length_toList,Bool.false_eq_true,a==b,α->β->Prop,`o _,`mj=`_,by simpa using hb,0,Loc `o8 x,`KU∨`abm,h.elim,(`Lh).any `bv=`q,0,kindOf,⟨_,ho,rfl⟩,"str",`o8=sc,`ay=`ar,RpW K H B ns a as sos,(hb B δ),p1.isList,z70 r,`adl=`mF::`hK,`H e,`ef h1,IsEnum,g1 δ,tgs vs,U4 `k8,`aD (`s5×Nat),O6 l1 l2,s'.1,AW ⊕ Out,(λcl s H ex=>zl0),`m l,A.units,Value.ref,`a `o1,.fields,x ≠`zp,`a .local,`o9=`_,I.cell,(`cX),`bg `q,B3 _ e,iter,binaryOp,(g i j),[`aj,`cY],False.elim,`an+1,List.getElem?_append_right,[`dD],.bl `c,codeAny,(`s7 P w),(E2 _),f2 b hb,gt δ,yx0 ds,`T β,RpL K H B d a,r1.length,PSsD,`k z,by rw[m9],owL i δ,O3 kvs k,tree,"reversed",pos2,(`ab e),e3.extBut,xs=[`e9],(`fO+1),(gv 7),`d 60,(gc (`ne)),"_law_some",[p.d],`o (nm.map `E),.ow `u3,.sh (`qo),Pn.put,T.reverse,adj x,`ee hy,P.getD,List.length_set,.top,crs x y,Y6 `vX,[`br,`b'],`v0 k,n6 `lg,`a [],.sh `Qs,`a `BL,(p8 `al u9),
(p8 `cM u9),U9.nd,"_law_many",(xg0 `wl),(w6 `aU v9),T4.nd,(`bY),List.all_eq_true,`bi xs its,`T (`aa_),Inv X `i σ H' s',λ_ _ _=>`bB,SqT K H a xs,step,A.handled=`b,x::xs,P.length,pl.isList,List.any_cons,(apos.endLine==cpos.line)=`c,hbase,hline,List.foldl_cons,`aP ks ds,∀a,`pK->B a,∀a,B a->`pK∨`aw a=`b,hidx,`aP _ _,.fn _ _,`ef h2,List.length_reverse,(D9 _),`d' hy,(2000:Nat)<=`W,`agv/\`agw,Pi ps qs p0 s,`vN b,`P2=`eo,(w60 `wl),by simpa using h1,KV kvs vs,"range",I.freeC,(`cQ),.function,`k q,`ab b,(`cZ),ys.length,(`LN elt [⟨tg,`i_,ifs,0⟩] `cG pos),`aD (`n),G1 δ,`a a,NodeOk,e.own,t σ H Q,`mY s2,en.b0,Pd.imp,(`adH),`bx d n=`c,rv.length,C6.mp,s1.free,(`kE),(`ac1),A2 h,(`p'),(`d!),C2 ?_,.Tuple,e1.extBut,List.length_range,h₁.objs.size,(`uQ),m_values,"_law_script",`d 2,`d `b7,`d `fR,x%10,`m `kW,`m `af0,(x:Int),rel f p,`d `k4,`OC `dP,(by rfl),(`qD),.sh (`Ct),zp ps qs q,h.few,([p0],[`b]),one x hx,A4 e,.sh (`vg),p.1=k,o8 rfl,(`C2),.val,([`cm],[[]]),(`Qk),O.len,"pair",(w6 `al v9),[`Bw],(p8 `aU u9),(w6 `aV v9),[`ng],t::l,`h x,`ah _ t,(by simpa using e),`T (`f×`cN),I.os,λp hp=>?_,Ends,.Constant,`zx=`b,`e6 hq,hf it `S,vals1 r,xs≠[],slice,V->`e!,⟨_,e⟩,List.flatten_cons,`P hb,List.forIn_cons,r.map,`P hc,(`Ai),h₂,`a `Ap,`cg=`mR,`h ks,RpN K H B as d v,RpG K H B d a,λ_ _=>rfl,`H hl,PID X tg `i_ gi,`H h,R5 ks ds q,`mf<sizeLine,`MO+1<cLine,EnvV.mk',`MR hi,decide_eq_true_eq,mul_r _ _ `g,D2 _ `g,List.nodup_cons,(5000:Nat)<=`W,closed,`Ax=`d9,[`qM],`P3=`Dd,S.1.Nodup,(λds d h=>v30 h),Array,`aD `A,h.get?,`hj=`_,TrK.T,kvs.length,`a (`hm a),`mf<=`W,(a==`s')=`q,`mc b,K.In,X.ex,X.s₀.heap.objs.size,I.pin,`cO a,Q v H',(`bK x pos),holding,.BoolOp,D.nx,swapsWith,Inv X `i σ' H' s',.Subscript,.Assign,Turn,xs[i]?=`bd,hf b hb,by simp;omega,I1.hok.fresh,-(2 ^ 62),.BinOp,(`q,`abp),ps.zip,getItem,(`zR),ht.typeIs,attributeBase,apos,vs.toArray,(o6 st),(`ab D),(W0 X `cG cl N' s H ex),δ[j]?,`a ds,B' a,`k ks,RpNs,`bp F l m,.ins C dx fs,`AE s2,s1.trans,env.same,`cu g,`a (.rf d),`iQ a,
x.length,True.intro,(`adm),en.fr,A2 h1,`cE `g,es.length,H b=`a (`m `ads),Rps.snoc,F.extBut,e2.extBut,flats,`zU "__next__",`Bq `bv,(o2 `bQ `bG ixD),`d 3,(gc (`BB)),"_law_part_here",(gc (`gM)),(gc (`jr)),[`BI],`d t,(`fZ),.sh (`d c'),.sh (`u4),(`v rfl `ei),`d `fP,.sh (`np),v=`w,(lkv f),.sh W,j∈r,j.toNat,.ow (`vm),qs[k].vals.length,pw.lv,w.length,(`vv),`o (`Cu),D0.mpr,a.length,`ab q,CloseOk,opened,dpN i δ,"_law_other",(o2 `cj `aM ixD),(`jG).drop,Rch ps qs `cm x,`o `k9,pa qs j,I.way,Nat.sub_self,n6 w,(A4 e1),x.swap,(v4 7),"_law_number",w80.nd,bindArgs,"law",Value.none,r.get,`k i,xs=[],s.gens,Unit->`fH,CmpOp,PE X a ta,(he `i s σ H _ I h),p.isList,(`mB),.func,ws.length,V->`bC->`bC->`zz,`d a,List.all_cons,List.reverse_cons,`T (Str×`f),Loc `o8 y,X.fn y=`c∨`ti y=`iU,`bN<=`W,0,r.live,Pd.set,f ds=`ar,PDA X `e8 gA,L2.PI.imp,(`ac9),∀cl s H ex,PGD `mP tg idx f,hq.to,by assumption,`gt n1,λj=>`adP,C8 hb,HT.zs0,g2 δ,.table ps,(ob (o2 `gJ `Br eqD)),(ob (o2 `gJ `Bt eqD)),D.str,Nat->`e,D7 _ `g,`cf=`B0,λv hv=>?_,decide_eq_decide,Option.map,(ls c m L P),`OB _ _ `g,x∈s.1,`O_=`eH,Run ps qs n s s' r,Pn.zq0 _,(ha.go B δ),`vN c,`L9=`CR,Cf S.1,`eo<4000,Ok ps qs S,`c_ hd,[`nM],qs++[`nN],(sm0 hr),`R->Prop,(`zg),`d i t,o.data,`aZ+1,SeqAt.EqAt,decide_eq_true_iff,xs.drop,(`d7),xs.map,h.objs.size,`d8 x,.cell,(`aL),`a `o6,X.env.scope,`cO b,b≠`ex,{ s with heap:=h',toks:=t' },λ_ _ _ q=>q,(`abl),K.lookup,(`ce),.Return,I1.fpOk,(hi - lo).toNat,I.kept,"min",scope.names.lookup,`Lw `bn,"len",`dm<=`W,(`hD),(`tN),H l=`b,.Attribute,IntsAre,ns.length,s₁.heap,(`Lt),Value.bool,(`acx),σ[j]?,`bK y py,`aD Res,t=`c,gi δ,f d δ,¬B a,ks.length,(`ab C),.deep,(`L6 s),`a `dc,∀a,B a->`gG,Or.inr,`ak a,`AD _,items.drop,(`ac'),Pd.app,(frz δ),g `pP,`T (`dK),`k e,"dict",M1.mpr,`aD `z,[e,f],`a (`uo),trivial,Gr.own,(`ku),b≠a,wf0 z n,deq d e,r2.length,k _ H `c1 `ug,(`dg),(`L5),Value.type,Obj.mapSeq,Nat.min_self,`ab z,h'.objs.size,`V->`fH,g5.objs.size,(`Nw),s.heap.update,`ab d,⟨hp,g,d,tk,os⟩,.rcd,
(o2 `aF `aM ixD),(o2 `bQ `aM ixD),(z9 `Bz v7),(z9 `bG v7),[`N9],(`hY),.ow (`afK),w.take a,`d m,nm.getD,x%8<4,Vk v m,`o (cs.map `d),.sh (`qs),`E c,h.at,(`af?),ded S,`cI v,L.getD t 0,(`Ch),qs[k].vals,qs.set,w.map nI,.sh (pN q),(Q7 7 8),Rch ps qs p0 x,C6.mpr,kd (`CB),`am+mo,"_law_one",(O4 2 `vT `bG),"_law_found",(z9 `I `hX),(gc (`d 6)),b.map,(lnk 0),pN x,.sh (`qR),[O,N,`C4,`qS],(Q7 1 2),`a `w,.sh `w,ex1 q c v s,s1.1,dd0 S,dd1 S,lnk a,lnk b,nI c,`fq S lo,T.b_list,"one","other","_law_pool_here",(Z8 C__law_cell_at hr `s (w6 `al `id)),"_law_way",vs=[],`E s,(`aaR),(a++b),`iP<cLine,r'.length,`cE h,`T (κ×`A),`aD HO,v=`aj,∀b xs,H b=`iR->`gp=`iR,X.outer,(`KV).1,spliced,`KY op b=`q,`a `pc,(`pd (`a e) pos),V->`zz,`pe `bn (`tt),D0.mp,(∀b∈fp,`te),`A->`Lb,(g i),.NotIn,P.Nodup,0,List.getElem?_replicate,(`kt),y::ys,ws.toArray,`a j,value,(`mw a b pos),.bl a,`E b,hplain,`pq vs ns,λ_=>rfl,λ_ _ h'=>h'.elim,CompOk sc `cG X.N N' n `cr,X.N[i]?=`bm,`m _,(`ay).map,`T `V,∀a,`mS->B a,.fn ks ds,List.take_succ_cons,`T `cN,(λ_ _ z=>nomatch z),`d n,∀cl s H ex,PFD `mP ifs gt,∀cl s H ex,PD `mP elt ge,"bool","isinstance",(`jh).bind,`bN=n,(P2 ..),`ee hx,`fX hx,KT H kvs xs,v::vs,⟨_,h⟩,Meets,by unfold deq;simp,Bool.true_xor,T9 0 n,List.getElem?_range,Heap.size_push,not_or,`ad6 z TI TO i1 i2 l1 l2,`ff `aa TI `Nf `Ng,`ad7 i1 l1 k1,`ad7 i2 l2 k2,`Bb l1 xs,`Bb l2 ys,List.forIn_nil,e5.extBut,F.toList,.text w,.row vs,nameS.cps.toList,"order",(Z0 `I),j4 rfl `eg,.sh `u0,λi hi=>?_,λu hu=>?_,i<ps.length,this.symm,tgs `fj,t/60%4,List.map_take,Gw.v90 _ _ `s,u5 ?_ rfl,wl0 _,s.1++[x],Wy s q w,pS ps qs P s n `gS `nA (`OT),s.1.Nodup,Lv `am v.1,Lv `em v.2,`eR=`bd,`pD<sizeLine,`c3 F,`c_ he,r.idxOf a,List.getElem_zip,(A2 q),D->`n->`aD (`aN),(xn0 `bG `ahk),`vW=`bd,Wi' s i w,List.getElem_take,⟨ha,hb⟩,`P3=`kA,Lw w c S,p50 h,`P5=`bd,S.1[j]?=`a2,`ee hd,[`ap,`a6,`bk,`nw,`ej,.un,.un],N5.nd,[`g2, `gL],[`g2],T7.nd,C__law_head,[`qK, `nI],(`F),"function",model,o.cls,Sum.inr,sysModules,(P0 P w),q.2.1,F a b,
`fJ b,b≠e,sc.names.lookup,`gp=`b,`tb=`_,λ_ _ q=>q,σ.set,X.env.scope.names.lookup,AllBare,`di es `B,("__debug__" : Str),(ha `i s σ H _ I h),λv s1 ⟨x,H1,I1,r1,q1⟩=>?_,ok.kind,pos.line,`bZ o `B,s.heap.IsTuple,λb o e=>`iZ,`mC `bn,(`K8:Int),(b,o),`q=`c,[x,y],.bl k,A.deeper,`zM `ez `cG `an f cd,(`bL `Li `e8 [] pos),(`bl T),lexLt,richCompare,(`d a t),IsPart,IsTup,(1:Int),s3.heap.objs.size,`gB `ae 0 lo,atI xs i,`a `kr,`o ys,sliceBounds,its.length,(eqU x),(`z3),.dK kvs,(`tq),`a n,(`z9),callerA,(`acx).In,(S7 st),W.keepIn,caps.length,cl.lookup,NameKind.cell,`o [],b=`c,T.obj,(`acK).names.lookup x,`b5 e1,DL.Ds,.sh d,(`bO),ge δ',H a=`_,`At xs,(`t?),`pD=`ae,Rp K H B d x,Pd.get,List.getElem?_eq_none,by rw[n8],(`uf),rs.length,List.drop_eq_getElem_cons,`pM `bM,G `AJ,`a (.rt d),k _ H `c1 ?_,rr.length,.ow d,Q5 ks q,ks.map,([]:`acp).length,(if ([]:`acp).isEmpty then 0 else 1),en.same.trans,`bZ `kH `B,`mZ s1,`bK y p3,z.cps,`o es,`ma GenState,(`A!),putAt,`cO c=`_,c≠z,field,J.extBut,(`m `tx),(s1.mono g2).to,ns.drop,.ellipsis,gv δ,`T (Key×V),Int×Int,a.map,(j - i).toNat,(`gA `d),`Bq pr,isWord,`ba l,"part",`E "table",(o2 `aF `bG ixD),`E "shared",`E "",(gN 7),(by have:`N'<=`W:=h;simpa using `x),`m (`BK pr),(`fg),isName,`E S5,(`t2),`E (`ba w),(`bq+1),w.drop (a+1),[`a6,`jx,.sh (`d (`k1))],[`a6,`dO,`eO,`Of,.un,.un],(b:Int),(`dL),`bq%l,λ_=>`p,xs++[x],`jy p vs,(z9 `c7 v7),T.length,o.length,(y00 `ck),`o `Cc,`m [v,w],Gw.xb0,`o `Cg,x%(`em:Int),(`b'),`o `qB,A.map,λd hd=>?_,`a (q,k),Res.nx,pN `f1,(`Nl),Pn.ni0,(`OH),.sh (nI k),s.2.length,exs q k z s,(`fo),pa ps q.1,r.idxOf j,b.length,(`h5),dr ps r,r.take,.sh (`c5),Pn.nb,Pn.z30,`d `Pe,(`vj),getD_mem,A2 `x,`hS ms ns,sub.lookup,`vN a,(yc0 N j p b ds),rm0 `cv,ns[k]?,.dK [],(z50 2),(o2 `c7 `aM ixD),`a (q,c),s.1[i]?,(`vn pN),A[i]?=`bd,¬`jF,(m+1),A.take,W3 `jH,Y5 `ahF,(by show `Oi;omega),S.2++[`C2],`a y',`i5 `bn,(`b5 e).1,S.1.zip S.2,kk0 S.1,kk1 S.1,`cI v.1,(`C3,`PD),(.sh (`jJ)),FB (fS ps qs S l `lj w q `ic s11 s12),(gN 10),.sh (`nQ),
.sh (nI q.1),.sh (nI q.2),(wS ps qs S (`q3) s4 s5 s6 s7 s8 s9 s10 s11 s12),Prod.swap,.sh (`Dv),(.sh (nI j)),.sh (`vI),hr.units,(V6 `al u9),zf0.nd,C__law_vals,(`zN x x (K4 st) `tY `mN `aE kV doc pm an cdv ct),(top 38),(`iO),(`kn),m.length,(`d5),forIn,`k k,`P h,o.ExactDict,`oX=.dict es ep,entryOfKey,by rw[`aa9];exact q,b∉ex,base.Ns `b4 mg,X.base.get? b=`_,List.filterMap_cons,A8 _ hb,frs `hr,b∉ch,`mn p hp,s.drawn,`V->`gu,`bi vs us,(`abt a [op] [b] pos),PT X a tA,Inv X `i σ H `gx,x=`aj,r=`b,pyIter,A1 hQ,(by simpa using hu),⟨_,`df,rfl,rfl⟩,`mD<=j/\`abJ,Gl X `kp,`cW `kp=`b,Call_,PE X b tb,(`i0 .Add),(`i0 .Mult),V.str,"max",`hA k A,(`mG us),PA X `e8 t,bindL,bindC,N.length,`h `eA,⟨`p,`p⟩,y=`ku,`aD Nat,N0 `g,(by simp only[`b0]<;>omega),H l=`tM,`pr<=n,sd0 `ps H,`H hb,n<=`W,`H hc,s2.heap.objs.size,`k hb,by subst F;rfl,G2 δ',gt δ',`gE<=`W,[`ct],∀o,`t!->H' a=`_,as.Nodup,h.at',(RpL.toO rfl h),`Az=`kA,(`pI),(o2 ga gb f),PTD X a gt,PDA X es gA,PD X `tB (oA gA f),i<items.length,⟨_,en,e2,λvs H' s' r=>?_⟩,⟨v,e,`m_⟩,PDF X e g,hf ds d h,"all",λK d=>by cases d<;>kernel_rfl,Decidable,p2.isList,`hA m X.A,CompOk sc `cG N N' n `cr,k<2 ^ 62,uh0 e,`H q,`P q,H a=`z5,`adv<=`W,by have:=xk0 kvs k v;omega,`cv=`adA,i<δ.length,`gt n2,PX X e gx,to0 e2,s1 _ _ hx,(`uv).mut,Nat.mul_comm,⟨_,rfl,h⟩,q1.to,(`b5 h).1,(z9 g v7),`jj d=`c,by simp[h],`p!=`i4,M.extBut,[e,z,TI,TO,i1,i2],(`uS),(U5 `I V8 (`eM `aC)),ue0 _ _,zq0 _,Pool nm,T9 0 `b7,tu0 hj,.sh (`hZ),(yb0 `ei `g `g),by rw[`b9];omega,za0 `g `fl `w,x/16%4,o8 (Z2 (`BX)),`bR h,Dfs adj S c o T r,(`h q),adj i,r.Nodup,`m [_,`cY],List.any_eq_true,`qv hi,y00 `ck i,h.lv v hv,(`k5),⟨s',?_⟩,.sh (`Cd),h.adj,Pn.Pl,`H `g,List.drop_zero,qs[k].d,`fX z,(`agn),(s.1++A,s.2++B),f=g+1,`nz<=4000,v∈`k!,q∈s.1,c8.mp,(`O0 j),(λj=>`vA),`bR q,Y6 `Cc,`vH `agI,`ee he,(`cx (m - 1)).map λk=>k+1,(gc `Ao),`a (`pF sub),j<=`bN,AtN K H B σ δ i a ns as sos,nrf dv=`c,Pg ps qs p0 n k s,wlt a b,`v0 m,Q.way,(hA _).mpr,(`nN).vals,S.2[j]?=`ed,(`Da,`v4),
`P5=`bm,All ps qs n S o,`h o,`P'=`a (.ow (O5 p (dkN n0 n1))),Ea.qv0,(`aie),`a (.rt `De),`aD DL.Res,two hz,o=`w,[`C7,`C8],Ta.sl0,(w6 u9 `id),(X4 `al u9),(X4 `wm u9),FnN P w K mg `t `DN 1 `lq j5,[`qK, `nI, `QL, `q9, `CX, `CY],"_law_told_at",`bl `s6,⟨hh,gg,dd,tt,oo⟩,`s8=`d5,`fJ a,beq_iff_eq,κ×V,p.1=q.1,SubOk,H b=`mg,"__name__",`a p.2,X.pn++`i,I.base.free,λb o e n hb hx=>?_,I.ok.above,List.getElem?_set_self,isTrue,`cW x,its.size,Hp->VK->Prop,e::es,setItem,u10 X `i H b,I.list_inj,I1.kept,s1.toks,(`q,`K9),(`oW),`G (j<i),r x y H Q,sp vs H Q E,h v B0,envOfC,W.fnOf,(start N vs),(`dB id),(`d c u),`ab t,sIx `dH 0 lo,(`ab sl),Str.ofString,Builtin.Tuple.tupleExact _,V.int,typeLookup,qs0 xs lo hi,(`pj),(xs++ys),2 ^ 63,`a `KF,(by simpa using hw),`m ys,(`tS),`a `z4,(.dT kvs),(ho `i s σ H _ I h),`cO l,`cd `c,(`ab fa),`a `z',s₁.heap.get?,BindsTo,`a (`gr o `kr),`pi y,env.cells.lookup,(n,k),`abd x,.next,ForInStep.yield,λ_ _=>`bB,target,`K->`gu,X.env.scope.kind,X.env.kindOf x,`aD `V,(.bl `q),(`ct),`a (`LW),(`i?).bind,`a δ',ks.zip,SqT' K H B a xs,SqL' K H B a xs,r.same,as[k]?,.dK `ua,l[i]?,(SlR K H B),`a (`L!),(by simpa using hl),Same.refl,r1.same,k H' s,λi H2 g2 hi=>?_,`c0 H1 H2,(V5 n `cr gi f gt ge),(W9 N ds),isL d=`q,`bK Tn p2,(`hK),`ey pos `AM,(λx=>!x.1),`eG d=`c,kv.1=k,List.find?_cons,putK kvs k v,valueAt,h1.symm.trans,atKey,`a `z6,(`pS),dd.typeIs,Pd.impI,b≠p,λa z=>z.1,en.frz,"append",(`mw `kH e pos),(`abp),setAt,λq hq=>?_,(`z0 - 1),`cw ds n=`c,Rp X.K H B d x,ds.zip es,`ab I,(rx.same s1),`ad4 `kP,s.heap.IsList,xs[k1]?,h'.IsListIter,`cd `q,Builtin.SmallTypes.nextOf,`iV->`tf,I1.list,(i:Nat),gk δ,(`MX hp),[`a ke],F.same,`bK z p4,q.symm.trans,`bl `hw,ps.map,(gc (`NI)),`E "row",(gc (`Bs)),(gc (`uU)),`E "record","both",o2 `aC `qg ixD,(z9 `cj v7),(gv 8),`E "value",`d 4,(z9 `I `c6),(gc (`d 9)),(Q0 `N6),U4 (`N8),Pt.table,Pt.rcd,.sh `afF,`m `NJ,(`N!).map,(`i7),`d z,(`gA `aQ).length,pl.map,cg ((p+4*`cy)%36),λk=>`ba (F k),o8 (Z2 ?_),(c:Int),s.cps.toList,[32,48],.sh (`d st),
(`cf:Int),b8 `no `c9,`Bq `dP,(`BY),(`va).length,p.vals.length,List.length,x∈o,o++[x],x∉S,(gc `BL),`cf<=12,(ob (U7 `cI `I)),p.vals.map `ns,(`af6),ms W k l U o T `fm,(kd (U++o)),(`k `k4),.ow (`Ot),.ow (`o (`Ou)),(nd r),`aP (`k (kd (`qx))) (`Ox),L3 rfl,`cJ p,(nd P),L.eraseIdx t,(`a `b7),List.drop_of_length_le,[`b',`ek],(`em:Int),(z40 rfl (by show 0<=`W;omega)),qs[k],`jy `Cn (`OF),(.sh v),(`en),bk.map nI,(Pn.vt0 _),`m [`agq,`k3],s.1.map pN,w++[k],h.inr,L7.mp,okp ps qs x,(`agC),ps[x].vals,`vE j,`d `agF,(`Pb j).map `ns,[`br],(`Pd),`jC j 0,ps[i].d,λj=>`CG,`d `OA,(zr0 ps _ rfl),#[a,b],Kp h0 h',`agO=`c,L2.closed,us.take,`bN+1,`a so,sos.set k so',`a ns,at'.same,[0,5],(ob `ag7),"_law_first_here","_law_second",(gv 10),(o2 `Bz `CZ ixD),(gv 11),s.1[j]?,w++[c],lnk x.1,.sh (pN y),(`uN nI),(`PN),`o `C5,`o `C6,E7.mpr ⟨`aS,G0⟩,Z6 hp i1,Z6 hq i2,¬`f4,S.1++[x],S.1[i']?,¬crs y' x,`a w,(`gY),`a `De,(O4 2 `vT `aM),(.sh (`ah2)),dT ps qs p k2' m `ia `Dh `ah4 .un,nI x.2,⟨h1,h2⟩,nI x.1,(x.1:Int),(x.2:Int),`c3 hj,fS ps qs S l `lj w q `ic `wa (`qW),(`Ql,`v4),(`aif),(s50 5 6 7),`lh w,.shr a b,`o (`h! nI),(`a6),.sh `vJ,(v40 u9),b_list,"are_links","head","linked_pair","way_to",(J0 v9),(w6 `dT v9),(w6 `QA v9),"_law_turn",(V6 `aV u9),"_law_value","_law_mix",[`gL, `c8],"_law_numbers","_law_vals","_law_with",[`ng, `jt],"_law_cell_at",[`kY, `c8],"_law_led","_law_more","_law_head",(p8 `g_ u9),(v4 10),K2 X9 G9 a9,F9.kp,F9.binds,(h.trans hl),(`bX)->`oU,`N->`oU,typeLookup_type,builtinLookup_eq_fast,y.cls=`zg,(`s7 P W),Iss h l vs,j<l.length,`iP+n<cLine,(i==j),Bool.not_true,(`E x t),`cE e,by simp at e,(xs.take n),L2.SubO,H b=`a2,v=`bY,`ab c,`iS vs,∃o,`md,Paired.mapP,∀b u,`KI,k b u q,`a ob,Un.kept,b∉`gs,`KP=`o7,I.ok.bs b o e,`iW x c e,s.heap.FunFrames,(`kq x c e),λx c e=>?_,(M b o e hx),(`zs b o e n hx),`abh b o e hx,I.step,I.base,N.Nodup,λ_ _ x=>x,`cd b,(`ms .And (`KZ) pos),(`ms .And `abv pos),Operator,standAt pos,`mr `abA (`zB ov iv v),release `abA [],`bK x pos',
PassesOwn `ac X.A `B `az,It->`gu,rv.get hx,λb hb=>(`mA).1,λh' eb=>⟨rfl,`K6 (t':=`aZ) (λb o hb e=>eb b o hb e) f0 f1 f3 f4 f5⟩,`abK=[`zG],by simpa using q,(hi `i s σ H _ I h),r xs H Q,Int->Int->V,(tOp r ta tb),0<j/\`abR,OpR X (`e7 op) r,`H hj,`P hj,(`dB `ph),PA X es t,(vs++dvs),⟨us,[]⟩,sc.names,Str->`aD `ab4,((p,w)::`Lk),vs.map,`k h,i<vs.length,`eB (`Lm),`pb f,if v<0 then (v+`b7).toNat else min v.toNat n,((`ab':Nat):Int),s.heap.IsSliceOf sl vl vu `aE,`tG vl lo,`tG vu hi,`P `s,`H `s,`a i,(`acd),q _ `zZ,IsTupN.new _ _,`ae+`kw<=`W,seqIndex_of,i<xs.length,subscripted,SqL K H p xs,`kw<=`W,`y (show `tw from fx) A6,xs.all yi0=`c,`c_ hu,(`b1),xs.dropLast,xs.eraseIdx,xs.reverse,(λ_ _ q=>`Lu),x=`hD,Array.getElem?_toList,Nat.succ_mul,l.most=`tU,(λv _=>v=`i7),`pu `c,h.Ns `b4 mg,`zN x `ez (K4 st) `tY `mN `aE kV doc pm an cdv ct,`aH N ps `mN,`iP+1<cLine,`h h,(`hE),by rw[← hs3],Y.extBut,(`t6).1,⟨?_,?_⟩,`a `Ao,`a `t9,`aD Sl,Ds->`aD (`bC),.bl (bs.all id),by simpa using hj,u6 G1 G2 δ,(`av),g _ _ n h,by unfold Rp at h ⊢;exact h,by unfold Rp;rfl,by conv=>lhs;unfold Rp,⟨x,rfl,h1⟩,by rw[m9] at h;subst h;simp[m9],s _ _ e,`Aw s,by unfold RpN at h ⊢;exact h,`acX=sos.length,(RpG.toO rfl h),h.same,`zv hl,`ue `AC,`kC j k a ds es h1 h2 h3 h4,∀v H',`aT->`Ma->`mp,∀σ H Q,t' σ H Q->`kD,(by rw[U8]),⟨x,en,e1,`ac2⟩,(`mX),Op2 X.K r f,Rps K H B ds vs,`c0 `aw H,PGD X tg idx f,ww0 (i:=i) hN hi hx hf,T6 (h1 `aw `ak δ) vd0 `i s σ H D I `Mk,PTD X c gt,⟨r,en.grow s',e1,k⟩,λv σ H Q=>∃B d δ,tDG X.K idx f B d δ v σ H Q,(hi B δ),en.same.nf,`gE - `bM,List.drop_length,i<ds.length,bs.map V.bl,(show u=`m1 from ru),λ_ _ _ _=>`uf,Y2.mp h,(`ey `dI (`adl)).all `AO&&`Mx,(`ey `dI `AM).any `bv=`q,λv H1 s1 r1=>?_,(hr.mono hk),(hN▸ok),q40 ds,m20 i δ,`n->`V,`d' hx,(kvs.any `MH),(`ji),Rd H a `z6,Inv X `i σ H s',on0 `cc e,(p30 ry),k80 `cc e,(rq0 `cc eb),`dd v r,Pd.get',e.at hi,`ef e2,⟨_,hi⟩,`y rfl n3,⟨B,`Mt,`adh,e⟩,(gc (`adG)),[`adH],EnvV K `aw `ak H σ δ d v,
`k ⟨rfl,xs,`k (`k hx)⟩,rx.length,`gt (B4 h2),`gt (B4 h1),.of_wp,Rps X.K H B ds xs,by rw[`M5];omega,T0.mp hn.symm,dxs.length,`kK hk,(`bl `M?),(hT 0 _ st),W.frame,(`zy:Int) - 1,`cW `jk=`b,Gl X `jk,zc0 pr.1 q,⟨rfl,λe u he ru=>?_⟩,IsZ `aa z TI TO a f,`l _ _ (`uE `kP 2>>=_) _ _ _,A0 (B8 hz rfl (x:=`Be) rfl ?_),`l _ _ (`uE `kP 3>>=_) _ _ _,A0 (B8 hz rfl (x:=`Nj) rfl ?_),A0 (D4 hTI rfl ?_),`l _ _ (`Ba>>=_) _ _ _,A0 (`Nk),`l _ _ (`Bf `Nf>>=_) _ _ _,`l _ _ (`Bf `Ng>>=_) _ _ _,D.i1z.symm,Gl X `hw,`cW `hw=`b,(`kS elts x1 tpos),(H0 _),t1.length,`Nq=`c,`ff `aa TO a b,A0 (A0 (l3 ?_)),A0 (I0 `kv),e4.extBut,But p H H',`ji=`b,At d es ep `aa,setField,A.in1.handled=`b,by simp[hl],orE g1 g2 δ,isLs H p,(l7 _),ur0 ds es,(`gA `aQ),`qf c ps,`m [_,`aj],S5.cps.toList.getD,(tupI (o2 `I `NM ixD)),(ob `aeI),(Z0 `fY),(T5 4 `fh),(Q7 0 1),(ob (o2 `BE `bG gtD)),h d B0,nb d=`c,List.take_of_length_le,(1000:Nat)<=`W,`d p,(O7 rfl),`c_ q,λk hk=>?_,`a `ql,`bR h0,`cE h0,za0 `g `g `w,0<cs.length/\`afS<=1000,j5 `ju=`afB,Pn.z90,h.len.2,`bR `S,(20000:Nat)<=`W,`a (`vg),`N'<=12,(p.1:Int),(p.2:Int),Lv m w,P.vals.zip R.vals,gl1 (v,w),`d (`h6:Int),0<L.length,(P++[`qz]),c%(`h6:Int),(t:Int),`P `g,Nat.min_eq_left,`d `Cl,x/60%(`nx:Int),[`ap,`a6,`bk,.sh (`OG),`h0],(`agm),(os W o T s3 s4),`T Bk,s.2.map cD,(cD b),lk s q b,⟨f - 1,`p⟩,`H `fl,by rw[o7 (ds:=[`Ct]) rfl];exact ke0 i j,List.mem_map,(9000:Nat)<=`W,(`OU),`cK ?_,`OI=`OJ,`Cw q hm,vp0 hp hq i1 i2 hv,(mem y).mp hy,z[j]?=`aL,`a (q,j),n<s.1.length,λx hx=>`Cx hx,h.len.1,u20 _ _ (by rw[`M];have:`O8:=h;rw[`x,`M]),I.img i hi,`cE q,j<r.length,.sh (`O!),.sh (`CC),Pn.dg0,rel g q,s.idxOf,Met qs s,Eqw ps qs r s,SL `CF,(`nq),b<qs.length,x/`Ph%(N:Int),`a! (`qJ) (Pt.text "b"),Bool.true_and,P4 P6 _,if `c=`c then _ else _,(A2 e1).symm,(`vO).isSome=`c,OpenOk,F b _ q `dF `dF,(λa=>if a=p then `b else H a),`CQ=n,λd=>d,qj0 ds,by unfold RpN at h;unfold Rp;exact h,by unfold Rp at h;unfold RpN;exact h,(`aP (`k (ks++[q])) (ds++[dv])),`o [zw0 1,zw0 2],by rw[F];rfl,
[`qK, `nI, `CX, `CY],s.2[i]?=`ed,`k `g,(a++[x]),La.Pi ps qs `cm s,`ui hl,Ta.wt0,x≠y->`vZ,hp.len.1,hq.len.1,key x hx,Rch ps qs `cm `f1,pa ps x,Ta.so0,S.1[n]?=`eH,S.2[n]?=`Dd,`k S',s1.1.length,show c+`gW=c+1+j by omega,n<S.2.length,Y4 `qU FO (`P9) δ',`Bj=`a dk',`uK=`a dv,R7 dk'=`eH,((R7 dk').bind λq=>_)=_,`H ⟨nv,hz⟩,h.symm,dT ps qs p k0 m `ia .un .un .un,(`Di),`k `Dm,`k `Dn,(`Da,S.2++[m]),`Qb hl.symm,(4000:Nat)<=`W,⟨_,`x⟩,w∈S.2,h<=`eo,(`aic),.sh (`Qg),(`vz).vals.length,(`Qo),y.swap,(sw S.1,S.2),(λz=>h (q70.mp z)),(by rw[rv0,g];rfl),[.sh (`nM)],.sh `De,[.sh (wd ws),s1,`bk,`dO,s4,s5,s6],List.mem_range'_1,[`ap,`a6,`bk,`nw,`ej,`jL,`wi],`OB _ _ `s,`OE a (lnk `em),(top 1),"pair_names",(vu0 (p8 `al `Dy)),(top 3),"values","paired_walk","are_parting",C_head,"parted","first_crossing",(d7 J2),"_law_pool","_law_values",(top 19),"_law_part",(w6 `fs v9),"_law_web",(top 21),(top 22),(d7 `al),(top 23),"_law_drawn_web",(R9 u9),"_law_changed","_law_order",y40.nd,(p8 `dT u9),(top 28),"_law_from_root","_law_places","_law_renumbered",(top 31),"_law_other_link","_law_unlike","_law_first",(top 35),"_law_is_way",(d7 ss0),(top 36),"_law_is_kind",(top 37),"_law_asked",`af P9 w9 K mg b9 CX0 n f fd ps (spD K m),FnD P9 w9 K mg b9 x n ps m,"__class__",`bu `aK n,`oX=`Kz,`aaQ (hss w l),Is `aa t v,Value.int,Value.str,{ cls:=`dg,data:=`bu `be n },`f×`A,b=a∨`zo,`mj=`a2->`tb=`a2,`gr ob u,`a (`gr o u),.tbl ps,`a (`KL),`td x=`ho,X.env.cells.lookup,σ[i]?,I.base.keep,I.base.slot,(λ_ q=>q),σ.length,X.fn x=`c,`b5 hi,I.base.tups,I.base.frzs,behindInMarks,b::`a1,.UnaryOp,its.toList,`bg `b,`ab it,pyNext,`ae<=i,h.IsListIter,I.turned,{ cls:=`bl `kp,data:=`iS #[`d lo t,`d hi u,`d 1 v] },(0:Nat),`bZ a `B,(`aN5),(`aN6),`bZ b `B,`di [b] `B,`A->Sem `A,`d j u,{ s with toks:=`oY },`G (i<j),`d (if k then 1 else 0),I1.laid,`ey pos (`tk),(`aON),vs[i]?,P.zip vs,E7.mp nd,by simpa using hi,W.codeIn,sIx `dH `dH hi,`Lo - `zS,Builtin.Tuple.tupleItemsOf,(`acb==0&&`tI==1&&(`Lp)==`dH)=`c,(`aO6),`gA `zW,B3 _ q,
`gB `ae `ae hi,I.hok.fresh,r.drop,`a `eb,-`b7<=i,eqV y x,`d `dm,{ cls:=`dg,data:=`bu `mM },d.name,`tj s'.gens,⟨[u],[]⟩,by rw[q];simp,Params,l.row.toRowW,N'[n+k]?,(`pw).join,NameKind.free,k==`LL,.ListComp,`a `pn,s2.toks,`T (Str×`A),(`aPE),`bg `c,Sum Int Str,`T DL.D,D->`cs,.nx δ,`bw i (`t8),R8 n `cr δ,V1 f gt ge `hG `aK,Rd H a `kr,`ub/\`a4,`K->Prop,xs=x::r,Rps.mono,`L3 g r,`aP (`mT) ds,Gr.same,Rp.mono,λ_ _ z=>z,sos[k]?,RpD K H B ns a,.ow ds,`a (`t8),Rp K H' B d v,(`aPK),(`aPL),Or.inl,by rw[W6],(by rw[X5]),λv2 H2 s2 r2=>?_,(`kE).trans,h B δ,`mt σ H,⟨_,en,e1,k⟩,(q.mono g2).to,by rw[`uh];exact hi,B b/\¬`ak b,(`L6 s2),`ada sm,(gN i),`adf/\`AK,L2.start,λ_ z=>z,Txt.slice,(g' i j),k _ H `c1 (`Me),(`acm `dI `acn).all `aco,Binds K fd ps [],DecidableEq,R5 ks ds k,`m `z_,`mD<=n,n<2 ^ 62,`ae*`c4,(`a! `c4 xs).flatten,dictSet,λkv=>`G (`AQ),kvs.map,λz=>e (h1.trans z),rel.val k,rel.length,(`aP'),Paired.length,X.A.units,λb z=>?_,⟨a,rfl,hb,r⟩,env.at,(`a `ch),(b1 a z),λj k a ds es h1 h2 h3 h4=>?_,∃(i:Nat) (d:D),`adE,⟨v,e,`cu (`eI `A0)⟩,Gr.fresh,en.mut,`bK x p2,`dm*`hM,`ma Nat,z.cps.size,fin _ _,`bx e m=`c,`dd y w,in1_units,M.length,J.length,A.in1.units,hz.2.1,(`kL hl),(`aQL),"list_reverseiterator",`A->Prop,`bL (`bK `jk p2) [e] [] `jl,O3 `ua q,(`aQ_),(`aQm),(`ab i1),(`ab i2),c≠i1,c≠i2,`ab TI,A0 (`kR),by show 2<=`W;decide,ys[k2]?=`b,"StopIteration",`bL (`bK x2 p2) `e8 [] `jl,`a `tR,trees ds,items2,(`aRt),Q `kQ `gx,`ab TO,{ cls:=`bl `pT,data:=.dict #[] },λa=>B a∨a=`an,"setdefault",H p=`z5,(`K3 `hv),"dict_keyiterator",·.setIfInBounds,(`fe `jp),`b7 - 1,λ(k:Nat)=>`zW (i+`bq),`di [f] `B,`l `ao A (`Bf `kP) Q E s,`bL (`bK `hx p2) `hy [] `jl,`E "text",(`aSI),("" : Str).cps,⟨_⟩,(`aSK),(`aSL),(`aTU),(`aT9),(`aQY),(`aUH),(`aUO),(`aUY),`d 2147483647,`d 48271,(`aVr),(`aVq),(`aW_),intOfD,(`aYg),(`aYk),(`aYm),(`aYn),(`aYy),(`aYE),(`aYL),(oA `c6 b7),(`aYw),by kernel_rfl,.sh `afC,(`hU).length,(`nc).zip vs,`a! 8 w,m4.mpr,`E ⟨#[`BP]⟩,`d `BS,.sh (`Oc),x'*48271,
.sh (`d (x%8)),((st+`fR)%8).toNat,((st+`u9)%8).toNat,3<=`W,.ow (`o acc),`bq*(`bq/l),`a_r=3,(-1:Int),[p.d,`hY],`m (xs++[`k2]),.sh (`Oo),`nr∨(`af1)∨∃j:Nat,v=`k3/\j<n,`d (f j:Int),if x∈a then a else a++[x],`o (nd o),nd `jz,(`a_T),Gw.v60,nd (`qx),(B4 e),(`a_1),(`am:Int),Gw.zh0,qs.map,`qB=[],qs[k].vals.set,`OE j v,`o (`OF),s.1.map k2,`cJ (`ago),`cJ (`agp),pa qs q.2,`a (p,k),.sh (cD (`OL)),e1.trans,Pn.es0,Classical.not_not.mp,e.symm,(k2 x),`m [v,u],.sh (`OS),pS ps qs P s n `gS `nA (`k'),s.2++[`vp],`m [v.1,v.2],pS ps qs P s n `gS b c,z.take j,¬`a0b,s.1[n]?,(`k!).take,(`vz).vals,(`OK).vals,(`a0c),[`br,`b',pN p0],.sh (pN p0),λv hv=>⟨hv,hn v hv⟩,f a=f b->a=b,`cf=`N',sub_len,(x::T).reverse,nums r `a',wd (`vD),Z6 h `Cz,p.vals.take,lkv f v,r.zip s,(mo:Int),.sh (`dN),`jC k 0,(`fO+2),P.take `am,h0.get?,`o (ms.map `d),z.same s1,(.sh kd),(`a0B),us.drop,`a (r,b'),δ'[j]?,(`ac_).imp,(`a0N),(`a0Q),(`a04),(`aYo),(`aZh),(`aXQ),(`aUE),(`aUF),(`a3d),(`a3f),λ(k:Nat)=>`bq,lnk x.2,(`a4O),x.1=y.1,x.2=y.2,`G (`PF),[`h?,s1,s2,s3],A[n]?=`bm,pN A[m],.sh (`PK),c7 [`o `vX],`qP nI,c7 [`nB],`PO=`qV,`v1=`a (`ahD),(`a4R),(`a4U),`v1=`qV,[`as,`ap,.sh `agA,`qW],`vB<=4000,`v1=`a (`ahE),`c3 hi,(`C').2,(`C!).2,`uN `bv,(C0 F),pa qs b,S.2.length,S.2[i]?,Go ps qs w c `vy S r,S.1[i]?,`b5 h1,exs q c (`OY) s,`qY++[x],`nK `bS,δ[2]?,(`nD:Int),ux0 w2 w1=`c,Ea.yg0,List.zip_append,`aP (`k (`v9)) (`qZ),(`a1A),`aP (`k (`v')) (`q_),(`a1E),`o `O1,`o `O2,o4 (x:=`Qg) (y:=`q2) rfl rfl,wb0 h1,`fq S h,S.1++[`eq],lvl S hi n,lvl S hi `gT,W9 M6 `jH,q60.mp,(`a3I),(`a5A),(`nN).d,[.un,`ap,`jL],Ta.zr0,`qB[a],60 - `OA,(`a5R),"came",[`Qy, `ll],(v4 8),(top 15),"_law_count",[`nU, `jQ],(`a6k),"_law_value_here",["_law_name", `QF],(`a7a),[`ng, `DM],(`a6T),"_law_j","_law_known",(`a7k),(`a5?),isSubtype_type,`dB "object.__class__",`aaO `e0 `s6,⟨_,e,c⟩,Fin->`fH,`mb->`fH,by unfold Is;rfl,dep t<=n,X0 _ _ _ _,X1 _ _ _ _,X2 _ _ _ _,i5 _ _ _ _,F _ u rfl `g hi hj,u8 hab ?_,Q `c s,(`go a:Key),(`s9 a:Key),∃t,u=`KD i t,`ah r _,
by simp at e;subst e;exact`aaX,⟨u,`kn,h2⟩,Vals.append,(`o0 n),`T (Str×V),o.dict=`b,⟨_,`df,rfl,_,rfl,rfl⟩,`T `me,by unfold TrH at h ⊢;exact h,`mh/\`mi/\∃vs,`ko/\`aaZ `s! a vs,es.toList,(`aa3),h1.get?,`cb P w H h a o,∀a b,`aa7,`a (`KJ),`o3<=a,H a=`b,(x b u e).stay,Mut (H x),e=x∨H e=`aa',∃u,`fJ e=`a2,`a (`hm y),by subst z;rw[r] at mu;exact mu,`a (`aa!),∀b o u,H b=`KK->`gp=`KK,k b ob q,(upd H x o),`mk `t,builtinsNs,`abc∨`KN,X.env.globals,X.s₀.heap.get? b=`_,`T (`dh),`an<=a,`abf/\`o'/\`abg,HOk `a9 X.w H' h',(`aNB),`KR b o e n hb hx,id `e4,Inv X `i σ H `o!,k b o (λz=>hc (by simp[z])) e,λ_ _ e=>e,σ'.length=`KT,Q () s',`mo=`_,(`fK b (B9 (C7 `iX `zu))).trans,`gt (B4 hj),I.ok.has,(`fK b (B9 (C7 `iX (I.ok.cab x c O hc)))).trans,V->`gu,(`aND),wpAny_Name,(`aNF),`pb a=`_,`a `dj,r.inj r',⟨σ',H',`aby,q⟩,V->V->V->Hp->(`gu)->Prop,`gw es `B,PE X o to,(`aNP),`abB [tg] e `tp `B=`iY,`abC [tg] e `B=`K1,(`gw [tg] `B).map `b_=[`fM tg `B],(`aNR),Int->`abD,u10 X `i H' b,Nat->`oU,tn i `aa,J.go i H,letOwnedTupleGo,J.yld i H x H',J.stop i H,Bool.false_and,∀xs,`gz->`mz,`d (lo+i),⟨o,e,λv z=>by rw[d] at z;cases z⟩,λh' F sb=>?_,`K6 (t':=`aZ) `abF f0 f1 f3 f4 f5,Int.mul_one,(∃xs,`abI),`zE (t':=`zF) `ts,(`dG `K7).objs.size,PA X [a] ta,boot_range,PI X tg `i_ wi,I7.unpinned,(f v u),Int->Int->Prop,0<=j/\j<=1000000/\`abS<2 ^ 64,au0 x y=`c,`G (x=y),λi j=>.bl (`Le),λi j=>.bl (`zI),vals2 r,λh' tk k=>⟨_,H,`pg k,?_,q⟩,(show `bB from r).elim,A.depth,(`aOM),∀vs H Q E,`zK->`cf=`am,`hA k X.A,r.append,`i3 hq,λw hw=>h w (A8 _ hw),`Lj=`aL,λ_=>`b,`i5 (`Lm),List.getElem?_take_of_lt,List.length_replicate,`Ln K cdv `ez=`c,(`aOS),`dl X `tC r,`o4=`a `tC,(y4 _ _),(`aOY),Builtin.Slice.slicePlaces,A0 `kv,tupleItemsOf_,Subscript_,{ s3 with heap:=s3.heap.push { cls:=`bl "slice",data:=`iS #[vl,vu,`aE] } },`e6 ha,r1.append r2,`H h1,seqIndex_neg,(`ae:Int),operate,IxR X r,SqT K H p xs,`E `ach,(`z0:Int),H p=`tM,I.write,`tO lo hi `b n,(if a then 1 else 0)==b,
a==(if b then 1 else 0),yi0 x=`c,(`dB `pk),SqL X.K H p ys,SqT X.K H p ys,`cc p _ hk,(`zA).length,l.eraseIdx,acc++its,H `an=`b,I.lstM hH,⟨_,e,rfl⟩,(`aPl),⟨e,?_⟩,Nat.add_comm,OpenLaw,d.params.defaults=[],mg `LD=`z!,s₁.heap.Ns,`hA k `tW,∀(s:`r) (u:`A),`Aa s fd `LF [(x,u)],SqL K H a `pt,`ma `acw,W.OpenLaw,.FunctionDef,`tZ K `e0=`c,`t0 y=`d9,x.2=`hp->∃c,`t0 x.1=`d9,`Ae::r,λx hx=>h x (A8 _ hx),`c_ hx,λ(n,k)=>if `acG then (n,`t1) else `Ae,if (`acF&&`Af==`ho)=`c then `t1 else k,Nat->`fH,`acI b=`_,(x,`hp),(`i!).2.1,as.2.2.2.1,`mu `kx `LR spos.line `B=`LS,A0 (Y1 (`dn)),`a (`fM (`px) `B),`T (`LT),(`eD).bind,(`eE).bind,Y4 f G `aK δ,(`aPG),`n->`ky,λr=>y::r,`a (`G (i=j)),sIx `ae 0 lo,`pB=`As,by simp[hp],(`av).length,`kz=`a?,by unfold u6;rw[h],`T (`de),.dT `ua,(y==`tl)=`q,by simpa using e1,by simp[m9],RpNs.mono,by unfold RpN at h ⊢;exact `L7 g h,`kB K H B as n so,`cu g `L8,∀(k:Nat) C dx fs,`acZ->k=0,`m es,(show `bB from h).elim,∀o xs,H a≠`Ab,m[i]?=`ed,l.set i a,(upd H p o),Rp K H B dx x,k _ H `c1 `Mf,(`fU).same s2,fun σ H Q h=>op0 hf h,`P hl,(`fU).bad,FnR X.K r f,(vs++[]),∀a,`pK->NB (`aw a),`aw p=`b,PSD X st G,λj hj=>?_,`mZ s',Gr H₁ H B B,PDA X [a] gA,if `Mn then `b else H1 b,i<=`gE,`ui hlt,`c3 hlt,λi j a ds es h1 _ _ _=>(uj0 h1).elim,Pd.impG,by simpa using z,λa z=>`jf,`kw<=i,λH5 s5=>?_,fun σ H Q=>∃B δ,tDT X.K B δ gt σ H Q,(`aPT),(`aPX),Fun K x `ez st fa fd,`di [`AL] `B,eqS dx dy,L2.atI xs i,mg x=`z!/\`tZ K `z'=`c/\`My,(`pQ).bind,(zu0 s),ds.eraseIdx,(R7 d).bind,`up=`c,nr0 i δ,J7 xs ys,deq x y,`cw xs n,⟨(`a! `hM x.cps).foldl `hN #[]⟩,`m `MF,`hO xs lo hi,`mc d=`_,{ s with toks:=`aZ+knd.draws k },knd.keeps,o.isSome,`dd (kV k) u,Rd H a `z4,upd H a `adt,H a=`AW,`s'<s.heap.objs.size,(`aP9),(A80 hu),∃q,`zj=`eH,kj0 `cc e,`cf<=`W,by rw[← `ML];exact z,PE X o td,`T (TE×TE),List.set_cons_succ,(`aQe),`k `pY,`h ⟨d,rfl,e⟩,`hR b z,d8 `x,Gr H H' B `pN,λb u n h=>⟨λz=>`gI n (Y7 h hp),s _ _ h⟩,en.same.free hp,`aQg s,`m5 j ds a h1 h2,DL.fz d,
`k `adF,(λo h=>h),`H hf,`G (([e]:`b2).length+`ur+`us<30),xs++[v],kk.toNat,`fM `A3 `B v,`mr [v] (`uu),`mr [v,ov] `A4,k _ _ (en.s.mut s1 b1 b2 hi F J),(`aQn),`gw `adI `B,`adJ<2 ^ 40,Int.natCast_mul,Str.empty,`H h3,Array.size_append,"tuple.__mul__",Value.notImplemented,items.isEmpty,beq_eq_false_iff_ne.mpr,(`dH:Int),its.toArray.isEmpty,`gD*`c4,by unfold J7;simp,view I ld hx rx,view I le hy ry,`gD=`bN,by rw[`b0,← `kJ,`un],by rw[`b0,← `M6,`M7],(`aQB),⟨q1,q2⟩,Bool.not_false,`MO+64<cLine,(`aQJ),Int.zero_add,`a `p6,∀i s,St i s->`hk `uA `M?,ItemsOf P acc' n,(λ_=>#[]),updateSeq,its.reverse,Array.getElem?_eq_getElem,(`dG _).objs.size,`cW `ew=`b,Gl X `ew,(`t?).map `ad1,k v H2 `kM rv,ds.all `eG,(`kO).symm,`bl `hx,`mo=`a oa,`l `ao A (`Ba) Q E s,`Bc=`bd,ys[k2]?=`bm,`Bd i1 l1 (k1+1),`Bd i2 l2 (k2+1),`ff h' `an x y,(`aQ9),(`aQ'),D.i2z.symm,h₄.get?,λo e=>`iZ,`Bc=`b∨`Nm,k b o hc e,{ s with heap:=h',toks:=`oY },`d i `aZ,`Bh h1,A0 (L9 ?_),D.TOz.symm,a0.extBut,wj0 `aa z TI TO v f,`hk `kP `hx,⟨_,hz,rfl⟩,(`Bj).bind,(`aRJ),r2.mono,`na ds=`c,[a,b,c],`gw `aew `B,But a H H',`T (`uM),At d es ep h,newTuple,λq=>V.ref `s?,`cS - 1 - i,j - i<=1000000,List.range'_succ,`bL (`bK `kp p2) `pW [] `jl,jt0 K=`c,IsEnumOut,`ab `kV,⟨`eC,g,d,tk,os⟩,(D8 a5),j90 (s:=`qe) hl,⟨_,he,rfl⟩,SqL K H b ys,i<es.length,(s2.mono g2).to,`m [x,`aj],m30 v=`c,PsOk ps,`h (`k ⟨i,rfl⟩),l.toArray,(gc (`Bv)),"number","_law_places_here","_law_at",(`aVt),(T5 3 `fh),(pp0 3),(`aV0),(`aXs),(S9 2 `aF),(`aYh),(`aYl),(`aYx),(S9 1 `aF),(`aY5),(`aY8),`kX `ju=`afB,ih `afH,`bx d 50=`c,∃z,Y0 [`fg,`fk]=`a (`BM),(`a_b),(`cx 8).map,(O7 ?_),λs hs=>?_,(`N?).flatten.length=8*n,by simp[wl];omega,`fX hs,[`nm,`eh,`h_,`ds,`qm,`h0,`nn,`ej,`afM,.sh (`Ob)],(y:Int),D2 _ `s,(100:Nat)<=`W,`a (.nx `u7),(nl 6 _ h6),(x/20%2),(10000:Nat)<=`W,`d `afQ,c∈ki0.cps.toList,`qp `eb "",`a (.nx `u8),hp.names,s.length,`E (`ba (`BT++`BU)),`G (`qq),0<m/\m<=1000,⟨2,rfl,`p,`u?⟩,(frz _),(`a (-1)),V9 `On=`afV,`d (-1),`e->Prop,l.Nodup,
λy hy=>hT y (A8 _ hy),hT x B0,(S9 3 `dr),Wb.getD i `w,λu hu=>h u (A8 _ hu),o7 (ds:=`ju) rfl,yy0 D' `nl=`af3,(tt0 hv),sn0 p _ `B9,S.length,(`a_P),λz=>z h,`o (nd (`jA)),[`nt,k,l,.ow (`o (nd `gQ)),`af!,`Cb,`h4],List.reverse_append,x<ps.length,c<=5000,y<ps.length,H i hi j hj,(`agb),List.idxOf_cons,beq_false_of_ne,`pr<=63,h.pw p hp,ob g δ,Q5 ks (k2 p),`qy=`c/\`cI w=`c,okv L v w,`Cf=`cJ q,`cI q.1=`c/\`cI q.2=`c,t<L.length,`d `age,12345*`agg,by rw[vc0];rfl,List.take_length,gh δ=`a (`k_),`a (`gR `MF),[`ap,`a6,`bk,.un,.un],[`ap,`a6,`bk,`nw,.un],.sh (`vm),Ak0.mpr,`ny u z,`a_4 k,(`k7).drop `bS,h.pw p z,(T++[j]),A.Nodup,A.length,`vn λp=>p.1*n+p.2,`jj v=`c,zx0 `vo,`a (`vr),b8 `no `vs,[`as,`ap,.sh (`vh),.un],prt ps qs (v,u),.sh (`nB),gl `cl,`h8=`vw,hp.len.2,q.1<ps.length,q.2<qs.length,λx hx=>hx,`H hx,`P hx,List.getElem?_cons_succ,(∀v∈`k!,`f2),pS ps qs P s `gT `gS b c,Y5 `O4,⟨[],`jE ?_,`aS⟩,(all x hx),(`h5).vals,`nD=`vB,(`agD).2,[`br,`c5],(`a0f),(`k `agF),nd (`eQ 0 j),by unfold kd;rw[`M,`b9];omega,(`Pa).2,[`h',`gU,`jw,.un],.ow (`o (`CD)),.sh (`Pc),o4 (x:=D') (y:=`dN) rfl rfl,pa ps r[i],pa qs s[i],(`a0j),`a (.nx (rs ps x mo P qs' (`Pf))),rel (`CI) ps[i],`qJ<=60,`d ((`qJ:Nat):Int),`Pj I=`b,`Pj S=`b,s.heap.IsTupleIter,`tr T `CL,Kp h0 `aa,`i8 `ao A (`dB `agJ ⟨[`A!,`aE,`ab S],[]⟩) R s,Walks.tuple (prog:=`dE) (w:=w) (A:=`bF) hh I T hTI `CL,`aek P6 _,`l _ `bF (seqItems? (`ab S)>>=_) _ _ s,D4 hS rfl,`l _ `bF (`agK (`K3 `uA) _>>=_) _ _ s,kk S _ (by simpa using hSI) hS,λx o e=>?_,(`agN `ph++`agN ".loop" : `cL) = `agJ,(`ab q'),deq (`Pk) `u0,(λa=>`gG),`a (`uy),g3 `gV,(`agQ).set jk `Pm,if `tw then _ else _,(all _ (yk0 lc)).1,H c=`mg,(yk0 l),`CO H a sub c,`a so.ho,(A2 z).symm,`aD ResB,.ow (O5 p b),∀p,EndB G `vP j p r b',mkB n N j G b ds,`m (`bY::ns),`bK y px,ws0.mpr,nrf d=`c,by unfold RpN at h;exact h,by unfold RpN;exact h,(`b5 h2).1,`nH=`CT,(`nH).bind,nrf r=`c,`a (r,δ),`a (.dK (k1.zip J)),`a (.dK (k2.zip M)),`o [`ab p1,`ab p2],(`agY),[l,p1,p2],(`a0V),(`a0W),(`a1w),
(`a2J),(`a2Q),(`a2Z),(`a2?),(oA `gP G3),`C1=`eH,La.ex1 q k v s,(`b5 hb).1,`a (`C3),FI `qT,`a (.rt `PE),(9:Nat)<=`W,(`PH||`ahx),⟨λh=>?_,λh=>?_⟩,`c3 hl,FO `ahB,`du hx,(`t6).2,∀x,`nL->`Cy,∀x,x∈[(`K8,`K8)]->x=`cm,∃j,Rch ps qs `cm (y,j),a<ps.length,`cJ (pa ps a),`cJ (`P1),`eR=`b,x∉S.1,(`a46),Out->Prop,Sim s S,(`a49),(`P6).1,(`a4'),w0++[c],(`P8)++A,s1.2++[`vV],List.mem_take_iff_getElem,`a (.rt `ahU),[`h?,`bk,`qS,s3],[`h?,`bk,`ahX,s3],(A4 h2),`ahY≠`ahZ,`v1=`Df,small o,`a (.rt d δ'),`a (`v!),`P!=`ah1,`G (b1=b),¬`a5f,W2 `ep [`br,`b',`f5,`C3,`PD],.ow `ep,.ow (`o fr),.sh (`Qh),`O1[c]?=`a v.1,`O2[c]?=`a v.2,(`a5k),q∈S.1,(`k!).drop,Ok ps qs S',(S.1++A,S.2++B),(`aii).2 x hg L,Y4 `Ds LB (`Qm) (lS ps qs S l `aik s5 s6 s7 s8 s9 s10 s11 s12),`eo - lo,λj=>`f1,(eb0 L),xz0 _ 48,[.sh (`ail)],[.sh (`aim)],(ez0 o).le,o7 (ds:=`jH) rfl,(`a5C),(`a5D),i<qs.length,`cJ (pa qs i),`cJ (`nN),V1 `bb `CW `I `Qt (I.map nI),(`a5E),⟨qs,j4 rfl (u5 s1 (u5 s2 (u5 s3 `eg))),h⟩,(`a5I),`OE a (`aip),(top 2),[`q5, `q6, "start"],(top 5),[`q5, `q6, `Bw],(`a6a),(top 6),(`a6b),(top 7),(top 8),(top 9),[`q5, `q6],(top 11),(top 12),(top 14),[`gL, `DH],o6 `QB,(X4 `DI u9),(top 16),(top 17),[`nU, `QC, `jQ],(top 18),[`nU, `jt, `q7],[`aix, `jQ, `q7],(top 20),C__law_mix,(V6 `fs u9),T.b_int,(`a6G),(top 24),FnD P w K mg `t `DO 1 `DP V9,[`kY, `aiy],(top 25),(top 26),(tv0 3 `dT),(top 27),[`gL, `jQ],(top 29),[`g2, `gL, `DT],(top 30),FnD P w K mg `t `DU 1 `lq m5,(top 32),(top 33),(`a7h),(p8 `fs u9),(p8 `nT u9),(top 34),(v4 11),(`a7q),C_parted,`dp K `b4 x=`a (`a `e0),`af P9 w9 K mg b9 CX0 n f fd ps (spN K m),FnN P9 w9 K mg b9 x n ps m,`f×Obj,(`zh:`r).TypeIs,items.toList,Builtin.Tuple.tupleHashOf,by simpa using h2,`aZ+drs done,Nat.add_assoc,by cases z;rfl,by rw[z],⟨λz=>`aaU,λz=>`aaV⟩,⟨_,rfl,r⟩,∀f,RelO (fs.lookup f) (mA f),h.DictOf,`de×`KG,`dd p.2 q.2.2,`zm/\H `s?=`a (`m (p.1.map kV))/\`aa0,tupleKind,`aa2 `s!,(`o2 `bv).Nodup,(`aNx),TabOk H h a (qOf ps),`ta->G a b,W.methodObj,d8 (Y7 q hn),
`a (`hm x),`gr ob u',`tb=`a o',d8 `aNy,`aNz b,`td x=`iU,env.kindOf,∀x c,`hq->c≠b,(`aNA),(`abe)/\∀p∈`zr,p.1≠b,I.base.there,I.base.tbls,by rw[e];simp,`o9=`a2->`tb=`a2,`th i `o6,`ti x=`iU,storeName,λb o e hx=>?_,`bZ e `B,EP X `i σ Q,("__classdict__" : Str),I.mod.glob.keeps I.bk,.Compare,`zw e `B whole,(a::`KZ),`zy<=`W,Array.toList,I.unwish,Q σ' H',[v,ov,iv],swapsWithSole,swappedStores,Int->Int,λo e=>k it `S o e,(`aN2),λys hy=>by rw[`zD hy hq];exact hx,`tr a `be,SqL K H1 a xs,j<2 ^ 62,`di [a] `B,(`aN3),λus s1 ⟨vs,H1,I1,r1,q1⟩=>?_,`di `hy `B,(`q,`K?),(`aN!),`l `ac X.A (f `zH (`Lc)) Q E s,j<1073741824,i.natAbs,-(2 ^ 64)<i/\i<2 ^ 64,-(2 ^ 64)<j/\j<2 ^ 64,`d (i+j),`d (i - j),`d (i/j),`d (i%j),`d (i ^ j.toNat),`G (x=`w),`E (i++j),(`aOn),(`aOu),`di `e8 `B,NameKind,(L5 hv).1,cellsFrom,b∈([]:`b6),`a `zP,hc `i s1 σ H1 vs us Q I1 r1 q1,sIx n 0 lo,sIx n n hi,(items.toList.drop (`zS)).take (`Lp),"__getitem__",((`zS:Nat):Int),(`aO8),λb ob q=>`Lu,(i+n).toNat,ixN `ae i,seqIndex?,⟨#[c]⟩,its'.toArray,(`aPa),(`aPb),(1:Int) > 0,backToKw,(`aPk),(λx=>x.1.isSome),`T Keyword,(`ey `dI (`tk)).any `bv,`a! k xs,`a `LC,⟨`i6,[]⟩,(.call `z' `act),(`aPp),DictEntry,K w.params,(`aPq),H b=`_->`gp=`_,`pi y.1=`iU,N'.length,caps.map,N7 n `cr σ,Str×`ab4,`LM&&env.scope.kind==`ks,(`aPs),s2.heap.push { cls:=`dg,data:=`bu ([]:`U).toArray },h₁.get?,(`i!).2.2.2.2.1,relabel `cG `B,`Al==`ks,`Am==`ho,PG `mP tg g,PF `mP ifs tt,PE `mP elt te,(`aPD),i<2 ^ 62,bools ds,(·.length),Txt.join,H a=`a (dOb ks xs)/\dLn ks=`ae/\`a4,`mV->`bp G l m,as.length,`a (`mW),`L9=`acY,h.own b hb,`a (`pH),y70 (i:=i) hN hv hd hcd,λv1 H1 s1 r1=>⟨y,`fU,e2,`Mg⟩,by rw[W6] at r;exact r,by rw[`jd];exact hl,`cv=`AB,(`aPM),⟨`AG,λi H2 x H3 g2 y hi=>?_,`AG⟩,k _ H' s' `ac7,by simpa using h,λa=>B a∨a=p,RpO K H' `pN d p,B a∨a=L,s2.trans,(`aPF),`T PySem.Env,`hA k (`tz (`zM `ez `mN `an fa cdv)),(sq0 CX0 P w K mg `t N `ez `mN fa cdv A `cF s H E).nox,`uk=`m0,`uk=`ul,λ_ z=>`jf,(un0 h1).elim,bs.getD i `c,
Env X.K H B σ δ,`di [e] `B,`bw i (`uo),ds.dropLast,`eG x=`c,HeapKind,`hs d `aa h',`AV xs k,(k.map kV),(.dK (`AS)),(.dT (`AS)),(`AS).length,`T (V×V),`di `pW `B,`ey `dI (`adx),(`q,`bZ f `B),`a (.ow d0),ro.plain,λj ds a h1 h2=>?_,`cv=`pX,`adD/\`hJ,⟨z,q⟩,`aP (`k []) [],`bK x px,[`MZ,`uw],(`W:Nat),(`a! `c4 `aK).foldl `hN #[],r1.nil_iff.mp,foldl_rep,ds.getD j `w,es.getD j `w,deq (`adN) (`adO),Rp X.K H B' e y,(`aQC),s'.heap.get?,`a `aQM,.error e,{ cls:=`dg,data:=`bu #[] },Builtin.List.listExtendWith,`dG `adV,`a `p5,(`q,`bZ (`Nb) `B),`ey `jl `AM,(`aQU),λp=>if p.1=q then v else p.2,⟨_,F,_,env,e3,λiv H1 s1 r1=>?_⟩,loadIfAlive,Builtin.SmallTypes.ownedTupleIsFree,(a:Int).toNat,ZipApart,s.heap.IsListIter,`uC->`fJ c=`_,`Nh->`Ni->`ad8,(`aQ4),(`aQ8),h1.extBut,hl1.extBut,h2.extBut,D.i12.symm,hl2.extBut,`bl `Nn,{ cls:=`d5,data:=`bu #[u,w] },(`aRj),∀ys,H a≠`Np,(`aRl),plain_eq_loop,Around.under_plainId,Q' `c s,(`aRw),(`aRx),D.TOi2.symm,(∃o,`fJ e=`_/\`s8=`aee)->E `jm `gx,(`abs).lt,`b4<s.heap.objs.size,(.dT []),pairTrees_length `Bl [ve] `B pos rfl rfl,pairTrees,(`aRK),[`MZ,`uw,`Bn],(`iQ d==`aE)=`c,Q `pm (upd H l `pn),`aSx - 1,(`aez),(T9 i j),`d i tk,{ cls:=`d5,data:=`bu #[`aeC,x] },(`q,`bZ (`NH) `B),o2 `I `bG ixD,F.toArray,(`aSX),(o2 `aF `fY vr0),o2 `I `uV ixD,(`aS8),(`aS'),o2 `I `nd ixD,o2 `aC `qh ixD,(`aTg),(`aTq),(`aTy),(`aTE),(`aTO),oA (z9 `I (z9 `aC `qi)) O2,(`aTQ),(`aT1),(`aT7),(`aT'),(`aT!),(`aT8),(`aT?),(`aUd),(`aUm),(`aUo),(`aUn),(`aUp),(`aUt),"abcdefghijklmnopqrstuvwxyz0123456789",(`aUL),`d 36,(`aUX),(`eM `jq),(gv 9),(`aVh),`d 10,(`afa),(gc (`NV)),`E " 0",`E " a",(`aVP),(`aVQ),(`aV4),(`aWa),(`aV7),(`aWe),(z9 `aM v7),`d 12,(`aXF),(`aXI),(z9 `nf v7),(`aYi),(`aYj),(`aYq),`d 240,(`aYI),(`aYM),(`aYT),(`aYU),(`aYY),(`aY9),`d 12345,`a (`o `fj),(`BG ps).d,(`aZ1),(`aZ2),(`BH c ps).d,(`aZ3),λe he=>h e (A8 _ he),`a (`d (i*j)),`d (c/8),`o (`BO `d),((`cx j).map `BQ).map `E,.ow (`o (`afL)),(`a_h),(48271+7*k),(`a_i),(`Oe%2147483647),vs.getD j `w,cs.length,[`qs,`np,`jv],
`m `BZ,`a (`vb).d,(A8 _ z),(oA `vc b7),(`a_D),(`a_F),o2 `I `dr ixD,[`gM,`fZ],∃z,v=`BM,(o2 `I `aC ixD),`a (`Or),[p.d,D'],`o (`B8),by rw[`M],(`a_L),`d (`vd:Int),kd (U++`gQ),nd U++td `gQ,.ow `a_V,by rw[M4];omega,ms W k l U `gQ (`jA++T) `fm,`k `cy,[`fg,`jr],(`a__),((`qz:Nat):Int),(`Ch).length,(`agf:Int),[`gM,`k0],`m `agh,`m [`gM,`c5],`a (wd rs),(`nx:Int),by rw[`ai,`c'];omega,ex1 q k v s,pa ps x.1,pa qs x.2,`m [`gM,`dN],(Pn.vt0 _).le,(`qD).length,(s.1++[`f1],`OV),.ow (cm `agt),x.1<ps.length,x.2<qs.length,itm `bS z,`cJ (pa ps p0.1),`cJ (pa qs p0.2),(`m [`en,`w]),⟨z,rfl⟩,m.lt i hi,Z6 hp `Cz,tl0 hp `Cz,(r[j]:Int),`a0h `dP,(`agG),λe he=>?_,"min.loop",tryCatch,`a1 s'=`a1 s->∀Q E,Q (`cd lt) s'->`l `ao `bF (`tE .Lt b a) Q E s',(`a0p),toString,(`a0r),(`m [`aj,`fg]),`bw i .un,(`a `mI),(`a v6),`a (.ow (O5 p b')),λH' B' b' r'=>r'.toL,`c3 `g,(`a0u),kvs.find?,`a0U sos,(`aYr),(`aYp),(`a02),(`a05),(`a06),(`a09),(`a1a),(`a1c),(oA `c6 m5),(`a1d),(`aYv),(`a1j),(`a1l),o2 `I `qh ixD,(`a1z),(`a1D),(`a1F),(`a1J),(`a1G),(`a1K),(`a1M),(`a1U),o2 `aC `bG ixD,(`a2i),(`a2l),(`a2u),(`a_H),(`a2S),(`a2_),(`a3K),(`a3L),(`a3P),(`a3R),(`a3X),(`a4u),(`a4C),(`a4E),stp ps v k,`G (`PG),[O,N,`C4,s3],`m [`np,`PK],`nK `v_,[`h?,`nq,`PL,s3],(T8 sl h2),`m [`BA,`nM],`m [`uW,`C7,`C8],[`br,`b',pN `cm],(`aUA),(`a4P),(`aUD),.sh `ahH,(`m [`en,`nM]),[`as,`ap,.sh `ahK,`qW],`a `agA,`a `PE,`nD<=4000,([`cm],[`b]),λx hx=>by rw[`lb];exact⟨p1,p2⟩,λx hx=>by rw[`lb];exact hh,λx hx=>by rw[`lb];exact `jE,A.find? λx=>x.1==i,(`m [pN y,`qR]),(`a4!),(`a `bq),.sh (pN A[k]),`cJ (pa ps 0),`cJ (pa qs 0),dT ps qs p b m v .un .un .un,[`br,`b',v.1,v.2],(`vB:Int),`m [n6 w1,nI b1],`m [n6 w2,nI a1],(.sh (`ah3)),`m [`d (w2.length:Int),n6 w2],`m [`d (w1.length:Int),n6 w1],if `P? then `ah5 else `ah6,`m [`f5,`Dj],`m [`f5,`Dl],dT ps qs p (dkN (`Qc) n1) m `v? .un .un .un,dT ps qs p (dkN n0 (`Qe)) m `v? s6 .un .un,i'<i->`Db=`v5->`Dc,⟨u,hu,e⟩,hc.trans,by rw[`dM];omega,.sh (`q2),fS ps qs S l fr w q `ic `wa s12,
fS ps qs S l `lj w q s10 s11 s12,λo e=>?_,ow0 hp hq (l:=l) O hw hh F f1 f2 s11 s12,(`aih).2 hc,(`a5y),(`fq S hi),oD (`Dt),oD (`Du),[.sh (nI i),`ap,`jL],(`a5F),lnk L[c],C_linked_pair,(`a6d),C_way_to,"_law_signs","_law_word","_law_start",(`a6w),"_law_cells","_law_most",(`a6K),(`a6R),C__law_with,Result->`fH,"__getattribute__",(`dC `oV),codeAny_call_builtin,`E `Ky tk,hh.get? f=`bm,∃t,v=`oW,∃t,v=`E x t,∃(a:`f) (o:Obj) (items:`bh) (n:Nat),`e1/\`md/\`zi/\`KA/\Iss h l `aaP,`U->Prop,∃v r,vs=v::r/\Is h x v/\Iss h l r,hashStr w x,`d6->Nat,∀a o items n,`md->`KA->`zj=`_,by simp at h1,Int->`fH,"NoneType",A0 `aNj,Value.builtin,`P (by rw[beq_builtin_none];exact A6),callSpecialIfBoundUnlessNone?,"__hash__",wpAny_ret_mkInt ?_,`hk `dc `ev,⟨o,ho,hc⟩,A0 `aNl,Array.forIn_toList,Iss `aa J `a1,{ s with toks:=`aaS },by rw[hl];simp,(`aNm),`aNs=`c,A1 `aNu,λj=>`G (l.getD j `w=m.getD j `w),`G (l=m),`KC->Is `aa u v'->`oZ A s v v' (`G (t=u)),by rw[`gn,`o_,`zk];exact`aaW,SeqAt.EqAt.tuple_none,SeqAt.EqAt.tuple_int,SeqAt.EqAt.tuple_str,Value.isInt,Value.isStrOf,`k ⟨i,t,rfl,e⟩,N0 `aNv,(P0 `dE w).is,`ma UInt8,`T (`aD L2.V),`T (L2.Key×L2.V),∃t,u=`KE x t,`bi ys ws,`dd p.2 q.2,TrHs H l xs,cont.toList,H dx=`mg,fs.length<=1000,`hj=`a (W.instObj C dx),∃mA,h.Ns1 dx mA/\(`aaY)/\PySem.Within mA (fs.map `bv),(`aNw),`aa4/\ep=`hn,`me×`KG,`aa5/\`zn P w H h a p.1 p.2,a<h.objs.size,(show `aa6 from x),∀b u,(`KH)->`KI,∀b,`zo->`gp=`mg,k _ _ hb e,⟨od,es,ep,k _ _ (`h d) e2,c⟩,⟨z.1,ht _ _ z.2.1,z.2.2⟩,k a _ `gq e,`a (`aa8 `e0 (`ab y)),⟨o,`e2⟩,`cb P w H h a u,∀b u,`tc->`KI,∃sl,`tb=`a { o with slots:=sl },∃o',`aa?,∀b ps,H b=`KM->∃more,`gp=`a (.tbl (ps++more)),k b u (hb b n) q,by rw[`aba];exact q,`abb=`_,∀x:Str,`iT->mb x=`o4,Mod X.K `cW `e3,`KO y=`d9,X.H₀ b=`b,X.s₀.heap.FunFrames,s.heap.Ns `ex m,s.heap.IsCell c v,`cO p.1=`zq/\H p.1=`b/\p.1≠`ex/\p.1∉`gs/\∀v,p.2.data≠`o5 v,`iV/\`cP,(I.ok.noex b o e),I.ok.funs.mem hb,`cP->`te,
Inv X `i σ H' { s with heap:=h',gens:=g',drawn:=d',toks:=t' },λz=>(hch c z).2.2.1 x c e rfl,`abi b ps e,λi x v e1 e2 e3=>?_,λz=>(hch _ z).2.1 rfl,⟨_,J,M,hL,r'⟩,(λ_ _ _ _ n=>n),(`aNC),(`cc b u e).stay (λc v hc q=>k c v ?_ q) `KS (`tg) `o?,∀b u,`abk,(`d' hp).elim,Inv X `i `pa H s',`l M A (`abn `B x u) Q E s,i<σ.length,`hs a `aa h',⟨`zt,`zt,`zs,`abo,`KW,`KX,`abi⟩,λj y v' e1 e2 e3=>?_,by simpa using `e5,`zv hiσ,hl j y v' e1 e2 e3,⟨u',r',?_⟩,z.sameBut hs (cne y c e),hn.sameBut,s'.os=s.os,`gv/\`mp,⟨v,H,I,r,h⟩,wpAny_loadName_local,wpAny_loadName_cell,`l `ac X.A (`bZ `mq `B) Q E s,(`aNE),wpAny_isTrue_Compare1,Q1 ⟨H1,I1,q⟩,∀whole,`abu=(do let v ← whole;standAt e.pos;`mr [v] (truthy v)),λc H1=>Q (!c) H1,(`aNG),isTrue_and,(`aNJ),(`ms .Or [a] pos),(`aNL),hb wh `i s1 σ H1 Q I1 q1,⟨H1,I1,q1⟩,(`aNM),(`ms .Or `abv pos),(`K_ .Not a pos),(`ms op [a] pos),thn `tm `tn,`oX=`bu its n/\`abw/\`bi xs `K0,SqL X.K H a xs,h.ok `cc,`fL a o hk,by simpa using hs,SqT X.K H a xs,by simpa using C5 `abx d1,(X.wish E).Ok,⟨ok.mod,`to,ok.glob,ok.blt,ok.above,ok.inj,ok.has,ok.cab,ok.hd,ok.frames,ok.stk,ok.exf,ok.bs,ok.bsz,ok.noex,ok.exfs,ok.funs,ok.frf⟩,Inv (X.wish E) `i σ H s,{ D with nx:=u D },⟨σ,H,I,h⟩,interactive,`mt σ H1,`mu e `b `tp `B=`iY,St->Hp->(`ht)->Prop,t v σ H Q,(`aNO),wpAny_assign_Name,by simpa using rv,(`aNQ),.AugAssign,`ti x=`hu,Nat->`ht,{ D with nx:=N,ct:=N,bk:=`mt },PSs X `gy tb,(`aNS),hN σ3 H3 n3,⟨m',hm,σ3,H3,I3,w3⟩,Nat->`gu,λx c e z=>?_,λp hp z=>?_,(`aNT),∀v,`oX≠`o5 v,(∀b∈fp,`zC),Inv X `i σ H' s2,`my `a9 X.w X.K tg J fp it tn,tn 0 s2.heap,(`aNU),`aN_ n,λi H=>∃xs x,`gz/\`mz,λi H=>∃xs,`gz/\`K4,λi _=>n<=i,`K5 it a i,λi h h' st k=>st.at `abE,⟨rfl,`abG⟩,(show `abH from p),I.tuple_inj,IsRangeIter,Data.fields,thn (hl `i s σ H _ I h) `tn,wpAny_pyIter_list,wpAny_pyIter_tuple,{ s with heap:=`dG `K7,toks:=tk },(IsRange.new ..),((`pf:Nat):Int) - `tu,Builtin.Range.rangeSize,by rw[rangeSize_one];split<;>omega,(`aN4),
(`aN7),PA X `hy ta,`abN=[`zG,`abO],`La=[`abO],(`aN8),call_range_2,by rw[e];rfl,(`aN9),tn i `hz,I7.pin `tv `abP,again I7 n7,Inv X `i σ H2 s2,(`aN?),OpR X (`i0 op) r,(`mE a op b pos),(`aOc),Q (`d `i1 `aZ) `Ld->`abQ,λi j=>`d `i1,⟨`d `i1,H,`d?,`aq,q⟩,(`abT)∨(`abU),(`aOd),λi j=>`abV,λi j=>`abW,λi j=>`d (i*j),λi j=>`abX,λ_ j=>0<j,λi j=>`abY,λi j=>`abZ,(`aOf),(W8 I q ?_),(`aOi),(`aOk),`y rfl h,∃i j,x=`E i/\y=`E j/\i.length+j.length<=`W/\Q (`ab0) H,`bi [x] us,∃u,us=[u]/\`fN,`bi `tx us,(`aOr),(`aOy),(`aOF),by have:=r.dp;omega,by have:=r.un;omega,⟨[],H,I,`L,h⟩,λu s1 ⟨x,H1,I1,r1,q1⟩=>?_,(`aOL),H1 `ea=`b,`ab `ea,`Lg (t':=`zF) (λb u e=>`iZ) `bn ?_,CE `cF P w H s Q u s',Env0 P w K mg `t A `cF s H,(us++ds).length=`am,`af `a9 X.w X.K `cW `e3 CX k f fd ps sp,Binds X.K fd ps ds,`bi dvs ds,iq0 CX X E,λr s' hq=>?_,sc.kind=`ks,sc.isCoroutine=`q,sc.isGenerator=`q,y.2≠`hp,(`aOO),by rintro rfl;exact `zL,P[i]?=`bd,λv hv=>(`Ll).1 `ab5,`tz (`tA),W.cellsFrom_some,`aH N ps `cG,(`tA).kindOf,`ab6 (`i4) `e' [],sq0 CX P w K mg `t N `ez `cG f cd A `cF s H E,`y (show `ab7 from z) `S,λb z=>`y z (F b),e0.hok.fresh,i7 `aOQ,(`aOR),t { nx:=λ_ H'=>Q `w H',rt:=Q } `zO H,λb o e=>(e0.bs b o e).1,`dl X `zP r,`o4=`ab8,PE X `tB (tCB r t),L4 `aOU,(`aOW),if x=y then `tD xs ys else `G (x<y),Q `aOX s,`l `ao A (`tE .Lt `tF `zQ) Q E s,(Bb0 h:`l `ao A (`e7 .Lt `tF `zQ) Q E s),(vs++ws).toArray,⟨_,F,rfl⟩,`bC->Nat,(`aOZ),Builtin.Slice.sliceAdjust lo hi 1 `b7,((`ab!:Nat):Int),slicePart_none,λ(m:Nat)=>xs[(`fO+`fP*1).toNat]?,λm=>xs[i+m]?,`tH `aa t `aK,`zS=0/\`Lo=`dH,`bu (`ab?).toArray,`l `ao A (`mH `mI `zT) Q E s,`hk `zT "slice",⟨os,J,M⟩,A0 (y6 `mJ `s ?_),`zU `aca,(`aO3),`l _ _ (`Lq `mI>>=_) _ _ s,A0 (i9 O ?_),A0 `aO4,`l _ _ (if `Lr then _ else _) _ _ s,A0 (m:=`zV) (E6 `Ls F),(`aO7),`bC->`gu,evalPart_none,r x lo hi H Q,`zX `tC `aca=`bg (`ab8),(`aO9),subscriptTail,`ab `tJ,(`tK=0/\`Lv=`ae),`m (`zY),by rw[`b0];exact r.length.symm,(`aO'),C1 (pk0 xs lo hi) hz,
(`Lx (`tK)).take (`Lv - `tK),SqT K H b ys,by rw[`ai];exact hz,if `gC then (if i<n then `Ly else `b) else if `Lz then `a `ace else `b,(`acf).bind λj=>xs[j]?,`acg i `ae,r x xs H Q,`l `ac X.A (`e? `zP (v::us)) `fa `az s,`tL=`aL/\Q v H,atI z.cps.toList i,EP X `i σ Q w s,⟨z,H,I,F,q⟩,(`aO!),(`gD:Int),subscriptTail_builtinR,pl.isList.typeIs,slot_list_getitem.lookup,λr s'=>r=w/\EP X `i σ Q r s',(`aO?),⟨rfl,fin⟩,Bool.or_false,`cO p=`z1,{ cls:=`dg,data:=`bu `aci n' },`bi ys its',(L6 _ _ (B4 hb)).trans,(`aPc),(`aPd),Option.getD_none,show `acl by decide,`gB `tP 0 lo,`o (`zY),yi0 y=`c,xs.any λy=>`LA,(`aPf),⟨`bD,H,I,rfl,?_⟩,show its.toArray.any `tQ=its.any `tQ by simp,Q (`d `kw) H,⟨`d `kw,H,`d?,⟨`oY,by rw[`b0,F]⟩,q⟩,∃z,xs=[`hC]/\`pl/\Q (`LB) H,`bi ys its,`fJ `an,call_list_seq,(`aPh),∀l,`po->Q `pm (upd H l `tR),ob.dict=`b,⟨o,e,ex⟩,⟨⟨o,e,ex.1⟩,λa e2=>?_⟩,⟨o,e,ex.2.1⟩,tyV K T x H1,Slot T name id,typeOf `zP=`bg (`bl "method_descriptor"),MtR X id r,`mK o name `B `tT=`tq,(`pp o name `mL),(`aPj),ai0 I1 r1 ty,`acq=`q,Calls.evalArgs_plain,`ah r `L,`ah r ih,(`acr).flatten,(a::b::r).length,(b::r).length,List.eraseIdx_cons_succ,acc.toArray,(`a! k its).flatten,`z8=`z1,"list.append","list.pop",F.entry_list_pop,its.toArray.eraseIdxIfInBounds,List.eraseIdxIfInBounds_toArray,`T WData,pre_splitW hpre,(`c==`c),WShape.has,`z? a=`acs,s₁.gens=#[],`i8 `i9 `tW `acu `acv `fb,hA b (`LG),λb o e=>?_,`y rfl z,`LH->`D,∀(w:`N) (h:`R),YP w h->`tX h,SqL `pv H a `pt,W.WalkO q loose XP YP `LI d [] `acy,Fun K x `ez st f fd,∀b o,`acz,`gp=`Ab->H b=`Ab,Option.none,y.2≠`o5,y.2=.local->`acA,y.2=`hp->`td y.1=`ho∨`td y.1=`hu,`acB=n+`t_,`LJ=(`cr[k]?).bind (N[·]?)/\(`LJ).all (λy=>`Ac==`hu)=`c,`acC λj=>`LK,(`acD).length,`T (`acE),x.2=`hp->∃c,`Ad x.1=`d9,acc.lookup y=`d9,λy d hy=>?_,λx hx hf=>?_,h2 x hx hf,closureFor,List.lookup,`acG=`c,by simpa using hx,(.ok `Ag),`bg (`Ah ok),`bg (`Ah r),(`aPv),`pw=`o7,Nat->Nat->`Ak,W i m ys H2,(`aPw),J.yld i H2 x H3,Wk `fc σ4,
if `t3 then te σ4 H5 λy H6=>H6 D=`LO/\`kw<sizeLine/\∃m',m'<m/\W `bM m' (ys++[y]) (upd H6 D (`o (ys++[y]))) else ∃m',m'<m/\W `bM m' ys H5,{ s2 with heap:=`acH },s3.heap.get? b=`_,`t4 _ _ st2 b hb,(a8 b o e),`y `iX `i',W0 X `cG cl N' s3 H3 fp,B9 (c3 b hb),λx c e=>`acJ x c (hcl1 x c e),`t5=`aPB,(`i!).2.2.2.1,`c_ (I3.stkSub b hf),{ s3 with heap:=`eC,toks:=`LP+([]:`LQ).length },(`aPC),old _ o ho,by subst F;exact e,`y hp (by simp[W0]),(k4 `hF),Ia.pin `tv `abP,∀cl s H ex,`acN,∀cl s H ex,`acO,∀cl s H ex,`acP,ok.free x hx hf,`k `acQ,`h `acQ,as.2.2.2.2,λv H'=>`mt `pa H',λ_ s'=>SP X `i D `Ag s',`t7->`aD DL.D,`t7->`An,`t7->`aD (`LU),fun δ=>`Aq,fun δ=>`Ar λt=>if `pz then Ga δ else Gb δ,Y4 f G ds δ',(`pA).bind,`acC λj=>kb0 `mQ,V1 f gt ge δ ds,(`LZ).map,`a (`abX),`a (`abY),(eqS x y).map,sIx `ae `ae hi,`a (`d `ae),(`acS).map,(ys.map `acT).sum+`kw*sep.length<=16777216,(`aPH),`t'=`a (h d),V1 f gt ge δ `aK,qm0 `aPJ,`pB=`a δ1,G δ1=`a (.nx δ2),by rw[`bo];omega,ifD g Ga Gb δ,by unfold ifD;rw[h];rfl,V5 n `cr gi f gt ge δ,o2 ga gb f δ,λz=>(by cases z),`pC/\`L_,g _ _ h.1 h.2,Gr H H' B B,fd.scope.names.lookup,λ(i:Nat)=>`go `fO,TelO K H B p kvs,∃a xs,`e1/\`Au/\`a4,∃a xs,`e1/\`Av/\`a4,∃a xs,`e1/\`pC/\`acV,∃a xs,`e1/\FnAtH K H B a `ua/\`L0,`n->`L1,∃x r,`L2/\`uc/\Rps K H B ds r,Rp K H' B' d v,⟨a,xs,e,q.mono g,`L4⟩,`a4->Rps K H' B' ds xs,ds[i]?=`ar,Rps.append,(λ_ _=>λz=>nomatch z),(Zo0 ds).map,(∃k a,`ja=`ec/\`Ax=`kA/\`e1)∨`ja=`b/\∃a xs,`e1/\`Au/\`gF,∃x r,`L2/\RpN K H B as d x/\`mU K H B as ds r,∀(k:Nat) a,`Ax=`kA->as'[k]?=`kA,∀{l:`a5} {m:`jb},`acW,∃xs,so=`Ay/\`ub/\`gF,`dp K `b4 c=`a (`a `pE),as[0]?=`kA,(`pF `hH),∃x ns,es=`bY::ns/\`L',⟨x,ns,e,`cu (λo z=>s _ _ z) `pG⟩,RpL K H' B d a,XcR K H B c n a,g _ _ h1 h2,g _ _ q1 q2,B a/\`jc,(m.set i b),`bp `AA σ δ,`a (.ow es),SlR K H B o s,`cv=`L?,`ud `fS h,⟨v,rfl,r⟩,j<δ.length,∀ob xs,o≠`gr ob `kr,`y (`fT) (hz ob xs),∀B δ,PE X e (tD X.K B δ g),∀B δ,PT X e `Mb,
∀B δ,PW X e `Mb,∀B δ,PA X es (tDA X.K B δ g),Rp K H B dy y,λpins s σ H Q I z=>h `i s σ H Q I `Mc,(`ac1).imp,λv H' s r=>k v H' (`Mh s) r,⟨_,en,e,λv H' s r=>⟨t,`ac3,`AF⟩⟩,⟨b,en,e,λH' s=>?_⟩,⟨t,`hI s,h,λF s'=>k F (s.trans s')⟩,PTD X e gt,⟨v,vs,rfl,`mX,r2⟩,⟨ds,en,e1,λvs H1 s1 r1=>⟨`ac4,λp hp=>k _ _ (`mY `gH) ?_⟩⟩,(iw0 `ci).imp,λv H' s r=>k v H' (`mY s) r,fun σ H Q h=>ae0 hf h,⟨ds,en,e1,λvs H1 s1 r1=>?_⟩,∀(i:Nat) (ds:D) (a:`f),`ac5->`hJ->`aw a=`b,∀σ H,`c2->`Mj,G δ=`fV,∀H₀ B₀ δ,PS X st `ac6,∀H₀ B₀ δ,PSs X st `ac6,Wr idx σ σ' δ δ',∀B d δ,PG X tg (tDG X.K idx f B d δ),`gt (B4 `x),yw0 `i s σ H D I (k σ H en),⟨_,en,e1,fun σ' H' en'=>⟨r,en',e,k⟩⟩,`dq K `aw `ak H' σ' δ',λi ds a h1 h2=>?_,w.oth i hi,e.fr i ds a h1 h2,(.If c as bs pos),⟨t,env,e2,λH' s'=>?_⟩,∀B δ,PI X tg e (tDI X.K B δ g),⟨_,en,e2,λv H' s' r=>?_⟩,⟨a,rfl,⟨xs,`cR⟩,`ac8⟩,⟨xs,xs[i],`Ml,by simp[`x]⟩,rs.get (i:=i) (d:=_) (B6 hi),y xs `Ml,⟨`pL,_,B6 hi,λB' gB _=>r'.mono gB⟩,⟨xs,`Ml,`Mm⟩,PDA X `hy gA,`je X `gy G,tDS X.K `aw `ak δ G D σ H,hb `aw `ak δ `i s σ H D I h,by rw[O b n];exact h,fun σ' H' en'=>⟨δn,en',ei⟩,∀B δ,PF X ifs `Mb,`a! n Sl.un,∀p H',`cH->`aT->`ac!->Q `ch H',∀B δ,PE X e (tDF X.K B δ g),(`aPP),⟨`aK,en,e1,λJ H1 s1 it=>λL hL=>?_⟩,Bp=λa=>`ac?,∀a,Bp a->`ac?,∀{H2:Hp},`AH->Gr H1 H2 B Bp,H2 L=`LO,out=pre++`a1,⟨_,rfl,`hE,j8,X3 hL,`hl,[],out,rfl,`jg,e2⟩,Env K H2 Bp `fc `hG,(λi ds z=>uj0 z),`h ⟨it.go i H2 `Mo hlt,λx H3 y=>?_⟩,it.yld i H2 x H3 `Mo y hlt,Rp K H3 Bp dx x,(gr (`Mp)),`pM i=dx::`uj,f dx `hG,⟨w.len,λj v z=>?_⟩,en4.same s5,H6 L=`LO,⟨λb o hb=>?_,λb ob zs hb=>?_⟩,by rw[ho];simp,(`aPR),`k ⟨it.stop _ H2 `Mo `bn,?_⟩,([]:`n)=`a1,PDF X `kx `AI,fun σ H Q=>∃B δ,tD X.K B δ ge σ H Q,(`aPV),PD X `kx `AI,PSD X `adb (m8 `Mq `AI),∀(cdv:`A) (A:`bf) (outer:`adc) (s:`r) (H:Hp) (E:XK),`add->`je `ade `tY G,(`aP0),
F.ok S (λvs H Q E ⟨B,ds,d,_,r,h,_⟩=>?_) (λcdv A outer s H vs Q E hr ⟨B,ds,d,hb,r,h,q⟩=>?_),⟨_,`gy cdv A `cF s H E hr H B `AJ,?_⟩,`dq K H B H (`Ms N vs) `AJ,⟨`AD H,⟨B,`Mt,`adh,⟨?_,hb,λi j a J es h1 _ _ _=>`adi⟩⟩,λi J a h1 _=>`adi,hb⟩,`pO (vh0 (N:=N) r) (qb0 _),λi=>`adj,by rw[`fW] at r;cases r;exact `L,λt' k=>⟨`bj,H,I.tok k,⟨t',rfl⟩,q⟩,(`aP1),⟨o,h1,h2,h3⟩,⟨o,h1,h2⟩,`cc a _ hq,E9 W.kitx_dict `fL ⟨o,h1,h2.1⟩ e `dF fin,Int->Int->D,∀i j H B,Rp K H B `Mv `i1,k _ H `c1 (hg i j H B),q _ I.fresh,`Aw (X3 h),λ_ _ _ _=>`Me,al0 rx ry e,⟨h1,by rw[h2];exact `Mw⟩,⟨ry,`um⟩,`k ⟨a,xs,_,v,rfl,rfl,`cR,hv,k _ H `c1 rv⟩,∀B δ,PO X e (fun σ H Q=>∃o,`adk/\`ay=`_/\∀H',`aT->Q o H'),by rw[n8] at r;exact r,SqL K H p ys,SqT K H p ys,k _ H `c1 (by rw[n8,`un]),PDA X [e] gA,PySem.boot_len,FnD `a9 X.w X.K `cW `e3 x k ps f,λd=>if `AP then `ar else `b,fun δ=>`pQ,(`hL).bind,(`hL).map,`a (.ow `Ap),`bN<sizeLine,`bw i (.ow (`o (ds++[d]))),ds.getLast?,`bw i (.ow (`o `adn)),`bw i (.ow (`o (ds.set j v))),`T DL.U6,(`At ds).map,`dK×`n,`a (ks,ds),r.1.length<sizeLine,(zc0 r.1 k),(zk0 r.1 r.2 k v),`pR×`n,(yo0 d).bind,λk=>`MA,λk=>.bl (xor neg (Q5 ks k)),V2 gt G n δ',(`bw i (.sh a)).set j (.sh b),`bx x 50=`c/\`bx y 50=`c,if `ado/\ys.all `eG=`c then `a (.bl (xor neg (ys.any λy=>eqF y x))) else `b,if isL d=`c then `b else `ar,mkF n N G ds=`ar,⟨hl,?_⟩,⟨e,Br0.mpr hn⟩,mkN n N G ds=`ar,`a (`MB),if `MC/\`MD/\`m2*`hM<=`W then `a (`E (dl0 x n)) else `b,`ME<=`W,`adp `dE w K,`T (K×`KG),knd.is `aa k a,At knd `aa d xs,∀h',At knd h' d (storedH xs k a v)->`adq->Q () { s with heap:=h',toks:=`aZ+knd.draws k },`MG d `dc v,Obj.isFreed_of_dict,Obj.data_mapDictKeys hd _,List.nodup_append,List.mem_singleton,Obj.data_mapDict hd _,"__setitem__",slot_dict_setitem,A0 `aP4,kvs++[(k,v)],O3 (p::r) k,by simp[O3,`AR,e],Bool.false_or,`AT vs k,`AT (q::qs) k,by simp[`AT,`AR,e'],vs.any `MH,(`aP7),`ah ?_ ih,`H (`AU e),`P (`MJ),r.repl k ry,Paired.snoc,
(`adr).map `b_,`AV (q::qs) k,by simp[`AV,`AR,e'],(`adr).isSome,Option.isSome_map,(`m (`uq kV)),(`aa3).is,upd H a `adu,RelO.some_of,(`aP8),h w' _ (`d?) F,DGet H a y o,(`MK).isSome_eq,λh' F hs=>h _ ?_,let ⟨q,_,_,hq,_⟩:=F;⟨q,hq⟩,tx0 I `MM hs he (kw0 hl hd (rel.put k rv) F),j50 `cc `AX,by rw[← `MN rel];exact z,tx0 I `MM hs ⟨q,hq⟩ ⟨hl,hd,_,(rel.put k eb rv).keeps λc ys ec=>?_,q,es,ep,hq,h2,h3,h4,h5⟩,d8 (Xy0 ec e `dF),A1 (A0 fin),`hk `dc `pT,`s'<h.objs.size,`pU (B4 (B9 hb)),(.Dict [] [] pos),`adw->`gu,`T (`pV),(`ady).all `AO&&`Mx,`G `aQc,`ady=[`mF,`adz],⟨`AY,λb q=>?_,hd⟩,⟨ob,h1,h2.2.1⟩,⟨x,ns,e,`cu s g⟩,Env K `hP B σ `m4,⟨?_,`MP,λj k b ds es h1 h2 h3 h4=>?_⟩,`k ⟨v,e,`cu `hQ⟩,Pd.setR (i:=i) (b:=Sl.ow d) (`k `MQ) hs h0,`AZ (λj o' s e1 e2 h=>?_) h1,`y (`kC i j a d0 d' hi e3 hs e1) F,∃d,`mQ=`pX,∃d,δ[k]?=`pX,`kC j k b d1 d2 q1 q2 h3 h4,`m5 i d0 a hi hs,⟨⟨λb u h=>?_,λb ob xs h=>?_⟩,⟨B,b1,b2,env⟩,λj ds b h1 h2=>?_,`kF⟩,(`hI b u h),`MR (i:=i) (by rw[`zv F]),`y h (`adB ob xs),`m5 j ds b h h2,`dq K `aw `ak H' (`th i `MS) `m4,∀{j:Nat} {d':D} {b:`f},`mQ=`a (.ow d')->`pw=`a (`a `p_)->`A_,λz=>`hR _ q2 (by rw[z];exact hp),⟨`ut s,⟨`ac',λa z=>`k `MT,`fd,?_,`fd,`MU⟩,`adC,`kF⟩,(`aQf),⟨b,e,`k J,`cu (λo h=>s _ _ h) g⟩,`y rfl (live h2 h4),`y rfl (live h1 h3),`y rfl n4,(DL.frz δ),λa=>B a/\¬`MV,(mo0 (`m6)).elim,⟨B',`fd,λa z=>b2 a (c1 a z),F⟩,c2 a `MT,`y (`m5 i d a q1 q2) (`kF a z),λb=>B b/\`p0,λb z=>z.1,`k `MW,(kg0 q).elim,(ny0 hf r),⟨r,`A1,hq,k⟩,List.set_cons_zero,List.dropLast_eq_take,List.eraseIdx_eq_take_drop_succ,∀H₀ B₀ δ,PE X e (tX X.K `aw `ak δ gx),∀H₀ B₀ d δ,PG X tg (tTG X.K `aw `ak ft d δ),PTG X tg ft,`mK `kH `A2 `B (`uu)=`uu,(`aQj),(`aQk),`mK `kH "pop" `B (`uu)=`uu,(`aQl),List.getLast?_eq_getElem?,(`A5 i g),V2 gt G m δ'=`fV,fun σ' H' en'=>⟨δn,en',e2⟩,`fM (`MZ) `B,(`gw [`uw] `B).map `b_,`fM (`uw) `B,(`gw [] `B).map `b_,(`aQo),(en.set i ra).set j rb,
⟨`aS,`A6,λq hq ds h=>?_⟩,λz=>hq (by rw[z];exact B0),λz=>hq (by rw[z];exact A8 _ B0),`MC/\`MD/\`M_<=`W/\Q (`E (`p1)) H,∀M k,EP X `i σ Q (`E (`p1) M) { s with toks:=k },λM k=>⟨`bj,H,I.tok k,⟨M,rfl⟩,q⟩,¬n<1->¬((`dm:Int) > `A7/n),(`dm:Int)*n<=`z0 - 1,n=(`hM:Int),((`M_:Nat):Int)<=2 ^ 40,by exact_mod_cast (`p:`M_<=2 ^ 40),Int.not_lt.mpr ((C00 Y).mpr `x),(`aQp),(λ_ _=>?_),`G (`dm*`hM > sizeLine)=`q,show `hM=0 by omega,⟨`O,?_⟩,(n==1||`dm==0)=`c,Bool.or_eq_true,`aQq=z,Array.empty_append,∀k:Nat,(`a! k (#[]:`M0)).foldl `hN #[]=#[],fin t `aZ,∀(k:Nat) (F:`M0),((`a! k `ux).foldl `hN F).size=F.size+k*`M1,⟨?_,`M2⟩,`aQt<=_,"tuple.__rmul__",C20.lookup,C30.lookup,PySem.seqSlot_of,`z8=`aQv,`bu (`adK),`y (`adL rfl) hx,by rw[`b0,← hl];exact hz,(`a! `c4 its).flatten.toArray,`adM its `c4 [],(λs'=>N9 s' k t),F.fills_int_mul,F.slot_int_index.lookup,(N9 s k t),F.entry_int_rmul,(`aQx),⟨ho,?_⟩,r1.rep `c4,∀(d:D) (n:Nat),`kI->deq d d=`c,by unfold deq;rfl,by unfold lean at h;unfold deq;exact rp0 ds n h,∀(ds:`n) (n:Nat),`A8->J7 ds ds=`c,by unfold J7;rfl,min `bN `m8,`bN==`m8,List.all_map,Rps.inj I ld le r r',`y z `s,`cw es m=`c,`cw ds m=`c,`kI->`M3->`A9->`adQ->`fN->`M4->`oZ A s u w (`p2),j<ds.length,SeqAt.EqAt.none_list p' F,SeqAt.EqAt.bool_list _ p' F,SeqAt.EqAt.int_list _ _ p' F,SeqAt.EqAt.str_list _ _ p' F,SeqAt.EqAt.bool_tuple _ p' F,u4 _ _ p' F,u7 _ _ p' F,Rp.inj I ld le hx hy,pw0 _ _ ld,(`aQA),SeqAt.RcAt.lists,Cf0 (A:=A) p p' `adR F,Bool.and_false,`M8+n'<cLine,sr0 (A:=`bF) a1 Z rr J rv M λd e x y u w h1 h2 h3 h4 h5 h6=>ku0 I n' m' d e x y u w `bF a0 h1 h2 h3 h4 h5 h6,Y.toArray.size=`m8,beq_self_eq_true,bb0 I 50 50 dx dy x y v u X.A `g lx ly hx hy rx ry,Bool.false_xor,‹`n ›,by rw[`jd,`p3];exact hz,(`aQD),(`aQI),⟨_,_,rfl,rfl,hz.1,`M9,hz.2.2,k _ H `c1 (by rw[X5];rfl)⟩,λz=>hz.1 ?_,λH3 s3=>?_,by rw[`a',th0,th0];exact hw,(e20 r l u),⟨_,_,rfl,`p4⟩,⟨_,rfl,`p4⟩,(`cx `hM).map,P3 λk _=>?_,(`aQK),
λl hl=>k l _ `M' `M! ⟨_,j8,rr.mono (`MX hl)⟩,FnN `a9 X.w X.K `cW `e3 x k ps f,[`ct,`uy],(`A').map,ds.reverse,(`v h rfl),"__length_hint__",`uz->`uz->Prop,Nat->`Na,WalksS `dE w `bF I fp wr G n P St,Moved (C::wr) G s s',`adS C=`adT,(`aQQ),(`aQR),Builtin.List.listSameRef,`p7 `M?,`a `adV,`adW `pE `uA `aE,(`aQT),b<s.heap.objs.size,{ s with heap:=`adX },call_reversed_list,`d8 `jk=`a (`bl `jk),`d8 `ew=`adY,`di [`Nb] `B=`adZ::`hK,(`ad_).any `bv=`q,(`aQV),E3 ?_ e1 h1,λv s2 hv=>Q2 hv,(`aQX),λd' e'=>?_,∃b,v=`ku/\`m9,DGet.t hp hb,k H2 `kM,(`uB i g),jd0 `kN `ci (set_dict hu) ha `i s σ H v u Q I r `ad2,fi0 (q:=q) (v:=v) hl,(`aQZ),Rps X.K H1 B `Nd ys,s70 `Ne `A?,`m' `A? `Ne,`aD Obj->`fH,`l `ao A (`ad3 a) Q E s,by rw[ho];exact h,λ_ _ _=>h',IsZ h' z TI TO a `c,A0 `aQ1,`l _ _ (`ad3 (`ad5)>>=_) _ _ _,(`aQ2),`l `ao A `ad' `ad! E s,List.forIn_toArray,(`aQ?),(`aRb),A0 `aRd,h₄.objs.size,A1 ⟨_,rfl,?_⟩,{ cls:=`d5,data:=`bu #[x,y] },`l `ao A `ad' Q E s,by rcases hend with h|h;rw[hx] at h;cases h;exact h,(`bl T1),(`bl T2),(`q,`bZ (`No) `B),(`aRg),∀b o,b∉fp->`Bg,(upd H `an `uG),upd H `an `uG b=`b,{ s with heap:=`dG `aef,toks:=t' },(`aRi),(`kS elts x1 pos),⟨_,he,λv z=>nomatch z⟩,⟨_,e1,λv z=>by rw[d1] at z;cases z⟩,⟨old,k e `S _ he⟩,I.turnedNew,⟨_,by simpa using b1⟩,(`aRk),{ s1 with heap:=h' },`pe (D6 _ 1) (`mC (D6 _ 1)),⟨us,s1.to⟩,k _ H' s' ⟨`AG,λi H2 v H3 g2 y hi=>?_,`AG⟩,hx us `uH,λB' gB hb=>?_,∀a,B a->`mS∨`aeh,by rw[m9] at r ⊢;exact r,`aei=`q,(S3 s x t),call_gives,`ah a t r,`pq `aaP ns,`pq items2.toList ms,items2.size,`z8=`aRn,`o9=`aRp,`hS (`uI i) (ms.drop i),`aK[(`Bi:Int).toNat]?,by rw[List.drop_eq_nil_iff];omega,`G (`dH<items2.size),i<ms.length,((i+1:Nat):Int),`Nr[(`Bi:Int).toNat]?,A0 `aRq,P4 `aej _,entry_eq_loop,`aek `aej _,⟨hl,hb,h⟩,⟨[`hD,`ku],[]⟩,wj0 `aa z TI TO v0 f,∀Q':`p?,`ael->`l `ao A (`Ba) Q' E s,`Ns->`Nt,A0 `aRv,wj0 g1 z TI TO `uJ f,List.zipIdx_cons,List.zipIdx_nil,A0 `aRz,`ff g2 TO a b,
`m? _ _ D.TOi1 (`kT _ _ D.TOz hTO),A0 (D4 Y rfl ?_),(`aRD),(`aRH),g5.get? c=`_,g5.IsListIter,D.TOi1.symm,Builtin.SmallTypes.ownedTupleHandOut,(`ab `qa),∀h' e,`Ns->`aep,wpAny_pyIter_slot,F.slot_zip_iter,Q () `hT,(`uK).map,⟨u,q,`cu `Bk⟩,.of rfl no nt,PD X ke gk,PD X ve gv,(`aRI),A70 `s (`aeq:`aer),{ s with heap:=`dG `Nv },en.fresh hp,ks0 (pos:=pos) (hk `qb δ) (hv `qb δ) (e50 (X:=X) (pos:=pos)),arm_eval_Dict,zip_pairTrees `Bl [ve] `B pos rfl rfl,dictDisplay_pairs (`aeu `Bl [ve] `B pos) (λz=>by have hn:=`aet;rw[z] at hn;cases hn) `aev,A0 `aRL,`H `aev,ps=[(v1,v2)],Rp X.K H2 `qb a v1,Rp X.K H2 `qb b v2,⟨a,F,e1,λv1 H1 s1 r1=>⟨b,`Bm s1,e3,λv2 H2 s2 r2=>⟨v1,v2,rfl,`mX,r2,`kE⟩⟩⟩,(sm _ _ j8),A1 `aRS,k `an _ hp (lb0 hp sm) ⟨[v2],j8,rfl,?_⟩,(putK [] key v2),⟨v2,[],rfl,`x,`jg⟩,Loc `o8 z,X.fn z=`c∨`ti z=`iU,(`gw [`uw,`Bn] `B).map `b_,(`gw [`Bn] `B).map `b_,`gt (B4 h3),`ME<=2 ^ 20,(`o `MF),`aRT k,∀b o,`A_->`acz,Env K H' B σ `m4,`k ⟨v,e,`cu (Gr.but hb hh)⟩,(`aRV),(`aRZ),(d==`s')=`q,F.slot_dict_iter,⟨_,`df,rfl⟩,s.heap.IsKeyIter it d i `hn ep,`l `i9 A `Nz Q E s,A0 `aR4,A0 (A1 (A0 (`dn))),A0 `aR?,show Builtin.Dict_items.ownsTuple `NA=`q from `O,`l _ _ (if `aex then _ else _) _ _ s,`P (show ¬`aex by simp),A0 `aSd,A0 `aSh,show ¬`fO<0 by omega,wpAny_isOneOf_keyiter,A0 `aSj,`qc it (Obj.mapFields (`NB 1 `NC)),Obj.data_mapFields,firstArgMember,wpAny_of_eq,isSubtype_stop,(`aSm),(`aSu),λq=>`iQ `s?,Af0 λi=>?_,(k.map kD),by rw[`fW,`fW,m9],List.map_fst_zip,xs[n - 1 - i]?=`bd,`ND - `fO,((n - 1 - i:Nat):Int),wpAny_pyIter_revIter,`abK=`zG::`hK,(`aSv),s1.heap.push (revObj qa `aeA),`ae - 1 - i,(sq.mono g2).to,`a (`o `aeB),`o `aSz,(1000000:Nat),by rw[`M,`kU];omega,List.range_eq_range',`adx=`mF::`NF,by unfold orE;rw[e1],⟨d,en,`Bo h,k⟩,λ_=>`bB,ir0 `aa z TI TO,(`aSA),(∀(E':`X) (A':`bf) (Q':`p?),`ael->`l `ao A' (`Ba) Q' E' s)->`NG,(`aSB),again λE' A' Q' q=>l80 hz q,again λE' A' Q' q=>l30 hz e q,`l _ _ (`uE `jm 2>>=_) _ _ _,h₃.push `aeD,`dG `aSE,
ys[i]?=`bm,(S40 K a b),`hk `jm `hw,c<s.heap.objs.size,hk c o hc.2.1 hc.2.2.2.1 hc.2.2.2.2.1 hc.2.2.2.2.2 e,λh=>`mB,Gl X `hx,`cW `hx=`b,`di [`NH] `B=`aeE::`hK,`abN=`zG::`La,(`ey `jl (`La)).any `bv=`q,(`aSF),λc hc=>?_,λo q=>F _ o q,`m [`dN,`m [ds[i],es[i]]],(`A')[i]?=`a (ds[i],es[i]),P5.mpr ⟨B6 h1,B6 h2⟩,by simp[J7] at h,(`m2:Int),`m [`NI,`E w],`uR w=`c,`a (`hU),(`aSH),⟨[.sh (pr p)],rfl,rfl,rfl⟩,`a `NJ,`E ⟨#[cg i]⟩,(by rw[hl];omega),(ones l).foldl,`aeG++`NK++#[c],(`NL:Str),((ones l).map `acT).sum,(`uS).length=`cS,by show l.toArray.size=_;simp,`aSJ=l,by simp[`ba],⟨`p,λc hc=>by simpa using h3 c hc⟩,(`aSU),(`aSW),(`aS1),(`aS4),(T5 2 `fh),(`aS6),(oA `c6 R4),(`aS7),(`aS9),(`aS!),(`aTf),(`aTn),(`aTt),(`aTx),(d60 5 `aM),(`aTP),(ob (`aeT)),(`aT6),(`aUa),(`aUi),(`aUl),(`aUq),(`aUs),(`aUG),(`aUK),(`aUM),(`aUT),(`aUW),(`aU6),(`aVd),(`aVp),(`aVs),"_law_kind",(`aVx),(`aVA),(`aVC),(`aVN),(`aVR),(`aVT),(`aV3),(`aWj),(`aWw),(`aWR),(`aWY),(`aXb),(`aXi),(`aXp),"_law_parts",(`aXN),(`aX_),(`aX'),(`aX!),(`aYf),`d 1000000,(`aYR),(V3 (uy0 2) `bP),(`aYV),(`aY2),(`aY7),(`aZb),(`aZg),(o2 `gO `bQ d9),(`aZs),(`aZ_),K1 rfl (u5 (δ':=[.sh (Pt.row vs).d]) `b8 (O7 (by rw[`BF];rfl))),K1 rfl (u5 (δ':=`qk) `b8 `afE),U3 (items:=`uQ) rfl `uZ (iu0 ps),K1 rfl (u5 (δ':=`nj) `b8 `afG),U3 (items:=`uQ) rfl `uZ (i50 ps),(`aZ4),(`aZ6),(`aZ8),[`N9,`dO,.un],(j6 (d:=`u_) ?_),[`BI,`dO,.un],by unfold lean;rfl,by unfold lean at h;unfold deq;exact qu0 ds n h,m40 _ _ h1 h2 h,`H ⟨h,h⟩,ps0 d 50 h,`H ⟨h1.le,h2.le⟩,`y (is0 d e h1.nb h2.nb q) n,by unfold nb;rfl,(`m (`gA `E)),J4 `dj (`cY)=`afI,`a_a=_,sliceText _ _ _=_,⟨h0,by rw[w70];exact h1⟩,`u1 s=`c,xl0 [`hZ,`nk]=`a (`jv),[.sh (`afJ),`eh,`h_,`ds,`jw,.un,.un,.un,.un,.un],l++[c'%36],[`nm,`eh,`h_,`ds,`qm,s5,`nn,.un,.un,.un],(ones w).map,(`N?).flatten.take,`a_c=_,[.sh (`d `u5),`nn],(`a_f),Ag0.mpr (`Oa (Ah0 ?_ (n5 (n:=8)))),a<pl.length,`qn++cg ((p+4*`bq)%36)::`u6,[`nm,`eh,`h_,`ds,`qm,s5,`nn,`ej,`jw,.un],`H (by rw[yt0,wl];omega),`E (`ba (`u6)),
⟨_,_,rfl⟩,zh0 _ _ `g,(by rw[Fl];omega),`f_/\k<=1000000,∃x,0<=x/\x<2147483647/\R6 [`hZ,`fk]=`a (`ek),`afN*`afO,D7 _ `s,j4 rfl `cz,`d (10 ^ 60),0<=x/\x<2 ^ 40,M9 [`ek,`qo]=`aL,(`a_j),(`a_k),`d (x/10%m),j4 rfl (u5 s0 `eg),(λi hi=>by cases hi),(ne 6 _ e6),T9 0 `BS,[`a6,`Od,`jx,`jw,.un],[`ek,`hY,`jv],`ba `BT,s.cps.toList.length,(`a_l),(λv hv=>by cases hv),`a_m=_,(st+`cy)%8,(ns j,`afR),λi h1 h2=>?_,A9.mpr ⟨p,F,rfl⟩,`qp `Og "",`qp `Oh "",[`a6,`dO,`eO,`Of,`BV,.un],[`a6,`dO,`eO,`Of,`BV,.sh (`k2)],T9 0 `BW,(`a_n),(`a_o),o4 (x:=`hY) (y:=`dL) rfl rfl,by show ∀v∈`hU,`qr;rw[O];exact hv,`a_p=_,[`qt,`jx,`eO,`Oj,`bk,s5,s6,s7],(`u!).toNat,cs.map `aQ,(`a_q),(`a_s),[0,1,2,2,3,2,3,1].getD (`h3).toNat 0,`h3=0∨`h3=1∨`h3=2∨`h3=3∨`h3=4∨`h3=5∨`h3=6∨`h3=7,⟨1,rfl,`p,`u?⟩,⟨3,rfl,`p,`u?⟩,`d (c+`Ok),o4 (x:=`dL) (y:=`d l) rfl (F _ _ _),`a_v=_,wi0 `afT=`a (`afU),Gd p `fP nm,`o `BZ,T9 0 `fP,[`qt,`nq,`eO,`jw,.un,.un,.un,.un],U3 (items:=`uQ) rfl `uZ (l00 ps),(`Om+(`B_:Int)).toNat,[`Op,`dO],(`nc).getD,k<ps.length,C5 `B1 e,[`N9,`dO],(F ps rfl),[`BI,`dO],[`Bv,`qu],`B2∨x∈S,Dfs adj S `f0 o (x::T) r,x<n/\`B4,(`B3).length,(`a_w),hT y `afW,by rw[`ai];omega,(`a_x),(`a_A),(V3 (uy0 5) `hW),(`a_E),(`a_G),`B6/\∀v∈vs,`Oq,List.map_reverse,`G (`B2),List.any_map,Option.some.injEq,oA (z9 `af2 v7) j5,(12:Nat)<=`W,ixD `ck (`dN),ps[i].vals,(∀v∈vs,`dQ),V1 `bb `B7 `hV [.un] vs,wh0 `af4=`a (`k5).d,o7 (ds:=[p.d,`af5]) rfl,`BK `b_=vs,(`k5).vals=`B8,λ_=>`i7,S.foldl (λa x=>`Os) a,λy=>`aS,(`a_O),`a (`G (0<T.length)),`a (`af8),(`Ou).length,o4 (x:=`af8) (y:=`c5) e rfl,`a_S=_,`a (.nx (`B')),List.getLast?_concat,List.dropLast_concat,Q5 `B! `B?,`ve+`vd<=10001,MBg gw `Ov,[`nt,k,l,`Ca,`af!,`Cb,`h4],by rw[ho0,`cE F],zc0 `B! `B?,zk0 `B! (nd U++td o) `B? `BL,`Ow (l:=nd o) (d:=`k6) rfl rfl `qw,`a (.nx (`aga)),nd (`jA).reverse,Dfs `vf S c [] [x] r,C1 (m00 _) q.few,(`a_X),∃s,r=o++s,`nu∨j∈S,⟨[],(Aj0 o).symm⟩,λi hi j hj=>?_,`h (`h (N1 _ hj)),⟨x::s,by rw[e,`eP];rfl⟩,
(λy hy=>by cases hy),(`a_Z),Gw.zm0 ns k h0,Gw.Pool nm,Gw.Gd p `fP nm,k.lk i rfl,`h (`h ⟨`eb,by rw[Int.toNat_of_nonneg hi],`p⟩),∃ps,G7 `agc=`a `ck/\`Q,0<m/\m<=60,[`aQ 12,`aQ 12,`aQ 60,`aQ 4],⟨12,`O,rfl⟩,(1+t%q).toNat,us.map `d,sIx `BN 0 (`a 9),List.map_drop,(1:Nat)<=_,(j6 (d:=`nk) ?_),hv q.2 `agd,(h.lv x hx),lp ps h.lv,N4 `g `g,Q5 ks k=`c↔k∈ks,`a_0 e,⟨k,h,`Ce⟩,(`eb,`nv),R4 [`vh]=`a (.bl `Oz),okv L q.1 q.2,by unfold pa;simp[hi],`a (`Cf),`m [`BJ],o7 (ds:=[`o `NJ]) (`v (U3 (items:=`uQ) rfl `fl (nc ps)) rfl),(`eQ 0 n).map,`vi p h.f,`y hb.1 `S,`y hb.2 `S,ck0 (lv q hq).1 (lv q hq).2 hb,show (q.1,q.2)=q from rfl,one q.1 q.2 (lv q hq).1 (lv q hq).2 hb,j<P.length,by unfold nd;simp[F],(nd L).eraseIdx,ls c m `qA P,[`agi,`w,`agj],`a_2 `g,sIx `ae 0 `Ci,`Cj `g,U5 g V8 (`eM gh) δ,`ay=`iR,`f_/\k<=100,Gw.tm0 p h vs (`k hl),∃rs,G4 `Ck=`agk/\Web rs/\`uh=`em,(`vk).toNat,[`ap,`a6,.un,.un,.un],`a `u',o4 (x:=`b') (y:=`dL) rfl rfl,`a (`vm),(`a_3),`a (`G (`OD)),o4 (x:=`vm) (y:=`t2) rfl `Cm,0<qs[k].vals.length,`qC k (`Co),by rw[`jD];exact hq,`d (x/60),`d `agl,o4 (x:=`ek) (y:=`jr) rfl rfl,`d (x/240),o4 (x:=`ek) (y:=`aft) rfl rfl,List.set_eq_take_append_cons_drop,(`a_5),k50 W o s3 us T `Cp h' `g,(os W o T s3 `Cp),Nat.add_mul_div_right _ _ `g,Nat.div_eq_of_lt,Nat.one_mul,`OI≠`OJ,[`h7,P,.ow (`o (`Cr)),`OM],.ow `a_9,(`a_'),[`en,pN q],(z9 g1 v7),(z9 g2 v7),(`a_!),(`a_?),⟨λe=>`OO `Cs `Cs e,λe=>by rw[`OP e];exact `vt `agr⟩,Lv `am v,O2 [`br,`b',`vh],[`as,`ap,`k',.sh (`vr)],⟨p,h,`OQ⟩,Q5 `vu `OR,`o ((`Cv).map nI),`ags+1<=`W,`a (`G ((i,j)∉s.1)),u5 (δ':=pS ps qs P `agt n `gS `nA (`k')) ?_ rfl,[`as,`ap,P,`agu,.ow (`nB),`ds,`qE,`vv,`k'],(`Cu).length,Rch ps qs p0 q,`Cw x hx,x∈(`agn).1,by rw[`ai,`ai,`dt];rfl,`Cw y hy,w1.app _ _,h.way q hm,h.hds y hy,(h.rc q hm),(`a0a),x∈(`vx).1,λu hu=>hz u (A8 _ hu),`m [nI k,`OW]::`agx,Y4 `qF PB (itm k z) (`OX),(∀u∈`OY,`OZ),(exs q k (`OY) s),`k? hp hq,itm k `vy,(.sh (`OW)),Y4 `qF PB (`agx) δ',exs q 0 `cl s,`cl[j]?=`aL,(itm 0 `cl),
o7 (ds:=[(`vz).d]) (`v (by rw[o4 (x:=`br) (y:=`d (q.1:Int)) rfl rfl];exact a1) rfl),o7 (ds:=[(`OK).d]) (`v (by rw[o4 (x:=`b') (y:=`d (q.2:Int)) rfl rfl];exact b1) rfl),V2 PT PW f `O3,`o ((w++[j]).map nI),`agy=`agz,[`as,`ap,`O5,.ow (cm `la),.un,.un,.un,.un,.un],Pi ps qs p0 `la,`a (cD `b),(J _).trans,b8 (`v rfl (`v `Cm rfl)) `c9,⟨A,B,rfl⟩,w40 q `cl 0 s,`eB `g,∃x,`qG/\¬`Cy,wc0 hp hq `cl 0 s h (`lc) `O6,(V7 `cj),(∀a∈r,∀b∈r,`O7),`a0d `S,Ta.tb0 _ `gq,Ta.tb0 _ (`h `agB),lkv f (`k3)=`m [`gM,`Or],by unfold lkv;simp only[`aA],(a.zip b).map,`m ((`BK `bv).map `E),pa qs (f i),rel f `vC,m.cl i hi j (by rw[`agE];exact hj),(`vD).length=`a',`a'<=`am,`O9 m.nd (m:=`cx `am) λy hy=>`qH (m.lt y hy),[`br,`c5,`adG],(`a0e),⟨s3',s4',?_⟩,Ta.OB (`h9 `ck o `O' s3 s4),`h9 `ck o `jz `fm s4,(`a0g),(Xx0 _ o `jz x s4).trans,y00 `ck x,ps[x].vals.reverse,`h9 `ck `gQ (`jz++(tgs `CA).reverse) `fm s',List.take_append_drop,List.take_succ,[(`h5).d,`O!],o4 (x:=`br) (y:=`dN) rfl rfl,`a (`O?),[`as,`vF,`ld,.ow (nums r 0),.un,.un],fn0 m.nd F,[`a0i],f70 (m.tg h hi hj),ixD D' `nl,(`b5 hj).1,by rw[`M,`b9];omega,`CD++[`Pc],`d (f i:Int),[`as,`ld,.ow (nums r 0),.un],(`qI).length,o7 (ds:=`CE) rfl,`vG x=`c,wd (dr qs s),(`k5).few,pm.mem_iff.mpr,pm.mem_iff.mp,by dsimp only at hk;omega,∃s,P=0::s,a<P.length,b<P.length,[`CH,`vj],(`a0k),`Pg<qs.length,hPN _ (`vK `g),o40 P `g,`jC (`am+i) 0,C1 (by show 2<=3;decide) z2,(`a0l),rs ps x mo P qs' s',O1 [`br,`ek,`vI]=`a (`m [`b',`vj]),(`Pi).getD,o4 (x:=`CJ) (y:=`vI) `CK rfl,`o [`m [`NI,`E "b"]],`o (nd (`Pi)),λa ha b hb e=>?_,`z8=`a0o,(`e9,`nE),⟨_,rfl,`ac9⟩,`a (best #[vb,vb] c),`a (best #[a,a] c),∀s':`r,Kp h0 `hz->`agL,∀h' tk,`CM->R (.ok (`dC `agM)) `hT,(`vL).symm,A0 (I0 ?_),λx hx o e=>?_,λO F M=>hR O F M,`a0q e,hx.elim hSI hST,(L6 _ _ (λz=>by rw[← z,nS] at e;cases e)).trans (k' x o e),`a (best #[] c),Builtin.Builtins.bindParams `ph ["key", "default"] 0 ⟨[],[]⟩,h1.objs.size,`m [`aj,`cQ],`m [`cY,`tN],Rp X.K H B `agP x,(`m [`cY,`Pk]),Q `a0t H,
intsAre_of,X.A.in1.in1,⟨(λx=>nomatch x),hQ⟩,(h.go B δ).imp,λa z=>`Pl,(`a0v),`a (`o ls),`a (.rt `Ao),d10 d=`c,gz `a0x,`eG dz=`c,`a (.rt `BL),Vis `o8 y,(y==`abr)=`q,(`a0y),`bK z pz,`bZ `Pn `B,`di [ez] `B,(`a0E),(`uv).bad,λw=>a4.at.1 (`h w),`a0F s5,(`a0G),(`a0I),∀b C dx fs,(b,SubO.ins C dx fs)∈sub->`vN dx=`b,H p.1=`a p.2.ho,∀C dx fs,p.2=`mW->p.1=a,SubO.no_own,SubO.no_tup,SubO.no_frz,o.there (x b _ (F l)),`CO H a sub b,`nF H a sub,⟨v,_,I'.opened o,r,k⟩,(`a0J),(`a0K),`CP j++`e9::`Po j,f b ds=`Pp,(spB K j f),(ds.take j).map,(ds.drop j).map,`y h (F _ _),`Pq=`agT,G δ=`a?,hf b ds r b' h,(λa=>B a/\a≠p),∀x,B x->B' x,c1 x `adF,∃q:`aN,∀p,EndB G `vP j p q.1 q.2,List.cons.inj,`aP ks vs,⟨_,rfl,λK H B a r=>⟨r,`agU⟩⟩,(`vQ).bind,(`a0L),(`a0M),[`E "@",`dL],RpN K H' B as d v,(`fQ).lookup c=`CR,(c==x)=`q,λz=>h (`jf),λz=>h (`h z),k<sos.length,by rw[`agV,← e],(`a0O),∀C dx fs,so'=`mW->k=0,(`a0P),upd H a (`pF `Pt),`cu (`pZ hB),DL.setN i k n' δ,(`ja).bind,λk=>`vR,di0 ns d y,(λd h=>by unfold R5 at h;cases h),(`nH).isSome=`c,O4 i ga gb δ,PN X i a ga,(`a0R),⟨dx,ad,ns,as,sos,en,e1,at',`ac2⟩,(`CU s1).same s2,⟨ad,`fQ,F.w.openOk,?_⟩,(F.w.opAt f1 f2),k w H2 M w2,(`a0S),`agX (λp=>`G (`le)),`a0T hl,`aP (`k k1) l1,`aP (`k k2) l2,⟨u,q,`m_⟩,(.List `pW lpos),(`agY).lookup,`a (`hm l),B a∨a=p1,(`a03),(`a0'),(`a1b),(`a1g),(`a1k),(`a1m),(`a1o),(`a1v),(`a1L),(`a19),(`a2g),(`a2o),(`a2t),(`a2D),(`a2G),(`a2T),(`a3c),(`a3e),plN `a3j,(`a3w),(`a3x),(`eM `aM),(`a3Q),(`a3S),(`a3Y),(oA `qN W3),(`a4d),(`a4e),(`a4v),(`a4D),(`a4H),(`a4K),`cl[c]?=`aL,s.2[i]?=`a (`vV),`cl[k]?=`aL,h.ptr i b hi hb,(`b5 hy).1,La.Pi ps qs p0 s,z[i]?=`aL,(∀v∈z,`f2),hz 0 v rfl,hz `bM u hu,(`a4M),λi u hu=>?_,`hS (`uN `PC) (`qP `PC),`hS a b=`c,`k (by rw[`ai];simp),(`ahw).bind,vat ps `qQ w,vat qs `qQ w,`a (`PD),Y4 `bP FI (`h! pN) `ahy,Y4 `bP FI (`h! pN) δ',Y4 `qU FO (`nK m) `PI,i<n->`vY->`PJ->`vZ,`ahz::`ahA,Y4 `qU FO (`ahA) δ',by rw[`agV,e],u5 `ahC rfl,`PM=`qV,Rch ps qs `cm y,
∀x,x∈A↔`nL,∀(d:D) (δ:Ds),`v2=`ar->oA `ahG Y5 (`as::`ap::δ)=`ar,o7 (ds:=`ahF) (`v rfl (`v rfl (`v (`BX) rfl))),∀(s:Cs) (r d:D) (s3:Sl),`PO=`ar->oA `ahI c7 [`as,`ap,`ahJ,s3]=`ar,o7 (ds:=[`nB]) (`v (by rw[o7 (ds:=[`en]) `ei];exact mf0 s) rfl),∀(s:Cs) (w:`e),`v2=`a `ahK->`PP->`PQ,j4 rfl (u5 `PR (u5 `PS (u5 (δ':=`ahL) ?_ `eg))),ifD _ _ _ `ahL,∀(s:Cs),`v2=`ahM->`PP->`PT,j4 rfl (u5 `PR (u5 `PS (u5 (δ':=`PU) ?_ (u5 (δ':=`PU) ?_ (`lf))))),ifD _ _ _ `PU,∀(s:Cs) (r:D) (x y:`F) (a b:`e),`v2=`a `ahH->`PO=`ahN->Wy s x a->Wy s y b->`ahO->`PV->`PW,j4 rfl (u5 `PR (u5 `PS `eg)),ifD _ _ _ [`as,`ap,`ahJ,.sh `PE],o8 `a43,o7 (ds:=[`en,`qR]) `no,o7 (ds:=[`en,pN y]) `no,mn0 hp hq (p0:=`cm) p1 p2,La.Pi ps qs `cm `ahP,⟨rfl,`C9,`ahQ,`f3,`ahR,`ahS⟩,Q.few hp hq,by rw[`PX,e1],`v2=`a (`m [`en,rd]),(Ta.bf0 `PY `PZ _).mp,List.getElem_map,(`a44),(by injection z),`a45 0,(`nN).vals.length,k<(`nN).vals.length,w1.lv _ (C0 hk),w2.lv _ `P0,`ue `g,h2 y (A8 _ hy),w.map `PC,Go ps qs w `f0 z S r->`P4,(∀y∈S.1,`C?),Pg ps qs `cm n c s,`nO i a ha,`nO n w ew,∀(i':Nat) (y':`F),i'<i->A[i']?=`v5->`Dc,(`qX).1[n]?,exs q c z s,(w++[c+j]),`qY[n]?=`eH,`qY[i]?=`bm,∀(i':Nat) (y':`F),i'<i->`qY[i']?=`v5->`Dc,Wi' s1 i a,Wi' s1 n w,λt ht=>?_,(`a47),(`a48),(`v4)[i]?=`a2,(`b5 hu).1,ex1 q (c+j) v (`P7),⟨[],[],`aS⟩,by rw[`v6,`nP];rfl,by rw[`e5,`gX];exact`v7,by rw[`gX];exact e,jn0 hp hq `cl 0 s S P g I e ew (λi v h=>by rw[`bT];exact h),.out eS ew h13,w40 q (`O0 j') 0 s,List.take_take,Y4 `bP FI (L2.map pN) δ',Y4 `bP FI `ahV δ',`m [`dL,`qR],k<(`jG).length,`a ((`jI).map pN),`a5b=_,`m [`dL,pN A[k]],`a (oD (`lh [])),`ahY=`ahZ,All ps qs 0 `li o,zp0 G1 G2 δ,ifB gt Ga Gb δ,(`v8).map,[`as,`ap,.sh v.1,.sh v.2],j4 rfl (u5 st `cz),o4 (x:=v.1) (y:=v.2) rfl rfl,`P'=`a (.ow (O5 p (dkN `p6 n1))),yf0 2 `qL gk gv δ,show rw0 (zw0 1)=`a 1 from rfl,`H (sh0.mpr hh),`P (λz=>hh (sh0.mp z)),`P'=`a (.ow (O5 p (dkN n0 `p6))),yf0 2 `Dg gk gv δ,show rw0 (zw0 2)=`a 2 from rfl,W2 b [`br,`b',`f5,v.1,v.2],
ot0 rfl λp=>`k ⟨`ah_,?_,rfl⟩,o7 (ds:=`ah0) rfl,q10 hp hq l1 l2,s30 (W00 ?_),(m7 _ _).map _=_,`m [`d `P!,n6 a],`m [`d `ah1,n6 b],dT ps qs p k1 m `ia `Dh .un .un,b1=b/\a1=a,[`uW,n6 (if `P? then w2 else w1),`f5],`G (a1=a),dT ps qs p k2' m `ia `Dh `ah4 (.sh (`ah7)),`a (`m [`nQ,`Dj]),show (`v8)[i]?=`a (x,w) from P5.mpr `Dk,`a (`m [`nQ,`Dl]),⟨x,hx,by injection e with e;omega⟩,⟨x,hx,by rw[e]⟩,λi' hi e=>?_,`Qa nd e1 h1,`qZ++[`ah8],`q_++[`ah9],(`a5c),yf0 2 `qL `nJ `Qd (`ah'),(`a5d),⟨y,A4 h1,e⟩,yf0 2 `Dg `vU `Qf (`ah!),(`a5e),`H `eA,∀(i':Nat) (y':`F),`ah?,by rw[`Do,ej],`k ⟨j,u,b,`x,e,hb⟩,`h λu hu e=>q `aia,(`a5h),(`a5j),`P (λz=>g0 z.1),cf y `ib u0 (A4 f1) (`k (`aib f2.symm)),`Qa nd h1 f1,cf y `ib u1 `nR (`h (`aib e2.symm)),`Qa nd h1 e1,`P (λz=>an (sk0.mp z)),`y hc (J y `ib),`y hc (F y `ib),(`a5m),∃t11 t12,`wb=`a (.nx (fS ps qs S l `lj w q `ic t11 t12)),O.few hp hq,O.inr q hq',(`C').2.lv,(`C!).2.lv,(`a5p),ifD _ _ _ (`Dp),`a5u=_,(`a5x),fS ps qs `Dq l `lj w q `ic `wa (`qW),c<l.length,Go ps qs w c z S r,Y4 `wc FB ((`eQ c `dm).map nI) `Dr,(`fq S' h),Y4 `wc FB ((`eQ `f0 `dm).map nI) δ',⟨(λS' e=>by cases e),`aig⟩,ih O hw F hh f3 _ t11 t12,LB `aij,Y4 `Ds LB (`Qn) δ',dz0 hp hq (l:=l) G O (A4 e2) `nR hh s8 s9 s10 s11 s12,V2 WT WB f `wg,(`q3).length,lo<S.1.length,(`a5z),[`t2,`c5],`Qp (by rw[`gZ];exact hy),(z.map `wh),sw S.1++[`nS],[`b',`br],(se0 hq hp).2,⟨Pn.xv0 (n:=49) `vo,`vH `vo⟩,`a5B=`jK,ge [`t8],m80 _ `vo,[`i7,`i7],g1 `gV=`bH,g2 `gV=`bH,o30 i jk f gA g1 g2 g3 gK gz gR δ,⟨(λz=>by rw[z] at e';cases e'),λE=>?_⟩,Ea.kn0 hp hq mp mq E,`a (.bl (ay0 o)),(fin _ rfl),`jy ws[k] vs,(ws.take k).map `dP,`m ((ws.drop `bS).map `dP),ob `ag7 `ain,A8 _ (h1 k hk),`eQ 0 `em,List.length_range',by have:=nn x _ hl.1;omega,(W9 K9 `Ck),[`ap,`a6,`bk,.un,.un,.un,.un],[`ap,`a6,`bk,`nw,.un,.un,.un],x/60%(m:Int),by have:=nn (x/60) _ Y;omega,`cI `Qv,U4 `a5H,[`ap,`a6,`bk,`nw,`ej,`jL,.un],`G (`Cl<60),x/480%(`h6:Int),by have:=nn (x/480) _ Z;omega,(`a5J),(`a5K),
(t/24%3==0),⟨rs,`a6,u5 s1 (u5 (δ':=cS ns ps t m rs p `wj `Dw) ?_ rfl),w⟩,(`a5L),u5 (j6 (by rw[o7 (ds:=`Ck) rfl];exact e)) rfl,p00 [`fg]=`jM,if `Qw<t%6 then `Qw else t%6,cS ns ps t (`wk) qs (`Dx) .un .un,o4 (x:=`nk) (y:=`d 6) rfl rfl,(`a5P),(`a5Q),(`a5_),(`a56),(`a59),FnD P w K mg `t `DA 1 `ln R4,FnD P w K mg `t `DB 2 `fr z00,FnD P w K mg `t `DC 1 `ln X6,FnN P w K mg `t `DD 1 `Qz zv0,(`a5'),(w6 `DE v9),(`a5!),T.b_enumerate,(w6 `g_ v9),C_are_links,T.b_reversed,(`a6c),(p8 `jN u9),(`a6e),(w6 `jO v9),(`a6h),(`a6i),(`a6j),(o5 5 `jP),[`c8, `ait],[`c8, `aiu],(`a6l),FnD P w K mg `t `DJ 1 `QD M9,C__law_value,(`a6m),(`a6v),[`c8, `jt, `q7, `aiv],(`a6z),(`a6A),FnD P w K mg `t `DK 1 `DL R6,(o5 6 `wn),(`a6E),(`a6F),[`c8, `ng, `jt],(`a6J),FnD P w K mg `t `DQ 1 `DR Y0,(w6 `q8 v9),(`a6N),(`a6Q),(`a6S),(`a6'),(`a7b),(`a7e),FnD P w K mg `t `DS 2 `QI ze0,[`c8, `g2, `DM],C__law_led,(`a7f),(`a7g),[`QK, `g2, `ng],(w6 `DV v9),(`a7j),(o5 3 `jT),(`a7l),(`a7p),C__law_from_root,(spD K p00),(`a7r),(`a7s),(`a7t),(o5 4 `nV),[a,b,c,d,e,f],Fun K x x st f fd,∀(kV doc pm:`A) (an:`cT) (cdv ct u:`A),`nW `wp `LF=`bg (`mG [u]),⟨f,fd,o,`DX,`DY,`DZ λ_ _ _ _ _ _ us h=>by obtain⟨u,rfl⟩:=us1 `D_;exact b _ _ _ _ _ _ _⟩,∀(kV doc pm:`A) (an:`cT) (cdv ct u v:`A),`nW `wp ⟨[u,v],[]⟩=`bg (`mG [u,v]),⟨f,fd,o,`DX,`DY,`DZ λ_ _ _ _ _ _ us h=>by obtain⟨u,v,rfl⟩:=us2 `D_;exact b _ _ _ _ _ _ _ _⟩,∀(kV doc pm:`A) (an:`cT) (cdv ct u v w:`A),`nW `wp ⟨[u,v,w],[]⟩=`bg (`mG [u,v,w]),⟨f,fd,o,`DX,`DY,`DZ λ_ _ _ _ _ _ us h=>by obtain⟨u,v,w,rfl⟩:=us3 `D_;exact b _ _ _ _ _ _ _ _ _⟩,(`ab f34),`zN `nX `nX (K4 `wq) (S7 `wq) (o6 `wq) `aE kV34 dc34 pm34 an34 cd34 ct34,L0 hT c9.lookup ?_,(`aNi),L0 hT d3.lookup ?_,(`aNk),by show `iP+1+n<cLine;omega,-(2:Int) ^ 63<=`KB,(`aNn),`G `aNo,`G (`KB<2 ^ 63),`aNp&&`aNq,(`aNr),by simpa [`aaT] using h,(`aNt),(λq=>nomatch q),λ(p:`de×V) (q:`aa_)=>`aa1,p.1=a∨H p.1=`mg,(hm b _ q λz=>z),(sd0 h H).get?,b∈`ml∨`mm<=b,`KQ b o e n hb hx,
λb ps e=>⟨#[],`abj⟩,TP X `i σ Q,by rw[I.ok.glob];exact `abs,h `i s σ H _ I hw,`ms .And [a] pos,ha `i s σ H Q I h,(`aNH),thn `aNI λc s1 e=>?_,λc s1 ⟨H1,I1,q1⟩=>?_,thn `tm `aNK,`ms .Or (`KZ) pos,∃σ' H',`mv/\`abz,λ_ s'=>`aNN,`mw o i pos,hi `i s1 σ H1 _ I1 q1,`mx [tg] e pos,.While c `gy [] pos,by rw[z];exact hb,PIE X `i σ tg R,"dict_itemiterator","dict_reverseitemiterator","odict_iterator","itertools.zip_longest","itertools.pairwise",[`hw, `hx, `aNV, `aNW, `aNX, `aNY, `aNZ].contains,(sb.2 b hb).trans,`aN0 e,λb o hb e=>`aN1,`bK `kp p,`bL `abL [a] [] pos,ha pos `i s σ H _ I h,thn `K' `abM,E3 `K! hs rfl,`bL `abL `hy [] pos,.For tg `i_ `gy [] pos,(E4 _ (vq0 hb e)),E4 _ `aN',hb `i s1 σ H1 _ I1 q1,ho `i s2 σ H2 x y v u Q I2 rx ry q,λv u s2 x y H2 I2 rx ry q=>`aOa,Y70 ha hb I h `aOb,intBits_le_64 h1 h2,y=`w/\Q (.bl (`ab_)) H,λx y H Q=>`aOe,Q (.bl (!`ab_)) H,y=`w/\`aOg,λx y H Q=>`aOh,`zJ∨r' x y H Q,λx y H Q=>`aOj,if j > i then j else i,(`aOl),`d `aOm,Q `ab1 H,xs=`i2/\`aOo,∃i j,`aOp,λxs H Q=>`aOq,if j<i then j else i,(`aOs),`d `aOt,Q `ab2 H,xs=`i2/\`aOv,∃i j,`aOw,λxs H Q=>`aOx,xs=[`aj]/\Q `dj H,∃i,`aOz,xs=[`ty]/\Q (`Lf) H,(`aOA),∃k,`aOB,`aOC∨`aOD,λxs H Q=>`aOE,h pos `i s σ H _ I hq,by rw[← `a'];exact z,⟨`aOH,?_⟩,(`aOG),λus s1 ⟨xs,H1,I1,r,z,q⟩=>`aOI,thn `aOJ `aOK,.List es pos,`bK x p,∀v,(x,v)∉binds,x.above y c (E8 h),(`aOP),`zN name `ez params `gy `cG dV kV doc pm an cdv ct,sq0 CX P w K mg `t N `ez `cG f cdv A `cF s H E,zo0 I hg hm hv ?_ hn hdb,(`aOT),λus s1 ⟨vs,H1,I1,r1,q1⟩=>`ab9,thn `K' `aOV,(`cd (`G (a<c))),by simpa using hv,if v<0 then max (v+`b7) 0 else min v `b7,args_tuple_getitem,`aO_ _ _,entry_tuple_getitem,(`aO0),C9 S0 `mJ `aO1 ?_ `aO2,(vx0 hs pl pu ?_),⟨_,rfl,`hB⟩,A1 `aO5,A1 `Ls,.Slice lo hi `b p2,`mw e `acc pos,by rw[F];exact hw,by rw[hj];simpa using ew,by rw[`b0]<;>omega,xs.set j v,`o `acj,upd H p `ack,by rw[hk];exact⟨_,I',q⟩,pu0 rx fx r fs w `z2,λw hw=>`aPe,fin its r' hz h' c' kp e,
λh' c' kp e=>`aPg,λv s1 ⟨x,H1,I1,r1,ty,q1⟩=>?_,thn `z7 `aPi,keywordEach [] `B,by rw[`b0];omega,s'.os=s₁.os/\`LE,OldK `ps `hz/\`aPm,r=.ok (`dC `tV)/\`aPn,λr s'=>`aPo,λf vs=>PySem.call f vs,`abd n==`ho,`acF&&`aPr,⟨`Aj,`i_,ifs,0⟩,[`aPt],`LN elt `aPu `cG pos,J.stop i H2/\Q `mO H2,(`LM&&`acL&&`acM),`aPx=`c,if `aPy then `t1 else k,λk=>`aPz,(`pi x).map `aPA,by rw[hsc];exact z,by show `ti x.1=_;rw[hsc];exact z,`a (`px),`mx [`px] `kx spos,`mD<=i/\`acR,`E (`acU sep ys),`dJ λa=>`E (h a),(`aPI),tDT X.K B δ g,q σ H Q z,tDS X.K `aw `ak δ G,tDG K idx f B d δ v σ H Q,∃B d δ,`aPN,λv σ H Q=>`aPO,(s6.nf _ _ _ hb),s5.nf _ _ _ `aPQ,hg cl s _ ex B d δ `i s' σ H v u Q I r h,λcl s H ex pins s' σ H v u Q I r ⟨B,d,δ,h⟩=>`aPS,ht cl s _ ex B δ `i s' σ H Q I h,λcl s H ex pins s' σ H Q I ⟨B,δ,h⟩=>`aPU,he cl s _ ex B δ `i s' σ H Q I h,λcl s H ex pins s' σ H Q I ⟨B,δ,h⟩=>`aPW,d=`w/\∃δ,`uk=`Aq,(`aPY),`aPZ∨`Mr,`adg∨`aP_,`E (`Mu z lo hi),wpAny_notOrdered_dict,`aP2 ty ?_,(`aP3),if `AQ then (kv.1,y) else kv,λkv=>`aP5,`MI `aP6,by rw[l];exact `MK,show u=`iQ b from ry,by rw[e];exact `m3,(`pW:`b2).length,`aP!+`ur,`aP?+`us,`aQa<30,(`aQb),s=`uo/\o'=`pH,∃d,`aQd,`kG (λo sl h=>?_) `fS,(`hR a z).same,`pp `kH `A2 `mL,(`aQh),`bL `aQi [e] [] `dI,`MY s1 b1 b2 hi J F,`pp `kH "pop" `mL,rv.same s1,h `aw `ak δ,ww0 (i:=j) hN hj hy hf2,by rw[`m7,`m7];rfl,(⟨#[]++`ux⟩:Str),(`a! `hM `ux).foldl,`aQr `hN #[],(`aQs).size,{ cls:=`d5,dict:=dd,data:=`Kz,slots:=sl },`a `aQu,F.args_int_rmul_2,`aQw _ _,ih m' d e x y u w `bF a0 h1 h2 h3 h4 h5 h6,λd e x y u w h1 h2 h3 h4 h5 h6=>`aQy,sr0 Z Y rr J rv M `aQz,by rw[s1,s2,hl],by rw[s1,s2];simpa using hl,`mE a .Add b pos,gs0.or (fw0.or jb0),(`aQE),o50.or `aQF,(`aQG),c30.or `aQH,`mE a .Mult b pos,`bL `Li [e] [] pos,`mY (X3 hl),{ cls:=`dg,dict:=`b,data:=`bu acc' c',slots:=#[] },`i8 `ao A c' R s',c'.quiet=`c/\`aQN,match fin with|.done f=>R (.ok f) s'|.again c'=>`aQO,λfin s'=>`aQP,λe s'=>R (`adU) s',(λ_=>(#[]:`bh)),`p8 `aQS,
`bK `ew p,`bL `ad0 [`Nb] [] pos,(`Nc).isSome=`up,`ub->`aQW,ys0 `c,by rw[`dM,← hl,`p9];exact hz,zk0 pr.1 pr.2 q d,B8 hz rfl (x:=`fe a) rfl ?_,(`aQ0),∀c o,`uD->`ad9,Builtin.«zip.__next__»,`aQ3 ⟨[`p'],[]⟩,fin=.done (`dC v),`aQ5/\Q v s',∃v,`aQ6,λfin s'=>`aQ7,`ad? `m! D.i1z,`aea `m! D.l1z,(`aeb `m! D.i2z).extBut,`aQ! `uF `aec,(`aed `m! D.l2z).extBut,`aRa `uF D.l2i1,Ab0 (hsz:=`Nl) ?_,(`aRc),ha `jl `i s σ H _ I h,(`aRe),thn `aRf `abM,⟨fr b hb,(`mA).2⟩,λb hb=>`aRh,`bK `hw p,`bL `aeg [a] [] pos,n==1||`m2==0,{ cls:=`dg,dict:=dd,data:=`Kz,slots:=sl },`a `aRm,{ cls:=`dg,dict:=dd2,data:=`bu `Nr n2,slots:=sl2 },`a `aRo,(he `dE w _ _ ?_),c≠TO->`ad9,`uD->`aRr,∀c o,`aRs,B8 hz rfl (x:=`Nu) rfl ?_,(`aRu),`ad? `kT D.i1z,`aea `kT D.l1z,U1 `aem `aen hx λg2 a0 e2=>`cZ,(`aRy),(`aeb `kT D.i2z).extBut,`aRA `m? `aec,(`aRB).extBut,`aRC `jn `aeo,(`aed `kT D.l2z).extBut,`aRE `m? D.l2i1,(`aRF).extBut,`aRG `jn D.l2TO,.Dict `Bl [ve] pos,upd H `an `aes,by rw[`aet];simp,(wpAny_alloc ?_),⟨`d!,_,I3,rfl,?_⟩,A1 `aRM,(`aRN),A1 `aRO,(`aRP),A1 `aRQ,(`aRR),Builtin.List.listFitsIndex,(`pp o `Nx `mL),`bL `aRU `pW [] `dI,`Ny/\Q (`d `mf) H,`jo/\`aRW,∃(p:`f) (kvs:`uL),`aRX,λxs H Q=>`aRY,C9 c6 ti Cq0 ?_ (Cr0 _),(`aR_),E5 (name:=`nb) ti c6 `aR0,(`aR1),l4 `aR2,(`aR3),wpAny_fieldsOf eu du ?_,(`aR5),A0 `aR6,(`aR7),A1 `aR8,(`aR9),l5 ti `aR',(`aR!),A0 (Ad0 e da ?_),(`aSa),A1 `aSb,(`aSc),A0 (Ae0 e da ?_),(`aSe),A1 `aSf,(`aSg),wpAny_setField eu du `S ?_,(`aSi),es[i]?=`a e/\v=e.key,∃e,`aSk,λi v=>`aSl,KyV H (`MI `bv) ys,`aSn->`aey,`po->`aSo,∀l ys,`aSp,H d=`AW/\`aSq,xs=[`qd]/\`aSr,∃(d:`f) (kvs:`eJ),`aSs,λxs H Q=>`aSt,`bL (`bK `jk p) [a] [] pos,us1.toArray.size,(`aSw:Int),(`cx `uO).map `NE,(`aSy),∃p q,`ff h' TO p q,λQ' q=>hf _ _ Q' q,#[`aE,`Be,`p',`fe 0,`aE,`aE],`iS `aSC,{ cls:=`Bp,data:=`aSD },`bL `aeg [`NH] [] pos,match d with|`m [_,v]=>v|_=>`w,λd=>`aSG,(`nc).map `E,(`uS).cps.toList,unG wx0 `aM,z9 `hV v7,oA `NN b7,(`aSM),z9 `aSN v7,(`aSO),z9 `Bt `aSP,(`aSQ),m7 `aSR,(`aSS),Z0 `aST,
(o2 `gJ `Bu eqD),ob `aSV,oA `eL zn0,z9 `aeH v7,(`aSY),oA `aSZ R3,(`aS_),z9 `aS0 v7,oA `NN qh0,(`aS2),yl0 `aS3,(o2 `I `uV yy0),m8 `bP `aS5,oA (z9 (`aeJ) v7) z00,z9 (`Bx) v7,oA `aeK z00,ru0 `bQ `fY,T5 3 `aeL,oA (z9 (`aeM) v7) z00,oA (z9 (`aeN) v7) z00,(`aS?),(`aTa),o2 `aTb `aTc Q8,(`aTd),ob `aTe,z9 `fh v7,z9 `aF `aeO,(`aTh),m7 `aTi,(`aTj),xu0 `aTk,(`aTl),Z0 `aTm,oA `By b7,(`aTo),Q0 `aTp,o2 `c7 `aeP ltD,(`aTr),ob `aTs,(o2 `cj `c7 ixD),xw0 `aTu,(`aTv),m8 `hW `aTw,o2 `dr `bG ixD,o2 `I `aeQ ixD,(`aTz),z9 `aTA v7,(`aTB),oA `aTC `kX,o2 `dr `aM ixD,o2 `aC `aeR ixD,(`aTF),z9 `aTG v7,(`aTH),oA `aTI `kX,(`aTJ),z9 `aTK v7,(`aTD),(`aTL),z9 `aTM `aTN,te0 `aeS,z9 `dr v7,z9 `aF `aeU,(`aTR),oA `aTS zv0,z9 `jq v7,Z7 `NO,(`aTT),(`aTV),o2 `aTW `aTX d9,(`aTY),z9 `aTZ v7,(`aT_),z9 `aF `aT0,m7 `aeV,(`aT2),xu0 `aT3,(`aT4),Z0 `aT5,oA `qi R4,ob `aeW,oA `qi X6,o2 `NP `aF `NQ,ob `aeX,yp0 `aeY,N6 `aeZ `ae_,z9 `dr `NO,(`aUb),m7 `aUc,V7 `ae0,rs0 3 `NP,(`aUe),(`aUf),V3 `aUg `aUh,S9 4 `NP,(`aUj),W7 `aUk,o2 `uV `nd eqD,ob `ae1,o2 `qg `qh eqD,ob `ae2,J5 `ae3 `ae4,(m7 (z9 `aF `c6)),Z0 `aUr,z9 `bG `qj,m7 `ae5,(`aUu),z9 `aUv v7,(`aUw),z9 `aC `aUx,(`aUy),z9 `I `aUz,oA (z9 `nd v7) ta0,(`aUB),z9 `aUC v7,gc (`uW),gc (`BA),m8 `eN (gc (`E `ae6)),o2 `I `gK Z4,o2 `aM `NR d9,(`aUI),m8 `bP `aUJ,o2 `I `gK Y9,m8 `bb `ae7,(`ae8),gc `aUN,o2 `I `NS Z4,(`aUP),S9 4 `aUQ,(`aUR),W7 `aUS,o2 `I `NS Y9,(`aUU),m8 `bb `aUV,gc (`uX),o2 `aC `I ixD,V5 1 [2] (ye0 `cj) `bb noT `NT,(`aUZ),z9 `aU_ v7,(`aU0),p40 `ae9 `aU1,(`aU2),Q0 `aU3,(`aU4),m8 `hW `aU5,(o2 `cj `jq ixD),Q0 `aU7,(`aU8),o2 `aU9 (o2 `nf `c7 J4) d9,(`aU'),o2 `aU! `NS Z4,(`aU?),o2 `bQ `aVa ixD,(`aVb),m8 (gN 9) `aVc,o2 (U5 `dr V8 `ae') `ae! d9,o2 `jq `aM d9,(`aVf),`eM `aVg,U5 `dr `ae? V8,(`aVe),(`aVi),o2 `aVj `aVk d9,(`aVl),S9 8 `aVm,(`aVn),W7 `aVo,gc (`NU),gc `afb,o2 `I `NW Z4,o2 `I `NW Y9,(o2 `I `afc J4),o2 `aVu `NX Z4,(`aVv),m8 `bb `aVw,S9 3 (oA `BC M9),(`aVy),W7 `aVz,(o2 `aF `bG eqD),ob `aVB,o2 `nd (gc (`afd)) d9,(`aVD),z9 `aVE v7,(`aVF),z9 (gc (`afe)) `aVG,(`aVH),
z9 (gc (`E "a")) `aVI,(`aVJ),z9 `ae9 `aVK,(`aVL),Z7 `aVM,(`d 16),gc `aVO,o2 `I `aff Y9,o2 `afg `nf Z4,(o2 `aF `nf ltD),ob `aVS,(oA `hX R3),z9 `aVU v7,(`aVV),z9 `Bt `aVW,(`aVX),m7 `aVY,(`aVZ),Z0 `aV_,o2 `ae7 `gN Z4,(`aV1),o2 `aV2 `js J4,oA `hX b7,z9 `afh v7,(`aV5),Q6 `aV6,o2 `aF `I d9,(`aV8),o2 `aV9 `gK Z4,(`aV'),o2 `bQ `aV! ixD,z9 `NT v7,(`aV?),z9 `aWb `afi,(`aWc),m7 `aWd,V5 1 [1,2,4] `afj `bb noT `afk,(`aWf),z9 `aWg v7,(`aWh),oA `aWi R3,(o2 `cj `gO Z4),o2 `I `aWk ixD,(o2 `cj `gO Y9),o2 `cj `aWm J4,(`aWl),(`aWn),o2 `aWo `aWp d9,(`aWq),z9 `aWr `By,(`aWs),oA `aWt R6,(`aWu),m8 `fi `aWv,z9 `gN (z9 `js `afl),(`aWx),z9 `js `aWy,(`aWz),z9 `gN `aWA,(`aWB),z9 `gN `aWC,(`aWD),z9 `aM `aWE,(`aWF),z9 `bG `aWG,(`aWH),Z7 `aWI,o2 `c7 (gc (`d 32)) Y9,(`aWK),o2 `aWL `gK Z4,(`aWJ),(`aWM),o2 `aWN `aWO ixD,(`aWP),m8 `hW `aWQ,o2 `c7 (gc (`d 256)) Y9,(`aWS),o2 `aWT `aff Z4,(`aWU),o2 `aWV `js eqD,(`aWW),ob `aWX,(`afm),gc `aWZ,z9 `NY v7,(`aW0),z9 `gK `aW1,(`aW2),Z7 `aW3,o2 (o2 `c7 `gK Z4) `nf ltD,(`aW5),z9 `aW6 v7,(`aW7),oA `aW8 `NZ,(`aW4),(`aW9),o2 `aW' `aW! ixD,(`aW?),m8 `hW `aXa,o2 (o2 `c7 `gK Y9) `aM d9,(`aXc),z9 `aXd (z9 `dr `hX),(`aXe),oA `aXf y60,(`aXg),m8 `uY `aXh,z9 `c7 (z9 `jq `c6),(`aXj),oA `aXk xh0,(`aXl),S9 3 `aXm,(`aXn),W7 `aXo,`eM `NM,(`aXq),U5 `I V8 `aXr,o2 `aC `NM ixD,(`aXt),o2 `aXu `I ixD,(`aXv),o2 `aXw `bG ixD,o2 `bQ `I ixD,(`aXy),z9 `aXz v7,(`aXx),(`aXA),z9 `aXB `aXC,(`aXD),m7 `aXE,V5 1 [0,1] `afj `bb noT `afn,(`aXG),z9 `aXH v7,oA `afo R3,(`aXJ),z9 `aXK v7,(`aXL),m7 `aXM,U7 `cI `aF,(`aXO),ob `aXP,(o2 `aC `qg yy0),orE (`Bx) `aXR,(`aXS),z9 `aXT v7,(`aXU),z9 `nh `aXV,(`aXW),m7 `aXX,(`aXY),m8 `bP `aXZ,z9 `NY (z9 `aC `afp),(`aX0),z9 `NY `aX1,(`aX2),Z7 `aX3,o2 (o2 `aF `ni Y9) `nf Z4,(`aX4),(`aX5),o2 `aX6 `aX7 ixD,(`aX8),o2 `aF `aX9 Z4,U5 `I (`eM `BD) (`eM `ni),z9 `I (z9 `js v7),(`aX?),oA `aYa Y0,(`aYb),z9 `aYc v7,(`aYd),Z7 `aYe,o2 `aC `gO Z4,m8 `eN `N_,o2 `I `bQ ixD,z9 `afq v7,oA `afr j5,T5 3 `N0,o2 `aF `fh W5,ob `N1,yp0 `N2,o2 `aC `ni Y9,oA `gP b7,Q0 `afs,(`aft),gc `aYs,
(`aYt),o2 `aC `aYu Y9,z9 `gO v7,`A5 3 `cj,`eM `bQ,U5 `I V8 `N3,z9 `afq `gP,(`aYA),oA `aYB V9,(`aYC),z9 `aYD v7,m7 `N4,(`aYz),(`aYF),o2 `aYG `aYH d9,o2 `bQ `aM d9,(`aYJ),`eM `aYK,U5 `I `N5 V8,o2 `afu `afv d9,(`aYN),xu0 `aYO,(`aYP),Z0 `aYQ,(vy0 `c),o2 `aF `aC `aYS,ob `afw,yp0 `afx,o2 `I `aF ixD,(`aYW),z9 `aYX v7,oA `afy j5,(`aYZ),z9 `aY_ v7,(`aY0),nz0 `aY1,U7 `cI `cj,(`aY3),ob `aY4,(Q0 (oA `c6 k90)),V7 `aY6,z9 `NT `c6,o2 `I `BE Z4,tz0 2 `afz,(`aY'),oc0 3 `aY!,(`aY?),W7 `aZa,o2 (gc (`afA)) `BE J4,(`aZc),o2 (o2 `I `js Y9) `aZd d9,(`aZe),m8 `bb `aZf,Q6 `N7,(o2 `I `c7 ixD),z9 `aZi `gP,(`aZj),oA `aZk ze0,(`aZl),V7 `aZm,(o2 `aF `c7 ixD),`A5 4 `aZo,(`aZn),(`aZp),V3 `aZq `aZr,o2 `aC (o2 `c7 `gN d9) Y9,(`aZt),o2 `aZu `aeP Z4,(`aZv),z9 `aZw v7,(`aZx),z9 `nh `aZy,(`aZz),m7 `aZA,m7 (z9 `nh `qj),(`aZC),z9 `aZD v7,(`aZE),z9 `fY `aZF,(`aZB),(`aZG),z9 `aZH `aZI,(`aZJ),m7 `aZK,(`aZL),z9 `aZM v7,(`aZN),z9 `Bt `aZO,(`aZP),m7 `aZQ,(`aZR),V7 `aZS,(o2 `gO `c7 d9),o2 `aF `aZU ixD,(`aZV),`A5 4 `aZW,(`aZT),(`aZX),V3 `aZY `aZZ,(yv0 ?_),O7 `aZ0,u5 (δ':=`qk) `b8 `afD,u5 (δ':=`nj) `b8 `afD,`v (d:=`BJ) ?_ rfl,o7 (ds:=[`afC]) rfl,by rw[`aZ5];exact e,o7 (ds:=[`afF]) rfl,by rw[`aZ7];exact e,k<((`BN:Nat):Int),(`aZ9),`G `aZ',(`aZ!),`a `aZ?,by rw[`M];exact h,`a (`G (t/8%3=1)),`ba (`N?).flatten,(`a_d),`E `a_e,c%2147483647,`a_g+1,gc (`fk),o2 `bQ `afP ltD,o2 `bQ `afP eqD,by simp only[`bo,`h1];omega,`a (`G (x%8=0)),by rw[wz0];omega,`v (d:=vs.getD k `w) ?_ rfl,`a (`G (x%8<6)),show `h2<=`bq by omega,x/256%16,if `qq then 12 else 8,`G (`Ol),(`a_t),`a `a_u,by simp only[`ai,`c'];omega,ye0 (oA `eL `kX),o2 (Q0 `afX) `bG gtD,(`a_y),ob `a_z,o2 `dr `cj `NQ,(`a_B),ob `a_C,yp0 `afY,`uB 4 `dr,V3 (V7 `B5) `afZ,z9 (`af_) v7,(z9 gw v7),oA `a_I w50,(`a_J),z9 `a_K v7,oA `af7 o20,(`a_M),ew0 5 `a_N,ms W k l U o T s,`G (`h2<(`vd:Int)),(`a_Q),`a `a_R,ms W k l U o (x::T) s,`aP (`k (`af9)) (`af'),(`a_U),by rw[`jB];exact hx,λy hy=>`a_W,(`c_ h).resolve_left,`a_Y `Oy,A9.mpr ⟨q,hq,rfl⟩,of_decide_eq_true,`qy&&`cI w,
Nat.min_eq_right,`v (gp _ _) rfl,(`k7).take,by rw[`M];exact F,(bk++[k]).map nI,(`a_6),`o `a_7,(`a_8),λr:D×Ds=>`vq r.2,`v (`ON a1) rfl,`v (e2.trans b1) rfl,`nC ⟨v,hv,e⟩,prt ps qs u,pS ps qs P s n a b c,hx.resolve_right,`h9 W o (T'++[x]) s3 s4,`h9 W o T' `fm s4,Xj0 _ o `jz x s3 s4,(`vD).map,`o `agH,rs ps x mo P qs (`Pf),by have:=tn0 `ny j hj;omega,rs ps x mo P qs s,`bu #[`oW,`e9] n,{ cls:=`d5,dict:=dd,data:=`a0m,slots:=sl },`a `a0n,if lt then b else a,(L6 _ _ ?_).trans,if i=j then `vM else `zI,if `CN then y else x,(`a0s),hb.go B δ,p80 n `cr gi f ge,(`LX).set jk `Pm,(`a0w),`bL `Li `e8 [] `dI,`bK y py',(`a0z),`mw `a0A eb spos,`pp `Pn `A2 app,(`a0C),`bL `a0D [ez] [] cp,(s3.trans s4).trans,(`th i `agR).set jk `agS,(`o (zs++[v8])),upd H8 l `a0H,tDB X.K `aw `ak δ G,h1.go `aw `ak δ,vs.take j++`dD::vs.drop j,h `i s σ H _ I q,`nG H `hH,λb hb=>`Pr id `b_,upd `Ps c so'.ho,as.zip (`CS),ut0 `agW,upd (`nG H' `hH) c so'.ho,(vz0 (q:=q) J).2,[l,p1,p2].zip,λa=>B a∨a=l,upd H `an (`vS),z9 `agZ v7,(`a0X),z9 `aM `a0Y,(`a0Z),oA `a0_ i70,(`a00),o2 `ag_ `a01 Z4,m8 `fp `ag0,o2 `aF `cj ixD,xw0 `Pu,U7 `cI `ag1,ob `ag2,(`a07),J3 `a08,J5 `Pv `ag3,o2 `ag1 `aM ixD,(`a0!),o2 `I `a0? ixD,m8 `fi `ag4,oA `afi m5,o2 `ag5 `ag6 W5,V5 1 `CV `Pw `bb `CW `I,(`a1e),m8 `hW `a1f,o2 `ag8 `gN Z4,(`a1h),o2 `a1i `aM W5,ob `ag9,o2 `gO `ni ltD,ob `ag',(ob (U7 `cI `bQ)),N6 `a1n `Px,oA (z9 (`ag!) v7) m5,oA `aeK m5,(`a1p),(`a1q),o2 `a1r `a1s Q8,(`a1t),Z0 `a1u,w90 (V7 `fY),z9 `vU v7,(`a1x),z9 `aF `a1y,m7 `ag?,z9 `nJ v7,(`a1B),z9 `aF `a1C,m7 `aha,o2 `aeR `vU W5,ob `ahb,o2 `jq `aM ixD,(`a1H),o2 `a1I `nJ W5,ob `ahc,N6 `ahd `ahe,z9 `aeQ v7,oA `ahf b7,(`a1N),z9 `a1O `ahf,(`a1P),m7 `a1Q,o2 `jq `bG ixD,(`a1S),z9 `a1T v7,oA `ahg b7,(`a1V),z9 `a1W `ahg,(`a1X),m7 `a1Y,(`a1Z),z9 `a1_ v7,(`a1R),(`a10),z9 `a11 `a12,(`a13),oA `a14 ou0,(`a15),m8 (gN 8) `a16,(`a17),uk0 `a18,(o2 `Bz `aM ixD),z9 `a1' `gP,(`a1!),z9 `Py `a1?,(`a2a),m7 `a2b,(`a2c),V7 `a2d,(`a2e),w90 `a2f,(z9 `gJ v7),oA `a2h m5,z9 (`ahh) v7,(`a2j),oA `a2k m5,
o2 `ahi `ahj Q8,(`a2m),ob `a2n,z9 `Pz `aeO,(`a2p),m7 `a2q,(`a2r),Z0 `a2s,m7 (z9 `fh `qj),z9 `fh `ae5,(`a2v),m7 `a2w,(`a2x),z9 `a2y v7,(`a2z),Z7 `a2A,(`a2B),m8 `bP `a2C,o2 `afs `bG gtD,(`a2E),ob `a2F,oA `ahl j5,(`a2H),m8 (gN 8) `a2I,o2 `aC `jq ixD,(`a2K),z9 `a2L v7,(`a2M),oA `a2N j5,(`a2O),m8 (gN 9) `a2P,(oA `qi b7),z9 `a2R v7,Q6 `ahm,(z9 `CZ v7),Z7 `a2U,(`a2V),o2 `c7 `a2W d9,(`a2X),m8 (gN 11) `a2Y,o2 `ae! `CZ ixD,z9 `ahn v7,(`a20),z9 `C_ `a21,(`a22),z9 `C0 `a23,(`a24),z9 `aC `a25,(`a26),z9 `I `a27,(`a28),p20 2 `a29 W2,(`a2'),V3 `a2! (gN 12),o2 (gv 12) `fY vr0,(`a3a),ob `a3b,U7 `cI `C_,ob `PA,o2 `C_ `aM ixD,mj0 2 `qL `PB,(`a3g),O4 2 `a3h `bG,(`a3i),o2 `ahn `aM ixD,(`a3k),z9 `a3l v7,(`a3m),z9 `PB `a3n,(`a3o),z9 `C0 `a3p,(`a3q),m7 `a3r,(`a3s),S9 4 `a3t,(`a3u),W7 `a3v,Yb0 4 (m8 `bP `cj),U7 isInt `I,(`a3y),ob `a3z,(`a3A),J3 `a3B,U7 isBool `I,(`a3D),ob `a3E,(`a3C),(`a3F),J5 `a3G `a3H,o2 `aF `fY nc0,oA `eL V0,oA `hX V0,o2 `aho `ahp W5,(`a3J),(`a3M),o2 `a3N `a3O Q8,ob `ahq,o2 `aF `bQ Q8,ob `ahr,z9 `aC `eL,(`a3T),oA `a3U W3,(`a3V),o2 `a3W `aF Q8,ob `ahs,z9 (gc (`d 5)) v7,(`a3Z),z9 `I `a3_,(`a30),oA `a31 Y0,z9 (gc (`d 21)) v7,(`a32),(`a33),z9 `a34 `a35,(`a36),oA `a37 R6,(`a38),z9 `a39 `gP,(`a3'),z9 `aC `a3!,(`a3?),oA `a4a O1,(`a4b),V7 `a4c,oA (z9 `aC `By) yr0,(z9 `qO v7),z9 `I `a4f,(`a4g),oA `a4h Y0,o2 `dr `dr J4,(`a4i),(`a4j),o2 `a4k `a4l d9,o2 `dr `BD d9,(`a4n),z9 `a4o v7,(`a4m),(`a4p),z9 `a4q `a4r,(`a4s),oA `a4t R6,m8 `uY `aht,gc (`d 24),(`a4w),o2 `bQ `a4x Y9,(`a4y),o2 `a4z `js Z4,(`a4A),o2 `a4B `bG W5,ob `ahu,z9 `cj `NO,oA `ahv G4,(`a4F),m8 `fp `a4G,oA `ahv J1,(`a4I),m8 `fp `a4J,by rw[`bT];exact hv,λi v hv=>`a4L,[`qR,pN y],`m `a4N,`m [`en,r],(ca _ _ e1),j6 `a4Q,cc s _ _ _ e2,(`a4S),j6 `a4T,`v (d:=`C8) ?_ rfl,(`a4V),`v (d:=`C7) ?_ `a4W,(`a4X),`v rfl `a4Y,(`a4Z),b8 `a4_ `v3,(`a40),Z2 `a41,(`a42),(`P_).zip (`qP `b_),((`ahT).map `b_).getD,.shr a `lg,by rw[ee];exact I,by rw[`gX];exact hx,d50 P g I ew,ex1 q c u s,(L1++y::L2).map pN,`hO `vX `b `ahW,(`a4?),`a `a5a,
dT ps qs p k m `ia s6 .un .un,by unfold kk0;rw[`M];omega,by unfold kk1;rw[`M];omega,prt ps qs `v?,iv0 hz nd cf f1 f3 f2 _ p,λp=>`a5g,il0 hz nd cf e1 e3 e2 _ p _,λp=>`a5i,by rw[`Qi];exact `Qj,o4 (x:=`Qh) (y:=`q2) rfl rfl,by rw[`a5l];exact wb0 h2,u5 (δ':=`Dp) ?_ rfl,(`a5n),u5 (δ':=`Dp) ?_ `a5o,o2 `Bz `CZ ixD _,(`a5q).map,`a5r _,(`a5s),`f6 `a5t _,by rw[`lk];exact hi,(`a5v),S.2[i]'`a5w,lS ps qs S l `lj (`wd) (`we) (`wf) s8 s9 s10 s11 s12,T8 (items:=`q3) rfl e,R8 1 [] δ,V1 `bb `Qq `I `Qr `k9,by show 3<5;decide,b8 `ei `f7,`Qu qs _ rfl,by rw[hv];rfl,tt `q `aio,(`a5G),x/240%2==1,cS ns ps t m qs p `wj b,cS ns ps t m qs p `wj `Dw,tt.trans (by rw[hb]),([`ll]:`u).Nodup,(`aY:`a5M),o5 0 `a5N,λcl s H ex=>`a5O,λcl s H ex=>`jN,w6 `jN v9,X8 `f8 `Qx,(`a5S),w6 `a5T v9,(`a5U),w6 Z5 `a5V,(`a5W),Z1 `a5X,(`a5Y),d7 `a5Z,G8 C_pair_names hr `s `lm,(`a50),w6 `a51 v9,(`a52),Q4 T3 ym0 `dR `dS `a53,(`a54),w6 `a55 v9,o00 `q4 `Dz `jN,(`a57),zg0 `a58,w6 (p8 `al `jO) v9,yq0 (X8 `f8 `DF),w6 `nT v9,Z8 `aiq hr `s `DG,j7 tp0 u00 `aU J2,z80 J9 `dS `g0 `dR `jN,p8 `aV `lo,w6 `air v9,w6 `jO (w6 `lo v9),(`a6f),G8 `ais hr `s `a6g,j7 M3 R0 `lo `jO,j9 `wm (o5 0 `jP),p8 `aV `al,j7 um0 ve0 `cM u9,j7 um0 ve0 `aU u9,Q4 T3 ym0 `dR `dS `lp,(`a6n),w6 `a6o v9,(`a6p),w6 Z5 `a6q,(`a6r),Z1 `a6s,(`a6t),d7 `a6u,X8 `f8 `lp,w6 `aiw v9,(`a6x),Q9 `g1 `a6y,w6 `QE v9,(`QG:`u).Nodup,(`aY:`a6B),uc0 0 1 `a6C `s,λcl s H ex=>`a6D,S6 `al O9 (R9 `Dy),λcl s H ex=>`al,z80 J9 `dS `g0 `dR `aU,(`a6H),S8 `a6I,p8 `al `cM,w6 `aiz v9,(`a6L),jf0 `wo hr `s `a6M,j7 `jR yd0 `aU `DE,(`a6O),pb0 `a6P,X8 `f8 `jS,yq0 `aiA,w6 `f9 v9,S6 `al O9 (R9 `cM),w6 `aiz `jS,(`a6V),Z8 `aiB hr `s `a6W,(`a6X),w6 `a6Y v9,(`a6Z),Z1 `a6_,(`a6U),(`a60),Y8 `a61 `a62,(R9 (Y8 `cM u9)),S6 `al `a64 O9,(`a63),(`a65),Y8 `a66 `a67,(`a68),zt0 `a69,X8 `f8 `ft,(`a6!),yq0 `a6?,j7 dm0 kl0 `QH u9,z80 J9 `dS `g0 `dR `dT,(`a7c),S8 `a7d,Q9 `g1 `QJ,nh0 (p8 `aU `dT),ka0 (j80 2) u9,(Z1 (w6 `DE `id)),oo0 u9 `a7i,p8 `QA `DW,p8 `QM u9,([`q9]:`u).Nodup,(`aY:`a7m),o5 0 `a7n,
λcl s H ex=>`a7o,w6 `al `lp,Z8 C__law_asked hr `s (w6 `aV `DF),X4 (V6 `cM u9) u9,w6 `dT `QN]
noncomputable section
open PySem
noncomputable def A0:=@PySem.wpAny_bind
noncomputable def A1:=@PySem.wpAny_pure
noncomputable def A2:=@Option.some.inj
noncomputable def A3:=@Nat.le_refl
noncomputable def A4:=@List.mem_of_getElem?
noncomputable def A5:=@List.getElem?_eq_some_iff
noncomputable def A6:=@Bool.false_ne_true
noncomputable def A7:=@PySem.Heap.lt_size
noncomputable def A8:=@List.mem_cons_of_mem
noncomputable def A9:=@List.mem_map
noncomputable def B0:=@List.mem_cons_self
noncomputable def B1:=@List.mem_cons
noncomputable def B3:=@PySem.Heap.get?_push_of_some
noncomputable def B4:=@Ne.symm
noncomputable def B5:=@List.mem_append
noncomputable def B6:=@List.getElem?_eq_getElem
noncomputable def B7:=@PySem.Heap.get?_push_size
noncomputable def B8:=@PySem.wpAny_field
noncomputable def B9:=@Nat.ne_of_lt
noncomputable def C0:=@List.getElem_mem
noncomputable def C1:=@Nat.le_trans
noncomputable def C2:=@PySem.wpAny_holding
noncomputable def C3:=@List.mem_iff_getElem
noncomputable def C4:=@PySem.PassesOwn.never
noncomputable def C5:=@congrArg
noncomputable def C6:=@List.mem_range
noncomputable def C7:=@Nat.lt_of_lt_of_le
noncomputable def C8:=@PySem.wpAny_loadPart'
noncomputable def C9:=@PySem.wpAny_call_entry
noncomputable def D0:=@List.mem_filterMap
noncomputable def D1:=@Nat.zero_le
noncomputable def D2:=@Int.emod_nonneg
noncomputable def D3:=@PySem.W.mg_none_of
noncomputable def D4:=@PySem.wpAny_seqItems
noncomputable def D5:=@PySem.wpAny_mono
noncomputable def D6:=@Nat.le_add_right
noncomputable def D7:=@Int.emod_lt_of_pos
noncomputable def D8:=@Nat.ne_of_gt
noncomputable def D9:=@Nat.le_succ
noncomputable def E1:=@PySem.wpAny_setField_rec
noncomputable def E2:=@Nat.lt_irrefl
noncomputable def E3:=@PyProof.Rows.callWith_type1
noncomputable def E4:=@List.mem_append_right
noncomputable def E5:=@PySem.wpAny_callSpecial?_slot
noncomputable def E6:=@PySem.wpAny_newObj_type
noncomputable def E7:=@List.nodup_cons
noncomputable def E8:=@PySem.mem_of_lookup
noncomputable def E9:=@PySem.W.kia_one
noncomputable def G0:=@List.nodup_nil
noncomputable def H0:=@Nat.lt_succ_self
noncomputable def I0:=@PySem.wpAny_letGo
noncomputable def K0:=@PySem.F.slot_zip_next
noncomputable def K2:=@PySem.W.mg_of
noncomputable def L0:=@PySem.wpAny_specialOf
noncomputable def L3:=@decide_eq_true
noncomputable def L4:=@PySem.wpAny_Call_Name_kw
noncomputable def L5:=@List.of_mem_zip
noncomputable def L6:=@PySem.Heap.get?_update_other
noncomputable def L7:=@List.mem_singleton
noncomputable def L8:=@List.mem_or_eq_of_mem_set
noncomputable def L9:=@PySem.wpAny_rule
noncomputable def M0:=@PySem.SeqAt.EqAt.same
noncomputable def M1:=@beq_eq_false_iff_ne
noncomputable def N0:=@decide_eq_false
noncomputable def N1:=@List.mem_append_left
noncomputable def N2:=@PySem.wpAny_passesOwn
noncomputable def N3:=@PySem.Calls.spliced_cons
noncomputable def N4:=@Prod.ext
noncomputable def N9:=@PySem.typeIs_int
noncomputable def O0:=@PySem.call_meets
noncomputable def P2:=@PySem.Heap.SameBut.update
noncomputable def P3:=@List.map_congr_left
noncomputable def P4:=@PySem.plainId_quiet
noncomputable def P5:=@List.getElem?_zip_eq_some
noncomputable def P6:=@PySem.F.plain_min_loop
noncomputable def P7:=@PySem.codeAny_builtin
noncomputable def P8:=@List.getElem_inj
noncomputable def Q1:=@PySem.wpAny_truthy_bool
noncomputable def Q2:=@PySem.Calls.spliced_nil
noncomputable def S0:=@PyProof.Rows.slot_tuple_getitem
noncomputable def S2:=@LawfulBEq.eq_of_beq
noncomputable def S3:=@PySem.typeIs_str
noncomputable def S4:=@PySem.Heap.get?_update_self
noncomputable def T0:=@List.length_eq_zero_iff
noncomputable def U1:=@PySem.wpAny_nextOf_list_item
noncomputable def U2:=@Eq.symm
noncomputable def W1:=@of_decide_eq_true
noncomputable def X0:=@PySem.SeqAt.EqAt.int_int
noncomputable def X1:=@PySem.SeqAt.EqAt.int_str
noncomputable def X2:=@PySem.SeqAt.EqAt.str_int
noncomputable def Y1:=@PySem.wpAny_standAt
noncomputable def Y2:=@Option.map_eq_some_iff
noncomputable def Y3:=@PySem.F.plainAttrs_list
noncomputable def c6:=@PySem.F.slot_dict_keyiterator_next
noncomputable def c8:=@Classical.not_not
noncomputable def c9:=@PySem.F.slot_NoneType_hash
noncomputable def d3:=@PySem.F.slot_tuple_hash
noncomputable def d4:=@List.getD_eq_getElem?_getD
noncomputable def d5:=@PySem.SeqAt.EqAt.none_int
noncomputable def d6:=@PySem.SeqAt.EqAt.none_str
noncomputable def i3:=@PySem.SeqAt.EqAt.int_none
noncomputable def i4:=@PySem.SeqAt.EqAt.str_none
noncomputable def i5:=@PySem.SeqAt.EqAt.str_str
noncomputable def i6:=@PySem.wpAny_isInstance
noncomputable def i7:=@Nat.le_of_lt
noncomputable def i8:=@PySem.concat_meets
noncomputable def i9:=@PySem.wpAny_typeOf
noncomputable def j3:=@PySem.F.slot_list_pop
noncomputable def k4:=@Nat.le_of_eq
noncomputable def k5:=@PySem.F.slot_int_rmul
noncomputable def k6:=@PySem.wpAny_updateSeq
noncomputable def k7:=@Nat.lt_succ_of_lt
noncomputable def k8:=@PySem.Heap.size_push
noncomputable def k9:=@PySem.wpAny_nextOf_list_end
noncomputable def l0:=@PySem.wpAny_pyIter_enum
noncomputable def l3:=@PySem.wpAny_onRaise
noncomputable def l4:=@PySem.wpAny_attempt
noncomputable def l5:=@PySem.wpAny_typeNameOfWhole_keyiter
noncomputable def l6:=@PySem.F.entry_zip_next
noncomputable def l7:=@PySem.F.args_zip_next_1
noncomputable def l8:=@PySem.F.slot_enumerate_next
noncomputable def l9:=@List.mem_of_mem_take
noncomputable def m4:=@List.pairwise_map
noncomputable def n5:=@List.nodup_range
noncomputable def n9:=@List.length_set
noncomputable def o3:=@PySem.wpAny_tryCatch
noncomputable def p5:=@PySem.F.typeOf_object_class
noncomputable def p9:=@PySem.wpAny_pyHash_int
noncomputable def q0:=@PySem.wpAny_pyHash_str
noncomputable def r0:=@PySem.wpAny_forIn_list
noncomputable def r9:=@List.ext_getElem
noncomputable def t4:=@PySem.SeqAt.EqAt.none_tuple
noncomputable def u4:=@PySem.SeqAt.EqAt.int_tuple
noncomputable def u7:=@PySem.SeqAt.EqAt.str_tuple
noncomputable def u8:=@PySem.SeqAt.EqAt.of_refs
noncomputable def w4:=@PySem.SeqAt.RcAt.tuples
noncomputable def x0:=@PySem.wpAny_execs_nil
noncomputable def x6:=@PySem.codeAny_mono
noncomputable def x8:=@PySem.noFill_tuple_add
noncomputable def x9:=@PySem.seq_tuple_add
noncomputable def y0:=@PySem.F.slot_tuple_add
noncomputable def y3:=@PySem.F.entry_tuple_add
noncomputable def y4:=@PySem.F.args_tuple_add_2
noncomputable def y6:=@PySem.wpAny_sequenceKey
noncomputable def z0:=@PySem.SeqAt.EqAt.none_bool
noncomputable def A00:=@PySem.SeqAt.EqAt.bool_none
noncomputable def A10:=@PySem.SeqAt.EqAt.bool_bool
noncomputable def A20:=@PySem.SeqAt.EqAt.bool_int
noncomputable def A30:=@PySem.SeqAt.EqAt.bool_str
noncomputable def A40:=@PySem.SeqAt.EqAt.int_bool
noncomputable def A50:=@PySem.SeqAt.EqAt.str_bool
noncomputable def A60:=@PySem.Calls.callWith_builtin
noncomputable def A70:=@Nat.lt_trans
noncomputable def A80:=@PySem.tupleKind_room_in1
noncomputable def A90:=@PySem.F.slot_list_append
noncomputable def Aa0:=@PySem.F.type_list_append
noncomputable def Ab0:=@PySem.wpAny_newTuple
noncomputable def Ac0:=@PySem.wpAny_updateSeq_pair
noncomputable def Ad0:=@PySem.wpAny_dictEntries
noncomputable def Ae0:=@PySem.wpAny_dictEpoch
noncomputable def Af0:=@List.ext_getElem?
noncomputable def Ag0:=@List.nodup_iff_pairwise_ne
noncomputable def Ah0:=@List.Pairwise.imp_of_mem
noncomputable def Ai0:=@List.length_range
noncomputable def Aj0:=@List.append_nil
noncomputable def Ak0:=@List.length_pos_iff
noncomputable def Al0:=@List.idxOf_lt_length_of_mem
noncomputable def An0:=@PySem.F.entry_min_loop
noncomputable def Ao0:=@Nat.lt_or_ge
noncomputable def Aq0:=@PySem.wpAny_callSpecialIfBoundUnlessNone?_slot
noncomputable def Az0:=@PySem.Calls.Name_function_global
noncomputable def Bb0:=@PyProof.Rows.lt_int
noncomputable def Bk0:=@Nat.succ_le_succ
noncomputable def Bm0:=@Nat.le_of_not_lt
noncomputable def Bn0:=@Nat.lt_of_le_of_lt
noncomputable def Bo0:=@PySem.wpAny_comprehension_free
noncomputable def Br0:=@Bool.eq_false_iff
noncomputable def By0:=@PySem.F.type_list_pop
noncomputable def C00:=@Int.le_ediv_iff_mul_le
noncomputable def C10:=@Array.eq_empty_of_size_eq_zero
noncomputable def C20:=@PySem.F.slot_tuple_mul
noncomputable def C30:=@PySem.F.slot_tuple_rmul
noncomputable def C40:=@PySem.wpAny_binaryOp_repeat_ref
noncomputable def Cf0:=@PySem.SeqAt.RcAt.lists_lengths
noncomputable def Ch0:=@PySem.wpAny_letOwnedTupleGo_enum
noncomputable def Ci0:=@PySem.F.slot_int_mul
noncomputable def Co0:=@PySem.F.slot_dict_setdefault
noncomputable def Cq0:=@PySem.F.entry_dict_keyiterator_next
noncomputable def Cr0:=@PySem.F.args_dict_keyiterator_next_1
noncomputable def Cy0:=@PySem.F.entry_enumerate_next
noncomputable def Cz0:=@PySem.F.args_enumerate_next_1
noncomputable def D00:=@List.map_snd_zip
noncomputable def D10:=@List.Nodup.length_le_of_subset
noncomputable def D20:=@List.mem_map_of_mem
noncomputable def D30:=@List.getElem_idxOf
noncomputable def D40:=@PySem.richCompare_meets_room
noncomputable def D50:=@Classical.choose_spec
noncomputable def D70:=@List.find?_eq_none
noncomputable def D80:=@Nat.eq_zero_or_pos
noncomputable def Da0:=@Nat.lt_trichotomy
noncomputable def Db0:=@List.getElem_zip
noncomputable def Dc0:=@List.mem_take_iff_getElem
noncomputable def Dd0:=@beq_self_eq_true
set_option Elab.async false
set_option linter.all false
set_option maxRecDepth 100000
variable{prog:`ag}{A:`bf}{E Q:`X}{a it dx fa I z i1 i2 l1 l2:`f}{o e b iter value elt:`z}{tl vs us its:`U}{od an:`cT}{x name qual x2 root:Str}{r caps idx:`e}{R:`aiC}{y q p0:`F}{K:`D}{h' base h0:`R}{v u doc pm cdv ct oc vl vu:`A}{i m t' j c n k1 x1:Nat}{items ys:`bh}{α β κ:Type}{pins:`ax}{ch fp as as':`b6}{N loose N' cs:`u}{pos pos' p tpos apos p2 cpos py spos px pos2 np:Pos}{st:`fI}{es ifs elts:`b2}{body:`er}{lo hi:`bC}{fd:`f'}{sc scope:`c!}{mg:`bX}{XP:`D0}{YP:`D1}{oa:Obj}{L:`aG}
namespace KfT
theorem sl:Slot `s6 `aiD "object.__getattribute__" := by
 refine .of (owner := "object") (n := `aiD) ?_ `el `el `el ?_ ?_
 ·rw[`D2,`D3];kernel_rfl
 ·first|exact `k `el|exact `h `el
 ·rw[`QO];kernel_rfl
theorem lk:`zX `oV `Ky=`bg (`a (`QP)):=by
 rw[`D2,`D3];kernel_rfl
theorem ow:isSubtype `oV (`bl (".".intercalate ("object.__class__".cutAt '.').dropLast))=`LS:=by
 rw[F.owner_object_class,`QO];kernel_rfl
section
variable{P:`ag}{W:`N}{X:`X}{s:`r}{f:`f}{y:Obj}
theorem gs(e:`cO f=`bm)(c:`D4)(q:R (.ok `aiE) s) :
  `i8 `D5 A (.call (`dB "getset_descriptor.__get__") ⟨[`QP,`ab f,`zg],[]⟩) R s:=by
 obtain⟨hh,gg,dd,tt,oo⟩:=s;have z1:`QQ := `QR;have z2:=ow;refine `aiF F.slot_gs_get.plain F.entry_gs_get (F.slot_gs_get.check _ _ _ _ _ _ _ _ p5 (F.args_gs_get _ _ _) ?_)
 repeat (any_goals (first|assumption|wp_step))
 refine⟨Code.quiet_builtin _ `el,P7 F.entry_object_class ?_⟩
 repeat (any_goals (first|assumption|wp_step))
theorem ga{tk:Tok}{R:`QS}(e:`cO f=`bm)(c:`D4)(q:R (.done `aiE) s) :
  `l `D5 A (Builtin.«object.__getattribute__» ⟨[`ab f,`aiG],[]⟩) R X s:=by
 obtain⟨hh,gg,dd,tt,oo⟩:=s;have z1:`QQ := `QR;have z2:`aaO (`QP) "getset_descriptor" := p5;have z3:=lk;have z4:=p5;have z5:=F.slot_gs_get.lookup;have z6:=F.slot_gs_set.lookup
 repeat (any_goals (first|assumption|wp_step))
 refine gs e c ?_
 repeat (any_goals (first|assumption|wp_step))
variable{hh:`R}{gg:`uz}{dd:Drawn}{tt:Nat}{oo:OsState}
theorem by'{tk:Tok}{R:`X}(e:`aiH)(c:`D4)(q:R `oV `zh):`l `D5 A (getAttrBy `e0 (`aiG) `q) R X `zh:=by
 have z1:`QQ := `QR;have z2:=sl.lookup;have z3:=sl.bind `e0
 repeat (any_goals (first|assumption|wp_step))
 refine `aiF sl.plain F.entry_object_getattribute (sl.check _ _ _ _ _ _ _ _ z1 (F.args_object_getattribute_2 _ _) (ga e c ?_))
 repeat (any_goals (first|assumption|wp_step))
theorem at'{R:`QT}(e:`aiH)(c:`D4)(q:R (`a `oV) ⟨hh,gg,dd,tt+1,oo⟩):`l `D5 A (getAttr? `e0 `Ky) R X `zh:=by
 unfold getAttr? getAttrBy?
 repeat (any_goals (first|assumption|with_reducible apply by' e c|wp_step))
universe zz
theorem kit{f:`f}:W.KitX K `e0 `oV (W.KitAt f `s6):=W.kitx_of W.kitAt_ty λ{_ _ _ _ _ s} p k=>by
 obtain⟨hh,gg,dd,tt,oo⟩:=s;obtain⟨_,e,c⟩:=p;exact at' e c k
universe KfT
namespace TrK
open Spec PyProof.Rows
inductive T where
 | non
 | int (i:Int)
 | str (x:Str)
 | tup (l:`d6)
instance:`Mz T:=λa b=>Classical.propDecidable (a=b)
mutual
noncomputable def Is(h:`R):T->`Na
 | `w,v=>v=`aE
 | `aj,v=>`aiI
 | `bY,v=>`aiJ
 | `iO,v=>`aiK
noncomputable def Iss(h:`R):`d6->`aiL
 | [],vs=>`q'
 | x::l,vs=>`aiM
end
mutual
noncomputable def hs(w:`N):T->Int
 | `w=>0xFCA86420
 | `aj=>hashInt i
 | `bY=>`aiN
 | `iO=>reduceHash (`KB)
noncomputable def hss(w:`N):`d6->`au
 | []=>[]
 | x::l=>hs w x::hss w l
end
mutual
noncomputable def dr:T->Nat
 | `iO=>drs l+1
 | _=>1
noncomputable def drs:`aiO
 | []=>0
 | x::l=>dr x+drs l
end
mutual
noncomputable def dep:T->Nat
 | `iO=>ma0 l+1
 | _=>0
noncomputable def ma0:`aiO
 | []=>0
 | x::l=>max (dep x) (ma0 l)
end
section
variable{h:`R}
theorem zd0:Is h `w v=(v=`aE):=`QU
theorem G6{i:Int}:Is h `dj v=`aiI:=`QU
theorem G5:Is h `jU v=`aiJ:=`QU
theorem is_tup{l:`d6}:Is h `wr v=`aiK:=by conv=>lhs;unfold Is
theorem vw0:Iss h [] vs=(`q'):=by unfold Iss;rfl
theorem zy0{x:T}{l:`d6}:Iss h (x::l) vs=`aiM:=by conv=>lhs;unfold Iss
mutual
theorem Is.mono(k:`aiP):∀(t:T) (v:`A),Is h t v->Is h' t v
 | `w,v,x=>by rw[zd0] at x ⊢;exact x
 | `aj,v,x=>by rw[G6] at x ⊢;exact x
 | `q!,v,x=>by rw[G5] at x ⊢;exact x
 | `iO,v,x=>by
  rw[`g3] at x ⊢;obtain⟨a,o,its,n,e,g,c,d,r⟩:=x;exact⟨a,o,its,n,e,k a o its n g d,c,d,Iss.mono k l _ r⟩
theorem Iss.mono(k:`aiP):∀(l:`d6) (vs:`U),`D6->Iss h' l vs
 | [],vs,x=>by rw[vw0] at x ⊢;exact x
 | `lr,vs,x=>by
  rw[zy0] at x ⊢;obtain⟨v,r,e,x1,x2⟩:=x;exact⟨v,r,e,Is.mono k t v x1,Iss.mono k l r x2⟩
end
mutual
theorem Is.inj:∀(t u:T) (v:`A),Is h t v->Is h u v->t=u
 | `w,u,v,x,y=>by
  rw[zd0] at x;subst x;cases u with
  | non=>rfl
  | int i=>rw[G6] at y;obtain⟨t,e⟩:=y;cases e
  | str s=>rw[G5] at y;obtain⟨t,e⟩:=y;cases e
  | tup l=>rw[`g3] at y;obtain⟨a,o,its,n,e,_⟩:=y;cases e
 | `aj,u,v,x,y=>by
  rw[G6] at x;obtain⟨t,rfl⟩:=x;cases u with
  | non=>rw[zd0] at y;cases y
  | int j=>rw[G6] at y;obtain⟨t,e⟩:=y;cases e;rfl
  | str s=>rw[G5] at y;obtain⟨t,e⟩:=y;cases e
  | tup l=>rw[`g3] at y;obtain⟨a,o,its,n,e,_⟩:=y;cases e
 | `q!,u,v,x,y=>by
  rw[G5] at x;obtain⟨t,rfl⟩:=x;cases u with
  | non=>rw[zd0] at y;cases y
  | int j=>rw[G6] at y;obtain⟨t,e⟩:=y;cases e
  | str s=>rw[G5] at y;obtain⟨t,e⟩:=y;cases e;rfl
  | tup l=>rw[`g3] at y;obtain⟨a,o,its,n,e,_⟩:=y;cases e
 | `iO,u,v,x,y=>by
  rw[`g3] at x;obtain⟨a,o,its,n,rfl,g,c,d,r⟩:=x;cases u with
  | non=>rw[zd0] at y;cases y
  | int j=>rw[G6] at y;obtain⟨t,e⟩:=y;cases e
  | str s=>rw[G5] at y;obtain⟨t,e⟩:=y;cases e
  | tup m =>
   rw[`g3] at y;obtain⟨a',o',F,n',e,g',c',d',r'⟩:=y;cases e;rw[g] at g';cases g';rw[d] at d';cases d';rw[Iss.inj l m _ r r']
theorem Iss.inj:∀(l m:`d6) (vs:`U),`D6->Iss h m vs->l=m
 | [],m,vs,x,y=>by
  rw[vw0] at x;subst x;cases m with
  | nil=>rfl
  | cons t m=>rw[zy0] at y;obtain⟨v,r,e,_⟩:=y;cases e
 | `lr,m,vs,x,y=>by
  rw[zy0] at x;obtain⟨v,r,rfl,x1,x2⟩:=x;cases m with
  | nil=>rw[vw0] at y;cases y
  | cons u m =>
   rw[zy0] at y;obtain⟨v',r',e,y1,y2⟩:=y;cases e;rw[Is.inj t u v x1 y1,Iss.inj l m r x2 y2]
end
theorem Iss.length:∀{l:`d6} {vs:`U},`D6->`cf=`cS
 | [],vs,x=>by rw[vw0] at x;subst x;rfl
 | `lr,vs,x=>by
  rw[zy0] at x;obtain⟨v,r,rfl,x1,x2⟩:=x;rw[`bo,`bo,x2.length]
theorem Iss.get:∀{l:`d6} {vs:`U},`D6->∀(j:Nat) (h1:`D7) (h2:j<vs.length),Is h l[j] vs[j]
 | [],vs,x,j,h1,_=>`aiQ
 | `lr,vs,x,j,h1,h2=>by
  rw[zy0] at x;obtain⟨v,r,rfl,x1,x2⟩:=x;cases j with
  | zero=>exact x1
  | succ j=>exact x2.get j `ws `q?
theorem px0:∀{l:`d6} {j:Nat} (h1:`D7),dep l[j]<=ma0 l
 | [],j,h1=>`aiQ
 | `lr,j,h1=>by
  unfold ma0;cases j with
  | zero=>exact Nat.le_max_left _ _
  | succ j=>exact C1 (px0 (l:=l) (j:=j) `ws) (Nat.le_max_right _ _)
universe zz
section
variable{w:`N}
theorem lj0{s:`r}{Q:`aiR}(h:Q 0xFCA86420 `Ld):`l `ao A (pyHash `aE) Q E s:=by
 have hT:`hk `aE `aiS := typeIs_none s;unfold pyHash pyHashByItsType;have hv:[`nY].any Value.onHeap=`q:=rfl;refine `dn;rw[cRoomFor,`P (by rw[hv];exact A6)];refine `cZ;refine `aiT;show `l _ _ (if (`a (`aiU "NoneType.__hash__")==`a `nY)=`c then _ else _) Q E s;rw[`aiV];refine `aiT;show `l _ _ (`aiW `aE `aiX _>>=_) Q E s;refine A0 (Aq0 hT c9 (C9 c9 hT F.entry_NoneType_hash ?_ (F.args_NoneType_hash_1 _)));show `l _ _ (retInt 0xFCA86420) _ _ _;refine `aiY;exact `hB
theorem e40:∀a b:`d6,hss w `ra=hss w a++hss w b
 | [],b=>by
  rw[`ie]
  conv=>rhs;lhs;unfold hss
  rw[`ie]
 | x::a,b=>by
  rw[`c?]
  conv=>lhs;unfold hss
  conv=>rhs;lhs;unfold hss
  rw[e40 a b,`c?]
theorem fg0:∀a b:`d6,drs `ra=drs a+drs b
 | [],b=>by
  rw[`ie]
  conv=>rhs;lhs;unfold drs
  omega
 | x::a,b=>by
  rw[`c?]
  conv=>lhs;unfold drs
  conv=>rhs;lhs;unfold drs
  rw[fg0 a b];omega
theorem V00(x:T):hss w [x]=[hs w x]:=by unfold hss;unfold hss;rfl
theorem Vc0(x:T):drs [x]=dr x:=by unfold drs;unfold drs;rfl
theorem Va0:∀(n:Nat) (t:T) {A:`bf} {E:`X} {s:`r} {v:`A} {Q:`aiR},`QV->`D8->`KC->Q (hs w t) { s with toks:=`aZ+dr t }->`l `ao A (pyHash v) Q E s:=by
 intro n
 induction n with
 | zero =>
  intro t A E s v Q hd hu hi h;cases t with
  | non=>rw[zd0] at hi;subst hi;exact lj0 h
  | int i=>rw[G6] at hi;obtain⟨t,rfl⟩:=hi;exact p9 h
  | str x=>rw[G5] at hi;obtain⟨t,rfl⟩:=hi;exact q0 h
  | tup l=>unfold dep at hd;omega
 | succ n ih =>
  intro t A E s v Q hd hu hi h;cases t with
  | non=>rw[zd0] at hi;subst hi;exact lj0 h
  | int i=>rw[G6] at hi;obtain⟨t,rfl⟩:=hi;exact p9 h
  | str x=>rw[G5] at hi;obtain⟨t,rfl⟩:=hi;exact q0 h
  | tup l =>
   rw[`g3] at hi;obtain⟨a,o,items,nn,rfl,ho,hc,M,hi⟩:=hi;have hT:`aiZ := `ai_;unfold dep at hd;unfold pyHash pyHashByItsType;refine A0 (wpAny_cRoomFor_or (`h `g) ?_);refine `ai0;show `l _ _ (if (`a (`aiU "tuple.__hash__")==`a `nY)=`c then _ else _) Q E s;rw[`aiV];refine `ai0;show `l _ _ (`aiW `dc `aiX _>>=_) Q E s;refine A0 (Aq0 hT d3 (C9 d3 hT F.entry_tuple_hash ?_ (F.args_tuple_hash_1 _)));show `l _ _ (`Lq `dc>>=_) _ _ s;refine A0 (wpAny_tupleItemsOf ho M ?_);refine `dn;rw[← `ai1];refine r0 _ (λrest (b:`ma Int) s'=>∃done J,l=done++J/\`ai2/\b.toList=hss w done/\s'=`ai3) _ ?_ ?_ _ _ ⟨[],l,rfl,hi,by unfold hss;rfl,by unfold drs;rfl⟩
   ·rintro x rest b s' ⟨done,J,hl,hs,hb,rfl⟩
    cases J with
    | nil=>rw[vw0] at hs;cases hs
    | cons k J =>
     rw[zy0] at hs;obtain⟨v,r,e,h1,h2⟩:=hs;cases e;have hk:dep k<=n:=by
      have:=px0 (l:=l) (j:=done.length) (`ai4);simp only[hl,List.getElem_append_right `bn,`nP,List.getElem_cons_zero] at this;rw[← hl] at this;omega
     refine A0 (ih k hk `ai5 (s:=`ai3) h1 ?_);have fin:∃done' left',l=done'++left'/\Iss `aa left' `a1/\(b.push (hs w k)).toList=hss w done'/\({ s with toks:=`aaS+dr k }:`r)={ s with toks:=`aZ+drs done' } :=
      ⟨done++[k],J,`ai4,h2,by rw[e40,V00,← hb];simp,by rw[fg0,Vc0,`aaT]⟩
     first
      | exact A1 fin
      | exact A0 (A1 (A1 fin))
   ·rintro b s' ⟨done,J,hl,hs,hb,rfl⟩
    cases J with
    | cons k J=>rw[zy0] at hs;obtain⟨v,r,e,_⟩:=hs;cases e
    | nil =>
     rw[`fu] at hl;subst hl;show `l _ _ (retInt (`aaQ b.toList)) _ _ _;rw[hb];refine `aiY;unfold TrK.hs dr at h;show `l _ _ (if `ai6 then _ else _) Q E _;unfold reduceHash at h
     by_cases hr:`ai6
     ·rw[`H hr]
      rw[`H hr] at h;exact `ai7
     ·rw[`P hr]
      rw[`P hr] at h;exact A0 (L9 (`ai7))
theorem all_eq{l m:`d6}:((`cx (min `cS `wt)).all (`ai8)&&`cS==`wt)=`ai9:=by
 rw[`gn,`bs,`jV,`o_,`zk];constructor
 ·rintro⟨h1,h2⟩
  refine r9 h2 λi a b=>?_
  have:=W1 (h1 i (`qH `g))
  simpa [d4,a,b] using `x
 ·rintro rfl
  exact⟨λj _=>`Ce,rfl⟩
theorem Rl0:∀(n:Nat) (t u:T) {A:`bf} {s:`r} {v v':`A},`QV->`D8->`ai':=by
 intro n;have F:∀(t u:T) {A:`bf} {s:`r} {v v':`A},dep t=0->`rb->`ai':=by
  intro t u A s v v' hd hu hi hj;have tp:∀{l:`d6} {v:`A},Is `aa `wr v->∃a items,`e1/\`tr a `aK:=λ{l v} x=>by
   rw[`g3] at x;obtain⟨a,o,its,nn,e,g,c,d,_⟩:=x;exact⟨a,its,e,o,g,c,nn,d⟩
  cases t with
  | tup l=>unfold dep at hd;omega
  | non =>
   rw[zd0] at hi;subst hi;cases u with
   | non=>rw[zd0] at hj;subst hj;rw[`bR rfl];exact M0 _
   | int j=>rw[G6] at hj;obtain⟨_,rfl⟩:=hj;rw[`f!];exact d5 _ _
   | str y=>rw[G5] at hj;obtain⟨_,rfl⟩:=hj;rw[`f!];exact d6 _ _
   | tup m=>obtain⟨a,its,rfl,p⟩:=tp hj;rw[`f!];exact t4 p hu
  | int i =>
   rw[G6] at hi;obtain⟨_,rfl⟩:=hi;cases u with
   | non=>rw[zd0] at hj;subst hj;rw[`f!];exact i3 _ _
   | int j =>
    rw[G6] at hj;obtain⟨_,rfl⟩:=hj;rw[show `G (T.int i=T.int j)=`D9 from `ai!];exact `QW
   | str y=>rw[G5] at hj;obtain⟨_,rfl⟩:=hj;rw[`f!];exact `QX
   | tup m=>obtain⟨a,its,rfl,p⟩:=tp hj;rw[`f!];exact u4 _ _ p hu
  | str x =>
   rw[G5] at hi;obtain⟨_,rfl⟩:=hi;cases u with
   | non=>rw[zd0] at hj;subst hj;rw[`f!];exact i4 _ _
   | int j=>rw[G6] at hj;obtain⟨_,rfl⟩:=hj;rw[`f!];exact `QY
   | str y =>
    rw[G5] at hj;obtain⟨_,rfl⟩:=hj;rw[show `G (T.str x=T.str y)=(x==y) from `ai!];exact `QZ
   | tup m=>obtain⟨a,its,rfl,p⟩:=tp hj;rw[`f!];exact u7 _ _ p hu
 induction n with
 | zero=>intro t u A s v v' hd hu hi hj;exact F t u `g `g hi hj
 | succ n ih =>
  intro t u A s v v' hd hu hi hj;cases t with
  | non=>exact `Q_
  | int i=>exact `Q_
  | str x=>exact `Q_
  | tup l =>
   unfold dep at hd;have Y:=hi;rw[`g3] at hi;obtain⟨a,o,its,nn,rfl,g,c,d,r⟩:=hi;have p:`tr a its:=⟨o,g,c,nn,d⟩;cases u with
   | non=>rw[zd0] at hj;subst hj;rw[`f!];exact `ai? p `g
   | int j=>rw[G6] at hj;obtain⟨_,rfl⟩:=hj;rw[`f!];exact `aja _ _ p `g
   | str y=>rw[G5] at hj;obtain⟨_,rfl⟩:=hj;rw[`f!];exact `ajb _ _ p `g
   | tup m =>
    have O:=hj;rw[`g3] at hj;obtain⟨a',o',J,M,rfl,g',c',d',r'⟩:=hj;have p':`tr a' J:=⟨o',g',c',M,d'⟩
    by_cases hab:a=a'
    ·subst hab
     rw[Is.inj _ _ _ Y O,`bR rfl];exact M0 _
    ·refine `Q0
     have l1:`zy=`cS:=by rw[← `ig,`a']
     have l2:J.size=`wt:=by rw[← `ig,`rc]
     have:=w4 (A:=A) (e:=`ai8) p p' `g λj j1 j2=>by
      have q1:=`nZ j `g (by rw[`ig];exact j1);have q2:=r'.get j `g (by rw[`ig];exact j2);have:=ih l[j] m[j] (A:=`bF) (C1 (px0 _) `g) `ai5 q1 q2
      simpa [d4,show `D7 by omega,show j<m.length by omega] using `x
     rw[l1,l2,all_eq] at this;rw[show `G (T.tup l=T.tup m)=`ai9 from by rw[`gn,`o_,`o_];exact`aaW];exact `x
theorem X30:∀(n:Nat) (t:T) {A:`bf} {E:`X} {s:`r} {v:`A} {Q:`p?},`QV->`KC->`Q1->`l `ao A (eqIsQuiet n v) Q E s:=by
 intro n
 induction n with
 | zero =>
  intro t A E s v Q hd hi h;cases t with
  | tup l=>unfold dep at hd;omega
  | non=>rw[zd0] at hi;subst hi;unfold eqIsQuiet;exact `hB
  | int i=>rw[G6] at hi;obtain⟨_,rfl⟩:=hi;unfold eqIsQuiet;exact `hB
  | str x=>rw[G5] at hi;obtain⟨_,rfl⟩:=hi;unfold eqIsQuiet;exact `hB
 | succ n ih =>
  intro t A E s v Q hd hi h;cases t with
  | non=>rw[zd0] at hi;subst hi;unfold eqIsQuiet;exact `hB
  | int i=>rw[G6] at hi;obtain⟨_,rfl⟩:=hi;unfold eqIsQuiet;exact `hB
  | str x=>rw[G5] at hi;obtain⟨_,rfl⟩:=hi;unfold eqIsQuiet;exact `hB
  | tup l =>
   unfold dep at hd;rw[`g3] at hi;obtain⟨a,o,items,nn,rfl,ho,hc,M,hi⟩:=hi;have hT:`aiZ := `ai_;unfold eqIsQuiet;refine A0 (L0 hT F.slot_tuple_eq.lookup ?_);show `l _ _ (isInstance `dc `wu>>=_) _ _ s;refine A0 (i6 hT isSubtype_tuple_tuple ?_);simp only[`D',`ih,`cA];refine A0 (D4 ho M ?_);refine `dn;show `l _ _ (`wv `aK _ _) _ _ s;rw[← `ai1];refine r0 _ (λrest r s'=>r.1=`b/\s'=s/\∃J,`ai2/\ma0 J<=n) _ ?_ ?_ _ _ ⟨rfl,rfl,l,hi,`p⟩
   ·rintro v rest r s' ⟨hr,rfl,J,hs,hn⟩
    cases J with
    | nil=>rw[vw0] at hs;cases hs
    | cons k J =>
     rw[zy0] at hs;obtain⟨v',r',e,h1,h2⟩:=hs;cases e;unfold ma0 at hn;refine A0 (ih k `g h1 ?_);simp only[`D',`ih,`cA];exact A1 ⟨rfl,rfl,J,h2,`p⟩
   ·rintro⟨r1,r2⟩ s' ⟨hr,rfl,_⟩
    simp only at hr;subst hr;exact `hB
noncomputable def kind(prog:`ag)(w:`N):`adp `dE w T where
 is:=λh t a=>Is h t `dc/\dep t<=8
 hash:=hs w
 draws:=dr
 room:=λA=>`iP+8<cLine
 inj:=λhx hy=>Is.inj _ _ _ hx.1 hy.1
 keeps:=λ{h h' k a d o es ep} x ho hd hs=>⟨Is.mono (λb u items n g e=>by
  have ne:b≠d:=λz=>by subst z;rw[ho] at g;cases g;rw[hd] at e;cases e
  rw[`fK b ne];exact g) _ _ x.1,x.2⟩
 pyHash:=λhu hk h=>Va0 8 _ hk.2 hu hk.1 h
 eqBool:=λhu hx hy h=>Rl0 8 _ _ hx.2 hu hx.1 hy.1 _ _ _ _ h
 quiet:=λhk h=>X30 8 _ hk.2 hk.1 h
universe zz
universe TrK
namespace L2
open Spec PyProof.Rows
abbrev Key:=`LT
noncomputable def pa0:Key->`A->`V
 | `ww,v=>`ajc k v
 | `ls,v=>`ajd x v
noncomputable def Pf0(w:`N):Key->Int
 | `ww=>hashInt k
 | `ls=>`aiN
theorem N8:∀{k:Key} {v:`A},pa0 k v=`c->(∃i t,k=`go i/\v=`KD i t)∨(∃x t,k=`s9 x/\v=`KE x t)
 | `n_,v,h=>by
  obtain⟨t,e⟩:=Value.isInt_shape (k:=i) (v:=v) h;exact `aje
 | `ls,v,h=>by
  obtain⟨t,e⟩:=Value.isStrOf_shape (x:=x) (v:=v) h;exact `h ⟨x,t,rfl,e⟩
theorem c00(i:Int)(t:Tok):pa0 (`n_) `zH=`c:=by simp[pa0,`ajc]
theorem dt0(x:Str)(t:Tok):pa0 (`ls) `D!=`c:=by simp[pa0,`ajd]
theorem S20(a b:Int):`G (`Q2=`go b)=(`ii):=by
 by_cases e:a=b
 ·subst e;simp
 ·have h:¬`Q2=`go b:=λq=>e (Sum.inl.inj q)
  rw[`rd];exact(`pU e).symm
theorem T80(a b:Str):`G (`Q3=`s9 b)=`G (a=b):=by
 by_cases e:a=b
 ·subst e;simp
 ·have h:¬`Q3=`s9 b:=λq=>e (Sum.inr.inj q)
  rw[`rd,`D?]
theorem Sq0(a:Int)(b:Str):`G (`Q2=`s9 b)=`q:=`ajf
theorem T30(a:Str)(b:Int):`G (`Q3=`go b)=`q:=`ajf
noncomputable def P0(prog:`ag)(w:`N):PySem.KeyKind `dE w Key where
 is:=pa0
 hash:=Pf0 w
 inj:=λv a b ha hb=>by
  rcases N8 ha with⟨i,t,rfl,rfl⟩|⟨x,t,rfl,rfl⟩
  ·rcases N8 hb with⟨j,u,rfl,e⟩|⟨y,u,rfl,e⟩
   ·injection e with e1 _;rw[e1]
   ·exact nomatch e
  ·rcases N8 hb with⟨j,u,rfl,e⟩|⟨y,u,rfl,e⟩
   ·exact nomatch e
   ·injection e with e1 _;rw[e1]
 byValue:=λk v h=>by
  rcases N8 h with⟨i,t,rfl,rfl⟩|⟨x,t,rfl,rfl⟩<;>rfl
 pyHash:=λhv h=>by
  rcases N8 hv with⟨i,t,rfl,rfl⟩|⟨x,t,rfl,rfl⟩
  ·exact p9 h
  ·exact q0 h
 eqBool:=λhu hv h=>by
  rcases N8 hu with⟨i,t,rfl,rfl⟩|⟨x,t,rfl,rfl⟩
  ·rcases N8 hv with⟨j,u,rfl,rfl⟩|⟨y,u,rfl,rfl⟩
   ·rw[S20] at h;exact wpAny_eqBool_int h
   ·rw[Sq0] at h;exact X1 i t y u _ _ _ _ h
  ·rcases N8 hv with⟨j,u,rfl,rfl⟩|⟨y,u,rfl,rfl⟩
   ·rw[T30] at h;exact X2 x t j u _ _ _ _ h
   ·rw[T80] at h;exact wpAny_eqBool_str h
 «strs»:=λk x t v h=>by
  rcases N8 h with⟨i,u,rfl,e⟩|⟨y,u,rfl,e⟩
  ·exact nomatch e
  ·injection e with e1 _
   subst e1;cases v<;>rfl
theorem gg0(prog:`ag)(w:`N)(i:Int)(t:Tok):`ajg (`n_) `zH=`c:=c00 i t
theorem gf0(prog:`ag)(w:`N)(x:Str)(t:Tok):`ajg (`ls) `D!=`c:=dt0 x t
inductive V where
 | non|bl (b:`V)|int (i:Int)|str (x:Str)|byt (b:`ajh)|flt (b:UInt64)|ref (a:`f)|ty (n:`cL)
 deriving DecidableEq
variable{xs:`T L2.V}{σ:`aji}{kvs:`ajj}
noncomputable def RelV:V->`Na
 | `w,u=>u=`nY
 | `ce,u=>u=`pu b
 | `aj,u=>`Q4
 | `bY,u=>`ajk
 | .byt b,u=>∃t,u=Value.bytes b t
 | .flt b,u=>∃t,u=Value.float b t
 | `dD,u=>u=`m1
 | .ty n,u=>u=`p7 n
abbrev Vals:`K->`aiL:=`bp `dd
theorem Vals.length(r:`cU):`ae=`fv:=`MN r
theorem Vals.get:∀{xs:`K} {us:`U} {i:Nat} {x:V},`cU->`mz->∃u,us[i]?=`a2/\`fN
 | _,_,_,_,`L,e=>`Ea
 | _,_,0,_,`Q5,e=>`Q6
 | _,_,i+1,x,`lt,e=>by
  obtain⟨u,h1,h2⟩:=Vals.get (i:=i) (x:=x) t `lu;exact`Q7
theorem Vals.set{x:V}(r:`fN):∀{xs:`K} {us:`U} (i:Nat),`cU->`bi (xs.set i x) (us.set i u)
 | _,_,_,`L=>`L
 | _,_,0,`lt=>`eS
 | _,_,i+1,`ah q t=>`ah q (Vals.set r i t)
theorem Vals.append:∀{xs ys:`K} {us ws:`U},`cU->`ajl->`bi `z_ (us++ws)
 | _,_,_,_,`L,s=>s
 | _,_,_,_,`eS,s=>`ah r (`Q8 t s)
theorem Vals.take:∀{xs:`K} {us:`U} (n:Nat),`cU->`bi `Eb (`CP n)
 | _,_,0,_=>`L
 | _,_,_+1,`L=>`L
 | _,_,n+1,`eS=>`ah r (Vals.take n t)
theorem Vals.drop:∀{xs:`K} {us:`U} (n:Nat),`cU->`bi `Q9 (`Po n)
 | _,_,0,r=>r
 | _,_,_+1,`L=>`L
 | _,_,n+1,`lt=>Vals.drop n t
noncomputable def RelO:`dh->`mb->Prop
 | `aL,`a2=>`gv
 | `b,`b=>`fw
 | _,_=>`bB
noncomputable def KV{κ:Type}:`fx->`re->Prop:=`bp λ(p:`zl) (q:κ×`A)=>`zm/\`ajm
noncomputable def kV:Key->V
 | `n_=>`aj
 | `ls=>`bY
inductive SubO where
 | lst (xs:`K)|dK (kvs:`uL)|ins (C dx:`f) (fs:`Q')
variable{so:`Ec}{sos:`T `Ec}
inductive HO where
 | deep (sub:`lv)
 | lst (xs:`K)
 | tup (xs:`K)
 | dK (kvs:`uL)|dT (kvs:`eJ)|dX (kvs:`T (`me×V))
 | set (S:Int->`V) (n:Nat)
 | ins (C dx:`f) (fs:`Q')
 | own (x:`f)
 | xd (fs:`Q')
 | met (f x:`f)
 | rng (lo hi:Int)
 | frz (o:Obj) (u:HO)
 | tbl (ps:`bh)
 | ext (φ:`oU)
abbrev Hp:=`f->`rf
noncomputable def upd(H:Hp)(a:`f)(o:HO):Hp:=λb=>if b=a then `_ else H b
variable{H H' H2 H₀:L2.Hp}
theorem j8{o:HO}:upd H a o a=`_:=by unfold upd;rw[`aB]
theorem d8{b:`f}{o:HO}(h:`p0):upd H a o b=H b:=by unfold upd;rw[`wx]
theorem Xy0{b:`f}{o u:HO}(h:`t!)(h':`Ed)(d:o≠u):a≠b:=by
 intro e;subst e;rw[h] at h';exact d (A2 h')
theorem Y7{b:`f}{o:HO}(h:`t!)(h':`cP):a≠b:=by
 intro e;subst e;rw[h] at h';cases h'
noncomputable def IsTupN(h:`R)(a:`f)(items:`bh):Prop:=∃o,`md/\`zi/\∃n,`KA/\`Q!
theorem IsTupN.tup{h:`R}(x:IsTupN h a `aK):`tH h a `aK:=let ⟨o,e,c,n,d,_⟩:=x;⟨o,e,c,n,d⟩
theorem IsTupN.new(h:`R)(items:`bh):IsTupN (h.push { cls:=`d5,data:=`bu `aK }) `o3 `aK:=`Q?
mutual
noncomputable def TrH(H:Hp):`me->V->Prop
 | `w,v=>`nr
 | `aj,v=>`rg
 | `bY,v=>`Ee
 | `iO,v=>∃a xs,`e1/\H a=`iR/\`ajn
noncomputable def TrHs(H:Hp):`Ra->`L1
 | [],xs=>`n0
 | `lr,xs=>∃x r,`L2/\TrH H t x/\TrHs H l r
end
mutual
theorem TrH.mono(k:`rh):∀(t:`me) (v:V),TrH H t v->TrH H' t v
 | `w,v,h=>`Rb
 | `aj,v,h=>`Rb
 | `bY,v,h=>`Rb
 | `iO,v,h=>by
  unfold TrH at h ⊢;obtain⟨a,xs,e,q,r⟩:=h;exact⟨a,xs,e,k a xs q,TrHs.mono k l xs r⟩
theorem TrHs.mono(k:`rh):∀(l:`Ra) (xs:`K),`ajn->TrHs H' l xs
 | [],xs,h=>by unfold TrHs at h ⊢;exact h
 | `lr,xs,h=>by
  unfold TrHs at h ⊢;obtain⟨x,r,e,h1,h2⟩:=h;exact⟨x,r,e,TrH.mono k t x h1,TrHs.mono k l r h2⟩
end
noncomputable def qOf(ps:`bh):Str:=match (ps[0]?:`mb) with
 | `a (`E q _)=>q
 | _ => ""
noncomputable def TabOk(H:Hp)(h:`R)(a:`f)(q:Str):Prop:=∃cont:`bh,`hj=`a { cls:=`aE,data:=`iS cont }/\TriplesOk `ajo /\
 ∀pos cv,codeAmong pos `ajo=`a cv->∃c oc vs tq,cv=`Ef/\H c=`a (`gr oc (`hm c))/\oc.data=`Eg/\vs[1]?=`a (`E q tq)
section
variable(P:`ag)(w:`N)
noncomputable def SubOk(H:Hp)(h:`R)(a b:`f):`cN->Prop
 | `cQ=>`eT/\∃(its:`U) (n:Nat),`jW/\`mj=`z1
 | `tS=>`mh/\(b==`s')=`q/\∃vs,`ko/\`aaZ `s! b vs
 | `mW=>b=a/\`ajp/\`ajq/\dx≠a/\`ajr /\
   `ajs
noncomputable def ObjOk(H:Hp)(h:`R)(a:`f):HO->Prop
 | `cQ=>`eT/\∃(its:`U) (n:Nat),`jW/\`hj=`z1
 | `d7=>`eT/\∃its:`U,`jW/\IsTupN h a `be
 | `tS=>`Rc
 | .dT kvs=>`mh/\`mi/\∃xs:`jX,
   `bp `ajt kvs xs /\
   ∃o es ep,`md/\`wy/\`wz/\`Rd=`o2 (`wA `Re)/\`aju
 | .dX kvs=>`mh/\`mi/\∃xs:`T (`ajv),
   `bp (λ(p:`me×V) (q:`ajv)=>`zm/\TrH H p.1 (`ab `s?)/\TrK.dep p.1<=8/\`aa0) kvs xs /\
   ∃o es ep,`md/\`wy/\`wz/\`Rd=`o2 (`wA (TrK.kind P w))/\`aa4
 | .set S n=>h.SetOf (intKind P w) a S n
 | `mW=>`ajp/\`ajq/\dx≠a/\`ajr /\
   `ajs
 | `pF sub=>(`Eh)/\∀p∈sub,`ajw
 | `hm _=>`Eh
 | .xd fs=>∃mA,h.Ns1 a mA/\`aaY
 | .rng lo hi=>∃t u v,`hj=`a `K7
 | `gr o u=>`md/\`cb H h a u
 | `KL=>`aa6
 | .met f x=>`hj=`a (`aa8 `e0 (`ab x))
 | .ext φ=>φ h/\(`Eh)/\∀h1 h2:`R,φ h1->(∀o,`Rf a=`_->h2.get? a=`_)->φ h2
noncomputable def HOk(H:Hp)(h:`R):Prop:=∀a o,`t!->`Rg
universe zz
section
variable{P:`ag}{w:`N}{h:`R}{o:HO}
theorem ObjOk.lt(x:`Rg):`ajx:=by
 cases o with
 | lst xs=>obtain⟨_,_,_,_,e⟩:=x;exact `cX
 | tup xs=>obtain⟨_,_,_,p⟩:=x;exact p.tup.lt
 | dK kvs=>obtain⟨_,_,_,_,o,_,_,e,_⟩:=x;exact `cX
 | dT kvs=>obtain⟨_,_,_,_,o,_,_,e,_⟩:=x;exact `cX
 | dX kvs=>obtain⟨_,_,_,_,o,_,_,e,_⟩:=x;exact `cX
 | set S n=>obtain⟨o,_,_,_,e,_⟩:=x;exact `cX
 | ins C dx fs=>obtain⟨_,_,_,e,_⟩:=x;exact `cX
 | own y=>obtain⟨_,e⟩:=x;exact `cX
 | xd fs=>obtain⟨_,⟨_,_,_,e,_⟩,_⟩:=x;exact `cX
 | rng lo hi=>obtain⟨_,_,_,e⟩:=x;exact `cX
 | frz ob u=>obtain⟨e,_⟩:=x;exact `cX
 | tbl ps=>obtain⟨_,e,_⟩:=`ajy;exact `cX
 | met f y=>exact A7 (show `hj=`a _ from x)
 | ext φ=>obtain⟨_,⟨_,e⟩,_⟩:=x;exact `cX
 | deep sub=>obtain⟨⟨_,e⟩,_⟩:=x;exact `cX
theorem Paired.mapP{F G:`ij}:∀{l₁:`a5} {l₂:`jb},`bp F l₁ l₂->(`Rh)->`bp G l₁ l₂
 | _,_,`L,_=>`L
 | _,_,`eS,f=>`ah (f _ _ r) (`Ei t f)
theorem SubOk.stay{b:`f}(x:`zn P w H h a b so)(hb:`KH)(k:`ajz)
  (ho:`ajA):`zn P w H' h' a b so:=by
 cases so with
 | lst xs=>obtain⟨z,its,n,r,e⟩:=x;exact⟨z,its,n,r,`ajB⟩
 | dK kvs=>obtain⟨z,y,vs,r,ob,es,ep,e,c⟩:=x;exact⟨z,y,vs,r,ob,es,ep,`ajB,c⟩
 | ins C dx fs =>
  obtain⟨rfl,d,z,ne,e,mA,⟨od,es,ep,e2,c⟩,r⟩:=x;exact⟨rfl,ho _ d,z,ne,`e2,mA,`ajC,r⟩
theorem ObjOk.stay(x:`Rg)(k:`ajz)
  (ho:`ajA) (ht:`rh) (hf:∀b ob u,H b=`Ri->`gp=`Ri):`cb P w H' h' a o:=by
 induction o with
 | lst xs=>obtain⟨z,its,n,r,e⟩:=x;exact⟨z,its,n,r,`e2⟩
 | tup xs=>obtain⟨z,its,r,ob,e,c⟩:=x;exact⟨z,its,r,ob,`e2,c⟩
 | dK kvs=>obtain⟨z,y,vs,r,ob,es,ep,e,c⟩:=x;exact⟨z,y,vs,r,ob,es,ep,`e2,c⟩
 | dT kvs =>
  obtain⟨z,y,xs,r,ob,es,ep,e,c⟩:=x;exact⟨z,y,xs,`Ei r λp q z=>`ajD,ob,es,ep,`e2,c⟩
 | dX kvs =>
  obtain⟨z,y,xs,r,ob,es,ep,e,c⟩:=x;exact⟨z,y,xs,`Ei r λp q z=>⟨z.1,TrH.mono ht _ _ z.2.1,z.2.2⟩,ob,es,ep,`e2,c⟩
 | set S n=>obtain⟨ob,es,ep,t,e,c⟩:=x;exact⟨ob,es,ep,t,`e2,c⟩
 | ins C dx fs =>
  obtain⟨d,z,ne,e,mA,⟨od,es,ep,e2,c⟩,r⟩:=x;exact⟨ho _ d,z,ne,`e2,mA,`ajC,r⟩
 | own y=>obtain⟨ob,e⟩:=x;exact⟨ob,`e2⟩
 | xd fs=>obtain⟨mA,⟨od,es,ep,e,c⟩,r⟩:=x;exact⟨mA,⟨od,es,ep,`e2,c⟩,r⟩
 | rng lo hi=>obtain⟨t,u,v,e⟩:=x;exact⟨t,u,v,`e2⟩
 | frz ob u ih=>obtain⟨e,q⟩:=x;exact⟨`e2,ih q⟩
 | tbl ps =>
  obtain⟨cont,e,t,c⟩:=`ajy;exact⟨cont,`ajE,t,λpos cv q=>let ⟨c',oc,vs,tq,z1,z2,z3⟩:=c pos cv q;⟨c',oc,vs,tq,z1,hf _ _ _ z2,z3⟩⟩
 | met f y =>
  have e:`hj=`ajF:=x;show `zj=`ajF;exact `ajE
 | ext φ=>obtain⟨p,⟨o,e⟩,st⟩:=x;exact⟨st _ _ p λo q=>k _ _ `gq q,`ajG,st⟩
 | deep sub=>obtain⟨⟨o,e⟩,q⟩:=x;exact⟨`ajG,λp hp=>⟨(q p hp).1.imp id (ho _),(q p hp).2.stay (q p hp).1 k ho⟩⟩
theorem HOk.lt(x:`eU)(e:`t!):`ajx:=(x a o e).lt
theorem HOk.fresh(x:`eU)(e:`Rj):`Rk:=by
 cases q:H a with
 | none=>rfl
 | some u=>exact `y (C7 (x.lt q) e) `i'
theorem HOk.kept(x:`eU)(k:`Ej):HOk P w H h':=λa o e =>
 (x a o e).stay (λb u _ q=>`Ek) `KS (`tg) `o?
theorem HOk.laid(x:`eU)(k:`Ej)(hp:`Rj)(new:`cb P w `hP h' a o):HOk P w `hP h':=λb u e=>by
 have hn:=x.fresh hp
 by_cases hb:b=a
 ·subst hb;rw[j8] at e;cases e;exact new
 ·rw[d8 hb] at e
  exact`Rl (λc v _ q=>k c v q) (λc q=>`wB) (λc xs q=>`wB) λc ob u' q=>`wB
universe zz
noncomputable def Rd(H:Hp)(a:`f)(u:HO):Prop:=H a=`a2∨∃o,H a=`KK
theorem Rd.ok{P:`ag}{w:`N}{h:`R}{u:HO}(r:Rd H a u)(x:`eU):`ajH:=by
 rcases r with r|⟨o,r⟩
 ·exact x a u r
 ·obtain⟨_,q⟩:=x a _ r
  exact q
noncomputable def Mut:`rf->Prop
 | `a (`ik)=>`fw
 | `a (.dK _)=>`fw
 | `a (.dT _)=>`fw
 | `a (.dX _)=>`fw
 | `a (.set _ _)=>`fw
 | `a (.ins _ _ _)=>`fw
 | `a (.ext _)=>`fw
 | `a (`pF _)=>`fw
 | _=>`bB
section
variable{P:`ag}{w:`N}{h:`R}{x e:`f}{o':HO}
theorem HOk.write(ok:`eU)(mu:`Rm)(he:`Rn)(k:`ajI)(heo:`Ro)
  (new:`cb P w (upd H x o') h' x o'):HOk P w (upd H x o') h':=λb u q=>by
 have F:∀c y,H c=`Rp->c≠x:=λc y r z=>`Rq
 have M:∀c xs,H c=`iR->c≠x:=λc xs r z=>`Rq
 have J:∀c ob u',H c=`Rr->c≠x:=λc ob u' r z=>`Rq
 by_cases hb:b=x
 ·subst hb;rw[j8] at q;cases q;exact new
 ·rw[d8 hb] at q
  by_cases hbe:b=e
  ·have q':H b=`aa':=by
    rcases he with z|z
    ·exact `y (hbe.trans z) hb
    ·rw[hbe];exact z
   rw[q] at q';cases q';obtain⟨v,hv⟩:=heo;exact⟨v,by rw[hbe];exact hv⟩
  ·refine(ok b u q).stay (λc v hc r=>k c v ?_ r) (λc r=>by rw[d8 (F c b r)];exact r) (λc xs r=>by rw[d8 (M c xs r)];exact r) λc ob u' r=>by rw[d8 (J c ob u' r)];exact r
   rcases hc with rfl|hc
   ·exact hbe
   ·rintro rfl
    rcases he with z|z
    ·exact F c b hc z
    ·rw[hc] at z;cases z;exact hb rfl
universe zz
structure Un(fs ex:`b6)(H H':Hp)(h h':`R):Prop where
 keep:∀b o,`il->`cP->b∉fs->`wC->`tf
 slot:∀b o,`il->`cP->b∈fs->`wC->`ajJ
 free:∀b o,`il->`cP->`wC->`te
 there:∀b o,`il->`wC->`ajK
 tups:`rh
 frzs:`Rs
 tbls:`ajL
section
variable{fs fs' ex ex':`b6}{H1:Hp}{h h1 h2:`R}{x e:`f}{o:HO}
theorem Un.any(u:Un fs ex H H1 h h1){b:`f}{ob:Obj}(q:`mj=`El)(n:`cP)(hx:`wC):∃sl,`Rf b=`a { ob with slots:=sl }:=by
 by_cases hb:b∈fs
 ·exact u.slot b ob q n hb hx
 ·exact⟨ob.slots,u.keep b ob q n hb hx⟩
theorem Un.kept(k:`Ej):Un fs ex H H h h' :=
 ⟨λb ob q _ _ _=>`Rt,λb ob q _ _ _=>⟨ob.slots,`Rt⟩,λ_ _ _ n _=>n,λb ob q _=>⟨ob,`Rt⟩,`tg,`o?,λ_ ps q=>⟨#[],`LG⟩⟩
theorem Un.refl:Un fs ex H H h h:=`Em `tg
theorem Un.laid(k:`Ej)(hp:`Rj)(hn:`Rk):Un fs ex H `hP h h' where
 keep:=λb u q _ _ _=>`Ek
 slot:=λb u q _ _ _=>⟨u.slots,`Ek⟩
 free:=λb u q n _=>by rw[d8 (B9 (C7 (A7 q) hp))];exact n
 there:=λb u q _=>⟨u,`Ek⟩
 tups:=λb xs q=>`wB
 frzs:=λb u xs q=>`wB
 tbls:=λb ps q=>⟨#[],by rw[`aa9,q];simp⟩
theorem Un.write(mu:`Rm)(he:`Rn)(k:`ajI)(heo:`Ro):Un fs ex H `Ru h h':=by
 have hx:∀b,`cP->b≠x:=λb n z=>by subst z;rw[n] at mu;exact mu
 have hb:∀b,`cP->`tc:=λb n z=>by
  subst z;rcases he with r|r
  ·exact hx b n r
  ·rw[n] at r;cases r
 have hm:∀b u,`Ed->¬Mut (`a2)->b≠x:=λb u q nm z=>by subst z;rw[q] at mu;exact nm mu
 refine⟨λb u q n _ _=>`ajM,λb u q n _ _=>⟨u.slots,`ajM⟩,λb u q n _=>by rw[d8 (hx b n)];exact n,λb u q _=>?_,
  λb xs q=>`ajN,λb u xs q=>`ajN,λb ps q=>⟨#[],by rw[`aba,q];simp⟩⟩
 by_cases hbe:b=e
 ·subst hbe;exact heo
 ·exact⟨u,k b u hbe q⟩
universe zz
noncomputable def trk(h:`R)(H:Hp):`b6:=(`cx `o3).filter λa=>(H a).isSome
noncomputable def sd0(h:`R)(H:Hp):`R:=W.hideAll h (trk h H)
theorem am0(h:`R)(H:Hp):(sd0 h H).objs.size=`o3:=W.hideAll_size _ _
theorem av0{h:`R}{b:`f}{o:Obj}(e:`il)(n:`cP):`ajO :=
 W.hideAll_get _ e λhm=>by
  have q:(H b).isSome=`c:=(List.mem_filter.mp hm).2;rw[n] at q;simp at q
theorem Wt0{h:`R}{b:`f}{o:Obj}(e:`ajO):`il/\`cP:=by
 have e':`il:=W.of_hideAll (trk h H) e;refine⟨e',?_⟩;cases q:H b with
 | none=>rfl
 | some x =>
  have hm:b∈trk h H:=List.mem_filter.mpr ⟨`qH (A7 e'),by simp[q]⟩;have z:`abb=`b:=W.hideAll_none (trk h H) hm;rw[z] at e;cases e
universe L2
variable{xs:`T L2.V}{H H' H2 H₀:L2.Hp}{so:`Ec}{σ:`aji}{kvs:`ajj}{sos:`T `Ec}
namespace L2
open Spec PyProof.Rows
structure Mod(K:`D)(mg:`bX)(base:`R):Prop where
 kin:`Rv
 glob:`wD
 blt:∃mb,base.Ns `Rw mb/\`ajP
 nolimit:base.NoLimit
structure Cx where
 prog:`ag
 w:`N
 K:`D
 mg:`bX
 base:`R
 A:`bf
 N:`u
 s₀:`r
 H₀:Hp
 env:Env
 outer:`fy
 stack:`fy
 ex:`b6
 fn:Str->`V
 calm:`V
 pn:`ax
 xe:`X
variable{X:L2.Cx}
noncomputable def frs(l:`fy):`b6:=l.filterMap (·.frame)
abbrev Cx.fs(X:Cx):`b6:=frs `ri
noncomputable def Vis(sc:`c!)(x:Str):Prop:=`abc∨`KN∨`td x=`hu
noncomputable def Loc(sc:`c!)(x:Str):Prop:=`Rx
noncomputable def Look(env:Env)(h:`R)(m:`bX)(x:Str)(u:`A):Prop :=
 (`Af=`iU/\m x=`a2)∨((`Af=`ho∨`Af=`hu)/\∃c,`Ad x=`d9/\h.IsCell c (`a2))
structure Cx.Ok(X:Cx):Prop where
 mod:`ajQ
 kind:`Al=`ks
 glob:`Ry=`b4
 blt:X.env.builtins=`Rw
 above:`mm<=`ex
 inj:∀x y c,`hq->`ajR->x=y
 has:∀x,(`Am=`ho∨`Am=`hu)->∃c,`hq
 cab:∀x c,`KU->`hq->`mm<=c
 hd:`bz->X.A.handled=`b
 frames:X.A.frames=`a `hr
 stk:`hr=`ri∨(`hr=`B::`ri/\X.env.frame=`a `ex)
 exf:∀b∈`ml,`o'/\`abe
 bs:∀b o,`wE->`Rz/\`ajS
 bsz:X.base.objs.size<=`mm
 noex:∀b o,`wE->b∉`ml
 exfs:∀b∈`ml,`En
 funs:`ajT `e3 `ri
 frf:∀b∈`gs,`ajS
structure Inv(X:Cx)(pins:`ax)(σ:`RA)(H:Hp)(s:`r):Prop where
 ok:X.Ok
 os:s.os=X.s₀.os
 bare:`tj `n1
 base:Un `gs `ml X.H₀ H X.s₀.heap `aa
 loc:∃m,`ajU/\∀(i:Nat) (x:Str) (v:V),`cn->`Eo->`fz->∃u,`gv/\Look `B `aa m x u
 cell:∀x c,`hq->∃v,`ajV
 free:H `ex=`b
 freeC:∀x c,`hq->H c=`b
 pin:∀p∈`zr,`ajW
 hok:HOk `a9 X.w H `aa
 len:`KT=X.N.length
section
variable{s:`r}
theorem Cx.Ok.nofr(ok:X.Ok){b:`f}{o:Obj}(e:`wE):`En:=λhb=>by
 have:=(ok.funs.mem hb).1;rw[e] at this;cases `x
theorem Inv.bs(I:`C):∀b o,`wE->`ajX:=λb o e =>
 ⟨`KQ b o (`Ep).1 (`Ep).2 (I.ok.nofr e) `ajY,`zs b o (`Ep).1 (`Ep).2 `ajY⟩
theorem Inv.bk(I:`C):∀b o,`wE->`iV:=λb o e=>(I.bs b o e).1
theorem Inv.mod(I:`C):`ajQ:=I.ok.mod
theorem Inv.kIn(I:`C):X.K.In `aa:=I.ok.mod.kin.keeps I.bk
theorem Inv.lt(I:`C):`ex<s.heap.objs.size:=let ⟨_,hn,_⟩:=`e4;hn.lt
theorem Inv.sz(I:`C):`mm<=`an:=C1 `zu (i7 I.lt)
theorem Inv.nofs(I:`C)(h:`RB):a∉`gs:=λhb=>by
 obtain⟨_,o,ho,_⟩:=`ajZ;exact `y (C7 (A7 ho) (C1 I.sz h)) `i'
theorem Inv.cne(I:`C):∀x c,`hq->c≠`ex:=λx c e z=>by
 obtain⟨v,o,ho,hd⟩:=`Eq;obtain⟨m,⟨o',es,ep,J,F,_⟩,_⟩:=`e4;rw[z,J] at ho;cases ho;rw[F] at hd;cases hd
theorem Inv.funs(I:`C):`Er `e3 `ri:=by
 have all:∀(l:`fy),(∀b∈frs l,b∈`gs)->`ajT `e3 l->`Er `e3 l:=by
  intro l
  induction l with
  | nil=>intro _ _;trivial
  | cons env r ih =>
   intro hs hl;obtain⟨hk,⟨L,o,hf,hn,ho,hd⟩,hr⟩:=hl;have hL:L∈`gs:=hs L (by unfold frs;rw[`wF,hf];exact B0);obtain⟨sl,e⟩:=`KR L o ho (I.ok.frf L hL) hL λz=>I.ok.exfs L z hL
   exact⟨hk,⟨L,_,hf,hn,e,hd⟩,ih (λb hb=>hs b (by unfold frs;rw[`wF,hf];exact `wG)) hr⟩
 exact all `ri (λ_ hb=>hb) I.ok.funs
theorem Inv.stack(I:`C):`Er `e3 `hr:=by
 rcases I.ok.stk with e|⟨e,hf⟩
 ·rw[e];exact I.funs
 ·rw[e]
  obtain⟨m,hn,_⟩:=`e4;refine `ah (by rw[`g4];decide) hf hn ?_ I.funs;exact Heap.get?_none_of_le (C1 I.ok.bsz `zu)
theorem Inv.stkSub(I:`C):∀b∈`wH,b∈`ex::`gs:=λb hb=>by
 rcases I.ok.stk with e|⟨e,hf⟩
 ·rw[e] at hb;exact `wG
 ·rw[e] at hb
  unfold frs at hb;rw[`wF,hf] at hb;exact hb
theorem Inv.stkFree(I:`C):∀b∈`wH,`cP:=λb hb=>by
 rcases `c_ (I.stkSub b hb) with e|hb
 ·rw[e];exact `f?
 ·obtain⟨_,o,ho,_⟩:=`ajZ
  exact `zs b o ho (I.ok.frf b hb) λz=>I.ok.exfs b z hb
theorem Inv.step{g':`uz}{t':Nat}{d':Drawn}{ch:`b6}(I:`C)
  (hch:∀b∈ch,`RC)
  (keep:∀b o,`o'->`En->`wI->`iV->`cP->`tf)
  (slot:∀b o,`o'->b∈`gs->`wI->`iV->`cP->`ajJ) (free:∀b o,`wI->`iV->`aj_)
  (there:∀b o,`wI->`iV->`ajK)
  (tups:`rh) (frzs:`Rs) (tbls:`ajL)
  (ns:∀m,`ajU->h'.Ns `ex m) (hok:`RD) (hg:`tj g') :
  `aj0:=by
 have O:∀b o,`Rz->`o':=λb o e=>B9 (C7 `iX `zu)
 have M:∀b o,`Rz->b∉`ml->`wI:=λb o e hx hb=>by
  rcases (hch b hb).1 with z|z
  ·exact hx z
  ·exact `y (C7 `iX z) `i'
 have J:∀x c,`hq->∀v,`ajV->h'.IsCell c v:=λx c e v ⟨o,ho,hd⟩=>by
  have F:c∉ch:=`aj1
  by_cases hc:c∈`gs
  ·obtain⟨sl,q⟩:=slot c o (I.cne x c e) hc F ho `Es
   exact⟨_,q,hd⟩
  ·exact⟨o,keep c o (I.cne x c e) hc F ho `Es,hd⟩
 refine⟨I.ok,`lw,hg,⟨`zt,`zt,λb o e n hx=>?_,`abo,λb xs e=>tups b xs (`KW b xs e),λb o xs e=>frzs b o xs (`KX b o xs e),λb ps e=>?_⟩,?_,`Et,?_,`Et,`lx,hok,`e5⟩
 ·exact keep b o (O b o e) hb `Eu `RE `Ev
 ·obtain⟨sl,e1⟩:=`RF
  obtain⟨Y,e2⟩:=slot b _ (O b o e) hb `Eu e1 `Ev;exact⟨Y,e2⟩
 ·obtain⟨o',e1⟩:=`Ew
  exact free b o' `Eu e1 `Ev
 ·obtain⟨o',e1⟩:=`Ew
  exact there b o' `Eu e1
 ·obtain⟨m1,e1⟩:=`aj2
  obtain⟨m2,e2⟩:=tbls b _ e1;exact⟨m1++m2,by rw[e2,Array.append_assoc]⟩
 ·obtain⟨m,hn,hl⟩:=`e4
  refine⟨m,ns m hn,`aj3⟩;obtain⟨u,r,l⟩:=hl i x v e1 e2 e3;refine⟨u,r,?_⟩;rcases l with l|⟨k,c,e,z⟩
  ·exact `k l
  ·exact `h ⟨k,c,e,J x c e _ z⟩
 ·obtain⟨v,z⟩:=`Eq
  exact⟨v,J x c e v z⟩
 ·obtain⟨m,⟨o,_,_,ho,_⟩,_⟩:=`e4
  exact free _ o (`aj4) ho `f?
 ·obtain⟨v,o,ho,hd⟩:=`Eq
  exact free c o (`aj1) ho `Es
 ·obtain⟨e,n,ne,nf,d⟩:=`wJ
  have F:p.1∉ch:=λz=>(hch p.1 z).2.2.2 p hp rfl
  exact⟨keep p.1 p.2 ne nf F e n,free p.1 p.2 F e n,ne,nf,d⟩
theorem Inv.un(I:`C)(u:Un `gs [] H H' `aa h')(hok:`RD):Inv X `i σ H' `o!:=by
 obtain⟨m,⟨o,es,ep,ho,r⟩,_⟩:=`RG;obtain⟨sl,hL⟩:=u.any ho `f? `S;exact `Ex (g':=`n1) (d':=`wK) (ch:=[]) (λ_ z=>nomatch z) (λb o _ hb _ e n=>u.keep b o e n hb `S) (λb o _ hb _ e n=>u.slot b o e n hb `S) (λb o _ e n=>u.free b o e n `S) (λb o _ e=>u.there b o e `S) u.tups u.frzs u.tbls (λm' hm=>by
  obtain⟨o',J,M,F,r'⟩:=hm;rw[ho] at F;cases F;exact`aj5) hok `g5
theorem Inv.call{g':`uz}{t':Nat}{d':Drawn}(I:`C)(u:Un (`wH) ch H H' `aa h')(hok:`RD)(hg:`tj g')
  (hch:∀b∈ch,`RC) :
  `aj0:=by
 obtain⟨m,⟨o,es,ep,ho,r⟩,_⟩:=`RG;obtain⟨sl,hL⟩:=u.any ho `f? `aj4
 exact `Ex (ch:=ch) hch (λb o hL hb hc e n=>u.keep b o e n (λz=>(`c_ (I.stkSub b z)).elim hL hb) hc) (λb o _ _ hc e n=>u.any e n hc) (λb o hc e n=>u.free b o e n hc) (λb o hc e=>u.there b o e hc) u.tups u.frzs u.tbls (λm' hm=>by
  obtain⟨o',J,M,F,r'⟩:=hm;rw[ho] at F;cases F;exact`aj5) hok hg
theorem Inv.turned{t':Nat}(I:`C)(k:∀b o,b≠it->`Bg)(hn:H it=`b)(hL:it≠`ex)
  (h1:it∈`ml∨`mm<=it) (h2:∀x c,`hq->c≠it) (h3:∀p∈`zr,p.1≠it):`RH:=by
 have F:∀b u,`Ed->b≠it:=λb u e z=>by rw[z,hn] at e;cases e
 refine `Ex (g':=`n1) (d':=`wK) (ch:=[it]) (`fA) (λb o _ _ hc e _=>`RI) (λb o _ _ hc e _=>⟨o.slots,`RI⟩) `aj6
  (λb o hc e=>⟨o,`RI⟩) (`RJ) (λ_ _ _ e=>e) `aj7 (λm hm=>?_) (λb u e=>?_) `g5
 ·have e:b=it:=`im
  subst e;exact⟨h1,hL,h2,h3⟩
 ·obtain⟨o,es,ep,ho,r⟩:=hm
  exact⟨o,es,ep,k _ o (B4 hL) ho,r⟩
 ·refine`aj8
  rcases hc with z|z
  ·rw[z];exact F b u e
  ·exact F c _ z
theorem Inv.tok(I:`C)(t:Nat):Inv X `i σ H { s with toks:=t }:=I.un (h':=`aa) (t':=t) Un.refl `cc
theorem Inv.kept(I:`C)(k:`aj9):`RH:=I.un (`Em k) (I.hok.kept k)
theorem Inv.laid{o:HO}{t':Nat}(I:`C)(k:`aj9)(hp:`RB)(new:`cb `a9 X.w `hP h' a o) :
  Inv X `i σ `hP `o!:=I.un (Un.laid k hp (`Lw hp)) (I.hok.laid k hp new)
theorem Inv.write{x e:`f}{o:HO}{t':Nat}(I:`C)(mu:`Rm)(he:`Rn)(k:∀b u,`tc->`abk)(heo:`Ro)
  (new:`cb `a9 X.w `Ru h' x o):Inv X `i σ `Ru `o!:=I.un (Un.write mu he k heo) (I.hok.write mu he k heo new)
theorem Inv.weak{σ':`RA}(I:`C)(hl:`RK)(w:∀(i:Nat) v,σ'[i]?=`o7->`Eo):Inv X `i σ' H s :=
 ⟨I.ok,`lw,`g5,`Ey,let ⟨m,hn,hl'⟩:=`e4;⟨m,hn,λi x v e1 e2 e3=>hl' i x v e1 (w i v e2) e3⟩,`iW,`f?,`kq,`mn,`cc,hl.trans `e5⟩
theorem Inv.pins_of{pins':`ax}(I:`C)(h:∀p∈pins',`ajW):Inv X pins' σ H s :=
 ⟨I.ok,`lw,`g5,`Ey,`e4,`iW,`f?,`kq,λp hp=>`aj' (λz=>`mn p (N1 _ z)) (h p),`cc,`e5⟩
theorem j20(hN:`Ez)(a:N[i]?=`bd)(b:N[j]?=`bd):i=j:=by
 obtain⟨h1,e1⟩:=`b5 a;obtain⟨h2,e2⟩:=`b5 b;exact(P8 hN).mp (`ON e2.symm)
theorem ln0{M:Model}{A:`bf}{E:`X}{v:V}{Q:`n2}(I:`C)(hN:`eV)(hi:`cn)(hx:`io)(r:`gv)
  (h:∀s',`aj!->(∃a,`hs a `aa `hz/\(a=`ex∨`KO x=`kA))->`RL) (hf:`ip:=by first|exact `a3|exact `b1|assumption):`aj?:=by
 obtain⟨m,hn,hl⟩:=`RG;have a0:(`Al==.class||(`Al==.module&&`ex != `Ry))=`q:=by rw[`g4];rfl
 have hiσ:`aka:=by rw[`e5];exact`rj
 have cne:=I.cne;have F:∀{a:`f} {h':`R},(∃o,`RM/\`Rk)->`akb->HOk `a9 X.w H h':=λ{a h'} ha hs b ob e=>by
  obtain⟨_,_,J⟩:=ha;refine(`cc b ob e).stay (λc w' hc q=>(`fK c ?_).trans q) `KS (`tg) `o?
  rintro rfl;rcases hc with rfl|hc
  ·rw[J] at e;cases e
  ·rw[J] at hc;cases hc
 rcases hx with hk|hk
 ·refine wpAny_storeName_local hk hn (λh' a2 hs=>?_) a0
  obtain⟨oL,_,_,a3,_⟩:=id hn;refine h _ ⟨I.ok,`lw,`g5,`akc,⟨_,a2,`akd⟩,λy c e=>?_,`f?,`kq,`lx,F ⟨oL,a3,`f?⟩ hs,`ake⟩ ⟨_,hs,`a3⟩
  ·exact`RN `RE
  ·obtain⟨sl,e1⟩:=`RF
   exact⟨sl,`RN e1⟩
  ·obtain⟨o',e1⟩:=`Ew
   exact⟨o',`RN e1⟩
  ·by_cases hj:j=i
   ·subst hj
    rw[hi] at e1;cases e1;rw[`akf] at e2;cases e2;exact⟨u,r,`k ⟨hk,`aS⟩⟩
   ·rw[`RO] at e2
    obtain⟨u',r',q⟩:=`akg;refine`akh;rcases q with⟨k,e⟩|⟨k,c,e,z⟩
    ·refine `k ⟨k,?_⟩
     have:y≠x:=λe=>hj (j20 hN e1 (e▸hi))
     simp[`x,e]
    ·exact `h ⟨k,c,e,`aki⟩
  ·obtain⟨w',z⟩:=`iW y c e
   exact⟨w',`aki⟩
  ·obtain⟨e,n,ne,nf,d⟩:=`wJ
   exact⟨(`fK p.1 ne).trans e,n,ne,nf,d⟩
 ·have O:`KU:=by
   rcases hf with z|z
   ·exact z
   ·rw[z] at hk;cases hk
  obtain⟨c,hc⟩:=`RP x (`k hk);obtain⟨w',z⟩:=`iW x c hc;refine wpAny_storeName_cell `g4 hk hc z (λh' Y hs=>?_);obtain⟨oc,Z,a1⟩:=id z;refine h `gx ⟨I.ok,`lw,`g5,`akc,⟨m,`akj hs (B4 (cne x c hc)),`akd⟩,λy c' e=>?_,`f?,`kq,`lx,F ⟨oc,Z,`kq x c hc⟩ hs,`ake⟩ ⟨c,hs,`h hc⟩
  ·exact`RQ `RE
  ·obtain⟨sl,e1⟩:=`RF
   exact⟨sl,`RQ e1⟩
  ·obtain⟨o',e1⟩:=`Ew
   exact⟨o',`RQ e1⟩
  ·by_cases hj:j=i
   ·subst hj
    rw[hi] at e1;cases e1;rw[`akf] at e2;cases e2;exact⟨u,r,`h ⟨`k hk,c,hc,Y⟩⟩
   ·rw[`RO] at e2
    obtain⟨u',r',q⟩:=`akg;refine`akh;rcases q with q|⟨k,c',e,z'⟩
    ·exact `kt
    ·refine `h ⟨k,c',e,z'.sameBut hs ?_⟩
     rintro rfl;exact hj (j20 hN e1 (I.ok.inj _ _ _ e hc▸hi))
  ·by_cases hcc:c'=c
   ·subst hcc;exact⟨_,Y⟩
   ·obtain⟨w2,z2⟩:=`iW y c' e
    exact⟨w2,z2.sameBut hs hcc⟩
  ·obtain⟨e,n,ne,nf,d⟩:=`wJ
   refine⟨(`fK p.1 ?_).trans e,n,ne,nf,d⟩;intro q;rw[q,Z] at e;have q':oc=p.2:=`fT;exact d w' (by rw[← q'];exact a1)
theorem py0{M:Model}{A:`bf}{E:`X}{v:V}{Q:`n2}(I:`C)(hN:`eV)(hi:`cn)(hx:`io)(r:`gv)
  (h:∀s',`aj!->`RL) (hf:`ip:=by first|exact `a3|exact `b1|assumption):`aj? :=
 ln0 I hN hi hx r (λs' I' _=>h s' I') hf
theorem Inv.call'{s':`r}(I:`C)(ho:`akk)(u:Un (`wH) ch H H' `aa `hz)(hok:HOk `a9 X.w H' `hz)(hg:`LE)
  (hch:∀b∈ch,`RC):`jY:=by
 obtain⟨h',g',d',t',o'⟩:=s';have e:o'=s.os:=ho;subst e;exact I.call (g':=g') (t':=t') (d':=d') u hok hg hch
universe zz
abbrev XK:=`A->`cT->`gu
abbrev St:=`RA
abbrev VK:=`RR
abbrev TE:=St->`zz
abbrev TT:=St->Hp->(`wL)->Prop
variable{ta tb te tv tx:L2.TE}
abbrev TA:=St->Hp->(`Ak)->Prop
structure Ends where
 nx:`ht
 rt:VK
 bk:`ht:=λ_ _=>`bB
 ct:`ht:=λ_ _=>`bB
abbrev TS:=`ly->`ht
noncomputable def EP(X:Cx)(pins:`ax)(σ:St)(Q:VK)(u:`A)(s':`r):Prop:=∃v H',`jY/\`akl
noncomputable def TP(X:Cx)(pins:`ax)(σ:St)(Q:`wL)(b:`V)(s':`r):Prop:=∃H',`jY/\Q b H'
noncomputable def AP(X:Cx)(pins:`ax)(σ:St)(Q:`Ak)(us:`U)(s':`r):Prop:=∃vs H',`jY/\`wM/\Q vs H'
noncomputable def SP(X:Cx)(pins:`ax)(D:`ly)(f:Flow)(s':`r):Prop :=
 match f with
 | `Ag=>∃σ' H',`mv/\`mt σ' H'
 | .brk=>∃σ' H',`mv/\D.bk σ' H'
 | .cont=>∃σ' H',`mv/\D.ct σ' H'
 | `dC u=>∃v σ' H',`mv/\`gv/\D.rt v H'
noncomputable def PE(X:Cx)(e:`z)(t:TE):Prop :=
 ∀(pins:`ax) (s:`r) (σ:St) (H:Hp) (Q:VK),`C->`kD->`l `ac X.A `A4 `fa `az s
noncomputable def PT(X:Cx)(e:`z)(t:TT):Prop :=
 ∀(pins:`ax) (s:`r) (σ:St) (H:Hp) (Q:`wL),`C->`kD->`l `ac X.A (`zw e `B `A4) `RS `az s
noncomputable def PW(X:Cx)(e:`z)(t:TT):Prop :=
 ∀(whole:Sem `A) (pins:`ax) (s:`r) (σ:St) (H:Hp) (Q:`wL),`C->`kD->`l `ac X.A (`abu) `RS `az s
theorem PW.pt{t:TT}(h:PW X e t):PT X e t:=h _
noncomputable def PA(X:Cx)(es:`b2)(t:TA):Prop :=
 ∀(pos:Pos) (pins:`ax) (s:`r) (σ:St) (H:Hp) (Q:`Ak),`C->`kD->`l `ac X.A (`rk (`Lh)) (AP X `i σ Q) `az s
noncomputable def PS(X:Cx)(st:`fI)(t:TS):Prop :=
 ∀(pins:`ax) (s:`r) (σ:St) (H:Hp) (D:`ly),`C->t D σ H->`l `ac X.A (exec st `B) (SP X `i D) `az s
noncomputable def PSs(X:Cx)(st:`er)(t:TS):Prop :=
 ∀(pins:`ax) (s:`r) (σ:St) (H:Hp) (D:`ly),`C->t D σ H->`l `ac X.A (execs st `B) (SP X `i D) `az s
theorem thn{t:Sem α}{Q Q':α->`fH}{M:Model}{s:`r}(h:`l M A t Q E s)(hQ:∀a s,Q a s->Q' a s):`l M A t Q' E s:=D5 h hQ `EA
section
noncomputable def P10(i:Nat):TE:=fun σ H Q=>∃v,`Eo/\Q v H
noncomputable def tC(v:V):TE:=λ_ H Q=>Q v H
theorem y70(hN:`cn)(hv:`fz)(hd:`bt:=by decide)(hcd:`ga:=by decide):PE X `mq (P10 i):=by
 intro pins s σ H Q I h;obtain⟨v,e,h⟩:=h;obtain⟨m,hn,hl⟩:=`e4;obtain⟨u,r,l⟩:=hl i x v hN e hv;have fin:EP X `i σ Q u s:=`akm;rcases l with⟨hk,hm⟩|⟨hk,c,hc,F⟩
 ·exact `RT (`akn `g4 hk hn hm fin) hd
 ·rcases hk with hk|hk
  ·exact `RT (`ako `g4 hk hc F fin) hd
  ·exact `RT (wpAny_loadName_free `g4 hk hc F fin hcd) hd
theorem Th0{i j pos}:PE X (`lz `dj j pos) (tC `dj):=λ_ _ _ H _ I h=>wpAny_Constant_int ⟨`aj,H,`d?,`aq,h⟩
theorem Qg0{b j pos}:PE X (`lz (`EB) j pos) (tC `pc):=λ_ _ _ H _ I h=>Constant_bool ⟨`ce,H,I,rfl,h⟩
theorem S50{j pos}:PE X (`lz `aE j pos) (tC `w):=λ_ _ _ H _ I h=>Constant_none ⟨`w,H,I,rfl,h⟩
theorem S70{x j pos}:PE X (`lz `jU j pos) (tC `jU):=λ_ _ _ H _ I h=>Calls.Constant_str ⟨`bY,H,`d?,`aq,h⟩
noncomputable def Gl(X:Cx)(x:Str):Prop:=`Am=`a .globalImplicit
theorem Ud0{E:`X}{s:`r}{σ:St}{pos:Pos}(I:`C)(hg:`dU)(hm:`zx=`a2)(h:Q u s)
  (hd:`bt:=by decide):`akp :=
 Az0 `g4 hg (Calls.loadGlobal_global `akq hm h) hd
theorem zo0{E:`X}{s:`r}{σ:St}{pos:Pos}(I:`C)(hg:`dU)(hm:`lA)(hv:`o4=`a2)(h:Q u s)
  (hn:`iT := by decide) (hd:`bt:=by decide):`akp:=by
 obtain⟨mb,h1,h2⟩:=I.mod.blt;exact Az0 `g4 hg (Calls.loadGlobal_builtin `akq hm (by rw[I.ok.blt];exact h1.keeps I.bk) ((h2 x hn).trans hv) h) hd
theorem V50{v:V}(hg:`dU)(hm:`lA)(hv:`o4=`a2)(r:`gv)(hn:`iT := by decide)(hd:`bt:=by decide):PE X `mq (tC v) :=
 λ_ _ _ H _ I h=>zo0 I hg hm hv `akm hn hd
variable{a:`z}
noncomputable def PC(X:Cx)(op:`n3)(a b:`z)(t:TE):Prop :=
 ∀(pins:`ax) (s:`r) (σ:St) (H:Hp) (Q:VK),`C->`kD ->
  `l `ac X.A (`K9) (λv s₁=>`l `ac X.A (`K?) (λu s₂=>`l `ac X.A (`e7 op v u) `fa `az s₂) `az `fb) `az s
noncomputable def tB(t:TE):TT:=fun σ H Q=>t σ H λx H1=>∃c,x=.bl c/\Q c H1
theorem Tr0{op:`n3}{t:TE}(h:PC X op a b t)(h1:`rl:=by first|exact nobehind _ `s `s|rfl):PT X `wN (tB t):=by
 intro pins s σ H Q I hw;refine `akr (thn `RU λv s1 h1=>thn h1 λu s2 h2=>thn h2 λc s3 ⟨x,H1,I1,r1,q1⟩=>?_) h1;obtain⟨d,rfl,q⟩:=q1;cases r1;exact `aks
theorem S00{t:TE}(h:PE X e t)(he:`akt:=by intro _;rfl):PT X e (tB t):=by
 intro pins s σ H Q I hw;refine isTrue_plain (thn `RU `tn) (he _);obtain⟨d,rfl,q⟩:=q1;cases r1;exact `aks
variable{tA tB':TT}{rest:`b2}
noncomputable def P60(t u:TT):TT:=fun σ H Q=>t σ H λc H1=>if c=`c then u σ H1 Q else Q `q H1
noncomputable def tOr(t u:TT):TT:=fun σ H Q=>t σ H λc H1=>if c=`c then Q `c H1 else u σ H1 Q
noncomputable def P30(t:TT):TT:=fun σ H Q=>t σ H `aku
theorem Wu0(ha:`wO):PW X `akv tA:=by
 intro wh pins s σ H Q I h;refine `akw `akx;cases c with
 | true=>exact isTrue_and_nil e
 | false=>exact e
theorem Tn0(ha:`wO):PW X `aky tA:=by
 intro wh pins s σ H Q I h;refine isTrue_or `akx;cases c with
 | false=>exact isTrue_or_nil e
 | true=>exact e
theorem Tk0(ha:`wO)(hb:PW X `EC tB'):PW X `ED (P60 tA tB'):=by
 intro wh pins s σ H Q I h;refine `akw `akz;cases c with
 | true=>exact `akA
 | false=>exact`akB
theorem Rt0(ha:`wO)(hb:PW X `akC tB'):PW X `akD (tOr tA tB'):=by
 intro wh pins s σ H Q I h;refine isTrue_or `akz;cases c with
 | true=>exact`akB
 | false=>exact `akA
theorem Tt0(ha:`wO):PT X `akE (P30 tA):=by
 intro pins s σ H Q I h;exact isTrue_not (ha `i s σ H (`aku) I h)
noncomputable def Qy0(ta tb:TE):TE:=fun σ H Q=>ta σ H λx H1=>∃c,x=.bl c/\if c=`c then tb σ H1 Q else Q `Ao H1
theorem Sl0{op}{t:TE}(h:PE X a t):PE X `akF t:=λpins s σ H Q I hw=>BoolOp_one (h `i s σ H Q I hw)
theorem Rc0(ha:`n4)(hb:PE X `EC tb):PE X `ED (Qy0 ta tb):=by
 intro pins s σ H Q I h;refine BoolOp_and (`akG);obtain⟨c,rfl,q1⟩:=q1;cases r1;refine Q1 ?_;cases c with
 | true=>exact hb `i s1 σ H1 Q I1 q1
 | false=>exact⟨.bl `q,H1,I1,rfl,q1⟩
universe zz
noncomputable def SqL(K:`D)(H:Hp)(a:`f)(xs:`K):Prop :=
 `L_ ∨
  ∃(o:Obj) (its:`bh) (n:Nat),`RV/\`s8=`dg/\`Q!/\`akH
noncomputable def SqT(K:`D)(H:Hp)(a:`f)(xs:`K):Prop :=
 Rd H a `o1 ∨
  ∃(o:Obj) (its:`bh) (n:Nat),`RV/\`zi/\`akH
noncomputable def P70:`A->`dh
 | `aE=>`qV
 | `EB=>`rm
 | `d i _=>`RW
 | `E x _=>`a `jU
 | .bytes b _=>`a (.byt b)
 | .float b _=>`a (.flt b)
 | `dD=>`pH
 | `bl n=>`a (.ty n)
 | _=>`b
theorem RelV.abs{x:V}(r:`fN):P70 u=`bd:=by
 cases x with
 | non=>cases r;rfl
 | bl _=>cases r;rfl
 | int _=>obtain⟨t,rfl⟩:=r;rfl
 | str _=>obtain⟨t,rfl⟩:=r;rfl
 | byt _=>obtain⟨t,rfl⟩:=r;rfl
 | flt _=>obtain⟨t,rfl⟩:=r;rfl
 | ref _=>cases r;rfl
 | ty _=>cases r;rfl
theorem RelV.inj{x y:V}(r:`fN)(q:`eW):x=y:=A2 (r.abs.symm.trans q.abs)
theorem Vals.inj:∀{xs ys:`K} {us:`U},`cU->`bi ys us->xs=ys
 | _,_,_,`L,`L=>rfl
 | _,_,_,`eS,`ah r' t'=>by rw[`RX,Vals.inj t t']
section
variable{σ:St}{s:`r}{ys:`K}
theorem Inv.list(I:`C)(h:`akI):∃its:`U,`jW/\PlainL `aa a `be/\`eT:=by
 rcases h with h|⟨o,its,n,hk,hc,hd,hs,hz,r⟩
 ·obtain⟨z,its,n,r,e⟩:=`akJ
  exact⟨its,r,⟨_,n,e,rfl,rfl,rfl⟩,z⟩
 ·refine⟨`K0,r,⟨o,n,`akK,hc,hd,`akL⟩,?_⟩
  have e:=`a';simp only[`ig] at e;omega
theorem Inv.tuple(I:`C)(h:`akM):∃its:`U,`jW/\`tH `aa a `be/\`eT:=by
 rcases h with h|⟨o,its,n,hk,hc,hs,hz,r⟩
 ·obtain⟨z,its,r,p⟩:=`akJ
  exact⟨its,r,p.tup,z⟩
 ·refine⟨`K0,r,⟨o,`akK,hc,n,`akL⟩,?_⟩
  have e:=`a';simp only[`ig] at e;omega
theorem Inv.list_inj(I:`C)(h:`akI)(h':SqL X.K H a ys):xs=ys:=by
 obtain⟨its,r,⟨o,n,e,_,_,d⟩,_⟩:=`dk h;obtain⟨F,r',⟨o',n',e',_,_,d'⟩,_⟩:=`dk h';rw[e] at e';cases e';rw[d] at d';injection d' with d1 _
 have:its=F:=`akN
 subst this;exact `RX
theorem Inv.tuple_inj(I:`C)(h:`akM)(h':SqT X.K H a ys):xs=ys:=by
 obtain⟨its,r,⟨o,e,_,n,d⟩,_⟩:=`e6 h;obtain⟨F,r',⟨o',e',_,n',d'⟩,_⟩:=`e6 h';rw[e] at e';cases e';rw[d] at d';injection d' with d1 _
 have:its=F:=`akN
 subst this;exact `RX
universe zz
abbrev Cx.wish(X:Cx)(E:`X):Cx:={ X with xe:=E }
abbrev Cx.nox(X:Cx):Cx:=X.wish `Ai
theorem Cx.Ok.wish(ok:X.Ok)(E:`X):`akO :=
 `akP
theorem Cx.Ok.unwish(ok:`akO):X.Ok :=
 `akP
section
variable{σ:St}{s:`r}
theorem Inv.wish(I:`C)(E:`X):`akQ:=⟨I.ok.wish E,`lw,`g5,`Ey,`e4,`iW,`f?,`kq,`mn,`cc,`e5⟩
theorem Inv.unwish(I:`akQ):`C:=⟨I.ok.unwish,`lw,`g5,`Ey,`e4,`iW,`f?,`kq,`mn,`cc,`e5⟩
theorem SP.unwish{D:`ly}{f:Flow}{s':`r}(h:SP (X.wish E) `i D f s'):SP X `i D f s':=by
 cases f with
 | next=>obtain⟨σ',H',I,q⟩:=h;exact`RY
 | brk=>obtain⟨σ',H',I,q⟩:=h;exact`RY
 | cont=>obtain⟨σ',H',I,q⟩:=h;exact`RY
 | ret u=>obtain⟨v,σ',H',I,r,q⟩:=h;exact⟨v,σ',H',`aby,r,q⟩
theorem PSs.nox{st:`er}{t:TS}(h:PSs X.nox st t):PSs X st t:=λpins s σ H D I hw =>
 D5 (h `i s σ H D (I.wish _) hw) (λ_ _ q=>q.unwish) λ_ _ z=>`i3 z
universe zz
section
variable{rest:`er}{t u:TS}
noncomputable def Xu0:TS:=λD σ H=>`Mj
noncomputable def Tb0(t u:TS):TS:=λD σ H=>t `akR σ H
theorem yw0:PSs X [] Xu0:=λ_ _ σ H _ I h=>x0 `akS
theorem T6(h1:PS X st t)(h2:PSs X `a1 u):PSs X (st::`a1) (Tb0 t u):=by
 intro pins s σ H D I h;refine wpAny_execs_cons (thn (h1 `i s σ H `akR I h) λf s1 q=>?_);cases f with
 | next =>
  obtain⟨σ',H',I',q⟩:=q;exact h2 `i s1 σ' H' D I' q
 | ret v=>exact q
 | brk=>exact q
 | cont=>exact q
theorem Inv.quiet{σ:St}{s:`r}(I:`C):`akT `B=`q:=by simp[`akT,`g4]
noncomputable def Rw0(te:TE):TS:=λD σ H=>te σ H λ_ H1=>`akU
theorem f60(he:`gb)(hs:`akV:=by rfl):PS X (.Expr e pos) (Rw0 te):=by
 intro pins s σ H D I h;exact wpAny_Expr_any (thn `n5 λv s1 ⟨x,H1,I1,r1,q1⟩=>⟨σ,H1,I1,q1⟩) I.quiet hs
noncomputable def Tz0(te:TE):TS:=λD σ H=>te σ H D.rt
theorem v80(he:`gb):PS X `rn (Tz0 te):=by
 intro pins s σ H D I h;exact wpAny_Return_some (thn `n5 λv s1 ⟨x,H1,I1,r1,q1⟩=>⟨x,σ,H1,I1,r1,q1⟩)
noncomputable def Pc0(c:TT)(t u:TS):TS:=λD σ H=>c σ H λb H1=>if `t3 then t D σ H1 else u D σ H1
theorem oq0{c:`z}{a b:`er}{tc:TT}(hc:PT X c tc)(ha:PSs X a t)(hb:PSs X b u):PS X (.If c a b pos) (Pc0 tc t u):=by
 intro pins s σ H D I h;refine wpAny_If (thn (hc `i s σ H _ I h) λd s1 ⟨H1,I1,q1⟩=>?_);cases d with
 | true=>exact ha `i s1 σ H1 D I1 q1
 | false=>exact hb `i s1 σ H1 D I1 q1
noncomputable def T00:TS:=`jZ
theorem vd0{sts:`er}:PSs X sts T00:=λ_ _ _ _ _ _ h=>`iq
universe zz
abbrev TG:=V->`akW
abbrev TGs:=`K->`akW
noncomputable def PG(X:Cx)(target:`z)(t:TG):Prop :=
 ∀(pins:`ax) (s:`r) (σ:St) (H:Hp) (v:V) (u:`A) (Q:`ht),`C->`gv->`akX ->
  `l `ac X.A (`fM `Aj `B u) `akY `az s
noncomputable def PGs(X:Cx)(ts:`b2)(t:TGs):Prop :=
 ∀(pins:`ax) (s:`r) (σ:St) (H:Hp) (vs:`K) (us:`U) (Q:`ht),`C->`wM->t vs σ H Q ->
  `l `ac X.A (assignInOrder ((`gw ts `B).map `b_) us) `akY `az s
abbrev Zz0:=`RZ
noncomputable def Zc0(X:Cx)(t:Zz0):Prop :=
 ∀(pins:`ax) (s:`r) (σ:St) (H:Hp) (o i v:V) (ov iv u:`A) (Q:`gu),`C->`dd o ov->`dd i iv->`gv->t o i v H Q ->
  `l `ac X.A (`zB ov iv u) (λ_ s'=>∃H',`jY/\Q H') `az s
abbrev TIp:=V->`ro
noncomputable def PIp(X:Cx)(op:`EE)(t:TIp):Prop :=
 ∀(pins:`ax) (s:`r) (σ:St) (H:Hp) (x y:V) (v u:`A) (Q:VK),`C->`gc->`eW->t x y H Q ->
  `l `ac X.A (inplaceOp op v u) `fa `az s
noncomputable def Xq0(i:Nat):TG:=λv σ H Q=>Q `pa H
theorem ww0(hN:`eV)(hi:`cn)(hx:`io)(hf:`ip:=by first|exact `a3|exact `b1|assumption):PG X `mq (Xq0 i):=by
 intro pins s σ H v u Q I r h;exact `akZ (py0 I hN hi hx r (λs' I'=>⟨_,H,I',h⟩) hf)
noncomputable def Pl0:TGs:=λvs σ H Q=>`q'/\Q σ H
noncomputable def Qd0(t:TG)(u:TGs):TGs:=λvs σ H Q=>∃v r,vs=v::r/\t v σ H fun σ' H'=>u r σ' H' Q
theorem ft0:PGs X [] Pl0:=by
 intro pins s σ H vs us Q I r h;obtain⟨e,h⟩:=h;subst e;cases r;exact assignInOrder_nil `akS
theorem ug0{t:TG}{u:TGs}(h1:PG X e t)(h2:PGs X es u)
  (hs:(`gw `e8 `B).map `b_=`fM e `B::(`R_).map `b_:=by rfl):PGs X `e8 (Qd0 t u):=by
 intro pins s σ H vs us Q I r h;obtain⟨v,vr,e1,h⟩:=h;subst e1;cases r with
 | cons r rr =>
  rw[hs];refine assignInOrder_cons (thn (h1 `i s σ H _ _ _ I r h) λ_ s1 ⟨σ1,H1,I1,q1⟩=>?_);exact h2 `i s1 σ1 H1 _ _ Q I1 rr q1
noncomputable def Pn0(K:`D)(n:Nat)(t:TGs):TG:=λv σ H Q=>∃a xs,`e1/\`j_/\`ae=n/\t xs σ H Q
theorem cd0{k:Nat}{t:TGs}{n:Nat}(hc:`bz)(h:PGs X es t)
  (hn:(`R_).length=n:=by rfl) (hst:(`R_).findIdx? `bv=`b:=by rfl):PG X (`kS es k pos) (Pn0 X.K n t):=by
 intro pins s σ H v u Q I r hw;obtain⟨a,xs,e1,hq,hl,hw⟩:=hw;subst e1;cases r;obtain⟨its,rv,ht,hz⟩:=`lB;refine assign_Tuple_tuple `eX ht (by simp[hn,← hl,`kJ]) hst λh' hx=>?_
 have I1:`wP:=`pg (t':=`aZ) λb o e=>hx b o (B9 `iX) e
 exact h `i _ σ H xs _ Q I1 (`ak_) hw
noncomputable def P90(to ti:TE)(t:Zz0):TG:=λv σ H Q=>to σ H λo H1=>ti σ H1 λi H2=>t o i v H2 λH3=>Q σ H3
theorem jd0{i:`z}{to ti:TE}{t:Zz0}(ho:`R0)(hi:PE X i ti)(hs:Zc0 X t)
  (ha:∀v,`fM `R1 `B v=(do
   let ov ← `mr [v] `tT
   let iv ← `mr [v,ov] (`bZ i `B)
   `EF
   `EG
   `EH):=by intro _;rfl):PG X `R1 (P90 to ti t):=by
 intro pins s σ H v u Q I r h;rw[ha];refine A0 (C2 (thn `z7 λov s1 ⟨x,H1,I1,r1,q1⟩=>?_));refine A0 (C2 (thn `ak0 λiv s2 ⟨y,H2,I2,r2,q2⟩=>?_));refine A0 (Y1 (A0 (C2 (thn (hs `i s2 σ H2 x y v ov iv u _ I2 r1 r2 r q2) λ_ s3 ⟨H3,I3,q3⟩=>?_))));exact wpAny_release ⟨σ,H3,I3,q3⟩
noncomputable def R90(te:TE)(g:TG):TS:=λD σ H=>te σ H λx H1=>g x σ H1 `mt
theorem i80{tg:`z}{g:TG}(he:`gb)(hg:PG X tg g)(hs:`R2:=by rfl)(hw:`R3:=by rfl)
  (h1:`R4:=by rfl):PS X `R5 (R90 te g):=by
 intro pins s σ H D I h;refine wpAny_Assign_stores (thn `n5 `tn) hs hw;rw[h1];exact thn (hg `i s1 σ H1 x v _ I1 r1 q1) λ_ s2 q=>q
theorem im0(hN:`eV)(hi:`cn)(hx:`io)(he:`gb)(hs:`mu e (`a (`EI)) `tp `B=`iY:=by rfl)(hf:`ip:=by first|exact `a3|exact `b1|assumption) :
  PS X (`mx [`EI] e pos) (R90 te (Xq0 i)):=by
 intro pins s σ H D I h;refine wpAny_Assign_Name (thn `n5 λv s1 ⟨y,H1,I1,r1,q1⟩=>?_) hs;exact py0 I1 hN hi hx r1 (λs2 I2=>⟨_,H1,I2,q1⟩) hf
noncomputable def Pi0(i:Nat)(te:TE)(ti:TIp):TS:=λD σ H=>∃x,`KP=`a (`bd)/\te σ H λy H1=>ti x y H1 λz H2=>`mt (`th i (`a z)) H2
theorem Ss0{op:`EE}{ti:TIp}{pos':Pos}(hN:`eV)(hi:`cn)(hx:`io)(he:`gb)(ho:PIp X op ti)(hf:`ip:=by first|exact `a3|exact `b1|assumption) :
  PS X (`ak1 (`EI) op e pos) (Pi0 i te ti):=by
 intro pins s σ H D I h;obtain⟨v,e1,h⟩:=h;obtain⟨m,hn,hl⟩:=`e4;have J:`fz:=by rcases hx with k|k;exact `ww;exact `h (`ww)
 obtain⟨u,r,l⟩:=hl i x v hi e1 J;refine wpAny_AugAssign_Name ?_;have go:`l `ac X.A `A4 (λw s₂=>`l `ac X.A (inplaceOp op u w) (λr s₃=>`l `ac X.A (`abn `B x r) (λ_=>SP X `i D `Ag) `az s₃) `az s₂) `az s:=by
  refine thn `n5 λw s1 ⟨y,H1,I1,r1,q1⟩=>?_
  refine thn (ho `i s1 σ H1 v y u w _ I1 r r1 q1) λz s2 ⟨zv,H2,I2,r2,q2⟩=>?_
  exact py0 I2 hN hi hx r2 (λs3 I3=>⟨_,H2,I3,q2⟩) hf
 rcases l with⟨hk,hm⟩|⟨hk,c,hc,F⟩
 ·exact `akn `g4 hk hn hm go
 ·rcases hk with hk|hk
  ·exact `ako `g4 hk hc F go
  ·rcases hx with k|k
   ·have:`ak2:=hk
    rw[k] at this;cases `x
   ·have:`ak2:=hk
    rw[k] at this;cases `x
noncomputable def ipI(f:`R6):TIp:=λx y H Q=>∃i j,`wQ/\y=`cY/\Q (`d (f i j)) H
theorem Rf0:PIp X .Add (ipI λi j=>i+j):=by
 intro pins s σ H x y v u Q I r1 r2 h;obtain⟨i,j,e1,e2,q⟩:=h;subst e1;subst e2;obtain⟨t,rfl⟩:=r1;obtain⟨t',rfl⟩:=r2;exact iadd_int ⟨`b!,H,`d?,`aq,q⟩
noncomputable def T70(c:TT)(tb:TS):TS:=λD σ H=>∃W:`ak3,(∃m,W m σ H)/\∀m σ H,W m σ H ->
 c σ H λb H1=>if `t3 then ∃N:`ht,(∀σ' H',N σ' H'->∃m',m'<m/\W m' σ' H')/\tb `ak4 σ H1 else `akU
theorem Zt0{c:`z}{tc:TT}{tb:TS}(hp:`EJ)(hc:PT X c tc)(hb:`ak5):PS X `ak6 (T70 tc tb):=by
 intro pins s σ H D I h;obtain⟨W,⟨m0,w0⟩,F⟩:=h;refine wpAny_While (codeAny_whileLoop (λn s'=>∃σ' H',`mv/\W n σ' H') ?_ m0 ⟨σ,H,I,w0⟩);rintro n s1 ⟨σ1,H1,I1,w1⟩;refine N2 hp (thn (hc `i s1 σ1 H1 _ I1 (F n σ1 H1 w1)) λb s2 ⟨H2,I2,q2⟩=>?_);cases b with
 | true =>
  obtain⟨N,hN,q2⟩:=q2;rw[`aB];refine N2 hp (thn (hb `i s2 σ1 H2 _ I2 q2) λf s3 q3=>?_);cases f with
  | next =>
   obtain⟨σ3,H3,I3,n3⟩:=q3;obtain⟨m',hm,w3⟩:=`ak7;exact`ak8
  | cont =>
   obtain⟨σ3,H3,I3,n3⟩:=q3;obtain⟨m',hm,w3⟩:=`ak7;exact`ak8
  | brk=>exact q3
  | ret v=>exact q3
 | false =>
  rw[`cV];exact x0 ⟨σ1,H2,I2,q2⟩
structure It where
 go:`ak9
 yld:Nat->Hp->`RR
 stop:`ak9
noncomputable def u10(X:Cx)(pins:`ax)(H:Hp)(b:`f):Prop :=
 `cP/\`o'/\`En/\`abf/\`abg
theorem Inv.fpOk{σ:St}{s:`r}{b:`f}(I:`C)(hb:`an<=b)(hn:`te):`R7:=by
 refine⟨hn,D8 (C7 I.lt hb),I.nofs hb,`h (C1 I.sz hb),`ak',`ak!⟩
 ·obtain⟨v,q⟩:=`Eq
  exact `y (C7 q.lt `ak?) `i'
 ·exact `y (C7 (A7 (`wJ).1) `ak?) `i'
structure Turn(P:`ag)(w:`N)(K:`D)(tg:`z)(J:It)(fp:`b6)(it:`f)(tn:`R8):Prop where
 mem:it∈fp
 obj:∀i h,tn i h->∀b∈fp,∃o,`il/\`ala
 keep:∀i h h',tn i h->(∀b∈fp,∀o,`il->`tf)->tn i h'
 item:∀(X:Cx),`a9=P->X.w=w->X.K=K->`bz->∀(i:Nat) (pins:`ax) (s:`r) (σ:St) (H:Hp) (E:`X),`C->`alb->`R9->`R' ->
  `l `i9 X.A `Nz (λr s1=>∃u,r=`a2 /\
   `l `i9 X.A (`R! tg `hv u) (λ_ s2=>∃x H',`alc/\`fN/\`R?/\tn `bM s2.heap/\∀b∈fp,`te) E s1) E s
 done:∀(X:Cx),`a9=P->X.w=w->X.K=K->`bz->∀(i:Nat) (pins:`ax) (s:`r) (σ:St) (H:Hp) (E:`X),`C->`alb->`R9->`Sa ->
  `l `i9 X.A `Nz (λr s1=>`wR/\Inv X `i σ H s1) E s
 self:∀(A:`bf) (i:Nat) (s:`r) (Q:`X) (E:`X),`R9->Q `hv s->`l `i9 A (`wS `hv) Q E s
abbrev TI:=St->Hp->(`EK)->Prop
noncomputable def PIE(X:Cx)(pins:`ax)(σ:St)(tg:`z)(R:`EK)(itv:`A)(s2:`r):Prop :=
 ∃(it:`f) (fp:`b6) (tn:`R8) (J:It) (H':Hp),itv=`K2/\`alc/\`ald/\`ale/\(∀b∈fp,`R7)/\R J H'
noncomputable def PI(X:Cx)(tg iter:`z)(wi:TI):Prop :=
 ∀(pins:`ax) (s:`r) (σ:St) (H:Hp) (R:`EK),`C->wi σ H R ->
  `l `ac X.A (`bZ `i_ `B) (λv s1=>`l `ac X.A (`wS v) `alf `az s1) `az s
theorem k70{M:Model}{A:`bf}{E:`X}{s:`r}{tg:`z}{u:`A}{o:Obj}{n:`cL}{vs:`bh}{Q:`n2}(ho:`cO it=`_)(hc:`s8=`bl n)(hd:`oX=`Eg)
  (hn:`alg=`q) (hQ:Q () s):`l M A (`R! tg `hv u) Q E s:=by
 unfold letOwnedTupleGo;cases tg<;>first
  | exact `wT
  | (cases u<;>first
    | exact `wT
    | (refine A0 (wpAny_load ho ?_)
       rw[hc,hd];show `l M A (if (`alg&&vs[0]?==`a (`fe _))=`c then _ else _) Q E s;rw[`P (by intro h;rw[hn,`Sb] at h;cases h)];exact `wT))
noncomputable def Itl(K:`D)(a:`f):It :=
 ⟨`alh,λi H x H'=>H'=H/\`Sc,`ali⟩
noncomputable def Itt(K:`D)(a:`f):It :=
 ⟨λi H=>∃xs x,`j_/\`mz,λi H x H'=>H'=H/\∀xs,`j_->`mz,λi H=>∃xs,`j_/\`K4⟩
noncomputable def Itr(lo:Int)(n:Nat):It:=⟨λi _=>i<n,λi H x H'=>H'=H/\x=`Sd,`alj⟩
theorem cy0{P:`ag}{w:`N}{tg:`z}(a it:`f):`my P w K tg (Itl K a) [it] it (λi h=>`alk) where
 mem:=`aS
 obj:=λi h st b hb=>by
  have e:b=it:=`im
  subst e;obtain⟨o,e,c,d⟩:=st;exact`Se
 keep:=`all
 item:=by
  intro X hP hw hK hc i pins s σ H E I hf st hg;subst hP hw hK;obtain⟨xs,x,hq,hx⟩:=hg;obtain⟨its,rv,p,hz⟩:=`fB;obtain⟨u,hu,ru⟩:=`EL;obtain⟨f0,f1,f2,f3,f4,f5⟩:=`lC;refine wpAny_pyNext_list_item st `n6 (x:=u) `wU `Sf
  have I1:`wP:=`Sg;obtain⟨o,e,c,d⟩:=id F;exact⟨u,rfl,k70 (s:=`gx) e c d `s ⟨x,H,I1,ru,`alm,F,`EM⟩⟩
 done:=by
  intro X hP hw hK hc i pins s σ H E I hf st hg;subst hP hw hK;obtain⟨xs,hq,hx⟩:=hg;obtain⟨its,rv,p,hz⟩:=`fB;obtain⟨f0,f1,f2,f3,f4,f5⟩:=`lC;have hl:=`kJ;exact wpAny_pyNext_list_end `eX st `n6 `n7 `EN
 self:=λ_ _ _ _ _ st h=>wpAny_pyIter_listiter st h
theorem de0{P:`ag}{w:`N}{tg:`z}(a it:`f):`my P w K tg (Itt K a) [it] it (λi h=>h.IsTupleIter it a i) where
 mem:=`aS
 obj:=λi h st b hb=>by
  have e:b=it:=`im
  subst e;obtain⟨o,e,c,d⟩:=st;exact`Se
 keep:=`all
 item:=by
  intro X hP hw hK hc i pins s σ H E I hf st hg;subst hP hw hK;obtain⟨xs,x,hq,hx⟩:=hg;obtain⟨its,rv,p,hz⟩:=`lB;obtain⟨u,hu,ru⟩:=`EL;obtain⟨f0,f1,f2,f3,f4,f5⟩:=`lC;refine wpAny_pyNext_tuple_item st `aln (x:=u) `wU `Sf
  have I1:`wP:=`Sg;obtain⟨o,e,c,d⟩:=id F;exact⟨u,rfl,k70 (s:=`gx) e c d `s ⟨x,H,I1,ru,⟨rfl,λys hy=>by rw[`alo hy hq];exact hx⟩,F,`EM⟩⟩
 done:=by
  intro X hP hw hK hc i pins s σ H E I hf st hg;subst hP hw hK;obtain⟨xs,hq,hx⟩:=hg;obtain⟨its,rv,p,hz⟩:=`lB;obtain⟨f0,f1,f2,f3,f4,f5⟩:=`lC;have hl:=`kJ;exact wpAny_pyNext_tuple_end `eX st `aln `n7 `EN
 self:=λ_ _ _ _ _ st h=>wpAny_pyIter_tupleiter st h
theorem d40{P:`ag}{w:`N}{tg:`z}(it:`f)(lo:Int)(n:Nat):`my P w K tg (Itr lo n) [it] it (λi h=>`alp h it (lo+`Bi*1) (`b7 - `Bi) 1) where
 mem:=`aS
 obj:=λi h st b hb=>by
  have e:b=it:=`im
  subst e;exact⟨_,st,λv z=>by
   have z':`alq _=Data.cell v:=z;cases z'⟩
 keep:=λi h h' st k=>k it `S _ st
 item:=by
  intro X hP hw hK hc i pins s σ H E I hf st hg;subst hP hw hK;obtain⟨f0,f1,f2,f3,f4,f5⟩:=`lC;have W:=Walks.range (prog:=`a9) (w:=X.w) `eX it lo 1 n;refine W.item i s _ _ hg st λv h' tk hv F kk=>?_
  obtain⟨t,rfl⟩:=hv;have I1:Inv X `i σ H `hT:=`K6 (λb o hb e=>kk b o (`im) e) f0 f1 f3 f4 f5;refine⟨_,rfl,k70 (s:=`hT) (n := "range_iterator") F rfl rfl `s ⟨`Sd,H,I1,⟨t,?_⟩,`eA,F,`EM⟩⟩;rw[`Sh]
 done:=by
  intro X hP hw hK hc i pins s σ H E I hf st hg;subst hP hw hK;obtain⟨f0,f1,f2,f3,f4,f5⟩:=`lC;exact wpAny_pyNext_range_end `eX st (by have:n<=i:=hg;omega) `EN
 self:=λ_ _ _ _ _ st h=>wpAny_pyIter_rangeiter st h
section
variable{tg:`z}
noncomputable def Qo0(K:`D)(tl:TE):TI:=fun σ H R=>tl σ H λx H1=>∃a,`eY/\`Si/\R (Itl K a) H1
noncomputable def Pq0(K:`D)(tl:TE):TI:=fun σ H R=>tl σ H λx H1=>∃a,`eY/\(∃xs,SqT K H1 a xs)/\R (Itt K a) H1
theorem Wj0{l:`z}{tl:TE}(hl:PE X l tl):PI X tg l (Qo0 X.K tl):=by
 intro pins s σ H R I h;refine `alr
 obtain⟨a,e,⟨xs,hq⟩,q⟩:=q1;subst e;cases r1;obtain⟨its,rv,p,hz⟩:=`Bh hq;refine `als `n6 ?_;refine⟨`ea,[`ea],_,_,H1,rfl,`Sj,cy0 a _,`wV,`fA,q⟩;have e:b=`ea:=`im
 subst e;exact `rp
theorem Ti0{l:`z}{tl:TE}(hl:PE X l tl):PI X tg l (Pq0 X.K tl):=by
 intro pins s σ H R I h;refine `alr
 obtain⟨a,e,⟨xs,hq⟩,q⟩:=q1;subst e;cases r1;obtain⟨its,rv,p,hz⟩:=I1.tuple hq;refine `alt (show s1.heap.IsTuple a `be from p) ?_;refine⟨`ea,[`ea],_,_,H1,rfl,`Sj,de0 a _,`wV,`fA,q⟩;have e:b=`ea:=`im
 subst e;exact `rp
theorem jx0{σ:St}{s:`r}{R:`EK}{E:`X}{lo hi:Int}{t u v:Tok}{tk:Nat}(I:`C)(h1:`mD<=lo)(h2:lo<2 ^ 62)(h3:`mD<=hi)(h4:hi<2 ^ 62)
  (q:R (Itr lo `pf) H):`l `ac X.A (`wS `kQ) `alf E `alu:=by
 refine wpAny_pyIter_range `alv (small_one h1 h2 h3 h4) ?_;have I1:Inv X `i σ H `alu:=`pg `ts
 refine⟨`Sk,[`Sk],_,_,H,rfl,
  `zE (t':=tk) `ts,d40 _ lo `pf,?_,`fA,q⟩
 ·have e1:lo+`tu*1=lo:=`aS
  have e2:`alw=`alx lo hi 1:=`aly
  show `alp _ _ (lo+`tu*1) (`alw) 1;rw[e1,e2];exact `df
 ·have e:b=`Sk:=`im
  subst e;exact `rp
noncomputable def Rp0(ta:TA):TI:=fun σ H R=>ta σ H λvs H1=>∃j:Int,vs=[`cY]/\`mD<=j/\`abJ/\R (Itr 0 `nv) H1
noncomputable def Ro0(ta:TA):TI:=fun σ H R=>ta σ H λvs H1=>∃i j:Int,vs=`i2/\(`mD<=i/\`acR/\`wW)/\R (Itr i `uO) H1
theorem cr0{a:`z}{ta:TA}(hg:`wX)(hm:`wY)(ha:`Sl)(hs:`EO:=by rfl):PI X tg `alz (Rp0 ta):=by
 intro pins s σ H R I h;refine `wZ (zo0 I hg hm `Sm `alA);obtain⟨j,e,q1,q2,q⟩:=q1;subst e;cases r1 with
 | cons r rr =>
  cases rr;obtain⟨t,rfl⟩:=r;exact call_range_1 (jx0 I1 `g `g q1 q2 (`EP))
theorem cp0{a:`z}{ta:TA}{p pos:Pos}(hg:`wX)(hm:`wY)(ha:`alB)(hs:`alC:=by rfl)(hs2:`alD:=by rfl) :
  PI X tg `alE (Ro0 ta):=by
 intro pins s σ H R I h;refine `wZ (zo0 I hg hm `Sm (E3 `K! (by rw[hs,hs2]) (by rw[hs2];rfl)));obtain⟨i,j,e,⟨q1,q2,q3,q4⟩,q⟩:=q1;subst e;cases r1 with
 | cons r rr =>
  cases rr with
  | cons r' rr =>
   cases rr;obtain⟨t,rfl⟩:=r;obtain⟨t',rfl⟩:=r';exact `alF (jx0 I1 q1 q2 q3 q4 q)
noncomputable def Pr0(wi:TI)(g:TG)(tb:TS):TS:=λD σ H=>wi σ H λJ H1=>∃W:Nat->`ak3,(∃m,W 0 m σ H1)/\∀i m σ H,W i m σ H ->
 (`Sa/\`Mj)∨(`R'/\∃N:`ht,(∀σ' H',N σ' H'->∃m',m'<m/\W `bM m' σ' H')/\∀x H',`R?->g x σ H' fun σ2 H2=>tb `ak4 σ2 H2)
noncomputable def qi0(fp:`b6)(h:`R):`ax:=fp.filterMap λb=>(`mj).map λo=>`tv
theorem vq0{h:`R}{b:`f}{o:Obj}(hb:b∈fp)(e:`il):`tv∈qi0 fp h:=`nC ⟨b,hb,`alG⟩
theorem ac0{h:`R}{p:`aaN}(hp:p∈qi0 fp h):p.1∈fp/\`mc p.1=`zq:=by
 obtain⟨b,hb,e⟩:=`rq hp;cases q:`mj with
 | none=>rw[q] at e;cases e
 | some o =>
  rw[q] at e;have e':`tv=p:=`fT;subst e';exact⟨hb,q⟩
theorem Inv.pinned{σ:St}{s:`r}(I:`C)(hf:∀b∈fp,`zC)(ho:∀b∈fp,∃o,`iV/\`ala):Inv X (`i++qi0 fp `aa) σ H s :=
 I.pins_of λp hp=>`aj' (λz=>`mn p (E4 _ z)) λz=>by
  obtain⟨hb,e⟩:=ac0 z;obtain⟨f0,f1,f2,_⟩:=hf p.1 hb;obtain⟨o,e',d⟩:=ho p.1 hb;rw[e] at e';cases e';exact⟨e,f0,f1,f2,d⟩
theorem Inv.unpinned{pl:`ax}{σ:St}{s:`r}(I:Inv X (`i++pl) σ H s):`C:=I.pins_of λp hp=>`mn p (E4 _ (N1 _ hp))
theorem Rh0{wi:TI}{g:TG}{tb:TS}{pos:Pos}(hp:`EJ)(hc:`bz)(hi:`Sn)(hg:PG X tg g)(hb:`ak5)
  (hs:`g6:=by intro _;rfl):PS X `alH (Pr0 wi g tb):=by
 intro pins s σ H D I h;refine wpAny_For (thn `EQ λv s1 h1=>thn h1 λa3 s2 h2=>?_) hs;obtain⟨it,fp,tn,J,H2,e,I2,T,a1,f2,W,⟨m0,w0⟩,Z⟩:=h2;subst e;have F:∀{H':Hp},`rr->∀b∈fp,`R7:=λhn b hb=>⟨hn b hb,(`i!).2⟩
 refine codeAny_forLoop_any (λn s'=>∃i σ' H',`mv/\`alI/\`rr/\W i n σ' H') ?_ m0 ⟨0,σ,H2,I2,a1,λb hb=>(`i!).1,w0⟩;rintro n s3 ⟨i,σ3,H3,I3,Y,O,w3⟩;rcases Z i n σ3 H3 w3 with⟨stop,qn⟩|⟨go,N,hN,step⟩
 ·refine N2 hp (thn (T.done X rfl rfl rfl hc i `i s3 σ3 H3 `az I3 (F O) Y stop) λr s4 ⟨hr,I4⟩=>?_)
  subst hr;exact x0 ⟨σ3,H3,I4,qn⟩
 ·refine N2 hp (thn (T.item X rfl rfl rfl hc i `i s3 σ3 H3 `az I3 (F O) Y go) λr s4 ⟨u,hr,h4⟩=>?_)
  subst hr;refine N2 hp (thn h4 λ_ s5 ⟨x,H5,I5,r5,y5,M,a2⟩=>?_);have a0:=I5.pinned (F a2) (`t4 _ _ M);refine N2 hp (thn (hg _ s5 σ3 H5 x u _ a0 r5 (`j0 x H5 y5)) λ_ s6 ⟨σ6,H6,I6,q6⟩=>?_);refine N2 hp (thn (hb _ s6 σ6 H6 _ I6 q6) λf s7 q7=>?_);have again:∀{σ7:St} {H7:Hp},Inv X (`i++qi0 fp s5.heap) σ7 H7 s7->N σ7 H7->∃m,m<n/\∃i σ' H',Inv X `i σ' H' s7/\tn i s7.heap/\`rr/\W i m σ' H':=λ{σ7 H7} I7 n7=>by
   obtain⟨m',hm,w7⟩:=hN σ7 H7 n7;refine⟨m',hm,i+1,σ7,H7,`So,T.keep _ _ _ M λb hb o e=>(`alJ).1,`fA,w7⟩;obtain⟨o,e,d⟩:=`t4 _ _ M b hb;exact(`alJ).2.1
  cases f with
  | next=>obtain⟨σ7,H7,I7,n7⟩:=q7;exact `alK
  | cont=>obtain⟨σ7,H7,I7,n7⟩:=q7;exact `alK
  | brk=>obtain⟨σ7,H7,I7,q7⟩:=q7;exact⟨σ7,H7,`So,q7⟩
  | ret v=>obtain⟨x7,σ7,H7,I7,r7,q7⟩:=q7;exact⟨x7,σ7,H7,`So,r7,q7⟩
universe zz
abbrev R2:=V->`ro
noncomputable def OpR(X:Cx)(f:`rs)(r:R2):Prop :=
 ∀(pins:`ax) (s:`r) (σ:St) (H:Hp) (x y:V) (v u:`A) (Q:VK),`C->`gc->`eW->`zJ ->
  `l `ac X.A `Sp `fa `az s
noncomputable def UnR(X:Cx)(f:`Lb)(r:`ro):Prop :=
 ∀(pins:`ax) (s:`r) (σ:St) (H:Hp) (x:V) (v:`A) (Q:VK),`C->`gc->r x H Q ->
  `l `ac X.A (f v) `fa `az s
noncomputable def CallR(X:Cx)(f:`A)(r:`e!):Prop :=
 ∀(pins:`ax) (s:`r) (σ:St) (H:Hp) (xs:`K) (us:`U) (Q:VK),`C->`cU->`ER ->
  `l `ac X.A (`e? f us) `fa `az s
noncomputable def tOp(r:R2)(ta tb:TE):TE:=fun σ H Q=>ta σ H λx H1=>tb σ H1 λy H2=>r x y H2 Q
noncomputable def tUn(r:`ro)(ta:TE):TE:=fun σ H Q=>ta σ H λx H1=>r x H1 Q
noncomputable def rI(C:`Sq)(g:`ES):R2:=λx y H Q=>∃i j,`wQ/\y=`cY/\C i j/\Q `i1 H
noncomputable def rI0(g:`ES):R2:=λx y H Q=>∃i j,`wQ/\y=`cY/\Q `i1 H
noncomputable def rU(g:Int->V):`ro:=λx H Q=>∃i,`wQ/\Q `rt H
section
variable{a c:`z}{tc:TE}
theorem Y70(ha:`n4)(hb:`w_){s:`r}{σ:St}{R:V->`RR}(I:`C)
  (h:ta σ H λx H1=>tb σ H1 λy H2=>R x y H2) {Q:`X} {f:`rs}
  (hf:∀v u s2 x y H2,`alL->`gc->`eW->R x y H2->`l `ac X.A `Sp Q `az s2) :
  `l `ac X.A (`K9) (λv s₁=>`l `ac X.A (`K?) (λu s₂=>`l `ac X.A `Sp Q `az s₂) `az `fb) `az s:=by
 refine `akG
 refine thn `alM λu s2 ⟨y,H2,I2,r2,q2⟩=>?_
 exact hf v u s2 x y H2 I2 r1 r2 q2
theorem df0{op:`EE}{r:R2}(ho:`alN)(ha:`n4)(hb:`w_):PE X `alO `ET:=by
 intro pins s σ H Q I h;exact wpAny_BinOp `alP
theorem Qm0{op:UnaryOp}{r:`ro}(ho:UnR X (unaryOp op) r)(ha:`n4):PE X (`K_ op a pos) (tUn r ta):=by
 intro pins s σ H Q I h;exact UnaryOp_ (thn `tm λv s1 ⟨x,H1,I1,r1,q1⟩=>ho `i s1 σ H1 x v Q I1 r1 q1)
theorem opI{f:`rs}{C:`Sq}{g:`R6}
  (rule:∀(i j:Int) (t u:Tok) (s:`r) (Q:`X) (E:`X),C i j->`alQ) :
  OpR X f (rI C `alR):=by
 intro pins s σ H x y v u Q I rx ry h;obtain⟨i,j,rfl,rfl,hc,q⟩:=h;obtain⟨t,rfl⟩:=rx;obtain⟨t',rfl⟩:=ry;exact rule i j t t' s _ _ hc `alS
theorem Tv0{f:`rs}{g:`R6}
  (rule:∀(i j:Int) (t u:Tok) (s:`r) (Q:`X) (E:`X),`alQ) :
  OpR X f (rI0 `alR):=by
 intro pins s σ H x y v u Q I rx ry h;obtain⟨i,j,rfl,rfl,q⟩:=h;obtain⟨t,rfl⟩:=rx;obtain⟨t',rfl⟩:=ry;exact rule i j t t' s _ _ `alS
theorem S10{f:`rs}{g:Int->Int->`V}
  (rule:∀(i j:Int) (t u:Tok) (s:`r) (Q:`X) (E:`X),Q (`cd `i1) s->`abQ) :
  OpR X f (rI0 λi j=>.bl `i1):=by
 intro pins s σ H x y v u Q I rx ry h;obtain⟨i,j,rfl,rfl,q⟩:=h;obtain⟨t,rfl⟩:=rx;obtain⟨t',rfl⟩:=ry;exact rule i j t t' s _ _ ⟨.bl `i1,H,I,rfl,q⟩
noncomputable def Ye0(i j:Int):Prop:=`EU
noncomputable def Yo0(i j:Int):Prop:=`Sr
noncomputable def CMul(i j:Int):Prop:=`alT
theorem CMul.ok{i j:Int}(h:CMul i j):IntMulOk i j:=by
 rcases h with⟨h1,h2⟩|⟨h1,h2⟩
 ·exact .of_left `alU
 ·exact .of_right `alU
theorem c30:OpR X `w0 (rI0 `alV):=Tv0 λ_ _ _ _ _ _ _ q=>add_int q
theorem Tx0:OpR X (`i0 .Sub) (rI0 `alW):=Tv0 λ_ _ _ _ _ _ _ q=>sub_int q
theorem Sn0:OpR X `w1 (rI CMul `alX):=opI λ_ _ _ _ _ _ _ hc q=>mul_int q hc.ok
theorem Vm0:OpR X (`i0 .FloorDiv) (rI Ye0 `alY):=opI λi j _ _ _ _ _ hc q=>by
 have h1:`h2<j:=hc.1;have h2:`abR:=hc.2;exact floordiv_int `g (by rw[Int.fdiv_eq_ediv_of_nonneg i `g];exact q) (`k (PyProof.noPylong_small `g))
theorem R80:OpR X (`i0 .Mod) (rI (`alZ) `al_):=opI λi j _ _ _ _ _ hc q=>by
 have h1:`h2<j:=hc;exact mod_int' `g (by rw[Int.fmod_eq_emod_of_nonneg i `g];exact q)
theorem R20:OpR X (`i0 .Pow) (rI Yo0 `al0):=opI λ_ _ _ _ _ _ _ hc q=>pow_int_small hc.1 hc.2.1 hc.2.2 q
theorem unI{f:`Lb}{g:`abD}
  (rule:∀(i:Int) (t:Tok) (s:`r) (Q:`X) (E:`X),Q (`d `rt `aZ) `Ld->`l `ac X.A (f `zH) Q E s) :
  UnR X f (rU λi=>`d `rt):=by
 intro pins s σ H x v Q I rx h;obtain⟨i,rfl,q⟩:=h;obtain⟨t,rfl⟩:=rx;exact rule i t s _ _ ⟨`d `rt,H,`d?,`aq,q⟩
theorem Tw0:UnR X (unaryOp .USub) (rU λi=>`d (-i)):=unI λ_ _ _ _ _ q=>neg_int q
universe zz
noncomputable def au0:V->V->`V
 | `w,`w=>`c|`w,`b!=>`c|`b!,`w=>`c|`w,`bD=>`c|`bD,`w=>`c|`w,`bj=>`c|`bj,`w=>`c
 | `b!,`b!=>`c|`bD,`bD=>`c|`bj,`bj=>`c|.byt _,.byt _=>`c
 | `b!,`bj=>`c|`bj,`b!=>`c|`bD,`bj=>`c|`bj,`bD=>`c
 | _,_=>`q
noncomputable def rEq:R2:=λx y H Q=>`Ss/\Q (.bl (`St)) H
noncomputable def rNe:R2:=λx y H Q=>`Ss/\Q (.bl (!`St)) H
theorem f00{i j:Int}:`G (`zW i=`zW j)=`D9:=by
 rw[`gn];simp
theorem ad0{i j:`V}:`G (V.bl i=V.bl j)=`D9:=by
 rw[`gn];simp
theorem fz0{i j:Str}:`G (`w2 i=`w2 j)=`D9:=by
 rw[`gn];simp
theorem fa0{i j:`ajh}:`G (V.byt i=V.byt j)=(i.toList==j.toList):=by
 rw[`gn];cases i;cases j;simp
section
variable{a c:`z}{tc:TE}
theorem W8{σ:St}{s:`r}{Q:VK}{k k':`V}(I:`C)(q:Q (`ty) H)(e:k=k'):EP X `i σ Q (`cd k') s:=by
 subst e;exact⟨`ty,H,I,rfl,q⟩
theorem M3:OpR X (`e7 .Eq) rEq:=by
 intro pins s σ H x y v u Q I rx ry h;obtain⟨hs,q⟩:=h;cases x with
 | non =>
  cases rx;cases y with
  | non=>cases ry;exact PySem.EqNone.eq_none_none `co
  | bl j=>cases ry;exact PySem.EqNone.eq_none_bool `co
  | int j=>obtain⟨t',rfl⟩:=ry;exact PySem.EqNone.eq_none_int `co
  | str j=>obtain⟨t',rfl⟩:=ry;exact PySem.EqNone.eq_none_str `co
  | _=>exact `gd
 | bl i =>
  cases rx;cases y with
  | non=>cases ry;exact PySem.EqNone.eq_bool_none `co
  | bl j=>cases ry;exact eq_bool (W8 I q ad0)
  | str j=>obtain⟨t',rfl⟩:=ry;exact PySem.EqMixed.eq_bool_str `co
  | _=>exact `gd
 | int i =>
  obtain⟨t,rfl⟩:=rx;cases y with
  | non=>cases ry;exact PySem.EqNone.eq_int_none `co
  | int j=>obtain⟨t',rfl⟩:=ry;exact eq_int (W8 I q f00)
  | str j=>obtain⟨t',rfl⟩:=ry;exact PySem.EqMixed.eq_int_str `co
  | _=>exact `gd
 | str i =>
  obtain⟨t,rfl⟩:=rx;cases y with
  | non=>cases ry;exact PySem.EqNone.eq_str_none `co
  | bl j=>cases ry;exact PySem.EqMixed.eq_str_bool `co
  | int j=>obtain⟨t',rfl⟩:=ry;exact PySem.EqMixed.eq_str_int `co
  | str j=>obtain⟨t',rfl⟩:=ry;exact eq_str (W8 I q fz0)
  | _=>exact `gd
 | byt i =>
  obtain⟨t,rfl⟩:=rx;cases y with
  | byt j=>obtain⟨t',rfl⟩:=ry;exact W.eq_bytes (W8 I q fa0)
  | _=>exact `gd
 | _=>cases y<;>exact `gd
theorem Rm0:OpR X (`e7 .NotEq) rNe:=by
 intro pins s σ H x y v u Q I rx ry h;obtain⟨hs,q⟩:=h;cases x with
 | non =>
  cases rx;cases y with
  | non=>cases ry;exact PySem.EqNone.ne_none_none `co
  | bl j=>cases ry;exact PySem.EqNone.ne_none_bool `co
  | int j=>obtain⟨t',rfl⟩:=ry;exact PySem.EqNone.ne_none_int `co
  | str j=>obtain⟨t',rfl⟩:=ry;exact PySem.EqNone.ne_none_str `co
  | _=>exact `gd
 | bl i =>
  cases rx;cases y with
  | non=>cases ry;exact PySem.EqNone.ne_bool_none `co
  | bl j=>cases ry;exact ne_bool (W8 I q (C5 not ad0))
  | str j=>obtain⟨t',rfl⟩:=ry;exact PySem.EqMixed.ne_bool_str `co
  | _=>exact `gd
 | int i =>
  obtain⟨t,rfl⟩:=rx;cases y with
  | non=>cases ry;exact PySem.EqNone.ne_int_none `co
  | int j=>obtain⟨t',rfl⟩:=ry;exact ne_int (W8 I q (C5 not f00))
  | str j=>obtain⟨t',rfl⟩:=ry;exact PySem.EqMixed.ne_int_str `co
  | _=>exact `gd
 | str i =>
  obtain⟨t,rfl⟩:=rx;cases y with
  | non=>cases ry;exact PySem.EqNone.ne_str_none `co
  | bl j=>cases ry;exact PySem.EqMixed.ne_str_bool `co
  | int j=>obtain⟨t',rfl⟩:=ry;exact PySem.EqMixed.ne_str_int `co
  | str j=>obtain⟨t',rfl⟩:=ry;exact ne_str (W8 I q (C5 not fz0))
  | _=>exact `gd
 | byt i =>
  obtain⟨t,rfl⟩:=rx;cases y with
  | byt j=>obtain⟨t',rfl⟩:=ry;exact W.ne_bytes (W8 I q (C5 not fa0))
  | _=>exact `gd
 | _=>cases y<;>exact `gd
theorem um0:OpR X (`e7 .Lt) (rI0 `Su):=S10 λ_ _ _ _ _ _ _ q=>lt_int q
theorem dm0:OpR X (`e7 .Gt) (rI0 `Sv):=S10 λ_ _ _ _ _ _ _ q=>gt_int q
theorem bo0:OpR X (`e7 .Is) `al1:=by
 intro pins s σ H x y v u Q I rx ry h;obtain⟨rfl,q⟩:=h;cases ry;refine is_none_gen `al2;cases x<;>first
  | (cases rx;rfl)
  | (obtain⟨t,rfl⟩:=rx;rfl)
theorem tp0:OpR X (`e7 .IsNot) `al3:=by
 intro pins s σ H x y v u Q I rx ry h;obtain⟨rfl,q⟩:=h;cases ry;refine isnot_none_gen `al2;cases x<;>first
  | (cases rx;rfl)
  | (obtain⟨t,rfl⟩:=rx;rfl)
theorem OpR.or{f:`rs}{r r':R2}(h:OpR X f r)(h':OpR X f r'):OpR X f `al4:=by
 intro pins s σ H x y v u Q I rx ry q;rcases q with q|q
 ·exact h `i s σ H x y v u Q I rx ry q
 ·exact h' `i s σ H x y v u Q I rx ry q
theorem do0(b:`z){op:`n3}(h:op≠.In:=by decide)(h2:op≠`ru:=by decide):`rl:=by
 have e1:(op==CmpOp.In)=`q:=by cases op<;>first|rfl|exact `al5
 have e2:(op==CmpOp.NotIn)=`q:=by cases op<;>first|rfl|exact `y rfl h2
 cases b<;>simp[`KY,e1,e2]
theorem Wk0{op:`n3}{r:R2}(ho:`EV)(ha:`n4)(hb:`w_)(hm:`rl):PE X `wN `ET:=by
 intro pins s σ H Q I h;exact wpAny_Compare1 `alP hm
noncomputable def Rj0(t:TE):TT:=fun σ H Q=>t σ H λx H'=>∃k,x=`ty/\Q k H'
theorem Vl0{op:`n3}{r:R2}(ho:`EV)(ha:`n4)(hb:`w_)(hm:`rl):PT X `wN (Rj0 `ET):=by
 intro pins s σ H Q I h;refine `akr (thn `tm λv s1 ⟨x,H1,I1,r1,q1⟩=>thn `alM λu s2 ⟨y,H2,I2,r2,q2⟩ =>
  thn (ho `i s2 σ H2 x y v u _ I2 r1 r2 q2) λc s3 ⟨z,H3,I3,r3,k,e,q3⟩=>?_) hm
 subst e;cases r3;exact Q1 ⟨H3,I3,q3⟩
theorem v50:`adJ<2 ^ 63:=by rw[sizeLine_eq];decide
theorem o50:OpR X `w0 (λx y H Q=>`al6):=by
 intro pins s σ H x y v u Q I rx ry h;obtain⟨i,j,rfl,rfl,hz,q⟩:=h;obtain⟨t,rfl⟩:=rx;obtain⟨t',rfl⟩:=ry;exact add_str (λt' tk=>⟨`ab0,H,`d?,`aq,q⟩) hz
theorem vals1{x:V}(r:`al7):`al8:=by
 cases r with
 | cons r1 r2=>cases r2;exact⟨_,rfl,r1⟩
theorem vals2{x y:V}(r:`al9):∃u w',us=[u,w']/\`fN/\`dd y w':=by
 cases r with
 | cons r1 r2 =>
  cases r2 with
  | cons r3 r4=>cases r4;exact⟨_,_,rfl,r1,r3⟩
theorem a90(hc:`bz):`dl X (`dB `w3) `al':=by
 intro pins s σ H xs us Q I r h;obtain⟨i,j,rfl,q⟩:=h;obtain⟨u,w',rfl,⟨t,rfl⟩,⟨t',rfl⟩⟩:=`Sw;refine max_two_ints `eX `Sx
 by_cases hj:j > i
 ·rw[`EW,`EW];exact`aq
 ·rw[`EX,`EX];exact`aq
theorem ag0(hc:`bz):`dl X `EY `al!:=by
 intro pins s σ H xs us Q I r h;obtain⟨i,j,rfl,q⟩:=h;obtain⟨u,w',rfl,⟨t,rfl⟩,⟨t',rfl⟩⟩:=`Sw;refine min_two_ints `eX `Sx
 by_cases hj:j<i
 ·rw[`EW,`EW];exact`aq
 ·rw[`EX,`EX];exact`aq
theorem ld0:`dl X (`bl `ge) `al?:=by
 intro pins s σ H xs us Q I r h;rcases h with⟨i,rfl,q⟩|⟨k,rfl,q⟩
 ·obtain⟨u,rfl,t,rfl⟩:=`lD
  exact call_int_int ⟨`aj,H,I,`aq,q⟩
 ·obtain⟨u,rfl,r1⟩:=`lD
  cases r1;exact call_int_bool ⟨`Lf,H,`d?,`aq,q⟩
universe zz
theorem RelO.some_of{v:V}{o:`mb}(r:RelO `o6 o):∃u,o=`a2/\`gv:=by
 cases o with
 | none=>exact`Sy
 | some u=>exact⟨u,rfl,r⟩
structure Room(k:Nat)(A:`bf):Prop where
 hd:`j1
 dp:`Sz+3*k+5<recursionLimit
 un:`iP+16*k+200<cLine
theorem Room.mono{k:Nat}(r:`w4)(h:j<=k):`hA j A:=⟨r.hd,`ama,`amb⟩
theorem Room.deeper{k:Nat}(r:`hA `bS A)(env:Env):`hA k (`tz env) :=
 ⟨r.hd,by have:=r.dp;show `Sz+1+3*k+5<_;omega,by have:=r.un;show `iP+3+16*k+200<_;omega⟩
theorem Room.depth{k:Nat}(r:`w4):`Sz<recursionLimit:=`ama
theorem Room.units{k:Nat}(r:`w4):`iP+64<cLine:=`amb
noncomputable def Pp0:TA:=λ_ H Q=>Q [] H
noncomputable def Q60(ta:TE)(tr:TA):TA:=fun σ H Q=>ta σ H λx H1=>tr σ H1 λxs H2=>Q (`j2) H2
section
variable{t:TA}
theorem xj0:PA X [] Pp0:=λ_ _ _ _ H Q I h=>Q2 `amc
theorem K5(ha:`gb)(hr:`EZ)(hs:`dV:=by rfl):PA X `e8 (Q60 te t):=by
 intro pos pins s σ H Q I h;rw[hs];show `l _ _ (`rk (`mF::`Lh)) _ _ s;refine N3 (thn `tm `amd);exact thn (hr pos `i s1 σ H1 _ I1 q1) λus s2 ⟨xs,H2,I2,r2,q2⟩=>⟨`j2,H2,I2,`ah r1 r2,q2⟩
noncomputable def P80(t:TA):TE:=fun σ H Q=>t σ H λxs H1=>`eT/\∀p,H1 p=`b->Q `ch (upd H1 p `o1)
noncomputable def Po0(t:TA):TE:=fun σ H Q=>t σ H λxs H1=>`eT/\∀p,H1 p=`b->Q `ch (upd H1 p `kr)
theorem dy0{x1}(h:`EZ):PE X (`kS es x1 pos) (P80 t):=by
 intro pins s σ H Q I hq;refine wpAny_Tuple_spliced `ame;have hf:`amf:=`tt;refine⟨`amg,upd H1 `ea `o1,`amh,rfl,q _ hf⟩;exact⟨z,us,r,`Q?⟩
theorem iw0(h:`EZ):PE X `SA (Po0 t):=by
 intro pins s σ H Q I hq;refine wpAny_List_spliced `ame;have hf:`amf:=`tt;refine⟨`amg,upd H1 `ea `kr,`amh,rfl,q _ hf⟩;exact⟨z,us,0,r,`df⟩
universe zz
abbrev Sp:=`K->Hp->VK->XK->Prop
abbrev CXT:=`fy->Hp->`r->XK->`X
variable{sp:L2.Sp}
structure Env0(P:`ag)(w:`N)(K:`D)(mg:`bX)(base:`R)(A:`bf)(outer:`fy)(s:`r)(H:Hp):Prop where
 frames:A.frames=`a `cF
 mod:Mod K mg `t
 bs:∀b o,base.get? b=`_->`ajX
 bsz:base.objs.size<=`an
 funs:`Er `t `cF
 frf:∀b∈frs `cF,`cP
 hok:HOk P w H `aa
 bare:`tj `n1
variable{CX:L2.CXT}
noncomputable def CE(outer:`fy)(P:`ag)(w:`N)(H:Hp)(s:`r)(Q:VK)(u:`A)(s':`r):Prop :=
 ∃v H',`akk/\`LE/\Un (frs `cF) [] H H' `aa `hz/\HOk P w H' `hz/\`akl
noncomputable def CR(CX:CXT)(outer:`fy)(P:`ag)(w:`N)(H:Hp)(s:`r)(Q:VK)(E:XK)(r:Result)(s':`r):Prop :=
 match r with
 | .ok (`dC u)=>`ami
 | .ok _=>`bB
 | `adU=>CX `cF H s E e s'
structure FnOk(P:`ag)(w:`N)(K:`D)(mg:`bX)(base:`R)(CX:CXT)(k:Nat)(f:`f)(fd:`f')(ps:`u)(sp:Sp):Prop where
 len:`SB
 run:∀(A:`bf) (outer:`fy) (s:`r) (H:Hp) (args:Args) (us:`U) (vs:`K) (Q:VK) (E:XK),`w4->`amj->`Aa s fd `g7 `w5->`wM->`zK ->
  `i8 `i9 A (.call `e0 `g7) (CR CX `cF P w H s Q E) s
section
variable{σ:St}{s s':`r}
theorem Inv.env0(I:`C):Env0 `a9 X.w X.K `cW `e3 X.A `hr s H :=
 ⟨I.ok.frames,I.ok.mod,I.bs,C1 I.ok.bsz I.sz,I.stack,I.stkFree,`cc,`g5⟩
theorem Inv.after{Q:VK}(I:`C)(h:CE `hr `a9 X.w H s Q u s'):EP X `i σ Q u s':=by
 obtain⟨v,H',os,bare,un,hok,r,q⟩:=h;obtain⟨hh,g,d,t,F⟩:=s';obtain rfl:F=s.os:=os;exact⟨v,H',I.call (h':=hh) (g':=g) (d':=d) (t':=t) (ch:=[]) un hok bare (λb z=>`y z `S),r,q⟩
universe zz
noncomputable def Rs0(sp:Sp)(dvs:`K)(E:XK)(t:TA):TE:=fun σ H Q=>t σ H λvs H1=>sp `E_ H1 Q E
noncomputable def Binds(K:`D)(fd:`f')(ps:`u)(ds:`U):Prop :=
 ∀(s:`r) (us:`U),`mk `aa->`amk->`Aa s fd `E0 (`mG (us++ds))
theorem Binds.all{ps:`u}(h:∀us:`U,`fv=`am->`nW fd `E0=`bg `w5):`My:=λs us _ hl=>by
 rw[`fu] at hl ⊢;exact .of_eq (h us hl)
noncomputable def iq0(CX:CXT)(X:Cx)(E:XK):Prop:=∀(pins:`ax) (σ:St) (H:Hp) (s:`r) (e:`A) (s':`r),`C->CX `hr H s E e s'->`az e s'
section
variable{k:Nat}{f C:`f}{ps:`u}{dvs:`K}{ds:`U}{E:XK}{m:Str}{t:TA}
theorem So0{pins:`ax}{σ:St}{H:Hp}{s:`r}{Q:VK}{us:`U}{vs:`K}(F:`aml)(hr:`SC)(hb:`amm)(hd:`amn)(hx:`amo)
  (I:`C) (r:`wM) (h:sp `E_ H Q E):`l `ac X.A (`e? `e0 us) `fa `az s:=by
 have r2:`bi `E_ (us++ds):=`SD hd;have hl:`amk:=by rw[← `p3];exact F.len _ _ _ _ h
 refine wpAny_call (x6 (F.run X.A `hr s H `E0 (us++ds) `E_ Q E hr I.env0 (hb s us `fL hl) r2 h) `amp);cases r with
 | error e=>exact hx `i σ H s e s' I hq
 | ok fl =>
  cases fl with
  | ret u=>exact I.after hq
  | next=>exact `SE
  | brk=>exact `SE
  | cont=>exact `SE
theorem qy0(F:`aml)(hr:`SC)(hg:`dU)(hm:`zx=`a `e0)(hk:`tZ X.K `e0=`c)(hb:`amm)(hd:`amn)(hx:`amo)
  (ha:`w6) (hdb:`bt:=by decide) (he:`dV:=by rfl) (hpl:`ir:=by rfl) :
  PE X `tB (Rs0 sp dvs E t):=by
 intro pins s σ H Q I h;refine L4 (Ud0 I hg hm ?_ hdb);refine W.callWith_K (h₀:=`e3) I.ok.mod.kin hk (thn `K' λus s1 ⟨vs,H1,I1,r,q⟩=>⟨I1.kIn,?_⟩) he hpl;exact So0 F hr hb hd hx I1 r q
universe zz
structure FnScope(N P:`u)(sc:`c!):Prop where
 kind:`amq
 co:`amr
 gen:`ams
 nd:`Ez
 pre:N.take `j3=P
 par:∀x∈P,`Rx
 nofree:∀y∈`E1,`amt
theorem l50{kindOf:`E2}:∀{binds:`LQ} {m:`bX},`amu->`w7 `it binds m x=m x
 | [],_,_=>rfl
 | (n,v)::r,m,h=>by
  unfold bindL;rw[l50 `SF];split
  ·have:x≠n:=`amv
   simp[`x]
  ·rfl
theorem l60{kindOf:`E2}:∀{binds:`LQ} {m:`bX},`amu->`w8 `it binds m x=m x
 | [],_,_=>rfl
 | (n,v)::r,m,h=>by
  unfold bindC;rw[l60 `SF];split
  ·rfl
  ·have:x≠n:=`amv
   simp[`x]
theorem l90{kindOf:`E2}:∀{P:`u} {vs:`U} {i:Nat} {m:`bX},`rv->`amw->`SG->`it x=`iU ->
  `w7 `it (`Lk) m x=`aL
 | [],_,_,_,_,h,_,_=>`dW
 | `cB,[],_,_,_,_,h,_=>`dW
 | p::P,w::vs,0,m,nd,h1,h2,hk=>by
  simp at h1 h2;subst h1;subst h2;show `w7 `it `E3 m p=_;unfold bindL;rw[l50 `amx,`H hk];simp
 | p::P,w::vs,i+1,m,nd,h1,h2,hk=>by
  show `w7 `it `E3 m x=_;unfold bindL;exact l90 (i:=i) (`Ll).2 `ws `q? hk
theorem lf0{kindOf:`E2}:∀{P:`u} {vs:`U} {i:Nat} {m:`bX},`rv->`amw->`SG->`it x≠`iU ->
  `w8 `it (`Lk) m x=`aL
 | [],_,_,_,_,h,_,_=>`dW
 | `cB,[],_,_,_,_,h,_=>`dW
 | p::P,w::vs,0,m,nd,h1,h2,hk=>by
  simp at h1 h2;subst h1;subst h2;show `w8 `it `E3 m p=_;unfold bindC;rw[l60 `amx,`P hk];simp
 | p::P,w::vs,i+1,m,nd,h1,h2,hk=>by
  show `w8 `it `E3 m x=_;unfold bindC;exact lf0 (i:=i) (`Ll).2 `ws `q? hk
noncomputable def start(N:`u)(vs:`K):St:=`E4 `a++`a! (`w9 - `cf) `b
noncomputable def sq0(CX:CXT)(P:`ag)(w:`N)(K:`D)(mg:`bX)(base:`R)(N:`u)(qual:Str)(scope:`c!)(f:`f)(cd:`A)(A:`bf)(outer:`fy)(s:`r)(H:Hp)(E:XK):Cx where
 prog:=P
 w:=w
 K:=K
 mg:=mg
 base:=`t
 A:=`amy
 N:=N
 s₀:=s
 H₀:=H
 env:=`tA
 outer:=`cF
 stack:=`tA::`cF
 ex:=[]
 calm:=`c
 fn:=λ_=>`c
 pn:=[]
 xe:=λe s'=>`l `i9 (`amy) (leaving (`tA) e) (λ_ s''=>CX `cF H s E e s'') (λe' s''=>CX `cF H s E e' s'') s'
theorem i90(h:`KN):∃c,(`ab6 n `E1 []).lookup x=`d9:=by
 have q:=`amz `E1 n [] (`E5);exact Option.isSome_iff_exists.mp q
theorem c90{CX:CXT}{P:`ag}{w:`N}{K:`D}{mg:`bX}{base:`R}{N ps:`u}{qual:Str}{scope:`c!}{f:`f}{cd:`A}{A:`bf}{outer:`fy}{s s1:`r}{H:Hp}{E:XK}{us:`U}{vs:`K}
  (S:`amA) (hd:`j1) (e0:`amj) (hl:`cf=`am) (r:`wM)
  (x:InCallC s `an (`w7 `amB `w5 `SH) (`amC) (`w8 `amB `w5 `SH) s1) :
  Inv (`amD) [] `zO H s1:=by
 have M:`am<=`w9:=by have:=C5 `B1 S.pre;rw[`b9] at this;omega
 obtain⟨h1,tk,rfl,hk⟩:=x.done;have F:∀b:`f,b∉(`amD).ex:=λb z=>`amE
 refine⟨⟨e0.mod,S.kind,rfl,rfl,`hl,λy z c h1 h2=>?_,`g8,λy c _ h=>?_,λ_=>hd,Around.frames_deeper e0.frames,`w',`amF,e0.bs,e0.bsz,λb _ _=>F b,`amF,e0.funs,e0.frf⟩,
  rfl,e0.bare,`Em hk,⟨_,x.toInCall.ns,λi y v h1 h2 h3=>?_⟩,λy c h=>⟨_,x.cell y c h⟩,`amG `bn,λy c h=>?_,λp hp=>`y (show p∈([]:`ax) from hp) `S,e0.hok.kept hk,?_⟩
 ·exact name_of_addr x.apart (E8 h1) (E8 h2)
 ·have hy:`Ac=`ho∨`Ac=`hu:=hy
  rcases hy with hy|hy
  ·exact i90 hy
  ·exact `y rfl (S.nofree _ (E8 hy))
 ·exact `amH
 ·have hi:`E6:=by
   unfold start at h2
   by_cases hi:`E6
   ·exact hi
   ·rw[`SI] at h2
    rw[`rx] at h2;split at h2<;>cases h2
  have ha:`SG:=by
   unfold start at h2;rw[`E7,`a_] at h2;cases e:`Lj with
   | none=>rw[e] at h2;cases h2
   | some a=>rw[e] at h2;cases h2;rfl
  obtain⟨u,hu,rv⟩:=`nZ ha;have hp:ps[i]?=`bm:=by
   rw[← S.pre,`SJ `g];exact h1
  have J:ps.Nodup:=by rw[← S.pre];exact S.nd.sublist (List.take_sublist _ _)
  refine⟨u,rv,?_⟩;rcases S.par y (A4 hp) with k|k
  ·exact `k ⟨k,l90 J hp hu k⟩
  ·obtain⟨c,e⟩:=i90 (n:=`i4) k
   refine `h ⟨`ww,c,e,?_⟩;have q:=x.cell y c e;rw[lf0 J hp hu (by show `Ac≠_;rw[k];decide)] at q;exact q
 ·exact `amG (`amH)
 ·unfold start
  show _=`w9;rw[`ai,`M,`SK];omega
theorem Q00{CX:CXT}{P:`ag}{w:`N}{K:`D}{mg:`bX}{base:`R}{k:Nat}{f:`f}{name qual:Str}{params:Arguments}{body:`er}{scope:`c!}{dV kV doc pm cdv ct oc:`A}{an od:`cT}
  {osl:`g9} {N ps:`u} {sp:Sp} (lk:`E8=`a ⟨oc,od,`n8 `amI,osl⟩) (hcd:`SL) (S:`amA)
  (len:`SB)
  (hbody:∀(A:`bf) (outer:`fy) (s:`r) (H:Hp) (vs:`K) (Q:VK) (E:XK),`hA k (`tz (`zM `ez `cG `an f cdv))->`zK ->
   ∃t,PSs `SM `gy t/\`amJ) :
  `af P w K mg `t CX `bS f `amI ps sp:=by
 refine⟨len,λA outer s H Y us vs Q E hr e0 hb r M=>?_⟩;have hl:=len _ _ _ _ M;have KX:`mk `aa:=e0.mod.kin.keeps `amK
 have O:s.heap.NoLimit:=e0.mod.nolimit.keeps `amK
 have F:∀y∈`mG us,`acA∨(`pi y.1=`ho/\((`amC).lookup y.1).isSome=`c):=λ⟨n,v⟩ hy=>by
  rcases S.par n (L5 hy).1 with q|q
  ·exact `kt
  ·exact `h ⟨q,`amz _ _ _ `ry⟩
 refine codeAny_call_function hr.depth (KX _ _ lk) rfl S.co S.gen rfl (W.codeRec_of KX hcd) (hb _ _ _ _ ?_);refine wpAny_newFunctionEnv_cells S.kind F λenv he s1 x=>?_
 subst he;refine⟨O.keeps x.toInCall.keep,codeAny_func ?_⟩;obtain⟨t,ht,hq⟩:=hbody A `cF s H vs Q E (hr.deeper _) M;have I:Inv `SM [] `zO H s1:=c90 S hr.hd e0 hl r x;refine D5 (ht [] s1 `zO H _ I hq) (λfl s' hs=>?_) λe s' hs=>hs
 have fin:∀{σ':St} {H':Hp} {v:V} {u:`A},Inv `SM [] σ' H' s'->`gv->`mp->`ami :=
  λ{σ' H' v u} J rv q=>⟨v,H',J.os,J.bare,J.base,J.hok,rv,q⟩
 cases fl with
 | ret u =>
  obtain⟨v,σ',H',J,rv,q⟩:=hs;exact fin J rv q
 | next =>
  obtain⟨σ',H',J,q⟩:=hs;exact fin (v:=V.non) (u:=`nY) J rfl q
 | brk =>
  obtain⟨_,_,_,q⟩:=hs;exact `i3 q
 | cont =>
  obtain⟨_,_,_,q⟩:=hs;exact `i3 q
section
variable{t:TA}{id T:`cL}{r:`e!}
noncomputable def tCB(r:`e!)(t:TA):TE:=fun σ H Q=>t σ H λvs H1=>r vs H1 Q
theorem h70(hc:`amL)(hg:`dU)(hm:`lA)(hv:`amM)(ha:`w6)(hn:`iT := by decide)(hdb:`bt:=by decide)
  (he:`dV:=by rfl) (hpl:`ir:=by rfl):`amN:=by
 intro pins s σ H Q I h;refine `amO;exact PyProof.Rows.callWith_builtin1 `amP he hpl
theorem rr0(hc:`SN)(hg:`dU)(hm:`lA)(hv:`SO)(ha:`w6)(hn:`iT := by decide)(hdb:`bt:=by decide)
  (he:`dV:=by rfl) (hpl:`ir:=by rfl):`amN:=by
 intro pins s σ H Q I h;refine `amO;exact E3 `amP he hpl
universe zz
universe L2
variable{X:L2.Cx}{ta tb te tv tx:L2.TE}{CX:L2.CXT}{sp:L2.Sp}
namespace HT
open PyProof.Rows
noncomputable def lexLt:`au->`au->`V
 | [],[]=>`q
 | [],`cB=>`c
 | `cB,[]=>`q
 | `j2,`rz=>`amQ
theorem zs0(x y:Int)(xs ys:`au):`tD (`j2) (`rz)=`amQ:=rfl
theorem vk0:`tD [] []=`q:=rfl
theorem m50(y:Int)(ys:`au):`tD [] (`rz)=`c:=rfl
theorem wk0(x:Int)(xs:`au):`tD (`j2) []=`q:=rfl
theorem je0(A:`bf)(s:`r)(a:Int)(t:Tok)(c:Int)(u:Tok):∃e,`oZ A s `tF `zQ e/\(e=`c↔a=c) :=
 ⟨(a==c),X0 a t c u,`aS⟩
theorem Yu0(A:`bf)(s:`r)(a:Int)(t:Tok)(c:Int)(u:Tok)(prog:`ag)(w:`N)(E:`X)(Q:`X)(h:`amR) :
  `amS :=
 `amT
section
variable{w:`N}{s:`r}
theorem Vi0{t b:`f}{ws:`U}{Q:`X}(ht:`tH `aa t `mM)(hb:`tH `aa b `rA)(hv:vs≠[])
  (h1:ws=[]->Q `mI s) (h2:ws≠[]->Q `kQ { s with heap:=`dG { cls:=`d5,data:=`bu `amU } })
  (hsz:`cf+`n9<=`W):`l `ao A (`i0 .Add `mI `p_) Q E s:=by
 obtain⟨⟨cls,dd,data,sl⟩,ho,hc,n,hd⟩:=id ht;obtain⟨⟨Z,Y,data2,M⟩,F,O,n2,J⟩:=id hb;simp only at hc hd O J;subst hc hd O J;have e:`mM++`rA=`amU:=`aS
 by_cases hw:ws=[]
 ·exact i8 `iu `amV x8 x9 y0 y3 `SP
   (tuple_addW1 t b `mM `rA n n2 dd Y sl M `SQ (by simp[hw])) ⟨ho,F,h1 hw⟩
 ·refine i8 `iu `amV x8 x9 y0 y3 `SP
   (tuple_addW2 t b `mM `rA n n2 dd Y sl M `SQ `z2 (by rw[`b0,`b0];exact hsz)) ⟨ho,F,?_⟩
  rw[e];exact h2 hw
noncomputable def sIx(n d:Nat):`amW
 | `b=>d
 | `aL=>`E9
theorem Td0(n d:Nat)(hd:d<=n)(o:`bC):sIx n d o<=n:=by
 cases o with
 | none=>exact hd
 | some v =>
  show (`E9)<=n
  by_cases hv:v<0
  ·rw[`H hv];omega
  ·rw[`P hv];exact Nat.min_le_right _ _
theorem gu0(v:Int)(n d:Nat):`amX=((sIx n d `o6:Nat):Int):=by
 show `amX=(((`E9):Nat):Int)
 by_cases hv:v<0
 ·simp only[`H hv];omega
 ·simp only[`P hv];omega
theorem da0(lo hi:`bC)(n:Nat):`amY=(`E',`amZ):=by
 have h1:¬(`tI<0):=`p
 unfold Builtin.Slice.sliceAdjust;simp only[h1,`cA];refine N4 ?_ ?_
 ·cases lo with
  | none=>rfl
  | some v=>exact gu0 v n 0
 ·cases hi with
  | none=>rfl
  | some v=>exact gu0 v n n
theorem et0(i j:Nat):`SR `fO `cy 1=j - i:=by
 unfold Builtin.Slice.slicePlaces;have h1:`acl:=`p
 simp only[h1,`es,Int.ediv_one];split<;>omega
theorem n60{o:`bC}{Q:`bC->`fH}(p:`tG v o)(h:Q o s):`l `ao A (Builtin.Slice.slicePartIndex v) Q E s:=by
 cases p with
 | none=>exact `am_ h
 | int i t=>exact slicePart_int h
theorem vx0{sl:`f}{n:Nat}{Q:Int×Int×Nat->`fH}(hs:`E!)(pl:`E?)(pu:`Fa)
  (h:Q (`E',1,`ab! - `ab') s):`l `ao A (Builtin.Slice.sliceApplied `zT (`bg `b7)) Q E s:=by
 obtain⟨os,F,J,hds⟩:=id hs;unfold Builtin.Slice.sliceApplied Builtin.Slice.sliceFields;refine A0 (A0 (B8 F hds (x:=vl) rfl (A0 (B8 F hds (x:=vu) rfl (A0 (B8 F hds (x:=`aE) rfl `kv))))));refine A0 (`am_ ?_);show `l _ _ (if (`tI==0)=`c then _ else _) _ _ s;rw[`Fb];refine A0 (n60 pl (A0 (n60 pu (`SS))));show `l _ _ (match `amY with|(lo,hi)=>`bg (lo,`tI,`SR lo hi 1)) _ _ s;rw[da0 lo hi n];show `l _ _ (`bg (`E',`tI,`SR `E' `amZ 1)) _ _ s;rw[et0];exact `hB
theorem Yx0(xs:`bh)(i k:Nat):((`cx k).filterMap `am0).toArray=((xs.toList.drop i).take k).toArray:=by
 have e:(`am0)=`am1:=by
  funext m
  have:(`fO+`fP*1).toNat=i+m:=`p
  rw[`x]
 rw[e];have:=pick_run xs i k;rw[List.filterMap_map] at this;have e2:((λx=>xs[x]?) ∘ λx=>i+x)=`am1:=rfl
 rw[e2] at this;rw[`x]
theorem pe0{t sl:`f}{Q:`X}(ht:`am2)(hs:`E!)(pl:`E?)(pu:`Fa)
  (hw:¬(`am3))
  (h:Q `kQ { s with heap:=`dG { cls:=`d5,data:=`am4 } })
  (hsz:`dH<=`W):`am5:=by
 have F:sizeOk (`am4):=by
  show (`ab?).toArray.size<=`W;rw[`b0,`b9,`fC,`ig];omega
 have hj:`Lo<=`dH:=Td0 _ _ `bn hi;obtain⟨os,J,M,hds⟩:=id hs;have O:`am6 := `am7;unfold getItem
 try with_reducible refine `kR
 first|refine `SS|skip
 refine `am8;refine A0 (E5 (name:=`am9) `mJ S0
  `am')
 show `am!;refine A0 (`ST ht ?_);refine `am?;rw[`Fc];refine `ana;have Y:¬(`Lr):=by
  intro q;rw[`bs,`bs] at q;have q1:`acb=0:=S2 q.1.1;have q2:`Lp=`dH:=S2 q.2;exact hw `w!
 show `anb;rw[`P Y,Yx0]
 first
  | exact `anc
  | exact A0 (m:=`zV) (E6 (A0 `and) F)
  | exact A0 (A0 (m:=`zV) (E6 `and F))
  | exact A0 (`anc)
universe zz
universe HT
namespace L2
open Spec PyProof.Rows
abbrev TO:=St->Hp->(`ane)->Prop
noncomputable def PO(X:Cx)(e:`pV)(t:TO):Prop :=
 ∀(pins:`ax) (s:`r) (σ:St) (H:Hp) (Q:`ane),`C->`kD ->
  `l `ac X.A (evalPart e `B) (λu s'=>∃o H',`jY/\`tG u o/\Q o H') `az s
noncomputable def Wi0:TO:=λ_ H Q=>Q `b H
noncomputable def Rx0(t:TE):TO:=fun σ H Q=>t σ H λx H1=>∃i,`wQ/\Q (`Fd) H1
theorem intsAre_of{ns:`au}:∀{us:`U},`bi `pt us->`pq us ns:=by
 induction ns with
 | nil=>intro us r;rw[`fW] at r;cases r;exact `L
 | cons n ns ih =>
  intro us r;rw[`Z] at r;cases r with
  | cons r1 r2 =>
   obtain⟨t,e⟩:=r1;subst e;exact `ah n t (ih r2)
section
variable{lo hi:`pV}{tl th:TO}
theorem Wb0:PO X `b Wi0:=by
 intro pins s σ H Q I h;rw[`anf];exact A1 ⟨`b,H,I,`aE,h⟩
theorem Vs0(h:`gb):PO X (`a e) (Rx0 te):=by
 intro pins s σ H Q I hw;rw[evalPart_some];refine thn `RU `amd
 obtain⟨i,rfl,q⟩:=q1;obtain⟨t,rfl⟩:=r1;exact⟨`Fd,H1,I1,`oW,q⟩
noncomputable def SlR(X:Cx)(r:`n'):Prop :=
 ∀(pins:`ax) (s:`r) (σ:St) (H:Hp) (x:V) (v vl vu:`A) (lo hi:`bC) (sl:`f) (Q:VK),`C->`gc->`E!->`E?->`Fa->`ang ->
  ∃T id,`anh/\`hk v T/\`l `ac X.A (`mH v `zT) `fa `az s
theorem SlR.or{r r':`n'}(h:SlR X r)(h':SlR X r'):SlR X (λx lo hi H Q=>`ang∨r' x lo hi H Q):=by
 intro pins s σ H x v vl vu lo hi sl Q I rx hs pl pu q;rcases q with q|q
 ·exact h `i s σ H x v vl vu lo hi sl Q I rx hs pl pu q
 ·exact h' `i s σ H x v vl vu lo hi sl Q I rx hs pl pu q
noncomputable def tSl(r:`n')(te:TE)(tl th:TO):TE:=fun σ H Q=>te σ H λx H1=>tl σ H1 λl H2=>th σ H2 λu H3=>r x l u H3 Q
theorem Zv0{r:`n'}(hr:SlR X r)(he:`gb)(hl:PO X lo tl)(hu:PO X hi th):PE X `ani (tSl r te tl th):=by
 intro pins s σ H Q I h;refine `SU (thn `n5 `tn);refine wpAny_Slice (thn (hl `i s1 σ H1 _ I1 q1) λvl s2 ⟨l,H2,I2,pl,q2⟩=>thn (hu `i s2 σ H2 _ I2 q2) λvu s3 ⟨u,H3,I3,pu,q3⟩=>?_);rw[`anf];refine `cZ;have I4:Inv X `i σ H3 `SV:=I3.kept (t':=s3.toks) `acd
 obtain⟨T,id,hT,ht,hg⟩:=hr `i `SV σ H3 x v vl vu l u `tJ Q I4 r1 (Heap.IsSliceOf.new ..) pl pu q3;show `l `ac X.A (`anj e `acc v (`ank)) `fa `az `SV;exact tail_any (ops:=[`ank,v]) ht hT hg (by with_unfolding_all rfl)
noncomputable def qs0(xs:`K)(lo hi:`bC):`K:=(`o0 (`tK)).take (`Lv - `tK)
theorem pk0(xs:`K)(lo hi:`bC):(`zY).length<=`ae:=by
 unfold qs0;rw[`b9,`fC];omega
noncomputable def Pk0(K:`D):`n':=λx lo hi H Q=>∃a xs,`eY/\`j_ /\
 ¬`anl/\∀p,`cH->Q `ch (upd H p (`anm))
theorem Tg0:SlR X (Pk0 X.K):=by
 intro pins s σ H x v vl vu lo hi sl Q I rx hs pl pu h;obtain⟨a,xs,rfl,hx,hw,q⟩:=h;cases rx;obtain⟨its,r,ht,hz⟩:=`e6 hx;have F:`gD=`ae:=`ann
 refine⟨`ev,_,S0.lookup,`mJ,?_⟩;refine HT.pe0 ht hs pl pu `ano ?_ (by rw[F];exact hz);rw[F];refine⟨`d!,_,`gf (t':=`aZ) (o:=`anm) `Fe `bn ?_,rfl,`Ff⟩;exact⟨`anp,_,`anq,`Fg⟩
noncomputable def W40(K:`D):R2:=λx y H Q=>∃a b xs ys,`eY/\`w?/\`j_/\`anr/\`lE/\`Fh /\
 (ys=[]->Q `dc H)/\(ys≠[]->∀p,`cH->Q `ch (upd H p (`MB)))
theorem Vals.nil_iff(r:`cU):us=[]↔`n0:=by
 cases r with
 | nil=>simp
 | cons _ _=>simp
theorem fw0:OpR X `w0 (W40 X.K):=by
 intro pins s σ H x y v u Q I rx ry h;obtain⟨a,b,xs,ys,rfl,rfl,ha,hb,hx,hz,q1,q2⟩:=h;cases rx;cases ry;obtain⟨its,r1,p1,_⟩:=`SW;obtain⟨F,r2,p2,_⟩:=`e6 hb;refine HT.Vi0 p1 p2 (λz=>hx (`adL z)) (λz=>⟨`dD,H,I,rfl,q1 (r2.nil_iff.mp z)⟩) (`dX) (by rw[← `jd,← `p3];exact hz);refine⟨`d!,_,`gf (t':=`aZ) (o:=`MB) `Fe `bn ?_,rfl,q2 (λw=>z (r2.nil_iff.mpr w)) _ `zZ⟩;exact⟨`ans,_,`SX,`Fg⟩
universe zz
noncomputable def ixN(n:Nat)(i:Int):`xa:=`ant
noncomputable def atI{α:Type}(xs:`a5)(i:Int):`aD α:=`anu
theorem e70{i:Int}(h:ixN n i=`rB):`acg i n=`rB/\j<n/\`Lz/\i<n:=by
 unfold ixN at h
 by_cases h0:`gC
 ·rw[`H h0] at h
  by_cases h1:i<n
  ·rw[`SY] at h
   have e:`eb=j:=`kO;exact⟨by rw[`Fi h0 h1,e],`p,`p,h1⟩
  ·rw[`P h1] at h;cases h
 ·rw[`P h0] at h
  by_cases h1:`Lz
  ·rw[`SY] at h
   have e:`ace=j:=`kO;exact⟨by rw[`SZ `g h1,e],`p,h1,`p⟩
  ·rw[`P h1] at h;cases h
theorem mc0{xs:`a5}{i:Int}{v:α}(h:`tL=`aL):∃j,`anv=`rB/\xs[j]?=`aL/\j<xs.length/\-`S_<=i/\`Fj:=by
 unfold atI at h;cases e:`acf with
 | none=>rw[e] at h;cases h
 | some j =>
  rw[e] at h;obtain⟨h1,h2,h3,h4⟩:=e70 e;exact⟨j,h1,h,h2,h3,h4⟩
noncomputable def t80(b:`z):Prop:=∀o i,`Fk b `q o i=`S0 [o,i] (`mH o i)
noncomputable def IxR(X:Cx)(r:R2):Prop :=
 ∀(value slice:`z) (pins:`ax) (s:`r) (σ:St) (H:Hp) (x y:V) (v u:`A) (Q:VK),`C->`gc->`eW->`zJ ->
  `Fk `lF `q v u=`S0 [v,u] (`mH v u)->`l `ac X.A (`anj `rC `lF v u) `fa `az s
noncomputable def MtR(X:Cx)(id:`cL)(r:`lG):Prop :=
 ∀(pins:`ax) (s:`r) (σ:St) (H:Hp) (x:V) (xs:`K) (v:`A) (us:`U) (Q:VK),`C->`gc->`cU->`anw ->
  `anx
section
variable{a:`z}
theorem IxR.or{r r':R2}(h:`S1)(h':IxR X r'):IxR X `al4:=by
 intro value slice pins s σ H x y v u Q I rx ry q hs;rcases q with q|q
 ·exact h `rC `lF `i s σ H x y v u Q I rx ry q hs
 ·exact h' `rC `lF `i s σ H x y v u Q I rx ry q hs
theorem ed0{r:R2}(hr:`S1)(ha:`n4)(hb:`w_)(hs:t80 b):PE X `rD `ET:=by
 intro pins s σ H Q I h;exact `SU (Y70 ha hb I h λv u s2 x y H2 I2 rx ry q=>hr a b `i s2 σ H2 x y v u Q I2 rx ry q (hs _ _))
noncomputable def Tm0(K:`D):R2:=λx y H Q=>∃p xs i v,x=`e9/\y=`aj/\`Fl/\`any
noncomputable def Sh0(K:`D):R2:=λx y H Q=>∃p xs i v,x=`e9/\y=`aj/\`S2/\`any
noncomputable def R50:R2:=λx y H Q=>∃z i c,x=`hC/\y=`aj/\`pl/\`anz=`d9/\Q (`S3) H
theorem fv0:IxR X (Tm0 X.K):=by
 intro value slice pins s σ H x y v u Q I rx ry h hs;obtain⟨p,xs,i,z,rfl,rfl,hq,he,q⟩:=h;cases rx;obtain⟨t,rfl⟩:=ry;obtain⟨its,r,pl,hz⟩:=`fB;obtain⟨j,h1,h2,h3,h4,h5⟩:=mc0 he;obtain⟨w,ew,F⟩:=`nZ h2;have hl:=`a';have hn:=v50;have fin:`anA:=`anB
 by_cases h0:`gC
 ·have hj:`eb=j:=by
   rw[`Fi h0 h5] at h1;exact `m6
  exact item_listR `j4 h0 `g `anC fin hs
 ·have hj:(i+`anD).toNat=j:=by
   rw[`SZ `g h4] at h1;rw[`b0,← hl];exact `m6
  exact `anE (x:=w) `anF `anG
   (wpAny_getItem_list_neg (Q:=`anH) `j4 `g `anI `g `anC `anJ) hs
theorem g00:IxR X (Sh0 X.K):=by
 intro value slice pins s σ H x y v u Q I rx ry h hs;obtain⟨p,xs,i,z,rfl,rfl,hq,he,q⟩:=h;cases rx;obtain⟨t,rfl⟩:=ry;obtain⟨its,r,pl,hz⟩:=`lB;obtain⟨j,h1,h2,h3,h4,h5⟩:=mc0 he;obtain⟨w,ew,F⟩:=`nZ h2;have hl:=`a';have hn:=v50;have fin:`anA:=`anB;exact `anE (x:=w) pl.typeIs slot_tuple_getitem.lookup
  (getItem_tuple (j:=j) (Q:=`anH) pl `g `g (by rw[`b0,← hl];exact h1) (by simpa using ew) `anJ) hs
theorem Ty0:IxR X R50:=by
 intro value slice pins s σ H x y v u Q I rx ry h hs;obtain⟨z,i,c,rfl,rfl,hz,he,q⟩:=h;obtain⟨t,rfl⟩:=rx;obtain⟨t',rfl⟩:=ry;obtain⟨j,h1,h2,h3,h4,h5⟩:=mc0 he;have hl:z.cps.toList.length=`dm:=by simp[Str.length]
 rw[hl] at h1 h4 h5;have hn:=v50;exact tail_any (S3 s z t) slot_str_getitem.lookup (getItem_str (c:=c) (by
  have e1:`G (i < -`S4)=`q:=`xb;have e2:`G (i ≥ 2 ^ 63)=`q:=`xb;rw[e1,e2,`anK]) (by rw[h1];simpa using h2) ⟨`S3,H,`d?,`aq,q⟩) hs
noncomputable def rIx(K:`D):R2:=λx y H Q=>Tm0 K x y H Q∨Sh0 K x y H Q∨R50 x y H Q
theorem S80:IxR X (rIx X.K):=fv0.or (g00.or Ty0)
theorem ea0(its:`U)(n j:Nat)(u:`A):`p8 (`NB j u) `KF={ cls:=`dg,data:=`bu (its.set j u).toArray n }:=by
 simp[`p8]
theorem Inv.lst{σ:St}{s:`r}{p:`f}(I:`C)(h:`S5) :
  ∃(its:`U) (n:Nat),`jW/\`anL/\`eT:=by
 obtain⟨z,its,n,r,e⟩:=`cc p _ h;exact⟨its,n,r,e,z⟩
theorem Inv.lstUpd{σ:St}{s:`r}{p:`f}{ys:`K}{its its':`U}{n n':Nat}{f:Obj->Obj}(I:`C)(h:`S5)
  (ho:`anL) (hf:f `KF=`anM) (r:`anN) (hz:`Fm) (t:Nat) :
  Inv X `i σ (upd H p `pn) { s with heap:=`qc p f,toks:=t }:=by
 have e:(`qc p f).get? p=`a `anM:=by
  rw[Heap.get?_update_self f ho (by rw[hf]<;>rfl),hf]
 refine `S6 (x:=p) (e:=p) (by rw[h];trivial) `gq (λb u hb q=>`anO q) `lH ?_;exact⟨hz,its',n',r,e⟩
noncomputable def Qn0:`RZ:=λo i v H Q=>∃p xs k j,o=`e9/\i=`fk/\`S5/\ixN `ae k=`rB/\Q `anP
theorem set_list:Zc0 X Qn0:=by
 intro pins s σ H o i v ov iv u Q I ro ri rv h;obtain⟨p,xs,k,j,rfl,rfl,hp,hj,q⟩:=h;cases ro;obtain⟨t,rfl⟩:=ri;obtain⟨its,n,r,ho,hz⟩:=I.lst hp;obtain⟨h1,h2,h3,h4⟩:=e70 hj;have hl:=`a';have hn:=v50;have I':Inv X `i σ `anP { s with heap:=`qc p (`p8 (`NB j u)) } :=
  I.lstUpd hp ho (ea0 its n j u) (r.set rv j) (by rw[`jD];exact hz) `aZ
 by_cases h0:`f_
 ·have hk:`c4=j:=by
   rw[`Fi h0 h4] at h1;exact `m6
  exact W.ki_setAt ho h0 `g (by rw[`b0,← hl];exact h4) `anQ
 ·have hk:(k+`anD).toNat=j:=by
   rw[`SZ `g h3] at h1;rw[`b0,← hl];exact `m6
  exact W.ki_setBack ho `g (by rw[`b0,← hl];exact h3) `g `anQ
theorem ju0(lo hi:`bC)(n:Nat):(`S7).1=((`gB n 0 lo:Nat):Int)/\(`S7).2.1=((`gB n n hi:Nat):Int)/\(`S7).2.2=1:=by
 refine⟨?_,?_,rfl⟩
 ·cases lo with
  | none=>simp[`tO,`gB]
  | some i =>
   simp only[`tO,`gB,`anR,`anS,`es]
   by_cases h:i<0
   ·simp only[h,`es]<;>omega
   ·simp only[h,`cA]<;>omega
 ·cases hi with
  | none=>simp[`tO,`gB]
  | some i =>
   simp only[`tO,`gB,`anR,`anS,`es]
   by_cases h:i<0
   ·simp only[h,`es]<;>omega
   ·simp only[h,`cA]<;>omega
theorem lt0(its:`U)(lo hi:`bC):slicePick `be lo hi `b=((its.drop (`anT)).take (`gB `tP `tP hi - `anT)).toArray:=by
 obtain⟨h1,h2,h3⟩:=ju0 lo hi `gD;unfold slicePick;rw[h1,h2,h3];simp only[sliceRange_one,pick_run,`b0]<;>rfl
noncomputable def P50(K:`D):`n':=λx lo hi H Q=>∃a xs,`eY/\`gz/\∀p,`cH->Q `ch (upd H p (`anU))
theorem Uc0:SlR X (P50 X.K):=by
 intro pins s σ H x v vl vu lo hi sl Q I rx hs pl pu h;obtain⟨a,xs,rfl,hx,q⟩:=h;cases rx;obtain⟨its,r,ht,hz⟩:=`dk hx;have F:=`a';refine⟨`ew,_,`anG,ht.isList.typeIs,?_⟩;refine wpAny_getItem_list_slice ht.isList hs pl pu `aE `S ?_ `anI;rw[lt0,← F];refine⟨`d!,_,`gf (t':=`aZ) (o:=`anU) `Fe `bn ?_,rfl,`Ff⟩;exact⟨`anp,_,0,`anq,`df⟩
noncomputable def yi0:V->`V
 | `w=>`c
 | `bD=>`c
 | `b!=>`c
 | `bj=>`c
 | _=>`q
noncomputable def eqV:V->V->`V
 | `w,`w=>`c
 | `rE,`ce=>`ii
 | `rE,`g'=>`S8
 | `n!,`ce=>`S9
 | `n!,`g'=>`ii
 | `E a,`rF=>`ii
 | _,_=>`q
theorem Ri0{s:`r}{y x:V}(ry:`eW)(rx:`gc)(fy:`anV)(fx:`S'):`oZ A s u v (`LA):=by
 cases y with
 | non =>
  cases ry;cases x with
  | non=>cases rx;exact M0 _
  | bl b=>cases rx;exact z0 b
  | int b=>obtain⟨t,rfl⟩:=rx;exact d5 b t
  | str b=>obtain⟨t,rfl⟩:=rx;exact d6 b t
  | _=>exact `Fn
 | bl a =>
  cases ry;cases x with
  | non=>cases rx;exact A00 a
  | bl b=>cases rx;exact A10 a b
  | int b=>obtain⟨t,rfl⟩:=rx;exact A20 a b t
  | str b=>obtain⟨t,rfl⟩:=rx;exact A30 a b t
  | _=>exact `Fn
 | int a =>
  obtain⟨t',rfl⟩:=ry;cases x with
  | non=>cases rx;exact i3 a t'
  | bl b=>cases rx;exact A40 a t' b
  | int b=>obtain⟨t,rfl⟩:=rx;exact X0 a t' b t
  | str b=>obtain⟨t,rfl⟩:=rx;exact X1 a t' b t
  | _=>exact `Fn
 | str a =>
  obtain⟨t',rfl⟩:=ry;cases x with
  | non=>cases rx;exact i4 a t'
  | bl b=>cases rx;exact A50 a t' b
  | int b=>obtain⟨t,rfl⟩:=rx;exact X2 a t' b t
  | str b=>obtain⟨t,rfl⟩:=rx;exact i5 a t' b t
  | _=>exact `Fn
 | _=>exact `y (show `tw from fy) A6
noncomputable def eqU(x:V)(u:`A):`V:=match u with
 | `aE=>eqV `w x
 | `EB=>eqV `pc x
 | `d i _=>eqV `dj x
 | `E z _=>eqV (`hC) x
 | _=>`q
theorem cm0{x y:V}(r:`eW)(f:`anV):eqU x u=`LA:=by
 cases y with
 | non=>cases r;rfl
 | bl b=>cases r;rfl
 | int i=>obtain⟨t,rfl⟩:=r;rfl
 | str z=>obtain⟨t,rfl⟩:=r;rfl
 | _=>exact `y (show `tw from f) A6
theorem m90{x:V}:∀{xs:`K} {us:`U},`cU->`Fo->us.any `tQ=`anW
 | _,_,`L,_=>rfl
 | y::xs,u::us,`eS,f=>by
  rw[`n?,`bs] at f;rw[`j5,`j5,cm0 r f.1,m90 t f.2]
theorem pu0{s:`r}{x:V}(rx:`gc)(fx:`S'):∀{xs:`K} {us:`U},`cU->`Fo->∀u∈us,`oZ A s u v (eqU x u)
 | _,_,`L,_=>λu hu=>by cases hu
 | y::xs,u::us,`eS,f=>λu' hu=>by
  rw[`n?,`bs] at f;rcases `Fp with rfl|hu
  ·rw[cm0 r f.1];exact Ri0 r rx f.1 fx
  ·exact pu0 rx fx t f.2 u' hu
noncomputable def inV(x:V)(xs:`K):`V:=`anW
noncomputable def rIn(K:`D)(neg:`V):R2:=λx y H Q=>∃p xs,y=`e9/\(`Fl∨`S2)/\`S'/\`Fo/\Q (.bl (if neg then !inV x xs else inV x xs)) H
theorem it0:OpR X (`e7 `ru) (rIn X.K `c):=by
 intro pins s σ H x y v u Q I rx ry h;obtain⟨p,xs,rfl,hq,fx,fs,q⟩:=h;cases ry;rcases hq with hq|hq
 ·obtain⟨its,r,pl,hz⟩:=`fB
  refine SeqAt.notIn_listAt `tQ `j4 `anX `anY;rw[`anZ,m90 r fs];exact q
 ·obtain⟨its,r,pl,hz⟩:=`lB
  refine SeqAt.notIn_tupleAt `tQ pl `anX `anY;rw[`anZ,m90 r fs];exact q
theorem hh0:`dl X `S! (λxs H Q=>∃p ys,`jo/\(`S?∨`Ta)/\`an_):=by
 intro pins s σ H xs us Q I r h;obtain⟨p,ys,rfl,hq,q⟩:=h;obtain⟨u,rfl,rx⟩:=`lD;cases rx;have hn:=v50;rcases hq with hq|hq
 ·obtain⟨its,r',pl,hz⟩:=`fB
  have F:=`rc;exact Calls.call_len_list `j4 `xc `an0
 ·obtain⟨its,r',pl,hz⟩:=`lB
  have F:=`rc;exact len_tuple pl `xc `an0
theorem h90:`dl X `S! (λxs H Q=>`an1):=by
 intro pins s σ H xs us Q I r h;obtain⟨z,rfl,hz,q⟩:=h;obtain⟨u,rfl,t,rfl⟩:=`lD;have hn:=v50;exact len_str `g ⟨`LB,H,`d?,`aq,q⟩
theorem CallR.or{f:`A}{r r':`e!}(h:`dl X f r)(h':`dl X f r'):`dl X f (λxs H Q=>`ER∨r' xs H Q):=by
 intro pins s σ H xs us Q I rs q;rcases q with q|q
 ·exact h `i s σ H xs us Q I rs q
 ·exact h' `i s σ H xs us Q I rs q
theorem g60:`dl X `p5 (λxs H Q=>∃p ys,`jo/\(`S?∨`Ta)/\∀l,`po->`aey):=by
 intro pins s σ H xs us Q I r h;obtain⟨p,ys,rfl,hq,q⟩:=h;obtain⟨u,rfl,rx⟩:=`lD;cases rx;have fin:∀(its:`U),`an2->`Fm->∀(h':`R) (c':Nat),(∀b o',`o9=`a o'->`aa?) ->
   `an3=`a { cls:=`dg,dict:=`b,data:=`bu `be c',slots:=#[] }->EP X `i σ Q `kQ `gx:=λits r' hz h' c' kp e =>
  ⟨`d!,_,`gf (t':=`aZ) kp `bn (show `cb `a9 X.w _ h' _ `pn from ⟨hz,its,c',r',e⟩),rfl,`Ff⟩
 rcases hq with hq|hq
 ·obtain⟨its,r',pl,hz⟩:=`fB
  have F:=`rc;obtain⟨o,ho,hc,n,hd⟩:=`j4;exact `an4 p `gq ho hc hd `an5 `xc
 ·obtain⟨its,r',pl,hz⟩:=`lB
  have F:=`rc;obtain⟨o,ho,hc,n,hd⟩:=pl;exact `an4 p `Fq ho hc hd `an5 `xc
theorem T3:`dl X `wu (λxs H Q=>∃p ys,`jo/\((`S?/\`an6)∨(`Ta/\Q `ch H))):=by
 intro pins s σ H xs us Q I r h;obtain⟨p,ys,rfl,h⟩:=h;obtain⟨u,rfl,rx⟩:=`lD;cases rx;rcases h with⟨hq,q⟩|⟨hq,q⟩
 ·obtain⟨its,r',pl,hz⟩:=`fB
  have F:=`rc;refine call_tuple_list `j4 (λh' kp=>?_) `xc;have I1:`wP:=`pg (t':=`aZ) kp;have I2:Inv X `i σ (upd H `p! `tR) { s with heap:=h'.push { cls:=`d5,data:=`bu `be } } :=
   `Lg (t':=`aZ) (`ts) `bn (show `cb `a9 X.w _ _ _ `tR from ⟨hz,its,r',`Fg⟩)
  exact⟨`ab `p!,_,I2,rfl,q _ (`tt)⟩
 ·obtain⟨its,r',pl,hz⟩:=`lB
  exact call_tuple_same pl ⟨`e9,H,I,rfl,q⟩
noncomputable def tyV(K:`D)(T:`cL)(x:V)(H:Hp):Prop:=match x with
 | `bj=>T = `iv
 | `b!=>T = `ge
 | `e9=>(T = `ew/\∃xs,`Fl)∨(T = `ev/\∃o,`pb p=`_/\`zi/\`Q!) ∨
   (T = `pT/\((∃kvs,`Ny)∨∃kvs,H p=`AW))∨(T = "set"/\∃S n,H p=`a (.set S n))
 | _=>`bB
theorem ai0{σ:St}{s:`r}{T:`cL}{x:V}(I:`C)(r:`gc)(ty:tyV X.K T x H) :
  `hk v T/\∀a,`e1->∃ob,`mo=`El/\`an7:=by
 cases x with
 | str z =>
  obtain⟨t,rfl⟩:=r;cases (show T = `iv from ty);exact⟨S3 s z t,λ_ e=>nomatch e⟩
 | int i =>
  obtain⟨t,rfl⟩:=r;cases (show T = `ge from ty);exact⟨N9 s i t,λ_ e=>nomatch e⟩
 | ref p =>
  cases r;rcases ty with⟨rfl,xs,hq⟩|⟨rfl,o,hk,hc,hd⟩|⟨rfl,hk⟩|⟨rfl,S,n,hk⟩
  ·obtain⟨its,_,pl,_⟩:=`fB
   refine⟨`anF,λa e=>?_⟩;cases e;obtain⟨o,n,e,c,hd,_⟩:=pl;exact⟨o,e,hd⟩
  ·refine⟨⟨o,`fL p o hk,hc⟩,λa e=>?_⟩
   cases e;exact⟨o,`fL _ o hk,hd⟩
  ·have z:∃o,`cO p=`_/\`wy:=by
    rcases hk with⟨kvs,hk⟩|⟨kvs,hk⟩
    ·obtain⟨_,_,_,_,o,_,_,e,ex,_⟩:=`Tb
     exact`an8
    ·obtain⟨_,_,_,_,o,_,_,e,ex,_⟩:=`Tb
     exact`an8
   obtain⟨o,e,ex⟩:=z;refine`an9;cases e2;exact`an'
  ·obtain⟨o,_,_,_,e,ex,_⟩:=`Tb
   refine`an9;cases e2;exact`an'
 | _=>exact `i3 ty
noncomputable def Pg0(K:`D)(T:`cL)(r:`lG)(to:TE):TE:=fun σ H Q=>to σ H λx H1=>`an!/\r x [] H1 Q
noncomputable def tBM(K:`D)(T:`cL)(r:`lG)(to:TE)(t:TA):TE:=fun σ H Q=>to σ H λx H1=>`an!/\t σ H1 λxs H2=>r x xs H2 Q
variable{to:TE}{t:TA}{T id:`cL}{r:`lG}
theorem Ts0(pa:PlainAttrs T)(slot:`an?)(hty:`aoa)(hm:`aob)(ho:`R0)
  (hbase:`aoc:=by rfl) (hline:`j6:=by rfl):PE X (`bL `aod [] [] `dI) (Pg0 X.K T r to):=by
 intro pins s σ H Q I h;refine wpAny_Call_method0_late `j7 `j8 `aoe;obtain⟨h1,h2⟩:=`aof;exact⟨T,id,pa,slot,hty,h1,h2,A60 rfl (PySem.evalArgs_none (hm `i s1 σ H1 x [] v [] Q I1 r1 `L q1))⟩
theorem om0(pa:PlainAttrs T)(slot:`an?)(hty:`aoa)(hm:`aob)(ho:`R0)(ha:`w6)
  (hbase:`aoc:=by rfl)
  (hfew:((`ey `dI (`ab3)).all `AO&&`Mx
  &&`G (`Tc+`ur+`us<30))=`c:=by rfl)
  (hline:`j6:=by rfl) (hs:`dV:=by rfl) (hplain:`aog:=by rfl) :
  PE X (`bL `aod `e8 [] `dI) (tBM X.K T r to t):=by
 intro pins s σ H Q I h;refine wpAny_Call_method_late `j7 hfew `j8 rfl `aoe;obtain⟨h1,h2⟩:=`aof;refine⟨T,id,pa,slot,hty,h1,h2,?_⟩;have hA:=ha `dI `i s1 σ H1 _ I1 q1;rw[hs] at hA ⊢;refine A60 (by show (`q||`acq)=`q;rw[`rG]<;>rfl) (`aoh ?_);exact thn hA λus s2 ⟨vs,H2,I2,r2,q2⟩=>hm `i s2 σ H2 x vs v us Q I2 r1 r2 q2
universe zz
noncomputable def MtM(X:Cx)(id:`cL)(r:`lG):Prop :=
 ∀(pins:`ax) (s:`r) (σ:St) (H:Hp) (x:V) (xs:`K) (v:`A) (us:`U) (Q:VK),`C->`gc->`cU->`anw ->
  `anx
theorem Vals.one:∀{x:V} {us:`U},`al7->`al8
 | _,_,`aoi=>`aaX
theorem Vals.two:∀{x y:V} {us:`U},`al9->∃u v,us=[u,v]/\`fN/\`dd y v
 | _,_,_,`ah r (`ah q `L)=>⟨_,_,rfl,r,q⟩
theorem Vals.zero:∀{us:`U},`bi [] us->us=[]
 | _,`L=>rfl
theorem Vals.dropLast(h:`cU):`bi `Fr us.dropLast:=by
 induction h with
 | nil=>exact `L
 | cons r t ih =>
  cases t with
  | nil=>exact `L
  | cons q t'=>exact `aoj
theorem Vals.eraseIdx:∀{xs:`K} {us:`U} (i:Nat),`cU->`bi (`Fs i) (us.eraseIdx i)
 | _,_,_,`L=>`L
 | _,_,0,`lt=>t
 | _,_,i+1,`eS=>`ah r (Vals.eraseIdx i t)
theorem Vals.reverse(h:`cU):`bi `Ft us.reverse:=by
 induction h with
 | nil=>exact `L
 | cons r t ih=>rw[`oa,`oa];exact `Q8 ih (`aoi)
theorem Vals.rep(h:`cU):∀k:Nat,`bi `aok (`a! k us).flatten
 | 0=>`L
 | k+1=>by
  rw[`dY,`dY,`lI,`lI];exact `Q8 h (Vals.rep h k)
theorem er0(l:`a5):`Td (`cS - 1)=l.dropLast:=by
 induction l with
 | nil=>rfl
 | cons a r ih =>
  cases r with
  | nil=>rfl
  | cons b r =>
   have e:`aol - 1=(`aom - 1)+1:=by
    have h1:`aol=`a'+2:=rfl;have h2:`aom=`a'+1:=rfl;omega
   rw[e,`aon,ih]
   all_goals rfl
theorem ll0:∀(l:`a5) (i:Nat),(`Td i).length<=`cS
 | [],_=>`hl
 | `cB,0=>D9 _
 | _::r,i+1=>Bk0 (ll0 r i)
theorem foldl_rep(its:`U):∀(k:Nat) (acc:`U),
  List.foldl (λx1 x2=>x1++x2) `aoo (`a! k `be)=(acc++`aop).toArray
 | 0,acc=>`aS
 | k+1,acc=>by
  have e:`aoo++`be=(`Te).toArray:=`aS
  have e2:(`Te)++`aop=acc++(`a! `bS its).flatten:=by
   rw[`dY,`lI,`eP]
  rw[← e2,← `adM its k (`Te),← e,`dY,`j9]
section
variable{σ:St}{s:`r}{l b:`f}{ys zs:`K}
theorem Inv.lset{its its':`U}{n:Nat}{f:`bh->`bh}{t':Nat}(I:`C)(hH:`xd)
  (e:`aoq) (hf:f `be=`aci) (hv:`anN) (hz:`Fm) :
  Inv X `i σ (upd H l `pn) { s with heap:=`qc l (`p8 f),toks:=t' }:=by
 have q:=PySem.IsL.update e f;rw[hf] at q;refine `S6 (x:=l) (e:=l) (by rw[hH];exact `pY) `gq (λb' u hb hu=>(L6 `aa (`p8 f) (B4 hb)).trans hu) ⟨_,q⟩ ?_;exact⟨hz,its',_,hv,q⟩
theorem Inv.lnew{t':Nat}(I:`C)(hv:`an2)(hz:`Fm) :
  Inv X `i σ (upd H `an `pn) { s with heap:=`dG { cls:=`dg,data:=`bu `be },toks:=t' } :=
 `gf `Fu `bn ⟨hz,its,0,hv,`df⟩
theorem Inv.fresh(I:`C):`Tf:=`pj
theorem Inv.lstM(I:`C)(hH:`xd):`eT/\∃(its:`U) (n:Nat),`jW/\`ae=`tP/\`aoq:=by
 obtain⟨z,its,n,r,e⟩:=`cc l _ hH;exact⟨z,its,n,r,`a',e⟩
universe zz
noncomputable def Vy0:`lG:=λx vs H Q=>∃l xs y,`Fv/\vs=[y]/\`xd/\`ae<sizeLine/\Q `w (upd H l (`o (xs++[y])))
theorem uo0:MtM X `aor Vy0:=by
 intro pins s σ H x vs v us Q I rx rv h;obtain⟨l,xs,y,rfl,rfl,hH,hz,q⟩:=h;cases rx;obtain⟨u,rfl,ru⟩:=rv.one;obtain⟨z,its,n,r,hl,e⟩:=`Tg;refine O0 F.slot_list_append `Th F.entry_list_append (F.args_list_append_2 _ _) (PySem.list_append l `be n u `Ti) `Tj;refine⟨`w,_,I.lset (its':=its++[u]) hH e `S (`SD (`ah ru `L)) ?_,rfl,q⟩;rw[`ai,`c'];omega
noncomputable def P20:`lG:=λx vs H Q=>∃l xs y,`Fv/\`q'/\`xd/\xs[`ae - 1]?=`bm/\Q y (upd H l (`o `Fr))
theorem T60:MtM X `aos P20:=by
 intro pins s σ H x vs v us Q I rx rv h;obtain⟨l,xs,y,rfl,rfl,hH,hy,q⟩:=h;cases rx;have J:=rv.zero;subst J;obtain⟨z,its,n,r,hl,e⟩:=`Tg;obtain⟨u,hu,ru⟩:=`nZ hy;have M:`be[`gD - 1]?=`a2:=by
  show `be[`tP - 1]?=`a2;rw[← `Fw,← hl];exact hu
 refine O0 j3 `Th `aot (F.args_list_pop_1 _) (MeetsSeq.list_pop_last l `be n u M `Ti) `Tj;refine⟨y,_,I.lset (its':=its.dropLast) hH e ?_ r.dropLast ?_,ru,q⟩
 ·show `aou (`gD - 1)=its.dropLast.toArray
  rw[`b0,`aov,er0]
 ·rw[List.length_dropLast]
  omega
noncomputable def R40:`lG:=λx vs H Q=>∃l xs i k y,`Fv/\vs=[`aj]/\`xd/\-(`z0)<=i/\i<2 ^ 63/\`anv=`ec/\xs[k]?=`bm/\Q y (upd H l (`o (`Fs k)))
theorem Zy0:MtM X `aos R40:=by
 intro pins s σ H x vs v us Q I rx rv h;obtain⟨l,xs,i,k,y,rfl,rfl,hH,h1,h2,hk,hy,q⟩:=h;cases rx;obtain⟨u,rfl,ru⟩:=rv.one;obtain⟨t,rfl⟩:=ru;obtain⟨z,its,n,r,hl,e⟩:=`Tg;obtain⟨w,hw,J⟩:=`nZ hy;refine O0 j3 `Th `aot (F.args_list_pop_2 _ _)
  (MeetsSeq.list_pop_at l `be n i t k w (fitsIndex_both h1 h2) (by rw[`b0,← hl];exact hk) (by rw[← `Fw];exact hw) `Ti) `Tj
 refine⟨y,_,I.lset (its':=its.eraseIdx k) hH e ?_ (r.eraseIdx k) ?_,J,q⟩
 ·show `aou k=(its.eraseIdx k).toArray
  rw[`aov]
 ·have:=ll0 xs k
  omega
theorem len_rep(xs:`a5)(k:Nat):(`acr).flatten.length=k*`ae:=by
 induction k with
 | zero=>simp
 | succ k ih=>rw[`dY,`lI,`ai,ih,`Fx,`Tk]
universe L2
namespace Att
open PySem.W PySem.Calls PyProof.Rows
theorem o60{P:`LH}{h:`R}:∀(ns:`au) (vs:`U),WellAll P h vs (`gA WData.int)->`rH:=by
 intro ns
 induction ns with
 | nil =>
  intro vs w;rw[`fW] at w;cases w;exact `L
 | cons n ns ih =>
  intro vs w;rw[`Z] at w;cases w with
  | cons a b =>
   cases a;exact `ah _ _ (ih _ b)
theorem cs0{l:`Tl}(hn:`Fy){P:`LH}{h:`R}{args:`aow}{vals:`U}
  (hpre:l.row.toRowW.claim.pre `g7=`c) (hwl:WellAll P h vals `g7) :
  ∃a vs ns,vals=[`m1]/\`g7=[WData.list (`gA WData.int)]/\`hj=`acs/\`rH/\`xe:=by
 have J:WShape.hasAll [] `g7 [.list `d]=`c:=(`aox).1;have hc:l.pre.holds [] { args:=`g7 }=`c:=(`aox).2;obtain⟨d,r,rfl,h1,h2⟩:=hasAllW_cons J;obtain rfl:=hasAllW_nil h2;obtain⟨xs,rfl,h3⟩:=hasW_list h1;obtain⟨ns,rfl⟩:=items_int h3;have F:`xe:=by
  unfold OpenLaw.pre at hc;have h4:(WTm.not (.lt (.lit (`k_)) (.len (.arg 0)))).holds [] { args:=[.list `uP] }=`c:=by
   have h4:=(holds_andW hc).1;rw[hn] at h4;exact h4
  have h5:=condW_of h4 (w_not (w_lt w_lit (w_len_list (w_arg rfl))));rw[`M] at h5;refine Bm0 λq=>?_
  have q':`b7<((`pr:Nat):Int):=`p
  first
   | (rw[`bR q'] at h5;exact `y h5 `s)
   | (simp at h5;omega)
 cases hwl with
 | cons w1 w2 =>
  cases w2;cases w1 with
  | list ho hall=>exact⟨_,_,ns,rfl,rfl,ho,o60 ns _ hall,F⟩
theorem af0(l:`Tl)(args:`aow):l.row.toRowW.claim.post `g7 `tV `g7=`c :=
 postW_of (r:=`LI) (X:=`aoy)
  (show `aoz [] `tV `cd=`c by first|rfl|decide|simp[`aoz,WShape.arms,WShape.armsAll])
  (show (WTm.eq .res (.lit `tV)).value [] { args:=`g7,res:=`a `tV,after:=`g7 }=`a (`cd `aoy) from w_eq_bool (w_res rfl) w_lit) rfl
theorem go0{l:`Tl}{n:Nat}{q:`ag}{loose:`u}{XP:`D0}{YP:`D1}{d:DefRec}
  (hn:`Fy) (hdf:`Tm)
  (call:∀(w:`N) (s₀ s₁:`r) (mg mb:`bX) (fa:`f) (o:Obj) (pm cd doc:`A) (a:`f) (vs:`U) (ns:`au),
   Ground q loose [] XP w s₀ mg mb `ps->YP w `ps ->
   `z? fa=`_->`oX=`n8 (docDef `LD d.params d.body d.scope pm cd doc)->s₁.heap.CodeRec cd `LD->`Tn ->
   `aoA->`rH->`xe->`aoB ->
   `i8 (`s7 `aI w) `tW `acu `acv `fb) :
  WalkO q loose XP YP `LI d [] `acy:=by
 intro w s₀ s₁ mg mb G Y fa o pm cd doc dV kV ho hd Z hD a1 hg a3 vals as O a2 a5 a0 a4;obtain rfl:dV=`aE:=Dflts.none hD hdf;obtain rfl:kV=`aE:=Dflts.noKw hD;obtain⟨a,vs,ns,rfl,rfl,J,F,M⟩:=cs0 hn O a0;refine enter_call (x6 (`e? w s₀ `fb mg mb fa o pm cd doc a vs ns G Y ho (fd_plain hd) Z a1 J F M hg) `amp);obtain⟨rfl,h2,h3,h4⟩:=hq;exact⟨`k ⟨`z9,`z9,[],rfl,`rI,`z9,af0 l _,λ_=>⟨List.Pairwise.nil,λ_ hm=>(nomatch hm)⟩⟩,h2,h3,h4⟩
universe Att
namespace L2
open Spec PyProof.Rows
theorem lq0:∀{vs:`U} {ns:`au},`rH->`bi `pt vs
 | _,_,`L=>`L
 | _,_,`ah n t h=>`ah ⟨t,rfl⟩ (lq0 h)
noncomputable def Only(H:Hp):Prop:=∀b,`cP∨∃o xs,H b=`Ab
theorem Y80{P:`ag}{w:`N}{K:`D}{mg mb:`bX}{CX:CXT}{k:Nat}{fa a:`f}{fd:`f'}{x:Str}{sp:Sp}{s₁:`r}{vs:`U}{ns:`au}
  (KX:`mk `ps) (hns:`To `b4 mg) (hb:`To `Rw mb) (hbb:`ajP) (hlim:s₁.heap.NoLimit) (hg:`aoB)
  (ha:`aoA) (hi:`rH) (hl:`pr<=`W) (hr:`Tp)
  (F:∀base:`R,`Rv->`wD->`af P w K mg `t CX k fa fd [x] sp) (hbind:`Tq)
  (hsp:∀H:Hp,Only H->`Tr->sp `i6 H `Fz `jZ)
  (hCX:∀H e s',CX [] H `fb (`jZ) e s'->`bB) :
  `aoC:=by
 have rv:=lq0 hi;have a0:=hi.length;have O:∀H:Hp,Only H->`Tr->HOk P w H `ps->(∀b,H b≠`b->b=a)->(H a≠`b->`pb a=`b) ->
   `aoC:=by
  intro H hO hS hok hA hK;have J:∀{b:`f} {o:Obj},`z? b=`_->`cP->(`xf).get? b=`_:=λe n=>av0 e n
  have a1:∀{b:`f} {o:Obj} {es:`Ts} {ep:Nat},`z? b=`_->`wz->`cP:=λ{b o es ep} e d=>by
   cases q:H b with
   | none=>rfl
   | some u =>
    have e':b=a:=`aoD;subst e';rw[ha] at e;cases e;have d':Data.seq `mM _=Data.dict es ep:=d;cases d'
  have M:∀{b:`f} {m:`bX},`To b m->(`xf).Ns b m:=λ{b m} ⟨o,es,ep,e,d,r⟩=>⟨o,es,ep,J e (a1 e d),d,r⟩
  have Y:`mk (`xf):=λb o e=>J (KX b o e) (by
   cases q:H b with
   | none=>rfl
   | some u =>
    have e':b=a:=`aoD;subst e';rw[hK (`LG)] at e;cases e)
  have hM:Mod K mg (`xf):=⟨Y,M hns,⟨mb,M hb,hbb⟩,let ⟨mc,h1,h2⟩:=hlim;⟨mc,M h1,h2⟩⟩;have e0:Env0 P w K mg (`xf) `tW [] `fb H:=⟨rfl,hM,λb o e=>Wt0 e,k4 (am0 _ _),`pY,λb hb=>`y (show `ab7 from hb) `S,hok,.of_eq hg⟩;refine x6 ((F _ Y (M hns)).run `tW [] `fb H `act `i6 `i6 _ _ hr e0 (hbind `fb `dc) (`ah rfl `L) (hsp H hO hS)) λr s' h=>?_
  cases r with
  | error e=>exact(hCX H e s' h).elim
  | ok fl =>
   cases fl with
   | next=>exact `i3 h
   | brk=>exact `i3 h
   | cont=>exact `i3 h
   | ret u =>
    obtain⟨v,H',os,bare,un,Z,r',q⟩:=h;have q':v=`i7:=q;subst q';obtain rfl:u=`FA:=r';refine⟨rfl,OldK.of_keep `aoE,os,bare⟩;cases q:H b with
    | none=>exact un.keep b o e q (by intro z;exact `amE) `S
    | some u =>
     rcases hO b with z|⟨ob,xs,z⟩
     ·rw[q] at z;cases z
     ·have z2:=un.frzs b ob _ z
      obtain⟨e1,_⟩:=hok b _ z;obtain⟨e2,_⟩:=Z b _ z2;rw[e] at e1;cases e1;exact e2
 cases hk:`pb a with
 | some o =>
  have e:=KX a o hk;rw[ha] at e;cases e;refine O (`SH) (λ_=>`a3) (`h ⟨_,`mM,_,hk,rfl,rfl,rfl,by rw[`b0,a0];exact hl,`ak_⟩) (λb u z=>by have z':(`b:`rf)=`a2:=z;cases z') (λb z=>`aoF) λz=>`aoF
 | none =>
  refine O (λb=>if b=a then `a (`gr `LC (`o `pt)) else `b) (λb=>?_) (`k (`h ⟨`LC,`aB⟩)) (λb u z=>?_) (`MP) λ_=>hk
  ·by_cases hb:b=a
   ·exact `h ⟨_,_,`xg⟩
   ·exact `k (`lJ)
  ·by_cases hb:b=a
   ·have z':=(`xg).symm.trans z
    cases z';subst hb;exact⟨ha,by rw[`M];exact hl,vs,_,rv,ha⟩
   ·have z':=(`lJ).symm.trans z
    cases z'
  ·by_cases hb:b=a
   ·exact hb
   ·exact `y (`lJ) z
theorem Wn0{l:`Tt}{n k:Nat}{q:`ag}{loose:`u}{XP:`D0}{YP:`D1}{d:DefRec}{K:`aoG}{CX:`N->CXT}{sp:`N->Sp}{x:Str}
  (hn:`Fy) (hn2:`xh) (hdf:`Tm) (hr:`Tp)
  (hY:`aoH)
  (F:∀(w:`N) (mg:`bX) (fa:`f) (h:`R),`tX h->`FB->`Tn ->
   ∃fd:`f',(`Tq) /\
    ∀base:`R,`tX `t->`wD->`af `aI w `pv mg `t (CX w) k fa fd [x] (sp w))
  (hsp:∀(w:`N) (H:Hp) (a:`f) (ns:`au),`xe->Only H->`aoI->sp w `i6 H `Fz `jZ)
  (hCX:∀(w:`N) (H:Hp) (s:`r) (e:`A) (s':`r),CX w [] H s (`jZ) e s'->`bB) :
  `aoJ:=by
 refine Att.go0 hn hdf λw s₀ s₁ mg mb fa o pm cd doc a vs ns G Y ho hd a0 Z O M J hg=>?_
 have KX:=hY w _ Y;obtain⟨fd,hb,hF⟩:=F w mg fa _ KX G.T.g Z;exact Y80 KX G.T.g G.T.b G.T.builtins G.T.nolimit hg O M (C1 J hn2) hr hF hb (λH hO hS=>hsp w H a ns J hO hS) λH e s'=>hCX w H `fb e s'
noncomputable def K4(s:`fI):Arguments:=match s with
 | `Tu _ a _ _ _ _ _ _ _ _=>a
 | _=>{ posonlyargs:=[],args:=[],vararg:=`b,kwonlyargs:=[],kw_defaults:=[],kwarg:=`b,defaults:=[] }
noncomputable def S7(s:`fI):`er:=match s with
 | `Tu _ _ b _ _ _ _ _ _ _=>b
 | _=>[]
noncomputable def o6(s:`fI):`c!:=match s with
 | `Tu _ _ _ _ _ _ sc _ _ _=>sc
 | _=>{ kind:=`ks,names:=[],isGenerator:=`q,isCoroutine:=`q }
abbrev CX0:CXT:=λ_ _ _ _ _ _=>`bB
abbrev E0:XK:=`jZ
theorem kc0:iq0 CX0 X E0:=λ_ _ _ _ _ _ _ h=>`iq
structure Fun(K:`D)(x qual:Str)(st:`fI)(f:`f)(fd:`f'):Prop where
 ex:∃(oc:`A) (od:`cT) (kV doc pm:`A) (an:`cT) (cdv ct:`A) (osl:`g9),
  fd=`FC/\`E8=`a ⟨oc,od,`n8 fd,osl⟩/\`SL
 kp:`Tv
section
variable{P:`ag}{w:`N}
theorem Fun.ok{f:`f}{ps:`u}{k:Nat}(F:`aoK)(S:`FD)(len:`SB)
  (hbody:∀(cdv:`A) (A:`bf) (outer:`fy) (s:`r) (H:Hp) (vs:`K) (Q:VK) (E:XK),`hA k (`tz (`zM `ez `mN `an f cdv))->`zK ->
   ∃t,PSs (sq0 CX0 P w K mg `t N `ez `mN f cdv A `cF s H E).nox `tY t/\`amJ):`af P w K mg `t CX0 `bS f fd ps sp:=by
 obtain⟨oc,od,kV,doc,pm,an,cdv,ct,O,rfl,lk,M⟩:=F.ex;refine Q00 lk M S len λA outer s H vs Q E hr J=>?_
 obtain⟨t,h,q⟩:=hbody cdv A `cF s H vs Q E hr J;exact⟨t,h.nox,q⟩
theorem Fun.binds{f:`f}{ps:`u}(F:`aoK)
  (h:∀(kV doc pm:`A) (an:`cT) (cdv ct:`A) (us:`U),`fv=`am->`nW (`FC) `E0=`bg `w5):`My:=by
 obtain⟨oc,od,kV,doc,pm,an,cdv,ct,J,rfl,lk,M⟩:=F.ex;exact .all (h kV doc pm an cdv ct)
theorem bg0{f:`f}{osl:`g9}{kV:`A}(l:`E8=`a ⟨oc,od,`n8 (`FC),osl⟩)
  (c:`SL) (k:`Tv):Fun K x `ez st f (`FC):=⟨⟨oc,od,kV,doc,pm,an,cdv,ct,osl,rfl,l,c⟩,k⟩
universe zz
theorem sm0{k:Nat}(hr:`w4):`FE:=Bn0 (Nat.add_le_add_left (`O:1<=64) _) `wl
structure Same(H H':Hp):Prop where
 old:`aoL
 nf:∀b o xs,`aoM
instance{H H':Hp}:`dZ (`aT) (λ_=>`aoL):=⟨Same.old⟩
theorem Same.refl(H:Hp):`c0 H H:=⟨λ_ _ h=>h,λ_ _ _ h=>h⟩
theorem Same.trans{H1:Hp}(a:`c0 H H1)(b:`AH):`c0 H H2:=⟨λc o h=>b c o (a c o h),λc o xs h=>a.nf c o xs (b.nf c o xs h)⟩
theorem Same.free(e:`aT){l:`f}(h:H' l=`aoN):H l=`aoN:=by
 cases q:H l with
 | none=>rfl
 | some o =>
  rw[e l o q] at h;cases h
noncomputable def W0(X:Cx)(scope:`c!)(cl:`ob)(N':`u)(s:`r)(H:Hp)(ex:`b6):Cx :=
 { X with N:=N',s₀:=s,H₀:=H,env:=compEnvC `cG cl `an `B,outer:=`hr,ex:=ex,fn:=λ_=>`q,pn:=[],xe:=`Ai }
structure CompOk(sc scope:`c!)(N N':`u)(n:Nat)(caps:`e):Prop where
 kind:scope.kind=`ks
 nocell:∀y∈`e',`aoO
 loc:∀y∈`e',`aoP
 free:∀y∈`e',`aoQ
 nd:N'.Nodup
 len:`aoR
 cap:∀k∈`cx `t_,`aoS
noncomputable def N7(n:Nat)(caps:`e)(σ:St):St:=`a! n `b++`aoT
theorem dv0(n:Nat)(caps:`e)(σ:St):`aoU=n+`t_:=by simp[N7]
theorem ua0{env:Env}:∀(names:`aoV),(∀x∈names,`aoW)->∀acc:`ob,
  ∃cl:`ob,(`wv names acc (λ(x:`acE) (cs:`ob)=>if (x.2==`hp)=`c then do let a ← cellOf env x.1;`bg (`Ah ((x.1,a)::cs)) else `bg (`Ah cs)):Sem (`ob))=`bg cl /\
   (∀y c,`Tw->`Ad y=`d9∨`aoX)/\(∀x∈names,`Tx)/\(∀y c,`aoX->∃c',`t0 y=`a c')
 | [],_,acc=>⟨acc,rfl,λ_ _ h=>`FF,(λ_ h=>nomatch h),λ_ c h=>⟨c,h⟩⟩
 | `Ty,h,acc=>by
  cases hk:(`LM) with
  | true =>
   have hk':k=`hp:=by simpa using hk
   obtain⟨c,hc⟩:=h `Ae B0 hk';obtain⟨cl,e,h1,h2,h3⟩:=ua0 r (`Tz) ((n,c)::acc);refine⟨cl,?_,`aoY,`aoZ,`aoY⟩
   ·rw[`lK]
    simp only[hk,`es,cellOf,hc,pure_bind];exact e
   ·rcases h1 y d hy with z|z
    ·exact `jf
    ·rw[`gg] at z
     cases q:(y==n) with
     | true =>
      rw[q] at z;cases z;have:y=n:=`EP
      subst this;exact `k hc
     | false =>
      rw[q] at z;exact `h z
   ·rcases `TA with rfl|hx
    ·exact h3 n c (by simp[`gg])
    ·exact `ao_
   ·by_cases q:y=n
    ·subst q
     exact h3 y c (by simp[`gg])
    ·refine h3 y d ?_
     have:(y==n)=`q:=`EP
     rw[`gg,`x];exact hy
  | false =>
   obtain⟨cl,e,h1,h2,h3⟩:=ua0 r (`Tz) acc;refine⟨cl,?_,h1,`aoZ,h3⟩
   ·rw[`lK]
    simp only[hk,`ih,`cA,pure_bind];exact e
   ·rcases `TA with rfl|hx
    ·have:k=`hp:=hf
     rw[`x] at hk;exact `y hk `s
    ·exact `ao_
theorem uq0{env:Env}(h:∀x∈`e',`aoW) :
  ∃cl:`ob,`ao0 `cG env=`bg cl/\(∀y c,`Tw->`Ad y=`d9)/\∀x∈`e',`Tx:=by
 obtain⟨cl,e,h1,h2,_⟩:=ua0 `e' h [];refine⟨cl,?_,λy c hy=>(h1 y c hy).elim id `dF,h2⟩;simp only[`ao0];rw[← bind_pure (`wv _ _ _)] at e
 first
  | exact e
  | (refine Eq.trans ?_ e;rfl)
theorem wm0{env:Env}:∀(names:`aoV) (x:Str),
  (names.map `TB).lookup x =
   (names.lookup x).map λk=>`TC
 | [],_=>rfl
 | `Ty,x=>by
  have ih:=@wm0 env r x;have l1:`ao1 x ((`Ty).map `TB) =
    `ao1 x ((if `ao2 then (n,`t1) else `Ae)::`lL `TB):=rfl
  rw[l1,`gg (as:=r)]
  by_cases hc:`ao2
  ·rw[`xi,`gg]
   cases hx:x==n with
   | true =>
    have e:x=n:=`ao3
    subst e;show `a `t1=`a (`TC);rw[`xi]
   | false=>exact ih
  ·rw[`lM,`gg]
   cases hx:x==n with
   | true =>
    have e:x=n:=`ao3
    subst e;show `ec=`a (`TC);rw[`lM]
   | false=>exact ih
section
variable{w:`N}{s:`r}
theorem gc0{elt target iter:`z}{ifs:`b2}{scope:`c!}{pos:Pos}{it acc:`A}{env:Env}(I:`TD)
  (turn:∀n s,I n s->`l `ao A (`K3 it) (λr s₁=>match r with
   | `b=>R `ao4 `fb
   | `aL=>`l `ao A (`R! `Aj it v) (λ_ s₁'=>`l `ao A (`fM `Aj env v) (λ_ s₂ =>
     `l `ao A (`wv ifs `c λc r=>if r=`c then do let ok ← `zw c env (`bZ c env);`ao5 else `ao6) (λok s₃ =>
      if ok=`c then `l `ao A (`bZ elt env) (λx s₄ =>
       `l `ao A (`e? (`dB `aor) [acc,x]) (λ_ s₅=>∃m,m<n/\I m s₅) `lN s₄) `lN s₃
      else ∃m,m<n/\I m s₃) `lN s₂) `lN s₁') `lN `fb) `lN s)
  (n:Nat) (h:I n s) :
  `i8 `ao A (.compLoop `ao7 0 it acc env) R s:=by
 refine codeAny_loop rfl I (λn s hI=>?_) n h;show `l _ A ((compTurn `ao7 0 it acc env).onRaise (λx=>do noteFrame x env;theTreesLotGoes x)) _ _ s;refine wpAny_noted ?_;rw[compTurn_list];refine A0 (Y1 (A0 (D5 (turn n s hI) (λr s₁ h₁=>?_) `rJ)));cases r with
 | none=>exact A1 `eC
 | some v =>
  refine A0 (D5 `eC (λ_ s₁' F=>?_) `rJ);refine A0 (D5 F (λ_ s₂ h₂=>A0 (D5 `lO (λok s₃ h₃=>?_) `rJ)) `rJ);cases ok with
  | false=>exact A1 ⟨rfl,h₃⟩
  | true =>
   exact A0 (A0 (D5 h₃ (λx s₄ h₄=>A0 (D5 h₄ (λ_ s₅ h₅=>A1 (A1 ⟨rfl,h₅⟩)) `rJ)) `rJ))
universe zz
noncomputable def PF(X:Cx)(ifs:`b2)(t:TT):Prop :=
 ∀(pins:`ax) (s:`r) (σ:St) (H:Hp) (Q:`wL),`C->`kD ->
  `l `ac X.A (`wv ifs `c λc r=>if r=`c then do let ok ← `zw c `B (`bZ c `B);`ao5 else `ao6) `RS `az s
theorem S60:PF X [] λ_ H Q=>Q `c H:=λ_ _ _ H _ I h=>wpAny_tests_nil ⟨H,I,h⟩
theorem Sb0{c:`z}{t:TT}(h:PT X c t):PF X [c] t:=λpins s σ H Q I q=>wpAny_tests_one (h `i s σ H Q I q)
noncomputable def Wk(σ σ':St):Prop:=`RK/\∀(j:Nat) (v:V),`ao8->σ'[j]?=`o7
noncomputable def k30(n:Nat)(caps:`e)(wi:TI)(g:TG)(tt:TT)(te:TE):TE:=fun σ H Q=>wi σ H λJ H1=>∀D,H1 D=`b ->
 ∃W:`ao9,(∃m,W 0 m [] (upd H1 D `u3))/\∀i m ys H2,`ao' ->
  `ao!∨(J.go i H2/\∀x H3,`ao?->g x `fc H3 fun σ4 H4=>`apa/\tt σ4 H4 λb H5 =>
   `apb)
section
variable{tg:`z}{wi:TI}{g:TG}{tt:TT}
noncomputable def Q70(X:Cx)(pins:`ax)(H:Hp)(C:`f):Prop :=
 H C=`b/\C≠`ex/\`mm<=C/\(∀x c,`hq->c≠C)/\∀p∈`zr,p.1≠C
theorem le0{pins:`ax}{σ:St}{H2:Hp}{s2:`r}{it:`f}{fp:`b6}{tn:`R8}{J:It}{cl:`ob}{Q:VK}{RR:`A->`f->`aiC}{E:`X}
  (hc:`bz) (hsc:`iw) (ok:`rK)
  (hcl1:∀y c,`Tw->`ajR) (hcl2:∀x∈`e',`Tx)
  (hg:∀s H ex,`acN) (ht:∀s H ex,`acO) (he:∀s H ex,`acP)
  (I2:`alL) (T:`ald) (st2:`ale) (f2:∀b∈fp,u10 X `i H2 b)
  (q:∀D,H2 D=`b->∃W:`ao9,(∃m,W 0 m [] (upd H2 D `u3))/\∀i m ys H2,`ao' ->
   `ao!∨(J.go i H2/\∀x H3,`ao?->g x `fc H3 fun σ4 H4=>`apa/\tt σ4 H4 λb H5 =>
    `apb))
  (hend:∀(D C:`f) (H':Hp) (s':`r) (m:`bX),`jY->Q70 X `i H' C->s'.heap.Ns C m->Q `mO H'->RR `mO C `ao4 s') :
  `l `ac X.A (newList []) (λacc s₃=>`l `ac X.A (newFunctionEnv `cG `Ry cl [] X.env.qual `b `aE (`a `B)) (λcenv s₄ =>
   `i8 `ac X.A (.compStart `kx 0 `hv acc { cenv with scope:=`acK }) (RR acc cenv.locals) s₄) E s₃) E s2:=by
 refine E6 (wpAny_newFunctionEnv ok.nocell (by intro y hy;simp at hy) (λh₁ Z Y=>?_) `to);dsimp only at Z Y ⊢;obtain⟨D,hD⟩:∃D,D=`xj:=`aq;have I3:Inv X `i σ (upd H2 `xj `u3) `apc:=I2.lnew (its:=[]) (t':=`LP) `L `FG;have e4:H2 `xj=`b:=I2.fresh;obtain⟨W,⟨m0,w0⟩,b3⟩:=q `xj e4;generalize hs3:(`apc:`r)=s3 at *;have b0:`acH=s3.heap:=`FH
 have h9:`LP=s3.toks:=`FH
 rw[b0] at Z Y ⊢;generalize hH3:upd H2 `xj (HO.lst [])=H3 at *;rw[← hD] at b3 hH3 e4 ⊢;have old:∀b o,`apd->`TE:=λb o e=>`FI b o (B9 `iX) (`iZ)
 have a8:∀b o,s2.heap.get? b=`_->`apd:=λb o e=>by rw[← b0];exact `iZ
 have c3:∀b∈fp,b<s3.heap.objs.size:=λb hb=>by
  obtain⟨o,e,_⟩:=`ape;exact A7 `apf
 have g6:∀b∈fp,b≠D:=λb hb z=>by
  obtain⟨o,e,_⟩:=`ape;rw[z,hD] at e;exact `apg
 obtain⟨X',F⟩:∃X',X'=`aph:=`aq;have f6:X'.Ok:=by
  subst F;refine⟨I3.ok.mod,`to,I3.ok.glob,I3.ok.blt,`hl,λx y c h1 h2=>I3.ok.inj x y c (hcl1 x c h1) (hcl1 y c h2),`f3,λx c h _=>`y h (by simp[W0]),I3.ok.hd,I3.ok.frames,`a3,
   λb hb=>⟨`api,`apj⟩,λb o e=>I3.bs b o e,C1 I3.ok.bsz I3.sz,λb o e hb=>?_,λb hb hf=>?_,I3.stack,I3.stkFree⟩
  ·have a0:(`t5=`ho)∨(`t5=`hu):=hx
   have q2:=wm0 (env:=`B) `e' x;have q3:`apk:=q2
   cases e:`pi x with
   | none =>
    rw[q3,e] at a0;rcases a0 with z|z<;>cases z
   | some k =>
    have hk:k=`hp:=by
     rw[q3,e] at a0;have nc:=ok.nocell (x,k) (E8 e);cases k<;>first
      | rfl
      | exact `y rfl nc
      | (rcases a0 with z|z<;>simp at z)
    subst hk;exact hcl2 `TF (E8 e) rfl
  ·rcases `apl with z|z
   ·exact I3.ok.noex b o e z
   ·exact `y (C7 (A7 (I3.ok.bs b o e).1) z) `i'
  ·rcases `apm with z|z
   ·exact`TG z
   ·exact(`i!).2.2.1 z
 have I4:Inv X' [] `fc H3 `apn:=by
  refine⟨f6,?_,?_,?_,?_,`Et,?_,`Et,`lx,(by subst F;exact I3.hok.kept old),?_⟩
  ·subst F;rfl
  ·exact I3.bare
  ·subst F;exact `Em old
  ·subst F
   refine⟨_,Z,`aj3⟩;have hi:n<=i:=by
    by_cases hi:i<n
    ·unfold N7 at e2
     rw[`E7,`rx,`H hi] at e2;cases e2
    ·omega
   obtain⟨k,rfl⟩:∃k,i=n+k:=⟨i - n,`p⟩;have hk:k<caps.length:=by
    have:=`FJ;have e5:(`aph).N.length=n+`t_:=ok.len;omega
   obtain⟨c1,c2⟩:=ok.cap k (`qH hk);have d2:`LJ=`bd:=e1;unfold N7 at e2;rw[`i5 `S,`SK,Nat.add_sub_cancel_left,`a_] at e2;obtain⟨j,hj⟩:∃j,`cr[k]?=`rB:=⟨`cr[k],by simp[hk]⟩;rw[hj] at e2 c1;have h4:X.N[j]?=`bd:=by rw[← d2,c1];rfl
   have a4:`LK=`aL:=A2 e2;have f1:`ao8:=by
    cases q:`pw with
    | none=>rw[q] at a4;cases a4
    | some o=>rw[q] at a4;rw[show o=`aL from a4]
   rw[d2] at c2;have M:`pi x=`hu:=by simpa using c2
   have a7:=ok.free `TF (E8 M) rfl;obtain⟨m,hn,hl⟩:=I3.loc;obtain⟨u,ru,l⟩:=hl j x v h4 f1 (by
    rcases a7 with z|z
    ·exact `h (`k `apo)
    ·exact `h (`h `apo))
   refine⟨u,ru,`h `FK⟩
   ·have q3:`apk:=wm0 `e' x
    rw[M] at q3;show `t5=_∨`t5=_;rw[q3]
    by_cases hcc:(`LL==`LL&&`acL&&`acM)=`c
    ·left;simp only[`cC,`H hcc]
    ·right;simp only[`cC,`P hcc]
   ·obtain⟨c',d1⟩:=hcl2 `TF (E8 M) rfl
    rcases l with⟨g4,_⟩|⟨_,c,f4,b4⟩
    ·have b1:`abm:=g4
     rw[hsc] at b1;rcases a7 with z|z<;>(rw[b1] at z;cases z)
    ·have:=hcl1 x c' d1
     rw[f4] at this;cases `x;obtain⟨o,ho,hd⟩:=b4;exact⟨_,d1,o,`app,hd⟩
  ·have e':`t0 x=`d9:=`apq
   obtain⟨v,o,ho,hd⟩:=I3.cell x c (hcl1 x c e');exact⟨v,o,`app,hd⟩
  ·subst F;exact I3.hok.fresh `bn
  ·have e':`t0 x=`d9:=`apq
   exact I3.freeC x c (hcl1 x c e')
  ·subst F;exact `apr
  ·subst F
   show _=`acB;rw[dv0,ok.len]
 have a6:X'.calm=`c:=by subst F;exact hc
 have O:∀{H':Hp},`rr->∀b∈fp,u10 X' [] H' b:=λ{H'} hn b hb=>by
  subst F;refine⟨hn b hb,`api,λhf=>?_,`xk,`apj,λp hp=>`apr⟩;rcases `apm with z|z
  ·exact`TG z
  ·exact(`i!).2.2.1 z
 have f8:∀b∈fp,H3 b=`b:=λb hb=>by rw[← hH3,d8 (g6 b hb)];exact(`i!).1
 have c0:tn 0 `eC:=T.keep _ _ _ st2 λb hb o e=>old b o `apf
 have loop:∀s4:`r,s4=`apn ->
   `i8 `ac X.A (.compLoop `kx 0 `hv `mO X'.env) (RR `mO `tJ) s4:=by
  rintro s4 rfl;refine gc0 (λk s'=>∃i ys H',Inv X' [] `fc H' s'/\`alI/\`rr/\W i k ys H') ?_ m0 ⟨0,[],H3,I4,c0,f8,w0⟩;rintro k s5 ⟨i,ys,H5,I5,b6,e6,w5⟩;have eP:X'.prog=`a9:=`xl
  have ew:X'.w=X.w:=`xl
  have eK:X'.K=X.K:=`xl
  have eA:X'.A=X.A:=`xl
  rcases b3 i k ys H5 w5 with⟨stop,qe⟩|⟨go,step⟩
  ·have T':=T.done X' eP ew eK a6 i [] s5 `fc H5 `lN I5 (O e6) b6 stop
   rw[eA] at T';refine thn T' λr s6 ⟨hr,I6⟩=>?_
   subst hr;have g7:Un (`wH) fp H3 H5 s3.heap s6.heap:=by have:=I6.base;subst F;exact `x
   have h7:s6.os=s3.os:=by have:=I6.os;subst F;exact `x
   have e8:HOk `a9 X.w H5 s6.heap:=by have:=I6.hok;subst F;exact `x
   have IX:Inv X `i σ H5 s6:=I3.call' h7 g7 e8 I6.bare λb hb=>⟨`apl,`TG,`acJ,(`i!).2.2.2.2.2⟩
   obtain⟨m6,g9,_⟩:=I6.loc;have e7:s6.heap.Ns `tJ m6:=by subst F;exact g9
   refine hend D `tJ H5 s6 m6 IX ⟨by have:=I6.free;subst F;exact `x,D8 I3.lt,I3.sz,`ak',`ak!⟩ e7 qe
   ·obtain⟨v,qc⟩:=I3.cell x c e
    exact `y (C7 qc.lt `aps) `i'
   ·exact `y (C7 (A7 (I3.pin p hp).1) `aps) `i'
  ·have T':=T.item X' eP ew eK a6 i [] s5 `fc H5 `lN I5 (O e6) b6 go
   rw[eA] at T';refine thn T' λr s6 ⟨u,hr,h6⟩=>?_
   subst hr;refine thn h6 λ_ s7 ⟨x,H7,I7,r7,y7,a5,g8⟩=>?_
   have h8:=I7.pinned (O g8) (`t4 _ _ a5);have c4:=hg s3 H3 fp;have b5:=ht s3 H3 fp;have c5:=he s3 H3 fp;rw[← F] at c4 b5 c5;have g1:=c4 _ s7 `fc H7 x u _ h8 r7 (`j0 x H7 y7);rw[eP,ew,eA] at g1;have a3:X'.xe=`Ai:=`xl
   rw[a3] at g1;refine thn g1 λ_ s8 ⟨σ8,H8,I8,a2,q8⟩=>?_
   have t1:=b5 _ s8 σ8 H8 _ I8 q8;rw[eP,ew,eA,a3] at t1;refine thn t1 λb s9 ⟨H9,I9,q9⟩=>?_
   have back:∀{σa:St} {Ha:Hp} {sa:`r} {b2:`K} {ma:Nat},Inv X' ([]++qi0 fp s7.heap) σa Ha sa->σa.length=`aoU->(∀(j:Nat) v,`fc[j]?=`o7->σa[j]?=`o7)->W `bM ma b2 Ha ->
     ∃i ys H',Inv X' [] `fc H' sa/\tn i sa.heap/\`rr/\W i ma ys H':=λ{σa Ha sa b2 ma} Ia hl hw wa=>by
    refine⟨i+1,b2,Ha,(Ia.weak hl.symm hw).unpinned,T.keep _ _ _ a5 λb hb o e=>(`apt).1,`fA,wa⟩;obtain⟨o,e,d⟩:=`t4 _ _ a5 b hb;exact(`apt).2.1
   cases b with
   | false =>
    rw[`cV];rw[`cV] at q9;obtain⟨m',hm,w9⟩:=q9;exact⟨m',hm,back I9 a2.1 a2.2 w9⟩
   | true =>
    rw[`aB];rw[`aB] at q9;have e1:=c5 _ s9 σ8 H9 _ I9 q9;rw[eP,ew,eA,a3] at e1;refine thn e1 λv f5 ⟨y,f9,h5,g5,e9,f0,m',hm,h3⟩=>?_
    have a1:=uo0 (X:=X') _ f5 σ8 f9 `mO [y] `mO [v] (λ_ H'=>W `bM m' (ys++[y]) H') h5 rfl (`ah g5 `L) ⟨D,ys,y,rfl,rfl,e9,f0,h3⟩;rw[eP,ew,eA,a3] at a1;refine thn a1 λ_ j0 ⟨_,i0,f3,_,f7⟩=>?_
    exact⟨m',hm,back f3 a2.1 a2.2 f7⟩
 subst F;exact codeAny_compStart_list (loop _ (`FH)) (T.self X.A 0 _ _ _ c0 (loop _ (`FH)))
theorem gr0(hc:`bz)(hsc:`iw)(ok:`rK)(hi:`Sn)
  (hg:`apu) (ht:`apv) (he:`apw)
  (hs:`g6:=by intro _;rfl) :
  PE X `kx (k30 n `cr wi g tt te):=by
 intro pins s σ H Q I h;obtain⟨cl,F,O,M⟩:=uq0 (env:=`B) (scope:=`cG) λx hx hf=>`RP x.1 (by
  rcases `apx with z|z
  ·exact `apy
  ·exact `apz)
 rw[eval_ListComp];refine Bo0 (use:=`b) rfl hs F `to ok.loc (thn `EQ λv s1 h1=>thn h1 λa0 s2 h2=>?_);obtain⟨it,fp,tn,J,H2,rfl,I2,T,Y,f2,q2⟩:=h2;refine le0 (Q:=Q) (RR:=λZ C=>compPost `ac X.A `az `b `fa Z C) hc hsc ok O M (hg cl) (ht cl) (he cl) I2 T Y f2 q2 ?_;intro D C H' s' m IX as hn qe;refine⟨m,hn,λh' sb=>⟨`ab D,H',IX.turned (t':=s'.toks) `abF as.1 as.2.1 (`h as.2.2.1) `TH `apA,rfl,qe⟩⟩
theorem em0{y:Str}{py spos:Pos}(hN:`eV)(hiN:`rL)(hy:`oc)(hc:`bz)(hsc:`iw)(ok:`rK)(hi:`Sn)
  (hg:`apu) (ht:`apv) (he:`apw)
  (hsw:`TI:=by rfl)
  (hs:`g6:=by intro _;rfl)
  (hf:`od:=by first|exact `a3|exact `b1|assumption) :
  PS X `adb (λD σ H=>k30 n `cr wi g tt te σ H `apB):=by
 intro pins s σ H D I h;obtain⟨cl,F,O,M⟩:=uq0 (env:=`B) (scope:=`cG) λx hx hf=>`RP x.1 (by
  rcases `apx with z|z
  ·exact `apy
  ·exact `apz)
 rw[exec_Assign_Name_used _ _ _ _ hsw];refine `TJ;show `l _ X.A (do let _ ← comprehension `kx `cG `B _ (newList []) `q (`bZ `i_ `B) (`TK)) _ _ s;refine A0 (D5 (Bo0 (use:=`TK) (Q:=`apC) rfl hs F `to ok.loc
  (thn `EQ λv s1 h1=>thn h1 λa4 s2 h2=>?_)) (λ_ s' hq=>A1 (A1 hq)) `RJ)
 obtain⟨it,fp,tn,J,H2,rfl,I2,T,Z,f2,q2⟩:=h2;refine le0 (Q:=`apB) (RR:=λa0 C=>compPost `ac X.A `az (`TK) (`apC) a0 C) hc hsc ok O M (hg cl) (ht cl) (he cl) I2 T Z f2 q2 ?_;intro Da C H' s' m IX as hn qe;show `l _ X.A (`fM (`px) `B (`ab Da)) _ _ _;refine `akZ (ln0 IX hN hiN hy (v:=`ab Da) rfl (λa1 a2 ⟨a,sb,ha⟩=>?_) hf);have Y:C≠a:=by
  rcases ha with z|z
  ·rw[z];exact as.2.1
  ·exact B4 (`TH y a z)
 refine⟨m,`akj sb Y,λh' a3=>⟨_,H',a2.turned (t':=a1.toks) (λb o hb e=>(a3.2 b hb).trans e) as.1 as.2.1 (`h as.2.2.1) `TH `apA,qe⟩⟩
universe zz
universe L2
namespace DL
open Spec PyProof.Rows
inductive D where
 | non|bl (b:`V)|int (i:Int)|str (x:Str)|tup (ds:`n)|lst (ds:`n)|dct (ks:Sum (`TL) (`T (`TL))) (ds:`n)|fn (ks:`TL) (ds:`n)
 deriving Inhabited
variable{l ds ns:`LU}{n' d0 b' dk' dv:DL.D}
@[simp] noncomputable def unl:D->D
 | `m [_,d]=>d
 | d=>d
@[simp] noncomputable def isL:`cD
 | `rM=>`c
 | _=>`q
inductive Sl where
 | un|sh (d:D)|ow (d:D)
 | ex (c:Str) (n:`bC)
abbrev Ds:=`T Sl
inductive Res where
 | nx (δ:Ds)|rt (d:D)|bk (δ:Ds)|ct (δ:Ds)|rf (d:D)
variable{g ge gb:`apD}{gt:`apE}{δ δ':`t7}{gi gA:`apF}
abbrev GE:=`bA
abbrev GB:=`fD
variable{g0 g1 g2:DL.GE}
abbrev GA:=`da
abbrev GS:=`g!
@[simp] noncomputable def asB:D->`An
 | `ce=>`ed
 | _=>`b
variable{G:DL.GS}
@[simp] noncomputable def asI:D->`bC
 | `aj=>`Fd
 | _=>`b
@[simp] noncomputable def gv(i:Nat):GE:=fun δ=>match `cv with
 | `L?=>`ar
 | _=>`b
@[simp] noncomputable def gc(d:D):GE:=λ_=>`ar
@[simp] noncomputable def o2(ga gb:GE)(f:`b?):GE:=fun δ=>`TM λx=>`TN λy=>f x y
@[simp] noncomputable def ob(g:GE):GB:=fun δ=>`db asB
@[simp] noncomputable def J3(g:GB):GB:=fun δ=>`rN (!·)
@[simp] noncomputable def N6(gt gu:GB):GB:=fun δ=>`Ar λt=>if `pz then gu δ else `bH
@[simp] noncomputable def J5(gt gu:GB):GB:=fun δ=>`Ar λt=>if `pz then `dv else gu δ
@[simp] noncomputable def ei0(ga gb:GE):GE:=fun δ=>(ob ga δ).bind λt=>if `pz then `eE else `FL
@[simp] noncomputable def ifG(gt:GB)(ga gb:GE):GE:=fun δ=>`Ar λt=>if `pz then `eD else `eE
@[simp] noncomputable def v7:GA:=λ_=>`jK
@[simp] noncomputable def z9(g:GE)(gA:GA):GA:=fun δ=>`db λd=>(`cg).map λds=>`av
@[simp] noncomputable def m7(gA:GA):GE:=fun δ=>`g? λds=>if `oe then `FM else `b
@[simp] noncomputable def Z7(gA:GA):GE:=fun δ=>`g? λds=>if `oe then `lP else `b
@[simp] noncomputable def oA(gA:GA)(f:`J):GE:=fun δ=>`g? f
@[simp] noncomputable def U7(f:`cD)(g:GE):GE:=fun δ=>`rN λd=>.bl (f d)
@[simp] noncomputable def wx0(d:D):`cs:=match d with
 | `aj=>`a (`d (-i))
 | _=>`b
@[simp] noncomputable def unG(f:`LV)(g:GE):GE:=fun δ=>`db f
@[simp] noncomputable def u6(G1 G2:GS):GS:=fun δ=>match `kz with
 | `a?=>`xm
 | r=>r
@[simp] noncomputable def p7:GS:=`apG
@[simp] noncomputable def Z0(g:GE):GS:=fun δ=>`rN .rt
@[simp] noncomputable def gN(i:Nat):`aJ:=λd δ=>`a `gV
@[simp] noncomputable def m8(f:`aJ)(g:GE):GS:=fun δ=>`db λd=>(`pB).map .nx
@[simp] noncomputable def ifD(gt:GB)(Ga Gb:GS):GS:=`apH
noncomputable def Y4(f:`aJ)(G:GS):`n->`g!
 | [],δ=>`Aq
 | `av,δ=>match (`pB).bind G with
  | `a?=>`apI
  | `ha=>`apI
  | `hb=>`a?
  | r=>r
@[simp] noncomputable def M8(gi:GA)(f:`aJ)(G:GS):GS:=fun δ=>`apJ λitems=>`TO
@[simp] noncomputable def n70:D->`ky
 | `ct=>`mR
 | _=>`b
@[simp] noncomputable def Xg0:D->`ky
 | `bO=>`mR
 | _=>`b
@[simp] noncomputable def ye0(g:GE):GA:=fun δ=>`db n70
@[simp] noncomputable def tupI(g:GE):GA:=fun δ=>`db Xg0
noncomputable def T9(lo hi:Int):`n:=(`cx `pf).map λk=>`d (lo+(k:Nat))
@[simp] noncomputable def ey0(ds:`n):`ky:=match ds with
 | [`cY]=>if `wW then `a (T9 0 j) else `b
 | _=>`b
@[simp] noncomputable def Wa0(ds:`n):`ky:=match ds with
 | `i2=>if `TP/\`wW then `a `aeB else `b
 | _=>`b
@[simp] noncomputable def Q6(gA:GA):GA:=fun δ=>`g? ey0
@[simp] noncomputable def d90(gA:GA):GA:=fun δ=>`g? Wa0
@[simp] noncomputable def noT:GB:=λ_=>`dv
@[simp] noncomputable def kb0:`FN->Sl
 | `L?=>`t8
 | _=>.un
@[simp] noncomputable def R8(n:Nat)(caps:`e)(δ:Ds):Ds:=`a! n .un++`apK
noncomputable def V1(f:`aJ)(gt:GB)(ge:GE)(δ:Ds):`TQ
 | []=>`jK
 | `av=>match `pB with
  | `b=>`b
  | `As=>match `xn with
   | `b=>`b
   | `bH=>`apL
   | `dv=>match `t' with
    | `b=>`b
    | `bm=>(`apL).map `TR
@[simp] noncomputable def V5(n:Nat)(caps:`e)(gi:GA)(f:`aJ)(gt:GB)(ge:GE):GE :=
 fun δ=>`apJ λitems=>if `xo then `apM `o else `b
@[simp] noncomputable def W9(N:`u)(ds:`n):Ds:=ds.map .sh++`a! (`w9 - `bN) .un
@[simp] noncomputable def isInt:`cD
 | `b!=>`c|`bD=>`c|_=>`q
@[simp] noncomputable def isStr:`cD
 | `bj=>`c|_=>`q
@[simp] noncomputable def isBool:`cD
 | `bD=>`c|_=>`q
@[simp] noncomputable def isTup:`cD
 | `rM=>`c|_=>`q
@[simp] noncomputable def Xk0:`cD
 | `ik=>`c|_=>`q
@[simp] noncomputable def ii(f:Int->Int->`cs):`b?
 | `aj,`cY=>f i j
 | _,_=>`b
@[simp] noncomputable def eg0:`b?:=ii λi j=>`a (`abW)
@[simp] noncomputable def Y9:`b?:=ii λi j=>if `EU then `apN else `b
@[simp] noncomputable def Z4:`b?:=ii λi j=>if 0<j then `apO else `b
@[simp] noncomputable def iz0:`b?:=ii λi j=>if `Sr then `a (`abZ) else `b
@[simp] noncomputable def ltD:`b?:=ii λi j=>`a (.bl (`Le))
@[simp] noncomputable def gtD:`b?:=ii λi j=>`a (.bl (`zI))
@[simp] noncomputable def eqS:D->D->`An
 | `w,`w=>`dv
 | `w,`b!=>`bH|`b!,`w=>`bH|`w,`bD=>`bH|`bD,`w=>`bH|`w,`bj=>`bH|`bj,`w=>`bH
 | `aj,`cY=>`TS
 | .bl i,.bl j=>`TS
 | `E i,`E j=>`TS
 | `b!,`bj=>`bH|`bj,`b!=>`bH|`bD,`bj=>`bH|`bj,`bD=>`bH
 | _,_=>`b
@[simp] noncomputable def eqD(x y:D):`cs:=`apP .bl
@[simp] noncomputable def neD(x y:D):`cs:=`apP λb=>.bl (!b)
@[simp] noncomputable def Q10:`cD
 | `w=>`c|_=>`q
@[simp] noncomputable def nc0(x y:D):`cs:=match y with
 | `w=>`a (.bl (Q10 x))
 | _=>`b
noncomputable def ixN(n:Nat)(i:Int):`xa:=`ant
noncomputable def atI{α:Type}(xs:`a5)(i:Int):`aD α:=`anu
@[simp] noncomputable def ixD:`b?
 | `cQ,`aj=>`tL
 | `d7,`aj=>`tL
 | `hC,`aj=>if `pl then (`anz).map λc=>`S3 else `b
 | _,_=>`b
noncomputable def sIx(n d:Nat):`amW
 | `b=>d
 | `aL=>`E9
noncomputable def cutD(xs:`n)(lo hi:`bC):`n:=(`o0 (`TT)).take (`apQ - `TT)
abbrev GO:=`FO
@[simp] noncomputable def V8:GO:=λ_=>`dw
@[simp] noncomputable def someO(g:GE):GO:=fun δ=>`db λd=>(asI d).map `a
@[simp] noncomputable def b7:`J
 | [`hC]=>if `pl then `a (`LB) else `b
 | [`cQ]=>`apR
 | [`d7]=>`apR
 | _=>`b
noncomputable def bools:`n->`aD (`rO)
 | []=>`jK
 | `ce::ds=>`apS λr=>b::r
 | _=>`b
@[simp] noncomputable def Zg0:`J
 | `xp=>`apS λbs=>`FP
 | _=>`b
noncomputable def qm0:`n->`aD (`u)
 | []=>`jK
 | `rF::ds=>(qm0 ds).map λr=>b::r
 | _=>`b
@[simp] noncomputable def k60(d:D)(ds:`n):`cs:=match d,ds with
 | `E sep,[`cQ]=>(qm0 xs).bind λys=>if `apT then `a `apU else `b
 | _,_=>`b
@[simp] noncomputable def p40(g:GE)(gA:GA):GE:=fun δ=>`db λd=>`g? λds=>k60 d ds
@[simp] noncomputable def R3:`J
 | `xp=>`FM
 | [`bO]=>`FM
 | _=>`b
theorem qf0{f:`aJ}{gt:GB}{ge:GE}(p:`cD)(h:D->D):∀{items:`n},(∀d∈`aK,∃δ',`TU/\`xn=`a (p d)/\(p d=`c->`apV)) ->
  `apW=`a ((items.filter p).map h)
 | [],_=>rfl
 | `av,H=>by
  obtain⟨δ',e1,e2,e3⟩:=H d B0;have ih:=qf0 p h λd hd=>H d (A8 _ hd)
  unfold V1;rw[e1];dsimp only;rw[e2];cases hp:p d with
  | false =>
   dsimp only;rw[List.filter_cons_of_neg (`TV)];exact ih
  | true =>
   dsimp only;rw[e3 hp,ih,List.filter_cons_of_pos hp];rfl
theorem zb0{f:`aJ}{gt:GB}{ge:GE}(h:D->D){items:`n}(H:∀d∈`aK,∃δ',`TU/\`xn=`dv/\`apV):`apW=`a (items.map h):=by
 have:=qf0 (f:=f) (gt:=gt) (ge:=ge) (δ:=δ) (λ_=>`c) h (items:=`aK) λd hd=>by
  obtain⟨δ',a,b,c⟩:=H d hd;exact⟨δ',a,b,λ_=>c⟩
 rw[List.filter_eq_self.mpr `S] at this;exact `x
theorem strs_map(h:α->Str):∀l:`a5,`apX=`a (`dJ h)
 | []=>rfl
 | a::l=>by
  show (`apX).map (λr=>h a::r)=_;rw[strs_map h l];rfl
theorem zz0{f:`aJ}(P:Nat->Ds->Prop):∀(items:`n) (i:Nat) (δ:Ds),(∀j d δ,`aK[j]?=`ar->P (i+j) δ->∃δ1 δ2,`apY/\`apZ/\P (i+j+1) δ2)->P i δ ->
  ∃δ',`TO=`a?/\P (i+`gE) δ'
 | [],i,δ,_,h=>⟨δ,rfl,h⟩
 | `av,i,δ,H,h=>by
  obtain⟨δ1,δ2,e1,e2,h2⟩:=H 0 d δ rfl h;obtain⟨δ',e3,h3⟩:=zz0 P ds `bM δ2 (λj d δ hj hp=>by
   have q:i+`gW=i+1+j:=`p
   obtain⟨a,b,c,d',e⟩:=H `gW d δ (`FQ) (by rw[q];exact hp);exact⟨a,b,c,d',by rw[q] at e;exact e⟩) h2
  have q:i+`TW=i+1+`bN:=`ap_
  refine⟨δ',?_,by rw[q];exact h3⟩;unfold Y4;rw[e1];simp only[`j,e2];exact e3
theorem Si0{G1 G2:GS}(h:`TX):`FR=`xm:=`TY
theorem o8{G1 G2:GS}{d:D}(h:`kz=`ul):`FR=`ul:=`TY
theorem Z2{g:GE}{d:D}(h:`ix):Z0 g δ=`ul:=by unfold Z0;rw[h];rfl
theorem j6{g:GE}{d:D}(h:`ix):m8 `Mq g δ=`a (.nx `gV):=by unfold m8;rw[h];rfl
theorem U4{g:GB}{Ga Gb:GS}(h:`ay=`dv):`ap0=Ga δ:=`ap1
theorem Z3{g:GB}{Ga Gb:GS}(h:`ay=`bH):`ap0=Gb δ:=`ap1
theorem U3{gi:GA}{f:`aJ}{gt:GB}{ge:GE}{items out:`n}(h1:`pA=`a `aK)(h2:`xo)(h3:`LZ=`a out):`ap2=`a (`o out):=by
 unfold V5;rw[h1];show (if `xo then `apM `gR else `b)=_;rw[`H h2,h3];rfl
theorem T8{gi:GA}{f:`aJ}{items:`n}{r:`py}(h1:`pA=`a `aK)(h2:`TO=r):M8 gi f G δ=r:=by
 unfold M8;rw[h1];exact h2
theorem cons_of{g:GE}{gA:GA}{d:D}(h1:`ix)(h2:`lQ):z9 g gA δ=`a `FS:=by unfold z9;rw[h1,h2];rfl
theorem o7{gA:GA}{f:`J}(h:`lQ):oA gA f δ=f ds:=by unfold oA;rw[h];rfl
theorem o4{ga gb:GE}{x y:D}{f:`b?}(h1:`eD=`bd)(h2:`eE=`bm):`ap3=f x y:=by unfold o2;rw[h1,h2];rfl
theorem Uq0{g:GE}{gA:GA}{x:D}(h1:`ay=`bd)(h2:`lQ):p40 g gA δ=k60 x ds:=by unfold p40;rw[h1,h2];rfl
theorem Z70{f:`aJ}{d:D}{δ1 δ2:Ds}(h1:`apY)(h2:`apZ):Y4 f G `FS δ=Y4 f G ds δ2:=by
 conv=>lhs;unfold Y4
 rw[h1];simp only[`j,h2]
theorem za0{xs:`a5}{i:Int}(h0:`gC)(h1:`Fj)(d:α):`tL=`a (xs.getD `eb d):=by
 unfold atI ixN;rw[`H h0,`SY];show xs[i.toNat]?=_;have:`eb<xs.length:=`p
 simp[`bI,`x]
universe DL
variable{l ds ns:`LU}{g ge gb:`apD}{n' d0 b' dk' dv:DL.D}{gt:`apE}{δ δ':`t7}{G:DL.GS}{gi gA:`apF}{g0 g1 g2:DL.GE}
namespace DL
open Spec PyProof.Rows L2
abbrev BS:=`f->Prop
abbrev St:=L2.St
variable{B B' B₀:DL.BS}
structure NB(o:`rf):Prop where
 ne:o≠`b
 nf:∀ob u,o=`Ri->∃xs,u=`cQ
 nt:∀xs,o≠`iR
instance{o:`rf}:`dZ (NB o) (λ_=>o=`b->`bB):=⟨λh e=>h.ne e⟩
theorem NB.of{o:`rf}{u:HO}(h:o=`a2)(n:∀ob u',u≠`aa!)(t:∀xs,u≠`d7):NB o:=by
 subst h;exact⟨`ap4,λob u' z=>`y (A2 z) (n ob u'),λxs z=>t xs (A2 z)⟩
theorem NB.keep(q:`xq)(h:`gG):NB (H' a):=by
 cases e:H a with
 | none=>exact `y e h.ne
 | some o=>rw[q o e,← e];exact h
theorem NB.same(q:`aT)(h:`gG):NB (H' a):=h.keep λo e=>q a o e
noncomputable def SqT'(K:`D)(H:Hp)(B:BS)(a:`f)(xs:`K):Prop:=`pC/\H a=`iR
noncomputable def SqL'(K:`D)(H:Hp)(B:BS)(a:`f)(xs:`K):Prop:=(`ap5)∨`bB
theorem SqT'.to(h:`Au):`j_:=`k (`k h.2)
theorem SqL'.at(h:`Av):`ap5:=`iq id `i3
theorem SqL'.to(h:`Av):`gz:=`k h.at.2
noncomputable def Gr(H H':Hp)(B B':BS):Prop:=∀b o,¬B b->H b=`_->¬B' b/\`gp=`_
theorem SqT'.mono(g:`d_)(h:`Au):SqT' K H' B' a xs:=`ap6
theorem SqL'.mono(g:`d_)(h:`Av):SqL' K H' B' a xs:=by
 obtain⟨n,h|⟨o,h⟩⟩:=`qv
 ·exact `k ⟨(`FT).1,`k (`FT).2⟩
 ·exact `k ⟨(`FT).1,`h ⟨o,(`FT).2⟩⟩
theorem Gr.same(s:`aT):`ap7:=λb o n h=>⟨n,s b o h⟩
theorem Gr.less(h:`rP):Gr H H B B':=λb o n e=>⟨λz=>n (h b z),e⟩
abbrev KS:=Sum (`de) (`TZ)
noncomputable def dOb:KS->`K->HO
 | `mT,xs=>`Ay
 | `lR,xs=>`T_
noncomputable def dLn:KS->Nat
 | `mT=>`pD
 | `lR=>`pD
noncomputable def Qj0(fd:`f')(x y:Str)(c cd:`f):Prop :=
 ∃p1 p2 p3,fd.body=.expr (`mw (`bK x p1) (`bK y p2) p3)/\fd.scope.isCoroutine=`q/\fd.scope.isGenerator=`q/\fd.scope.kind=`ks/\`ap8 y=`iU/\`ap8 x=`hu /\
  (∀z∈fd.scope.names,z.2≠`o5)/\fd.closure=[(x,c)]/\fd.code=`ab cd/\fd.globals=`b4/\`bt/\`ga/\`T0 /\
  ∀u:`A,`nW fd `LF=`bg [(y,u)]
noncomputable def rk(n:Nat):`de:=(`cx n).map `ap9
noncomputable def TelO(K:`D)(H:Hp)(B:BS)(p:`f)(kvs:`uL):Prop:=(¬B p/\`Ny)∨∃xs,SqL' K H B p xs/\kvs=(rk `ae).zip xs
theorem TelO.mono{p:`f}(g:`d_)(h:`ap'):TelO K H' B' p kvs:=by
 rcases h with h|⟨xs,h,e⟩
 ·exact `k (`ap6)
 ·exact `h ⟨xs,h.mono g,e⟩
noncomputable def FnAtH(K:`D)(H:Hp)(B:BS)(f:`f)(kvs:`uL):Prop :=
 ∃(oF oC oK:Obj) (fd:`f') (c cd p:`f) (x y:Str),(¬B f/\H f=`a (`gr oF (`hm f)))/\(oF.cls=`zg/\oF.data=`n8 fd/\Qj0 fd x y c cd)/\(¬B c/\H c=`a (`gr oC (`hm c)))/\oC.data=`o5 `MS /\
  (¬B cd/\H cd=`a (`gr oK (`hm cd)))/\(∃vs t,oK.data=`Eg/\vs[1]?=`a (`E fd.qualname t))/\`ap'
theorem FnAtH.mono{f:`f}(g:`d_)(h:FnAtH K H B f kvs):FnAtH K H' B' f kvs:=by
 obtain⟨oF,oC,oK,fd,c,cd,p,x,y,⟨b1,h1⟩,a,⟨b2,h2⟩,e,⟨b3,h3⟩,q,h4⟩:=h;exact⟨oF,oC,oK,fd,c,cd,p,x,y,g _ _ b1 h1,a,g _ _ b2 h2,e,g _ _ b3 h3,q,h4.mono g⟩
mutual
noncomputable def Rp(K:`D)(H:Hp)(B:BS):D->V->Prop
 | `w,v=>`nr
 | `ce,v=>v=`ce
 | `aj,v=>`rg
 | `bY,v=>`Ee
 | `bO,v=>`ap!
 | `ct,v=>`ap?
 | `j',v=>`aqa
 | `rQ,v=>`aqb
noncomputable def Rps(K:`D)(H:Hp)(B:BS):`aqc
 | [],xs=>`n0
 | `av,xs=>`aqd
end
mutual
theorem Rp.mono(g:`d_):∀{d:D} {v:V},`cp->`aqe
 | `w,_,h=>`FU
 | `bD,_,h=>`FU
 | `b!,_,h=>`FU
 | `bj,_,h=>`FU
 | `bO,_,h=>by
  unfold Rp at h ⊢;obtain⟨a,xs,e,q,r⟩:=h;exact`aqf
 | `ct,_,h=>by
  unfold Rp at h ⊢;obtain⟨a,xs,e,q,r⟩:=h;exact`aqf
 | `j',_,h=>by
  unfold Rp at h ⊢;obtain⟨a,xs,e,n,q,l,r⟩:=h;exact⟨a,xs,e,(g _ _ n q).1,(g _ _ n q).2,l,`L4⟩
 | `rQ,_,h=>by
  unfold Rp at h ⊢;obtain⟨a,xs,e,q,l,r⟩:=h;exact⟨a,xs,e,q.mono g,l,`L4⟩
theorem Rps.mono(g:`d_):∀{ds:`n} {xs:`K},`aqg
 | [],_,h=>by unfold Rps at h ⊢;exact h
 | `av,_,h=>by
  unfold Rps at h ⊢;obtain⟨x,r,e,h1,h2⟩:=h;exact⟨x,r,e,`L7 g h1,`L3 g h2⟩
end
section
variable{v:V}
theorem U8:Rp K H B `w v=(`nr):=`FV
theorem W6{b:`V}:Rp K H B `pc v=(v=`ce):=`FV
theorem n8{i:Int}:Rp K H B `dj v=(`rg):=`FV
theorem X5:Rp K H B `jU v=(`Ee):=`FV
theorem W4:Rp K H B `t9 v=`ap!:=`FW
theorem X7:Rp K H B `Ap v=`ap?:=`FW
theorem vv0{ks:KS}:Rp K H B (`j') v=`aqa:=`FW
theorem ee0{ks:`de}:Rp K H B (`rQ) v=`aqb:=`FW
theorem ix0{ks:`de}:Rp K H B `p6 v=∃a xs,`e1/\`pC/\H a=`a (`Ay)/\`L0:=vv0
theorem ml0{ks:`TZ}:Rp K H B (`aP (`lR) ds) v=∃a xs,`e1/\`pC/\H a=`a (`T_)/\`L0:=vv0
theorem m9:Rps K H B [] xs=(`n0):=by unfold Rps;rfl
theorem o9{d:D}:Rps K H B `FS xs=`aqd:=by conv=>lhs;unfold Rps
theorem Rps.length:∀{ds:`n} {xs:`K},`a4->`ae=`bN
 | [],_,h=>by rw[m9] at h;subst h;rfl
 | `av,_,h=>by
  rw[o9] at h;obtain⟨x,r,rfl,_,h2⟩:=h;simp[Rps.length h2]
theorem Rps.get:∀{ds:`n} {xs:`K} {i:Nat} {d:D},`a4->`aqh->∃x,`mz/\`uc
 | [],_,_,_,_,e=>`Ea
 | `av,_,0,d',h,e=>by
  rw[o9] at h;obtain⟨x,r,rfl,h1,_⟩:=h;simp at e;subst e;exact`FX
 | `av,_,i+1,d',h,e=>by
  rw[o9] at h;obtain⟨x,r,rfl,_,h2⟩:=h;obtain⟨y,e1,e2⟩:=Rps.get (i:=i) h2 `lu;exact⟨y,`T1,e2⟩
theorem Rps.snoc:∀{ds:`n} {xs:`K} {d:D} {x:V},`a4->`uc->Rps K H B (ds++[d]) (`va)
 | [],_,_,_,h,r=>by
  rw[m9] at h;subst h;rw[`ie,`ie,o9];exact⟨_,[],rfl,r,`jg⟩
 | `av,_,_,_,h,r=>by
  rw[o9] at h;obtain⟨y,t,rfl,h1,h2⟩:=h;rw[`c?,`c?,o9];exact⟨y,_,rfl,h1,`m' h2 r⟩
theorem Rps.append:∀{ds es:`n} {xs ys:`K},`a4->Rps K H B es ys->Rps K H B (ds++es) `z_
 | [],_,_,_,h,r=>by rw[m9] at h;subst h;exact r
 | `av,_,_,_,h,r=>by
  rw[o9] at h;obtain⟨y,t,rfl,h1,h2⟩:=h;rw[`c?,`c?,o9];exact⟨y,_,rfl,h1,`aqi h2 r⟩
theorem Rps.drop:∀{ds:`n} {xs:`K} (n:Nat),`a4->Rps K H B (ds.drop n) `Q9
 | _,_,0,h=>h
 | [],_,n+1,h=>by rw[m9] at h;subst h;simpa [m9]
 | `av,_,n+1,h=>by
  rw[o9] at h;obtain⟨y,t,rfl,h1,h2⟩:=h
  simpa using Rps.drop n h2
theorem Rps.take:∀{ds:`n} {xs:`K} (n:Nat),`a4->Rps K H B (ds.take n) `Eb
 | _,_,0,h=>`T2
 | [],_,n+1,h=>`FY
 | `av,_,n+1,h=>by
  rw[o9] at h;obtain⟨y,t,rfl,h1,h2⟩:=h;rw[`rR,`rR,o9];exact⟨y,_,rfl,h1,Rps.take n h2⟩
theorem Rps.same(s:`aT)(h:`a4):Rps K H' B ds xs:=`L3 `pG h
theorem Rp.same{d:D}{v:V}(s:`aT)(h:`cp):`Ma:=`L7 `pG h
universe zz
noncomputable def RpO(K:`D)(H:Hp)(B:BS)(d:D)(a:`f):Prop:=match d with
 | `ct=>∃xs,H a=`tM/\`a4
 | `j'=>∃xs,`acV
 | _=>`bB
theorem RpO.same{d:D}(s:`aT)(h:`hc):RpO K H' B d a:=by
 cases d<;>try exact `iq
 ·obtain⟨xs,e,r⟩:=h;exact⟨xs,`FZ,`F_⟩
 ·obtain⟨xs,e,l,r⟩:=h;exact⟨xs,`FZ,l,`F_⟩
theorem RpO.rp{d:D}(l:`rP)(n:¬`mS)(h:`hc):Rp K H B' d `dc:=by
 cases d<;>try exact `iq
 ·obtain⟨xs,e,r⟩:=h
  rw[X7];exact⟨a,xs,rfl,`k ⟨n,`pS⟩,`cu (`eI l)⟩
 ·obtain⟨xs,e,q,r⟩:=h
  rw[vv0];exact⟨a,xs,rfl,n,e,q,`cu (`eI l)⟩
theorem RpO.live{d:D}(h:`hc):`gG:=by
 cases d<;>try exact `iq
 ·obtain⟨xs,e,r⟩:=h;exact .of e `aqj λ_=>λz=>nomatch z
 ·obtain⟨xs,e,q,r⟩:=h;refine .of e (λ_ _ z=>?_) λ_ z=>?_<;>(unfold dOb at z;split at z<;>cases z)
mutual
noncomputable def toT:D->`aD `me
 | `w=>`qV
 | `aj=>`RW
 | `bY=>`a `jU
 | `bO=>`aqk `m
 | _=>`b
noncomputable def Zo0:`n->`aD (`Ra)
 | []=>`jK
 | `av=>(toT d).bind λt=>`aqk λl=>`lr
end
noncomputable def RpX(K:`D)(H:Hp)(B:BS)(ks vs:`n)(a:`f):Prop:=∃ts xs,Zo0 ks=`a ts/\H a=`a (.dX (ts.zip xs))/\ts.length=`ae/\Rps K H B vs xs
noncomputable def yx0:`n->`xa
 | [`bY,`aj]=>if x = "@" then `Ly else `b
 | _=>`b
mutual
noncomputable def RpN(K:`D)(H:Hp)(B:BS)(as:`b6):D->V->Prop
 | `w,v=>`nr
 | `ce,v=>v=`ce
 | `aj,v=>`rg
 | `bY,v=>`Ee
 | `bO,v=>`aql
 | d,v=>`cp
noncomputable def RpNs(K:`D)(H:Hp)(B:BS)(as:`b6):`aqc
 | [],xs=>`n0
 | `av,xs=>`aqm
end
mutual
theorem RpN.mono(g:`d_)(l:`aqn):∀{d:D} {v:V},`lS->RpN K H' B' as' d v
 | `w,_,h=>`F0
 | `bD,_,h=>`F0
 | `b!,_,h=>`F0
 | `bj,_,h=>`F0
 | `bO,_,h=>by
  unfold RpN at h ⊢;rcases h with⟨k,a,e,q,r⟩|⟨n,a,xs,e,q,r⟩
  ·exact `k ⟨k,a,e,l k a q,r⟩
  ·exact `h ⟨n,a,xs,e,q.mono g,`T3 g l r⟩
 | `ct,_,h=>`T4
 | `j',_,h=>`T4
 | `rQ,_,h=>`T4
theorem RpNs.mono(g:`d_)(l:`aqn):∀{ds:`n} {xs:`K},`gF->`mU K H' B' as' ds xs
 | [],_,h=>by unfold RpNs at h ⊢;exact h
 | `av,_,h=>by
  unfold RpNs at h ⊢;obtain⟨x,r,e,h1,h2⟩:=h;exact⟨x,r,e,RpN.mono g l h1,`T3 g l h2⟩
end
theorem vo0{F G:`ij}(h:`Rh):`aqo
 | _,_,`L=>`L
 | _,_,`eS=>`ah (h _ _ r) (vo0 h t)
noncomputable def NodeOk(K:`D)(H:Hp)(B:BS)(as:`b6)(n:D)(so:`cN):Prop:=match n with
 | `ct=>∃xs,so=`cQ/\`gF
 | `L5=>`aqp
 | `m [`qu,`o fs,`ct]=>∃C dx ns xs,so=.ins C dx (List.zip ns xs)/\fs=`gA `E/\`pr=`ae/\`aqq/\dx∉as/\`gF
 | _=>`bB
theorem NodeOk.mono(g:`d_){n:D}(h:`T5):`kB K H' B' as n so:=by
 unfold NodeOk at h ⊢;split at h
 ·obtain⟨xs,e,r⟩:=h;exact⟨xs,e,`T6⟩
 ·obtain⟨xs,e,l,r⟩:=h;exact⟨xs,e,l,`T6⟩
 ·obtain⟨C,dx,ns,xs,e,f,l,c,q,r⟩:=h;exact⟨C,dx,ns,xs,e,f,l,c,q,`T6⟩
 ·exact `iq
structure RpW(K:`D)(H:Hp)(B:BS)(ns:`n)(a:`f)(as:`b6)(sos:`rS):Prop where
 hd:`aqr
 nd:`xr
 at':H a=`a `aqs
 own:∀b∈as,b=a∨(¬B b/\`zo)
 len:`F1
 all:`bp (`kB K H B as) ns sos
 ins:`T7
noncomputable def RpD(K:`D)(H:Hp)(B:BS)(ns:`n)(a:`f):Prop:=∃as sos,`iy
theorem RpD.mono(s:`xq)(g:`d_)(h:`L'):RpD K H' B' ns a:=by
 obtain⟨as,sos,h⟩:=h;exact⟨as,sos,h.hd,`d0,s _ `xs,λb hb=>`Pr id λz=>g b _ z.1 z.2,`dt,vo0 (λ_ _ r=>`m_) h.all,h.ins⟩
theorem RpD.live(h:`L'):`gG:=by
 obtain⟨as,sos,h⟩:=h;exact .of `xs `rT λ_ z=>nomatch z
noncomputable def RpG(K:`D)(H:Hp)(B:BS)(d:D)(a:`f):Prop:=match d with
 | `T8=>`aqt
 | d=>`hc
theorem RpO.toG{d:D}(h:`hc):`lT:=by
 cases d with
 | tup es=>exact`T9
 | _=>exact h
theorem RpG.toO{d:D}(n:`AK)(h:`lT):`hc:=by
 cases d with
 | tup es=>cases n
 | _=>exact h
theorem RpG.same{d:D}(s:`aT)(h:`lT):RpG K H' B d a:=by
 cases d with
 | tup es=>obtain⟨x,ns,e,r⟩:=h;exact`aqu
 | _=>exact(RpO.same s `F2).toG
theorem RpG.live{d:D}(h:`lT):`gG:=by
 cases d with
 | tup es=>obtain⟨x,ns,e,r⟩:=h;exact `og
 | _=>exact RpO.live `F2
theorem RpO.plain{d:D}(h:`hc):`T':=by
 intro o ys z;cases d with
 | lst ds=>obtain⟨xs,e,r⟩:=h;rw[e] at z;cases z
 | dct ks ds =>
  obtain⟨xs,e,r⟩:=h;rw[e] at z;unfold dOb at z;split at z<;>cases z
 | _=>exact`T9
theorem RpG.plain{d:D}(h:`lT):`T':=by
 cases d with
 | tup es=>obtain⟨x,ns,e,as,sos,r⟩:=h;intro o xs z;rw[r.at'] at z;cases z
 | _=>exact RpO.plain `F2
noncomputable def RpL(K:`D)(H:Hp)(B:BS)(d:D)(a:`f):Prop:=match d with
 | `T8=>(∃d',es=[`k0,d']/\RpG K H B d' a)∨(∃ks vs,es=[`o ks,`hY]/\RpX K H B ks vs a)∨`aqt
 | d=>`hc
theorem RpO.toL{d:D}(h:`hc):`jc:=by
 cases d with
 | tup es=>exact`T9
 | _=>exact h
theorem RpL.toO{d:D}(n:`AK)(h:`jc):`hc:=by
 cases d with
 | tup es=>cases n
 | _=>exact h
theorem RpG.toL{d:D}(h:`lT):`jc:=by
 cases d with
 | tup es=>exact `h (`FF)
 | _=>exact h
theorem RpL.same{d:D}(s:`aT)(h:`jc):`aqv:=by
 cases d with
 | tup es =>
  rcases h with⟨d',q,r⟩|⟨ks,vs,q,ts,xs,q1,e,q2,r⟩|⟨x,ns,e,r⟩
  ·exact `k ⟨d',q,`F_⟩
  ·exact `h (`k ⟨ks,vs,q,ts,xs,q1,`FZ,q2,`F_⟩)
  ·exact `h (`h `aqu)
 | _=>exact(RpO.same s `xt).toL
theorem RpL.live{d:D}(h:`jc):`gG:=by
 cases d with
 | tup es =>
  rcases h with⟨d',q,r⟩|⟨ks,vs,q,ts,xs,q1,e,q2,r⟩|⟨x,ns,e,r⟩
  ·exact `og
  ·exact .of e `aqj λ_=>λz=>nomatch z
  ·exact `og
 | _=>exact RpO.live `xt
theorem RpL.plain{d:D}(h:`jc):`T':=by
 cases d with
 | tup es =>
  rcases h with⟨d',q,r⟩|⟨ks,vs,q,ts,xs,q1,e,q2,r⟩|⟨x,ns,_,as,sos,r⟩
  ·exact r.plain
  ·intro o ys z;rw[e] at z;cases z
  ·intro o xs z;rw[r.at'] at z;cases z
 | _=>exact RpO.plain `xt
noncomputable def Pm0(a C:`f)(od:`cT):`oU:=λh=>∃oe,`hj=`a oe/\oe.cls=`ab C/\(∀dx,od=`a dx->oe.dict=`a dx)/\∃vs,oe.data=`Eg
noncomputable def Pe0(H:Hp)(B:BS)(od:`cT):`bC->Prop
 | `b=>`fw
 | `tU=>∃dx,od=`a dx/\¬B dx/\H dx=`a (.xd [("at",`rU)])
noncomputable def XcR(K:`D)(H:Hp)(B:BS)(c:Str)(n:`bC)(a:`f):Prop:=∃C od,`pC/\H a=`a (.ext (Pm0 a C od))/\`aqq/\Pe0 H B od n
theorem XcR.mono{c:Str}{n:`bC}(g:`d_)(h:`aqw):XcR K H' B' c n a:=by
 obtain⟨C,od,h1,h2,h3,h4⟩:=h;refine⟨C,od,(`aqx).1,(`aqx).2,h3,?_⟩;cases n with
 | none=>trivial
 | some n=>obtain⟨dx,e,q1,q2⟩:=h4;exact⟨dx,e,(`aqy).1,(`aqy).2⟩
noncomputable def SlR(K:`D)(H:Hp)(B:BS)(o:`dh):Sl->Prop
 | .un=>`fw
 | `t8=>∃v,o=`aL/\`cp
 | `uo=>∃a,o=`pH/\`aqz
 | .ex c n=>∃a,o=`pH/\`aqw
theorem Pd.get{F:`ij}:∀{l:`a5} {m:`jb} {i:Nat} {b:β},`mV->`T!->∃a,`xu/\`ta
 | _,_,_,_,`L,e=>`Ea
 | _,_,0,_,`Q5,e=>`Q6
 | _,_,i+1,b,`lt,e=>by
  obtain⟨u,h1,h2⟩:=`ud (i:=i) (b:=b) t `lu;exact`Q7
theorem Pd.imp{F G:`ij}(h:`Rh):`aqo
 | _,_,`L=>`L
 | _,_,`eS=>`ah (h _ _ r) (`kG h t)
theorem Pd.set{F:`ij}{a:α}{b:β}(r:`ta):∀{l:`a5} {m:`jb} (i:Nat),`mV->`bp F (`T?) `aqA
 | _,_,_,`L=>`L
 | _,_,0,`lt=>`eS
 | _,_,i+1,`ah q t=>`ah q (`oh r i t)
theorem Pd.len{F:`ij}:∀{l:`a5} {m:`jb},`mV->`cS=`wt
 | _,_,`L=>rfl
 | _,_,`lt=>by simp[Pd.len t]
theorem Pd.app{F:`ij}:∀{l l':`a5} {m m':`jb},`mV->`bp F l' m'->`bp F (l++l') (m++m')
 | _,_,_,_,`L,s=>s
 | _,_,_,_,`eS,s=>`ah r (`pO t s)
structure Env(K:`D)(H:Hp)(B:BS)(σ:St)(δ:Ds):Prop where
 all:`aqB
 bad:`pI
 own:∀(i j:Nat) (a:`f) (ds es:D),`ac5->`mQ=`aqC->`hJ->`pw=`ac0->i=j
section
variable{σ σ':St}
theorem SlR.same{o:`dh}{s:Sl}(q:`aT)(h:`aqD):SlR K H' B o s:=by
 cases s with
 | un=>trivial
 | sh d=>obtain⟨v,e,r⟩:=h;exact⟨v,e,`Aw q⟩
 | ow d=>obtain⟨a,e,b,r⟩:=h;exact⟨a,e,b,`Aw q⟩
 | ex c n=>obtain⟨a,e,r⟩:=h;exact⟨a,e,`cu (`L6 q)⟩
theorem Env.same(q:`aT)(e:`bc):Env K H' B σ δ :=
 ⟨`kG (λ_ _ h=>`F3 q) `fS,(λa b=>(`hR a b).same q),`kC⟩
theorem Env.free(e:`bc){p:`f}(h:`cH):¬B p:=λz=>`hR p z h
theorem Env.get(e:`bc){d:D}(h:`aqE):∃v,`Eo/\`cp:=by
 obtain⟨o,h1,v,rfl,r⟩:=`aqF;exact⟨v,h1,r⟩
theorem Env.set(e:`bc)(i:Nat){d:D}{v:V}(r:`cp):Env K H B `pa `gV:=by
 refine⟨`oh `aqG i `fS,`hR,`MU⟩;have hj:j≠i:=by
  rintro rfl
  by_cases hl:`aqH
  ·rw[`F4] at h1;cases h1
  ·rw[`F5] at h1;cases h1
 have hk:k≠i:=by
  rintro rfl
  by_cases hl:k<δ.length
  ·rw[`F4] at h2;cases h2
  ·rw[`F5] at h2;cases h2
 rw[`RO] at h1 h3;rw[`gt (B4 hk)] at h2 h4;exact `F6
universe zz
theorem X3{p:`f}{o:HO}(h:`cH)(hz:`aqI:=by intro _ _ z;cases z):`c0 H `Ua:=⟨λb u e=>by rw[d8 (Y7 e h)];exact e,λb ob xs e=>by
 by_cases z:b=p
 ·subst z
  rw[j8] at e;exact `aqJ
 ·rw[d8 z] at e;exact e⟩
noncomputable def tD(K:`D)(B:BS)(δ:Ds)(g:`bA):TE:=fun σ H Q=>∃d,`bc/\`ix/\`F7
structure PD(X:Cx)(e:`z)(g:`bA):Prop where
 mk::go:`aqK
instance{X:Cx}{e:`z}{g:`bA}:`dZ (`bU) (λ_=>`aqK):=⟨PD.go⟩
noncomputable def tDT(K:`D)(B:BS)(δ:Ds)(g:`fD):TT:=fun σ H Q=>∃b,`bc/\`ay=`ed/\∀H',`aT->Q b H'
structure PTD(X:Cx)(e:`z)(g:`fD):Prop where
 mk::go:`aqL
instance{X:Cx}{e:`z}{g:`fD}:`dZ (PTD X e g) (λ_=>`aqL):=⟨PTD.go⟩
structure PWD(X:Cx)(e:`z)(g:`fD):Prop where
 mk::go:`aqM
instance{X:Cx}{e:`z}{g:`fD}:`dZ (PWD X e g) (λ_=>`aqM):=⟨PWD.go⟩
noncomputable def tDA(K:`D)(B:BS)(δ:Ds)(g:`da):TA:=fun σ H Q=>∃ds,`bc/\`ay=`mR/\∀vs H',`aT->Rps K H' B ds vs->Q vs H'
structure PDA(X:Cx)(es:`b2)(g:`da):Prop where
 mk::go:`aqN
instance{X:Cx}{es:`b2}{g:`da}:`dZ (PDA X es g) (λ_=>`aqN):=⟨PDA.go⟩
theorem ba0{d:D}{b:`V}(h:asB d=`ed):d=`ce:=by
 cases d<;>simp[asB] at h
 subst h;rfl
noncomputable def Op2(K:`D)(r:R2)(f:`b?):Prop:=∀(H:Hp) (B:BS) (x y:V) (dx dy d:D) (Q:VK),`xv->`Ub->`aqO->f dx dy=`ar->(`F7)->`zJ
noncomputable def FnR(K:`D)(r:`e!)(f:`J):Prop:=∀(H:Hp) (B:BS) (xs:`K) (ds:`n) (d:D) (Q:VK),`xv->`a4->`oi->(`F7)->`ER
section
variable{a c:`z}{ga:`bA}{gu:`fD}{rest:`b2}
theorem _root_.L2.PE.imp{t t':TE}(h:PE X e t)(q:`F8):PE X e t':=`aqP
theorem _root_.L2.PT.imp{t t':TT}(h:PT X e t)(q:`F8):PT X e t':=`aqP
theorem _root_.L2.PW.imp{t t':TT}(h:PW X e t)(q:`F8):PW X e t':=λw pins s σ H Q I z=>h w `i s σ H Q I `Mc
theorem _root_.L2.PA.imp{t t':TA}(h:`EZ)(q:`F8):PA X es t':=λp pins s σ H Q I z=>h p `i s σ H Q I `Mc
theorem Rq0{d:D}(h:gv i δ=`ar):`aqE:=by
 unfold gv at h;split at h
 ·cases h;assumption
 ·cases h
theorem v4(i:Nat)(hN:`cn:=by rfl)(hv:`fz:=by first|exact `bE|exact `gh|exact `gi)(hd:`bt:=by decide)
  (hcd:`ga:=by decide):PD X `mq (gv i):=.mk λB δ=>`aqQ fun σ H Q ⟨d,en,h,k⟩=>by
 obtain⟨v,e,r⟩:=en.get (Rq0 h);exact⟨v,e,k v H `c1 r⟩
theorem u9{i:Int}:PD X (`lz `dj j pos) (gc `dj):=.mk λB δ=>Th0.imp fun σ H Q ⟨d,en,h,k⟩=>by cases h;exact `p4
theorem ss0{i:`V}:PD X (`lz (`cd i) j pos) (gc (.bl i)):=.mk λB δ=>Qg0.imp fun σ H Q ⟨d,en,h,k⟩=>by cases h;exact `Mw
theorem J2:PD X (`lz `aE j pos) `fY:=.mk λB δ=>S50.imp fun σ H Q ⟨d,en,h,k⟩=>by cases h;exact k _ H `c1 `F9
theorem Z5:PD X (`lz `jU j pos) (gc `jU):=.mk λB δ=>S70.imp fun σ H Q ⟨d,en,h,k⟩=>by cases h;exact `Uc
theorem op0{r:R2}{f:`b?}(hf:Op2 K r f){σ:St}{Q:VK}(h:tD K B δ `xw σ H Q):tOp r (tD K B δ ga) (tD K B δ gb) σ H Q:=by
 obtain⟨d,en,h,k⟩:=h;unfold o2 at h;cases e1:`eD with
 | none=>rw[e1] at h;cases h
 | some x =>
  cases e2:`eE with
  | none=>rw[e1,e2] at h;cases h
  | some y =>
   rw[e1,e2] at h;refine`F';exact hf H2 B v1 v2 x y d Q (`Ud).bad `F! r2 h `aqR
theorem s40{op:`EE}{r:R2}{f:`b?}(ho:`alN)(hf:`F?)(ha:`dx)(hb:`dy):PD X `alO `xw:=.mk λB δ=>(df0 ho `bV `iz).imp `Ue
theorem xi0{op:`n3}{r:R2}{f:`b?}(ho:`EV)(hf:`F?)(ha:`dx)(hb:`dy)(hm:`rl:=by first|exact do0 _|with_unfolding_all rfl):PD X `wN `xw :=
 .mk λB δ=>(Wk0 ho `bV `iz hm).imp `Ue
theorem Q30{r:R2}{f:`b?}(ho:`S1)(hf:`F?)(ha:`dx)(hb:`dy)(hs:t80 b:=by exact `lU):PD X `rD `xw :=
 .mk λB δ=>(ed0 ho `bV `iz hs).imp `Ue
theorem j7{op:`n3}{r:R2}{f:`b?}(ho:`EV)(hf:`F?)(ha:`dx)(hb:`dy)(hm:`rl:=by first|exact do0 _|with_unfolding_all rfl):PTD X `wN (ob `xw) :=
 .mk λB δ=>(Vl0 ho `bV `iz hm).imp fun σ H Q ⟨t,en,h,k⟩=>by
  unfold ob at h;cases e:`ap3 with
  | none=>rw[e] at h;cases h
  | some d =>
   rw[e] at h;cases ba0 h;exact op0 hf `aqS
theorem S8(h:`bU)(he:`akt:=by intro _;rfl):PTD X e (ob g) :=
 .mk λB δ=>(S00 `ci he).imp fun σ H Q ⟨t,en,h,k⟩=>by
  unfold ob at h;cases e:`ay with
  | none=>rw[e] at h;cases h
  | some d =>
   rw[e] at h;cases ba0 h;exact`aqS
theorem w00(h:`xx):PTD X `akE (J3 gt) :=
 .mk λB δ=>(Tt0 `ci).imp fun σ H Q ⟨t,en,h,k⟩=>by
  unfold J3 at h;cases e:`i? with
  | none=>rw[e] at h;cases h
  | some b =>
   rw[e] at h;cases h;exact⟨b,en,e,λH' s=>`AF⟩
theorem u60(h:`xx):PWD X `akv gt:=.mk λB δ=>Wu0 `ci
theorem wp0(h:`xx):PWD X `aky gt:=.mk λB δ=>Tn0 `ci
theorem t50(ha:`xx)(hb:PWD X `EC gu):PWD X `ED (N6 gt gu) :=
 .mk λB δ=>(Tk0 `bV `iz).imp fun σ H Q ⟨t,en,h,k⟩=>by
  unfold N6 at h;cases e:`i? with
  | none=>rw[e] at h;cases h
  | some b =>
   rw[e] at h;refine`aqT;cases b with
   | true=>exact`aqU
   | false =>
    simp at h;subst h;rw[`cV];exact `AF
theorem va0(ha:`xx)(hb:PWD X `akC gu):PWD X `akD (J5 gt gu) :=
 .mk λB δ=>(Rt0 `bV `iz).imp fun σ H Q ⟨t,en,h,k⟩=>by
  unfold J5 at h;cases e:`i? with
  | none=>rw[e] at h;cases h
  | some b =>
   rw[e] at h;refine`aqT;cases b with
   | false=>exact`aqU
   | true =>
    simp at h;subst h;rw[`aB];exact `AF
theorem PWD.pt(h:PWD X e gt):`aqV:=.mk λB δ=>(`Mi).pt
theorem T50{op}(h:PD X a g):PD X `akF g:=.mk λB δ=>Sl0 `ci
theorem Rb0(ha:`dx)(hb:PD X `EC gb):PD X `ED (ei0 ga gb) :=
 .mk λB δ=>(Rc0 `bV `iz).imp fun σ H Q ⟨d,en,h,k⟩=>by
  unfold ei0 ob at h;cases e:`eD with
  | none=>rw[e] at h;cases h
  | some x =>
   rw[e] at h;refine⟨x,en,e,λv H' s r=>?_⟩;cases x with
   | bl c =>
    rw[W6] at r;refine⟨c,r,?_⟩;cases c with
    | true=>exact⟨d,`hI s,h,λv F s'=>k v F (s.trans s')⟩
    | false =>
     simp[asB] at h;rw[`cV];exact k _ H' s (by rw[← h,W6])
   | _=>simp[asB] at h
theorem v9:PDA X [] v7:=.mk λB δ=>xj0.imp fun σ H Q ⟨ds,en,h,k⟩=>by cases h;exact k [] H `c1 (`jg)
theorem w6(ha:`bU)(hr:`xy)(hs:`dV:=by rfl):PDA X `e8 (z9 g gA) :=
 .mk λB δ=>(K5 `bV (hr B δ) hs).imp fun σ H Q ⟨ds,en,h,k⟩=>by
  unfold z9 at h;cases e1:`ay with
  | none=>rw[e1] at h;cases h
  | some d =>
   cases e2:`cg with
   | none=>rw[e1,e2] at h;cases h
   | some es' =>
    rw[e1,e2] at h;cases h;refine⟨d,en,e1,λv H1 s1 r1=>⟨es',`fU,e2,λvs H2 s2 r2=>k _ H2 `kM ?_⟩⟩;rw[o9];exact`aqW
theorem Z1{x1}(h:`xy):PD X (`kS es x1 pos) (m7 gA) :=
 .mk λB δ=>(dy0 `ci).imp fun σ H Q ⟨d,en,h,k⟩=>by
  unfold m7 at h;cases e1:`cg with
  | none=>rw[e1] at h;cases h
  | some ds =>
   rw[e1] at h
   by_cases hl:`oe
   ·simp only[`j,`lV] at h
    cases h;refine`aqX;rw[W4];exact⟨p,vs,rfl,⟨(`fU).free hp,j8⟩,`AE `gH⟩
   ·simp only[`j,`Uf] at h
    cases h
theorem J0(h:`xy):PD X `SA (Z7 gA) :=
 .mk λB δ=>`aqY fun σ H Q ⟨d,en,h,k⟩=>by
  unfold Z7 at h;cases e1:`cg with
  | none=>rw[e1] at h;cases h
  | some ds =>
   rw[e1] at h
   by_cases hl:`oe
   ·simp only[`j,`lV] at h
    cases h;refine`aqX;rw[X7];exact⟨p,vs,rfl,`k ⟨(`fU).free hp,`k j8⟩,`AE `gH⟩
   ·simp only[`j,`Uf] at h
    cases h
theorem ae0{r:`e!}{f:`J}(hf:FnR K r f){σ:St}{Q:VK}(h:tD K B δ (oA gA f) σ H Q):tCB r (tDA K B δ gA) σ H Q:=by
 obtain⟨d,en,h,k⟩:=h;unfold oA at h;cases e1:`cg with
 | none=>rw[e1] at h;cases h
 | some ds =>
  rw[e1] at h;exact⟨ds,en,e1,λvs H1 s1 r1=>hf H1 B vs ds d Q `Ug r1 h `aqZ⟩
theorem wv0{id:`cL}{p:Pos}{r:`e!}{f:`J}(hc:`amL)(hf:`Uh)(hm:`lA)(hv:`amM)(ha:`oj)(hg:`dU:=by rfl)
  (hn:`iT := by decide) (hdb:`bt:=by decide) (he:`dV:=by rfl) (hpl:`ir:=by rfl) :
  `xz:=.mk λB δ=>(h70 hc hg hm hv `bV hn hdb he hpl).imp `aq_
theorem Q4{T:`cL}{p:Pos}{r:`e!}{f:`J}(hc:`SN)(hf:`Uh)(hm:`lA)(hv:`SO)(ha:`oj)(hg:`dU:=by rfl)
  (hn:`iT := by decide) (hdb:`bt:=by decide) (he:`dV:=by rfl) (hpl:`ir:=by rfl) :
  `xz:=.mk λB δ=>(rr0 hc hg hm hv `bV hn hdb he hpl).imp `aq_
noncomputable def spD(K:`D)(f:`J):Sp:=λvs H Q _=>∃(B:BS) (ds:`n) (d:D),`xv/\`Ga/\`oi/\`F7
theorem We0{k:Nat}{ps:`u}{p:Pos}{f:`J}(F:`af `a9 X.w X.K `cW `e3 CX0 k fa fd ps (spD X.K f))(hr:`SC)(hm:`zx=`z!)(hk:`tZ X.K `z'=`c)(hb:Binds X.K fd ps [])
  (ha:`oj) (hg:`dU:=by rfl) (hdb:`bt:=by decide) (he:`dV:=by rfl) (hpl:`ir:=by rfl) :
  `xz:=.mk λB δ=>(qy0 (E:=E0) F hr hg hm hk hb `L kc0 `bV hdb he hpl).imp fun σ H Q h=>by
 obtain⟨d,en,h,k⟩:=h;unfold oA at h;cases e1:`cg with
 | none=>rw[e1] at h;cases h
 | some ds =>
  rw[e1] at h;refine`aq0;show spD X.K f `Ui H1 Q E0;rw[`fu];exact⟨B,ds,d,`Ug,r1,h,`aqZ⟩
universe zz
universe DL
variable{B B' B₀:DL.BS}
namespace DL
open Spec PyProof.Rows L2
structure EnvS(K:`D)(H₀:Hp)(B₀:BS)(H:Hp)(σ:St)(δ:Ds):Prop where
 same:`Gb
 ex:∃B:BS,(`j!)/\(`j?)/\`bc
 fr:`aq1
 b0:`Uj
noncomputable def P40(K:`D)(H₀:Hp)(B₀:BS)(D:`ly):Res->Prop
 | `LW=>`aq2
 | .rt d=>∀v H,`Gb->Rp K H `ak d v->D.rt v H
 | .bk δ=>∀σ H,`c2->D.bk σ H
 | .ct δ=>∀σ H,`c2->D.ct σ H
 | .rf d=>∀p H,`Uk->`Gb->RpL K H (λa=>`pK∨a=p) d p->D.rt `ch H
noncomputable def tDS(K:`D)(H₀:Hp)(B₀:BS)(δ:Ds)(G:`g!):TS:=λD σ H=>∃r,`c2/\`aq3/\P40 K `aw `ak D r
structure PSD(X:Cx)(st:`fI)(G:`g!):Prop where
 mk::go:`aq4
instance{X:Cx}{st:`fI}{G:`g!}:`dZ (`Ul) (λ_=>`aq4):=⟨PSD.go⟩
structure PSsD(X:Cx)(st:`er)(G:`g!):Prop where
 mk::go:`aq5
instance{X:Cx}{st:`er}{G:`g!}:`dZ (`je X st G) (λ_=>`aq5):=⟨PSsD.go⟩
section
variable{σ:St}
theorem EnvS.grow(e:`c2)(s:`aT):`dq K `aw `ak H' σ δ:=⟨e.same.trans s,let ⟨B,b1,b2,en⟩:=e.ex;⟨B,b1,b2,`hI s⟩,e.fr,e.b0⟩
universe zz
structure Wr(idx:`e)(σ σ':St)(δ δ':Ds):Prop where
 len:`RK
 oth:∀j,j∉idx->σ'[j]?=`pw/\`Pq=`mQ
 own:∀j∈idx,∀ds,`Pq≠`AB
noncomputable def tDG(K:`D)(idx:`e)(f:`aJ)(B:BS)(d:D)(δ:Ds):TG:=λv σ H Q=>∃δ',`cp/\`bc/\`TU/\∀σ',`aq6->Env K H B σ' δ'->Q σ' H
structure PGD(X:Cx)(tg:`z)(idx:`e)(f:`aJ):Prop where
 mk::go:`aq7
instance{X:Cx}{tg:`z}{idx:`e}{f:`aJ}:`dZ (`Gc) (λ_=>`aq7):=⟨PGD.go⟩
theorem _root_.L2.PG.imp{tg:`z}{t t':TG}(h:PG X tg t)(q:∀v σ H Q,t' v σ H Q->`akX):PG X tg t':=λpins s σ H v u Q I r z=>h `i s σ H v u Q I r (q v σ H Q z)
theorem jk0{σ:St}{v:V}{d:D}:Wr [i] σ `pa δ `gV:=by
 refine⟨`aS,`Um,λj hj ds h=>?_⟩
 ·have:j≠i:=`FQ
  rw[`aq8,`aq8];exact`eA
 ·have:j=i:=`FQ
  subst this
  by_cases hl:`aqH
  ·rw[`F4] at h;cases h
  ·rw[`F5] at h;cases h
theorem o5(i:Nat){pos:Pos}(hN:`eV)(hi:`cn:=by rfl)(hx:`io:=by first|exact `bE|exact `eF)
  (hf:`ip:=by first|exact `a3|exact `b1|assumption):PGD X `mq [i] `Mq:=.mk λB d δ=>(`Gd).imp λv σ H Q ⟨δ',r,en,e,k⟩=>by
 cases e;exact k _ jk0 (en.set i r)
section
variable{tg:`z}{rest:`er}{G G1 G2 Ga Gb:`g!}{c:`z}{as bs:`er}
theorem p6:`je X [] p7:=.mk λH₀ B₀ δ pins s σ H D I ⟨r,en,e,k⟩=>by
 cases e;exact `aq9
theorem v5(h1:PSD X st G1)(h2:`je X `a1 G2):`je X (st::`a1) (u6 G1 G2):=.mk λH₀ B₀ δ pins s σ H D I ⟨r,en,e,k⟩=>by
 unfold u6 at e;cases e1:`kz with
 | none=>rw[e1] at e;cases e
 | some r1 =>
  rw[e1] at e;cases r1 with
  | nx δ'=>exact T6 (h1 `aw `ak δ) (h2 `aw `ak δ') `i s σ H D I `aq'
  | rt d=>cases e;exact `Ge
  | bk δ'=>cases e;exact `Ge
  | ct δ'=>cases e;exact `Ge
  | rf d=>cases e;exact `Ge
theorem d7(h:`bU):PSD X `rn (Z0 g):=.mk λH₀ B₀ δ pins s σ H D I ⟨r,en,e1,k⟩=>by
 unfold Z0 at e1;obtain⟨B,b1,b2,env⟩:=`bW;cases e2:`ay with
 | none=>rw[e2] at e1;cases e1
 | some d =>
  rw[e2] at e1;cases e1;exact v80 `ci `i s σ H D I ⟨d,env,e2,λv H' s' r=>k v H' (`ut s') (`cu (`eI b1))⟩
theorem EnvS.wr{σ σ':St}(e:`c2)(b1:`j!)(b2:`j?)(s:`aT)(w:`aq6)(en:Env K H' B σ' δ'):`aq!:=by
 refine⟨e.same.trans s,⟨B,b1,b2,en⟩,`aq?,e.b0⟩
 by_cases hi:i∈idx
 ·exact `y h1 (w.own i hi ds)
 ·rw[(`ara).2] at h1
  rw[(`ara).1] at h2;exact `arb
theorem j9{f:`aJ}(h:`bU)(hg:`Gc)(hs:`R2:=by rfl)(hw:`R3:=by rfl)
  (h1:`R4:=by rfl):PSD X `R5 (m8 f g):=.mk λH₀ B₀ δ pins s σ H D I ⟨r,en,e1,k⟩=>by
 unfold m8 at e1;obtain⟨B,b1,b2,env⟩:=`bW;cases e2:`ay with
 | none=>rw[e2] at e1;cases e1
 | some d =>
  rw[e2] at e1;simp only[`j] at e1;cases e3:`pB with
  | none=>rw[e3] at e1;cases e1
  | some δ' =>
   rw[e3] at e1;cases e1;exact i80 `ci (hg B d δ) hs hw h1 `i s σ H D I ⟨d,env,e2,λv H' s' r=>⟨δ',r,`Un,e3,fun σ' w en'=>k σ' H' (en.wr b1 b2 s' w en')⟩⟩
theorem Z9(hc:`Gf)(ha:`je X as Ga)(hb:`je X bs Gb):PSD X `arc (ifD gt Ga Gb):=.mk λH₀ B₀ δ pins s σ H D I ⟨r,en,e1,k⟩=>by
 unfold ifD at e1;obtain⟨B,b1,b2,env⟩:=`bW;cases e2:`i? with
 | none=>rw[e2] at e1;cases e1
 | some t =>
  rw[e2] at e1;refine oq0 (hc B δ) (ha `aw `ak δ) (hb `aw `ak δ) `i s σ H D I `ard;cases t with
  | true=>exact`Gg
  | false=>exact`Gg
structure ItD(K:`D)(B:BS)(J:It)(items:`n)(H₁:Hp):Prop where
 go:∀i H,`Uo->`xA->`R'
 yld:∀i H x H',`Uo->`R?->`xA->`aT/\∃d,`aK[i]?=`ar/\∀B':BS,Gr H₁ H' B B'->(∀a,`mS->`gG)->Rp K H' B' d x
 stop:∀i H,`Uo->`gE<=i->`Sa
noncomputable def tDI(K:`D)(B:BS)(δ:Ds)(g:`da):TI:=fun σ H R=>∃items,`bc/\`ay=`a `aK/\∀J H',`aT->ItD K B J `aK H'->R J H'
structure PID(X:Cx)(tg e:`z)(g:`da):Prop where
 mk::go:`are
instance{X:Cx}{tg e:`z}{g:`da}:`dZ (PID X tg e g) (λ_=>`are):=⟨PID.go⟩
theorem _root_.L2.PI.imp{t t':TI}(h:PI X tg e t)(q:∀σ H R,t' σ H R->t σ H R):PI X tg e t':=λpins s σ H R I z=>h `i s σ H R I (q σ H R z)
theorem xy0(h:`bU):PID X tg e (ye0 g):=.mk λB δ=>`ok (Wj0 `ci) fun σ H R ⟨`aK,en,e1,k⟩=>by
 unfold ye0 at e1;cases e2:`ay with
 | none=>rw[e2] at e1;cases e1
 | some d =>
  rw[e2] at e1;cases d<;>simp[n70] at e1
  subst e1;refine`arf;rw[X7] at r;obtain⟨a,xs,rfl,q,rs⟩:=r;refine`arg
  ·have:`Fj:=`Mm
   exact`arh
  ·obtain⟨e3,y⟩:=y
   obtain⟨x',e4,r'⟩:=`ari;have:=`arj;rw[e4] at this;cases `x;subst e3;exact`ark
  ·exact`arl
theorem vu0(h:`bU):PID X tg e (tupI g):=.mk λB δ=>`ok (Ti0 `ci) fun σ H R ⟨`aK,en,e1,k⟩=>by
 unfold tupI at e1;cases e2:`ay with
 | none=>rw[e2] at e1;cases e1
 | some d =>
  rw[e2] at e1;cases d<;>simp[Xg0] at e1
  subst e1;refine`arf;rw[W4] at r;obtain⟨a,xs,rfl,q,rs⟩:=r;refine`arg
  ·have:`Fj:=`Mm
   exact`arh
  ·obtain⟨e3,y⟩:=y
   obtain⟨x',e4,r'⟩:=`ari;have:=`arj;rw[e4] at this;cases `x;subst e3;exact`ark
  ·exact`arl
theorem pr0(lo hi:Int):(T9 lo hi).length=`pf:=by simp[T9]
theorem e30(lo hi:Int):ItD K B (Itr lo `pf) (T9 lo hi) H:=by
 refine`ac7
 ·rw[pr0] at hi;exact hi
 ·obtain⟨e3,rfl⟩:=y
  rw[pr0] at hi;subst e3;exact⟨`pL,`Sd,by simp[T9,hi],λB' gB _=>`uf⟩
 ·rw[pr0] at hi;exact hi
theorem Q9{a:`z}(hm:`wY)(ha:`Up)(hg:`wX := by rfl)(hs:`EO:=by rfl):PID X tg `alz (Q6 gA) :=
 .mk λB δ=>`ok (cr0 hg hm `bV hs) fun σ H R ⟨`aK,en,e1,k⟩=>by
 unfold Q6 at e1;cases e2:`cg with
 | none=>rw[e2] at e1;cases e1
 | some ds =>
  rw[e2] at e1;simp only[`j] at e1;unfold ey0 at e1;split at e1
  ·split at e1
   ·rename_i j hj
    cases e1;refine`xB;rw[o9] at r;obtain⟨x,t,rfl,r1,r2⟩:=r;rw[m9] at r2;subst r2;rw[n8] at r1;subst r1;refine⟨j,rfl,hj.1,hj.2,k _ H' s' ?_⟩;have:=e30 (K:=X.K) (B:=B) (H:=H') 0 j;rw[Int.sub_zero] at this;exact `x
   ·cases e1
  ·cases e1
theorem db0{a:`z}{p:Pos}(hm:`wY)(ha:`arm)(hg:`wX := by rfl)(hs:`alC:=by rfl)(hs2:`alD:=by rfl) :
  PID X tg `alE (d90 gA):=.mk λB δ=>`ok (cp0 hg hm `bV hs hs2) fun σ H R ⟨`aK,en,e1,k⟩=>by
 unfold d90 at e1;cases e2:`cg with
 | none=>rw[e2] at e1;cases e1
 | some ds =>
  rw[e2] at e1;simp only[`j] at e1;unfold Wa0 at e1;split at e1
  ·split at e1
   ·rename_i i j hj
    cases e1;refine`xB;rw[o9] at r;obtain⟨x,t,rfl,r1,r2⟩:=r;rw[o9] at r2;obtain⟨y,t',rfl,r2,r3⟩:=r2;rw[m9] at r3;subst r3;rw[n8] at r1 r2;subst r1 r2;exact⟨i,j,rfl,⟨hj.1.1,hj.1.2,hj.2.1,hj.2.2⟩,k _ H' s' (e30 i j)⟩
   ·cases e1
  ·cases e1
theorem EnvS.lower{H₁:Hp}{σ:St}(e:`dq K H₁ `ak H σ δ)(s:`c0 `aw H₁)(b0:`Uj):`c2:=by
 obtain⟨B,b1,b2,en⟩:=e.ex;exact⟨s.trans e.same,⟨B,b1,λa z=>(b2 a z).imp id λq=>s.free q,en⟩,λi ds a h1 h2=>s.free (`arb),b0⟩
open Classical in
theorem O8{f:`aJ}(hp:`EJ)(hc:`bz)(hi:`lW)(hg:`Gc)(hb:`arn)
  (hs:`g6:=by intro _;rfl):PSD X `alH (M8 gi f G):=.mk λH₀ B₀ δ pins s σ H D I ⟨r,en,e1,k⟩=>by
 unfold M8 at e1;obtain⟨B,b1,b2,env⟩:=`bW;cases e2:`pA with
 | none=>rw[e2] at e1;cases e1
 | some items =>
  rw[e2] at e1;simp only[`j] at e1;have a4:PG X tg (`Gh):=λpins s σ H v u Q I r ⟨B,d,δ,h⟩=>hg B d δ `i s σ H v u Q I r h
  have a7:PSs X `gy (λD σ H=>∃H₀ B₀ δ,`aro):=λpins s σ H D I ⟨`aw,`ak,δ,h⟩=>`arp
  refine Rh0 hp hc `Gi a4 a7 hs `i s σ H D I ⟨`aK,env,e2,λJ H1 s1 it=>?_⟩;obtain⟨Hh,M⟩:∃Hh:Hp,Hh=λb=>`Uq:=`aq
  have O:∀b,¬B b->Hh b=H1 b:=λb n=>by rw[M];exact `P λz=>n z.1
  have Y:∀b,B b->¬`ak b->Hh b=`b:=λb n n'=>by rw[M];exact `H ⟨n,n'⟩
  have a1:∀b,`ak b->Hh b=H1 b:=λb n=>by rw[M];exact `P λz=>z.2 n
  have a2:`c0 Hh H1:=⟨λb o h=>by
   by_cases z:`Mn
   ·rw[Y b z.1 z.2] at h;cases h
   ·rw[M] at h
    have h':(`Uq)=`_:=h;rw[`P z] at h';exact h',λb o xs h=>by
   by_cases z:`Mn
   ·have h0:=`Gj b o xs (s1.nf b o xs h)
    rw[(b2 b z.1).resolve_left z.2] at h0;cases h0
   ·rw[M]
    show (`Uq)=_;rw[`P z];exact h⟩
  have hS:`c0 `aw Hh:=⟨λb o h=>by
   have h1:=s1 b o (`hI b o h)
   by_cases z:B b
   ·rcases b2 b z with q|q
    ·rw[a1 b q];exact h1
    ·rw[h] at q;cases q
   ·rw[O b z];exact h1,λb o xs h=>`Gj b o xs (s1.nf b o xs (a2 b _ h))⟩
  have Z:=`uv;have start:`dq X.K Hh `ak H1 σ δ:=by
   refine⟨a2,⟨B,b1,`fd,Z⟩,`aq?,`fd⟩
   ·by_cases q:`pK
    ·exact `kt
    ·exact `h (Y a z q)
   ·have hn:=`m5 i ds a h1 h2
    have nb:¬`pK:=λz=>`kF a z hn
    obtain⟨o,e3,a',e4,hB,_⟩:=`ud Z.all h1;rw[h2] at e3;cases e3;cases e4;exact Y a hB nb
   ·rw[a1 a z]
    exact Z.bad a `MT
  refine⟨λi m σ H=>m=`gE - i/\`Ur/\∃δi,`dq X.K Hh `ak H σ δi/\Y4 f G (`pM i) δi=`fV,⟨_,rfl,`hE,δ,start,e1⟩,?_⟩;rintro i m σi Hi ⟨rfl,a8,δi,F,ei⟩;have gr:Gr H1 Hi B B:=λb o n h=>⟨n,`Bm b o (`arq)⟩
  by_cases hlt:`xA
  ·refine `h ⟨it.go i Hi gr hlt,fun σ' H'=>∃δn,`dq X.K Hh `ak H' σ' δn/\Y4 f G (`uj) δn=`fV,fun σ' H' ⟨δn,en',e'⟩=>⟨`Gk,`p,rfl,hlt,δn,en',e'⟩,λx H' y=>?_⟩
   obtain⟨sm,d,hd,rd⟩:=it.yld i Hi x H' gr y hlt;obtain⟨B',c1,c2,env0⟩:=F.ex;have a6:Rp X.K H' B' d x:=rd B' (λb o n h=>by
    have h':Hh b=`_:=`arq
    refine⟨`dX,sm b o (`Bm b o h')⟩;rcases c2 b z with q|q
    ·exact n (b1 b q)
    ·rw[h'] at q;cases q) env0.bad
   have a3:=env0.same sm
   replace F:=F.grow sm
   have a0:`pM i=d::`uj:=by
    rw[`Us];congr 1;rw[`Ut] at hd;exact A2 hd
   rw[a0] at ei;unfold Y4 at ei;cases e3:f d δi with
   | none=>rw[e3] at ei;cases ei
   | some δ2 =>
    rw[e3] at ei;simp only[`j] at ei;refine⟨B',d,δi,δ2,a6,a3,e3,fun σ' w en'=>?_⟩;have a5:`dq X.K Hh `ak H' σ' δ2:=F.wr c1 c2 (`pL) w en';cases e4:G δ2 with
    | none=>rw[e4] at ei;cases ei
    | some rb =>
     rw[e4] at ei;refine⟨Hh,`ak,δ2,rb,a5,e4,?_⟩;cases rb with
     | nx δn=>exact `arr
     | ct δn=>exact `arr
     | bk δn =>
      cases ei;exact fun σ' H' en'=>k σ' H' (en'.lower hS `kF)
     | rt d' =>
      cases ei;exact λv H' s' r'=>k v H' (hS.trans s') r'
     | rf d' =>
      cases ei;exact λp H' hp s' r'=>k p H' (hS.free hp) (hS.trans s') r'
  ·have e:i=`gE:=`p
   subst e;refine `k ⟨it.stop _ Hi gr `bn,?_⟩;rw[`Gl] at ei;cases ei;exact k σi Hi (F.lower hS `kF)
structure PFD(X:Cx)(ifs:`b2)(g:`fD):Prop where
 mk::go:`ars
instance{X:Cx}{ifs:`b2}{g:`fD}:`dZ (PFD X ifs g) (λ_=>`ars):=⟨PFD.go⟩
theorem zl0:PFD X [] noT:=.mk λB δ pins s σ H Q I ⟨b,en,e,k⟩=>by
 cases e;exact S60 `i s σ H Q I (k H `c1)
theorem ff0(h:`Gf):PFD X [c] gt:=.mk λB δ=>Sb0 `ci
theorem i30{σ:St}(h:j<n):`fc[j]?=`dw:=by
 unfold N7;rw[`eB `ol,`rx,`lX]
theorem qb0:∀n:Nat,`bp `AA (`a! n (`b:`dh)) (`art)
 | 0=>`L
 | n+1=>`ah `pY (qb0 n)
theorem jc0{σ:St}(en:`bc):∀caps:`e,`bp `AA (`aoT) (`apK)
 | []=>`L
 | j::`cr=>by
  refine `ah ?_ (jc0 en `cr);show SlR K H B `LK (kb0 `mQ);cases h:`mQ with
  | none=>trivial
  | some sl =>
   cases sl with
   | un=>trivial
   | ow ds=>trivial
   | ex c n=>trivial
   | sh d =>
    obtain⟨v,e,r⟩:=en.get h;rw[e];exact`aqG
theorem Yj0{o:`FN}{ds:D}(h:kb0 o=`L!):`bB:=by
 cases o with
 | none=>cases h
 | some s=>cases s<;>cases h
theorem uj0{ds:D}(h:`hG[i]?=`AB):`bB:=by
 unfold R8 at h
 by_cases hi:i<n
 ·rw[`E7,`rx,`H hi] at h
  cases h
 ·rw[`SI,`a_] at h
  cases q:`cr[i - (`art).length]? with
  | none=>rw[q] at h;cases h
  | some j =>
   rw[q] at h;exact Yj0 (`kO)
theorem Env.comp{σ:St}(en:`bc)(n:Nat)(caps:`e):Env K H B `fc `hG :=
 ⟨`pO (qb0 n) (jc0 en `cr),en.bad,`Uu⟩
theorem SlR.gr{o:`dh}{s:Sl}(g:`d_)(no:∀ds,s≠`L!)(h:`aqD):SlR K H' B' o s:=by
 cases s with
 | un=>trivial
 | sh d=>obtain⟨v,e,r⟩:=h;exact`xC
 | ow ds=>exact `y rfl (no ds)
 | ex c n=>obtain⟨a,e,r⟩:=h;exact⟨a,e,`m_⟩
theorem Pd.impG(g:`d_):∀{σ:St} {δ:Ds},(∀(i:Nat) (ds:D),`cv≠`AB)->`aqB->`bp (SlR K H' B') σ δ
 | _,_,_,`L=>`L
 | _,_,no,`eS=>`ah (r.gr g λds z=>no 0 ds (by rw[← z];rfl)) (`Uv g (λi ds z=>no `bM ds (`Uw)) t)
noncomputable def tDF(K:`D)(B:BS)(δ:Ds)(g:`bA):TE:=fun σ H Q=>∃d,`bc/\`ix/\`aru
structure PDF(X:Cx)(e:`z)(g:`bA):Prop where
 mk::go:`arv
instance{X:Cx}{e:`z}{g:`bA}:`dZ (`xD) (λ_=>`arv):=⟨PDF.go⟩
theorem tD.toF{σ:St}{Q:VK}(h:tD K B δ g σ H Q):tDF K B δ g σ H Q:=by
 obtain⟨d,en,e,k⟩:=h;exact⟨d,en,e,λp H' hp s r=>k _ H' s (r.rp (`Ux) (en.free hp))⟩
theorem PDF.pd(h:`xD):`bU:=.mk λB δ=>(`Mi).imp fun σ H Q z=>z.toF
theorem lo0{K:`D}{B:BS}{δ:Ds}{σ:St}{H:Hp}{Q:VK}{caps:`e}{gi:`da}{f:`aJ}{gt:`fD}{ge:`bA}(hidx:∀j∈idx,j<n)
  (h:tDF K B δ `AI σ H Q) :
  k30 n `cr (tDI K B δ gi) `arw (fun σ H Q=>∃B δ,tDT K B δ gt σ H Q) (fun σ H Q=>∃B δ,tD K B δ ge σ H Q) σ H Q:=by
 obtain⟨d,en,h,k⟩:=h;unfold V5 at h;cases e1:`pA with
 | none=>rw[e1] at h;cases h
 | some items =>
  rw[e1] at h;simp only[`j] at h
  by_cases hsz:`xo
  ·rw[`H hsz] at h
   cases e2:`LZ with
   | none=>rw[e2] at h;cases h
   | some out =>
    rw[e2] at h;cases h;refine`arx;have O:=`fU;have a6:¬B L:=O.free hL;obtain⟨Bp,M⟩:∃Bp:BS,`ary:=`aq
    have a4:Bp L:=by rw[M];exact `b1
    have a8:∀a,B a->Bp a:=λa z=>by rw[M];exact `jf
    have a0:`arz:=λa z=>by rw[M] at z;exact z
    have gr:`arA:=λ{H2} s2 b o nb hb=>⟨(λz=>by
     rcases a0 b z with q|q
     ·exact nb q
     ·subst q;rw[hL] at hb;cases hb),s2 b o hb⟩
    refine⟨λi m ys H2=>m=`gE - i/\`Ur/\`arB/\`AH/\`Uy/\∃pre rest,`arC/\Rps K H2 Bp pre ys/\V1 f gt ge `hG (`pM i)=`a `a1,
     `arD,?_⟩
    rintro i m ys H2 ⟨rfl,a7,hD,s2,b0,pre,rest,ho,rp,ec⟩;have F:`arE:=by
     refine⟨`Uv (gr s2) `arF (O.comp n `cr).all,`fd,`Uu⟩;rcases a0 a z with q|q
     ·exact(O.same s2).bad a q
     ·subst q;rw[hD];exact .of rfl `rT λ_ z=>nomatch z
    by_cases hlt:`xA
    ·refine `arG
     obtain⟨sm,dx,Z,rx⟩:=`arH;have a5:`arI:=rx Bp `arJ F.bad
     replace F:=`Bm sm
     replace s2:=`Mp
     replace hD:=sm _ _ hD
     replace rp:=rp.same sm
     have Y:`arK:=by
      rw[`Us];congr 1;rw[`Ut] at Z;exact A2 Z
     rw[Y] at ec;unfold V1 at ec;cases e3:`arL with
     | none=>rw[e3] at ec;cases ec
     | some δ' =>
      rw[e3] at ec;dsimp only at ec;refine⟨Bp,dx,`LY,δ',a5,F,e3,fun σ4 w en4=>⟨`arM,?_⟩⟩
      ·by_cases hj:j∈idx
       ·rw[i30 (`ka j hj)] at z;cases z
       ·rw[(w.oth j hj).1];exact z
      ·cases e4:`xn with
       | none=>rw[e4] at ec;cases ec
       | some t =>
        rw[e4] at ec;refine⟨Bp,δ',t,en4,e4,`Uz⟩;cases t with
        | false =>
         rw[`cV];exact⟨`Gk,`p,rfl,hlt,s5 _ _ hD,`ada s5,`p,pre,`a1,ho,rp.same s5,ec⟩
        | true =>
         rw[`aB];dsimp only at ec;cases e5:`t' with
         | none=>rw[e5] at ec;cases ec
         | some yd =>
          rw[e5] at ec;dsimp only at ec;cases e6:V1 f gt ge `hG (`uj) with
          | none=>rw[e6] at ec;cases ec
          | some rest' =>
           rw[e6] at ec;cases ec;refine⟨Bp,δ',yd,`arN,e5,λv H6 s6 r6=>?_⟩;have a1:`arO:=s6 _ _ (s5 _ _ hD);have g6:Gr H6 (upd H6 L (`o (ys++[v]))) Bp Bp:=λb o nb hb=>⟨nb,by
            rw[d8 (λz=>nb (by rw[z];exact a4))];exact hb⟩
           refine⟨a1,`p,`Gk,`p,rfl,hlt,j8,`arP,`mB,pre++[yd],rest',`arQ,?_,e6⟩
           ·have a3:b≠L:=λz=>by rw[z,hL] at hb;cases hb
            rw[d8 a3];exact s6 _ _ (s5 _ _ (s2 _ _ hb))
           ·by_cases z:b=L
            ·rw[z,j8] at hb;cases hb
            ·rw[d8 z] at hb
             exact s2.nf _ _ _ `arR
           ·exact(`m' ((rp.same s5).same s6) r6).mono g6
    ·have e:i=`gE:=`p
     subst e;refine `arS;rw[`Gl] at ec;have a2:`arT:=A2 ec;subst a2;rw[`fu] at ho;subst ho;refine k L H2 (`kL hL) `kM ⟨ys,hD,?_⟩;rw[M] at rp;exact rp
  ·rw[`P hsz] at h;cases h
theorem ii0{sc scope:`c!}{elt iter:`z}{ifs:`b2}{N':`u}{n:Nat}{caps:`e}{gi:`da}{idx:`e}{f:`aJ}{ge:`bA}
  (hc:`bz) (hsc:`iw) (ok:`rK) (hidx:∀j∈idx,j<n) (hi:`lW)
  (hg:`om) (ht:`rV) (he:`rW)
  (hs:`g6:=by intro _;rfl) :
  `arU:=.mk λB δ =>
 (gr0 hc hsc ok `Gi (g:=`Gh) (tt:=`UA) (te:=`arV)
  `UB
  `arW
  `UC hs).imp fun σ H Q h=>lo0 `ka h
theorem Vr0{sc scope:`c!}{elt iter:`z}{ifs:`b2}{N':`u}{n:Nat}{caps:`e}{gi:`da}{idx:`e}{f:`aJ}{ge:`bA}
  (hc:`bz) (hsc:`iw) (ok:`rK) (hidx:∀j∈idx,j<n) (hi:`lW)
  (hg:`om) (ht:`rV) (he:`rW)
  (hs:`g6:=by intro _;rfl) :
  `arX:=(ii0 hc hsc ok `ka hi hg ht he hs).pd
theorem gj0(i:Nat){y:Str}{py spos:Pos}{sc scope:`c!}{elt iter:`z}{ifs:`b2}{N':`u}{n:Nat}{caps:`e}{gi:`da}{idx:`e}{f:`aJ}{ge:`bA}
  (hN:`eV) (hc:`bz) (hsc:`iw) (ok:`rK) (hidx:∀j∈idx,j<n) (hi:`lW)
  (hg:`om) (ht:`rV) (he:`rW)
  (hiN:`rL:=by rfl) (hy:`oc:=by first|exact `bE|exact `eF)
  (hsw:`TI:=by rfl)
  (hs:`g6:=by intro _;rfl)
  (hf:`od:=by first|exact `a3|exact `b1|assumption) :
  `arY:=.mk λH₀ B₀ δ pins s σ H D I ⟨r,en,e1,k⟩=>by
 unfold m8 at e1;obtain⟨B,b1,b2,env⟩:=`bW;cases e2:`ap2 with
 | none=>rw[e2] at e1;cases e1
 | some d =>
  rw[e2] at e1;cases e1;refine em0 (i:=i) hN hiN hy hc hsc ok `Gi (g:=`Gh) (tt:=`UA) (te:=`arV)
   `UB
   `arW
   `UC hsw hs hf `i s σ H D I (lo0 `ka (tD.toF ⟨d,env,e2,λv H' s' r'=>k _ H' (en.wr b1 b2 s' jk0 ((`Un).set i r'))⟩))
universe zz
theorem vh0{N:`u}:∀{ds:`n} {vs:`K},`Ga->`bp `AA (`E4 `a) (ds.map Sl.sh)
 | [],_,h=>by rw[m9] at h;subst h;exact `L
 | `av,_,h=>by
  rw[o9] at h;obtain⟨x,r,rfl,h1,h2⟩:=h;exact `ah `FX (vh0 (N:=N) h2)
theorem un0{es:D}(h:`AJ[i]?=`aqC):`bB:=by
 unfold W9 at h
 by_cases hi:`Gm
 ·rw[`E7,`a_] at h
  cases q:ds[i]? with
  | none=>rw[q] at h;cases h
  | some d=>rw[q] at h;cases h
 ·rw[`SI,`rx] at h
  split at h<;>cases h
section
variable{P:`ag}{w:`N}
theorem okD{ps:`u}{k:Nat}{f:`J}{G:`g!}(F:`UD)(S:`FD)
  (body:`arZ)
  (hf:∀ds d,`oi->`bN=`am/\`ar_) :
  `af P w K mg `t CX0 `bS fa fd ps (spD K f):=by
 refine `ar0
 ·rw[`a'];exact(`xE).1
 ·refine`ar1
  have en:`ar2:=by
   refine`ar3;unfold L2.start W9;rw[`a'];exact `ar4
  rcases (`xE).2 with e|⟨rfl,δ,e⟩|⟨e,hn⟩
  ·exact⟨_,en,e,λv H' s' r'=>q v H' s' r'⟩
  ·exact⟨_,en,e,fun σ' H' en'=>q `w H' en'.same `F9⟩
  ·exact⟨_,en,e,λp H' hp s' r'=>q _ H' s' ((r'.toO hn).rp (`Ux) (λz=>hb p z hp))⟩
noncomputable def spN(K:`D)(f:`J):Sp:=λvs H Q _=>∃(B:BS) (ds:`n) (d:D),`xv/\`Ga/\`oi/\`aru
theorem okN{ps:`u}{k:Nat}{f:`J}{G:`g!}(F:`UD)(S:`FD)
  (body:`arZ)
  (hf:∀ds d,`oi->`bN=`am/\`Mr) :
  `af P w K mg `t CX0 `bS fa fd ps (spN K f):=by
 refine `ar0
 ·rw[`a'];exact(`xE).1
 ·refine`ar1
  have en:`ar2:=by
   refine`ar3;unfold L2.start W9;rw[`a'];exact `ar4
  exact⟨_,en,(`xE).2.1,λp H' hp s' r'=>q p H' hp s' (r'.toO (`xE).2.2)⟩
universe zz
universe DL
namespace L2
open Spec PyProof.Rows
theorem jq0:∀{bs:`rO} {us:`U} {i:Nat} {v:`A},`bi (`Gn) us->us[i]?=`aL->v=`cd (`adj)
 | [],_,_,_,r,e=>by
  rw[`fW] at r;cases r;simp at e
 | b::bs,_,0,v,r,e=>by
  rw[`Z] at r;cases r with
  | cons r1 r2=>simp at e;subst e;exact r1
 | b::bs,_,i+1,v,r,e=>by
  rw[`Z] at r;cases r with
  | cons r1 r2=>simpa using jq0 (i:=i) r2 `lu
theorem all_range(bs:`rO):(`cx bs.length).all (`ar5)=bs.all id:=by
 rw[`gn,`jV,`jV];constructor
 ·intro h b hb
  obtain⟨i,hi,rfl⟩:=`du hb;have:=h i (`qH hi)
  simpa [d4,hi] using `x
 ·intro h i hi
  have F:=`kK hi;have:=h bs[i] `P0
  simpa [d4,F] using `x
theorem Zf0(hc:`bz):`dl X (`dB `xF) (λxs H Q=>∃(p:`f) (bs:`rO),`jo/\SqL X.K H p (`Gn)/\Q (`FP) H):=by
 intro pins s σ H xs us Q I rs h;obtain⟨p,bs,rfl,hq,q⟩:=h;obtain⟨u,rfl,ru⟩:=rs.one;cases ru;obtain⟨its,rv,pl,hz⟩:=`fB;refine call_all_walk (`als `j4 ?_);have hp:p≠`an:=by
  obtain⟨o,n,e,_⟩:=pl;exact B9 `iX
 refine⟨_,_,_,_,_,_,`ar5,rfl,Walks.list (A:=X.A.in1) `eX `an p hp `be,⟨`wV,pl.isList.push _⟩,?_,?_⟩
 ·intro i v s' Q' E' hP hQ
  have e:=jq0 rv (i:=i) (v:=v) (by simpa using hP);subst e;exact Q1 hQ
 ·intro h' tk hk
  have e1:`gD=bs.length:=by
   have:=`kJ;simp at this;simp[`x]
  rw[e1,all_range];refine⟨`FP,H,`pg (t':=tk) `aoE,rfl,q⟩;refine hk b o ?_ (`iZ);intro z;have z':b=`an:=`Uw
  subst z';exact `apg
theorem ip0:∀{ys:`u} {us:`U},`bi (ys.map `w2) us->StrsAre us ys
 | [],_,r=>`ar6
 | `rz,_,r=>by
  rw[`Z] at r;cases r with
  | cons r1 r2 =>
   obtain⟨t,e⟩:=r1;subst e;exact `ah y t (ip0 r2)
theorem Up0:MtR X "str.join" (λx xs H Q=>∃(sep:Str) (p:`f) (ys:`u),x=`E sep/\`jo/\SqL X.K H p (ys.map `w2)/\`apT/\Q `apU H):=by
 intro pins s σ H x xs v us Q I rx rs h;obtain⟨sep,p,ys,rfl,rfl,hq,hz,q⟩:=h;obtain⟨t,rfl⟩:=rx;obtain⟨u,rfl,ru⟩:=rs.one;cases ru;obtain⟨its,rv,pl,_⟩:=`fB;exact join_list `j4 (by simpa using ip0 rv) hz `ar7
theorem part_of{o:`bC}(p:`tG u o):∃l:`aD (Int×Tok),u=partValue l/\`dJ `bv=o:=by
 cases p with
 | none=>exact⟨`b,rfl,rfl⟩
 | int i t=>exact⟨`a (i,t),rfl,rfl⟩
theorem Sm0:SlR X (λx lo hi H Q=>∃z,x=`hC/\`pl/\Q `ar8 H):=by
 intro pins s σ H x v vl vu lo hi sl Q I rx hs pl pu h;obtain⟨z,rfl,hz,q⟩:=h;obtain⟨t,rfl⟩:=rx;obtain⟨l,rfl,rfl⟩:=part_of pl;obtain⟨u,rfl,rfl⟩:=part_of pu;refine⟨`iv,_,F.slot_str_getitem.lookup,S3 _ _ _,wpAny_getItem_str_slice (l:=l) (u:=u) (st:=`b) ?_ rfl (post_val_or_str ⟨C1 (Txt.slice_le z _ _) hz,`ar7⟩)⟩;obtain⟨o,h1,h2,h3⟩:=hs;exact`ar9
universe L2
namespace DL
open Spec PyProof.Rows L2
noncomputable def tyD:D->`cL
 | `w => `aiS|`bD => `rX|`b! => `ge|`bj => `iv|`rM => `ev|`ik => `ew|`kb => `pT|`kc => `s6
noncomputable def okT(T:`cL)(f:`cD):Prop:=∀(K:`D) (d:D),W.kitOne K (`bl (tyD d)) `tC=`a (f d)
theorem Wo0:okT `ge isInt:=`xG
theorem Vu0:okT `iv isStr:=`xG
theorem ar0:okT `rX isBool:=`xG
theorem J9:okT `ev `cI:=`xG
theorem Za0:okT `ew Xk0:=`xG
section
theorem X80{T:`cL}{f:`cD}(hT:okT T f):`dl X (`dB `rY) (λxs H Q=>∃B d x,xs=[x,.ty T]/\`A9/\Q (.bl (f d)) H):=by
 intro pins s σ H xs us Q I rs h;obtain⟨B,d,x,rfl,r,q⟩:=h;obtain⟨u,c,rfl,ru,rc⟩:=rs.two;obtain rfl:c=`p7 T:=rc;have fin:∀tk,EP X `i σ Q (`cd (f d)) { s with toks:=tk }:=λtk=>⟨`bD,H,I.tok tk,rfl,q⟩
 have e:=hT X.K d;cases d with
 | non=>rw[U8] at r;subst r;cases (show u=`nY from ru);exact E9 W.kitx_none `fL `m3 e `dF fin
 | bl y=>rw[W6] at r;subst r;cases (show u=`pu y from ru);exact E9 W.kitx_bool `fL `m3 e `dF fin
 | int i=>rw[n8] at r;subst r;obtain⟨t,rfl⟩:=(show `Q4 from ru);exact E9 W.kitx_int `fL `m3 e `dF fin
 | str y=>rw[X5] at r;subst r;obtain⟨t,rfl⟩:=(show ∃t,u=`KE y t from ru);exact E9 W.kitx_str `fL `m3 e `dF fin
 | tup ds =>
  rw[W4] at r;obtain⟨a,xs,rfl,hq,_⟩:=r;cases `Go;obtain⟨its,_,p,_⟩:=`e6 `on;obtain⟨o,h1,h2,_⟩:=p;exact E9 W.kitx_tuple `fL `ar' e `dF fin
 | lst ds =>
  rw[X7] at r;obtain⟨a,xs,rfl,hq,_⟩:=r;cases `Go;obtain⟨its,_,p,_⟩:=`dk `on;obtain⟨o,n,h1,h2,_⟩:=p;exact E9 W.kitx_list `fL `ar' e `dF fin
 | dct ks ds =>
  rw[vv0] at r;obtain⟨a,xs,rfl,_,hq,_⟩:=r;cases `Go;cases ks with
  | inl ks =>
   obtain⟨_,_,vs,_,p⟩:=(show `cb `a9 X.w H `aa a (`Ay) from `ar!);obtain⟨o,es,ep,h1,h2,_⟩:=p;exact `ar?
  | inr ks =>
   obtain⟨_,_,vs,_,o,es,ep,h1,h2,_⟩:=(show `cb `a9 X.w H `aa a (`T_) from `ar!);exact `ar?
 | fn ks ds =>
  rw[ee0] at r;obtain⟨a,xs,rfl,hq,_⟩:=r;cases `Go;obtain⟨oF,_,_,_,_,_,_,_,_,⟨_,h1⟩,⟨h2,_⟩,_⟩:=hq;exact E9 KfT.kit `fL ⟨oF,(`cc a _ h1).1,h2⟩ e `dF fin
theorem z80{T:`cL}{f:`cD}{Tn:Str}{p p2 pos:Pos}(hT:okT T f)(hb:`d8 Tn=`a `tC)(hm:`cW `rY=`b)(hmT:`cW Tn=`b)(h:`bU)(hg:Gl X `rY := by rfl)(hgT:Gl X Tn:=by rfl)
  (hn:Tn ≠`zp := by decide) (hd:(Tn==`tl)=`q:=by decide)
  (he:`di [e,`AL] `B=`mF::`UE:=by rfl) (he2:`UE=(`q,`bZ (`AL) `B)::`hK:=by rfl)
  (hpl:(`ey pos (`UE)).any `bv=`q:=by rfl) :
  PD X (`bL (`bK `rY p) [e,`AL] [] pos) (U7 f g) :=
 .mk λB δ=>(h70 (X80 hT) hg hm PyProof.Rows.boot_isinstance (K5 `ci (K5 (V50 (v:=.ty T) hgT hmT hb rfl hn hd) xj0 he2) he) `s `s he hpl).imp fun σ H Q ⟨d,en,h,k⟩=>by
  unfold U7 at h;cases e1:`ay with
  | none=>rw[e1] at h;cases h
  | some x =>
   rw[e1] at h;cases h;exact⟨x,en,e1,λv H1 s1 r1=>⟨B,x,v,rfl,r1,k _ H1 s1 (`Me)⟩⟩
theorem jl0{C:`Sq}[∀i j,`xH (C i j)]{g:`ES}{g':`asa}(hg:`asb):Op2 K (rI C g) (ii λi j=>if C i j then `a `Mv else `b):=by
 intro H B x y dx dy d Q hb rx ry h k;cases dx<;>cases dy<;>simp only[ii] at h<;>try cases h
 rename_i i j;split at h
 ·cases h
  rw[n8] at rx ry;subst rx ry;exact⟨i,j,rfl,rfl,`oo,`asc⟩
 ·cases h
theorem gb0{g:`ES}{g':`asa}(hg:`asb):Op2 K (rI0 g) (ii λi j=>`a `Mv):=by
 intro H B x y dx dy d Q hb rx ry h k;cases dx<;>cases dy<;>simp only[ii] at h<;>try cases h
 rename_i i j;rw[n8] at rx ry;subst rx ry;exact⟨i,j,rfl,rfl,`asc⟩
instance decDiv(i j:Int):`xH (Ye0 i j):=inferInstanceAs (`xH (`EU))
instance decPow(i j:Int):`xH (Yo0 i j):=inferInstanceAs (`xH (`Sr))
variable{a:`z}{ga:`bA}
theorem j30(ha:`dx)(hb:`dy):PD X (`mE a .Sub b pos) (o2 ga gb eg0):=s40 Tx0 (gb0 (g':=`alW) `Gp) ha hb
theorem V6(ha:`dx)(hb:`dy):PD X (`mE a .FloorDiv b pos) (o2 ga gb Y9):=s40 Vm0 (jl0 (C:=Ye0) (g':=`alY) `Gp) ha hb
theorem X4(ha:`dx)(hb:`dy):PD X (`mE a .Mod b pos) (o2 ga gb Z4):=s40 R80 (jl0 (C:=`alZ) (g':=`al_) `Gp) ha hb
theorem bn0(ha:`dx)(hb:`dy):PD X (`mE a .Pow b pos) (o2 ga gb iz0):=s40 R20 (jl0 (C:=Yo0) (g':=`al0) `Gp) ha hb
universe zz
universe DL
namespace L2
open Spec PyProof.Rows
noncomputable def Xz0(K:`D):R2:=λx y H Q=>∃l b xs zs,`Fv/\`w?/\SqL K H l xs/\SqL K H b zs/\`ae+zs.length<=`W/\∀p,`cH->Q `ch (upd H p (`o (xs++zs)))
theorem gs0:OpR X `w0 (Xz0 X.K):=by
 intro pins s σ H x y v u Q I rx ry h;obtain⟨l,b,xs,zs,rfl,rfl,hH,hB,hz,q⟩:=h;cases rx;cases ry;obtain⟨its,r,p1,z1⟩:=`dk hH;obtain⟨J,r2,p2,z2⟩:=`dk hB;obtain⟨⟨cls,dd,data,sl⟩,ho,hc,n,hd⟩:=`iA;obtain⟨⟨a2,a1,data2,a0⟩,O,M,n2,Y⟩:=`xI;simp only at hc hd M Y;subst hc hd M Y;have e:`be++J.toArray=(its++J).toArray:=`aS
 have Z:`gD+J.toArray.size<=`W:=by
  rw[`b0,`b0,← `a',← `p3];exact hz
 refine i8 `iu ⟨_,O,rfl⟩ noFill_list_add seq_list_add PySem.F.slot_list_add PySem.F.entry_list_add (PySem.F.args_list_add_2 _ _) (list_addW l b `be J.toArray n n2 dd a1 sl a0 Z) ⟨ho,O,?_⟩;rw[e];exact⟨`ab _,_,I.lnew (t':=`aZ) (`SD r2) (`ans),rfl,`asd⟩
universe L2
namespace DL
open Spec PyProof.Rows L2
section
variable{a:`z}{ga:`bA}
theorem li0(hb:`pI){p:`f}(h:`cH):¬B p:=λz=>hb p z h
theorem nk0{p:`f}(hb:`pI)(h:`cH)(r:`a4):Rp K (upd H p `kr) B `Ap `ch:=by
 rw[X7];exact⟨p,xs,rfl,`k ⟨li0 hb h,`k j8⟩,`ase⟩
theorem p70{p:`f}(hb:`pI)(h:`cH)(r:`a4):Rp K (upd H p `o1) B `t9 `ch:=by
 rw[W4];exact⟨p,xs,rfl,⟨li0 hb h,j8⟩,`ase⟩
theorem ve0:Op2 K (rI0 `Su) ltD:=gb0 (g':=`Su) `asf
theorem kl0:Op2 K (rI0 `Sv) gtD:=gb0 (g':=`Sv) `asf
theorem al0{x y:V}{dx dy:D}{b:`V}(rx:`Ub)(ry:`aqO)(h:`UF=`ed):`Ss/\`St=b:=by
 cases dx<;>cases dy<;>simp only[eqS] at h<;>try cases h
 all_goals
  simp only[U8,W6,n8,X5] at rx ry;subst rx ry;refine⟨rfl,?_⟩;simp
theorem R0:Op2 K rEq eqD:=by
 intro H B x y dx dy d Q hb rx ry h k;unfold eqD at h;cases e:`UF with
 | none=>rw[e] at h;cases h
 | some b =>
  rw[e] at h;cases h;obtain⟨h1,h2⟩:=`asg;exact`ash
theorem Se0:Op2 K rNe neD:=by
 intro H B x y dx dy d Q hb rx ry h k;unfold neD at h;cases e:`UF with
 | none=>rw[e] at h;cases h
 | some b =>
  rw[e] at h;cases h;obtain⟨h1,h2⟩:=`asg;exact`ash
theorem fm0:Op2 K `al1 nc0:=by
 intro H B x y dx dy d Q hb rx ry h k;have hy:dy=`w:=by cases dy<;>first|rfl|cases h
 subst hy;cases h;rw[U8] at ry;refine`asi;rw[W6];cases dx<;>simp only[U8,W6,n8,X5,W4,X7,vv0,ee0] at rx
 all_goals first
  | (subst rx;rfl)
  | (obtain⟨a,xs,rfl,_⟩:=rx;rfl)
theorem jh0(xs:`a5)(i:Int):`UG=DL.atI xs i:=rfl
theorem th0(n d:Nat)(o:`bC):`gB n d o=sIx n d o:=by cases o<;>rfl
theorem gt0{i:Int}{d:D}(r:`a4)(h:DL.atI ds i=`ar):∃v,`UG=`aL/\`cp:=by
 rw[jh0];unfold DL.atI at h ⊢;rw[`a'];cases e:DL.ixN `bN i with
 | none=>rw[e] at h;cases h
 | some j =>
  rw[e] at h;exact `nZ h
theorem Rg0:Op2 K (rIx K) ixD:=by
 intro H B x y dx dy d Q hb rx ry h k;cases dx<;>cases dy<;>simp only[ixD] at h<;>try cases h
 ·split at h
  ·rename_i hz
   rw[X5] at rx;rw[n8] at ry;subst rx ry;obtain⟨c,hc,rfl⟩:=`Gq;exact `h (`h ⟨_,_,c,rfl,rfl,hz,hc,`Uc⟩)
  ·cases h
 ·rw[W4] at rx
  rw[n8] at ry;subst ry;obtain⟨a,xs,rfl,q,r⟩:=rx;obtain⟨v,hv,rv⟩:=gt0 r h;exact `h (`asj)
 ·rw[X7] at rx
  rw[n8] at ry;subst ry;obtain⟨a,xs,rfl,q,r⟩:=rx;obtain⟨v,hv,rv⟩:=gt0 r h;exact `asj
theorem p8(ha:`dx)(hb:`dy)(hs:t80 b:=by exact `lU):PD X `rD (o2 ga gb ixD):=Q30 S80 Rg0 ha hb hs
structure PDO(X:Cx)(e:`pV)(g:`FO):Prop where
 mk::go:`ask
instance{X:Cx}{e:`pV}{g:`FO}:`dZ (PDO X e g) (λ_=>`ask):=⟨PDO.go⟩
theorem O9:PDO X `b V8:=.mk λB δ pins s σ H Q I ⟨o,en,h,k⟩=>by
 cases h;exact Wb0 `i s σ H Q I (k H `c1)
theorem R9(h:`bU):PDO X (`a e) (`eM g):=.mk λB δ pins s σ H Q I ⟨o,en,hq,k⟩=>by
 unfold someO at hq;cases e1:`ay with
 | none=>rw[e1] at hq;cases hq
 | some d =>
  rw[e1] at hq;cases d<;>simp[asI] at hq
  subst hq;exact Vs0 `ci `i s σ H Q I ⟨_,en,e1,λv H' s' r=>⟨_,`asl,k H' s'⟩⟩
theorem e20(r:`a4)(lo hi:`bC):Rps K H B (`hO ds lo hi) (`zY):=by
 unfold cutD qs0;rw[`a',th0,th0];exact(`Lx _).take _
theorem z70{d:D}(h:Rps K H B [d] xs):∃v,xs=[v]/\`cp:=by
 rw[o9] at h;obtain⟨x,r,rfl,h1,h2⟩:=h;rw[m9] at h2;subst h2;exact`FX
theorem Tj0:FnR K (λxs H Q=>(`an1)∨∃p ys,`jo/\(`asm∨`asn)/\`an_) b7:=by
 intro H B xs ds d Q hb r h k;unfold b7 at h;split at h
 ·split at h
  ·cases h
   obtain⟨v,rfl,r1⟩:=`iB;rw[X5] at r1;subst r1;exact `k ⟨_,rfl,`oo,`p4⟩
  ·cases h
 ·cases h
  obtain⟨v,rfl,r1⟩:=`iB;rw[X7] at r1;obtain⟨a,ys,rfl,q,rr⟩:=r1;exact `h ⟨a,ys,rfl,`k `cR,`aso⟩
 ·cases h
  obtain⟨v,rfl,r1⟩:=`iB;rw[W4] at r1;obtain⟨a,ys,rfl,q,rr⟩:=r1;exact `h ⟨a,ys,rfl,`h `cR,`aso⟩
 ·cases h
theorem X8(hm:`cW `pk=`b)(ha:`asp)(hg:Gl X `pk := by rfl)(he:`iC:=by rfl)(hpl:`hd:=by rfl) :
  PD X (`bL (`bK `pk p) [e] [] pos) (oA gA b7):=wv0 (h90.or hh0) Tj0 hm `asq ha hg `s `s he hpl
theorem mx0:∀{ds:`n} {xs:`K} {bs:`rO},`a4->`acS=`a bs->xs=`Gn
 | [],_,_,r,h=>by
  cases h;rw[m9] at r;exact r
 | `av,_,bs,r,h=>by
  rw[o9] at r;obtain⟨x,t,rfl,r1,r2⟩:=r;cases d<;>simp only[bools] at h<;>try cases h
  obtain⟨t',e,rfl⟩:=`Gq;rw[W6] at r1;rw[r1,mx0 r2 e];rfl
theorem Ta0:FnR K (λxs H Q=>∃(p:`f) (bs:`rO),`jo/\SqL K H p (`Gn)/\Q (`FP) H) Zg0:=by
 intro H B xs ds d Q hb r h k;unfold Zg0 at h;split at h
 ·obtain⟨bs,e,rfl⟩:=`Gq
  obtain⟨v,rfl,r1⟩:=`iB;rw[X7] at r1;obtain⟨a,ys,rfl,q,rr⟩:=r1;have:=mx0 rr e;subst this;exact⟨a,bs,rfl,`cR,`Mw⟩
 ·cases h
theorem ig0:∀{ds:`n} {xs:`K} {bs:`u},`a4->qm0 ds=`a bs->xs=bs.map `w2
 | [],_,_,r,h=>by
  cases h;rw[m9] at r;exact r
 | `av,_,bs,r,h=>by
  rw[o9] at r;obtain⟨x,t,rfl,r1,r2⟩:=r;cases d<;>simp only[qm0] at h<;>try cases h
  obtain⟨t',e,rfl⟩:=`Gq;rw[X5] at r1;rw[r1,ig0 r2 e];rfl
theorem Wy0{apos cpos:Pos}(ho:PD X o g)(ha:`asp)(hbase:`mK o "join" `B `tT=`tq:=by rfl)
  (hfew:(`Gr
  &&`G ([e].length+`ur+`us<30))=`c:=by rfl)
  (hline:`j6:=by rfl) (hs:`iC:=by rfl) (hplain:`Gs:=by rfl) :
  PD X (`bL (`pp o "join" `mL) [e] [] `dI) (p40 g gA):=.mk λB δ =>
 (om0 F.plainAttrs_str F.slot_str_join F.type_str_join Up0 (ho B δ) `bV `j7 hfew `j8 hs `rG).imp fun σ H Q ⟨d,en,h,k⟩=>by
  unfold p40 at h;cases e1:`ay with
  | none=>rw[e1] at h;cases h
  | some x =>
   cases e2:`cg with
   | none=>rw[e1,e2] at h;cases h
   | some ds =>
    rw[e1,e2] at h;simp only[`j] at h;unfold k60 at h;split at h
    ·cases e3:qm0 _ with
     | none=>rw[e3] at h;cases h
     | some ys =>
      rw[e3] at h;simp only[`j] at h;split at h
      ·cases h
       refine⟨_,en,e1,`Gt⟩;rw[X5] at r1;subst r1;refine⟨rfl,_,`fU,e2,λvs H2 s2 r2=>?_⟩;obtain⟨w,rfl,r3⟩:=z70 r2;rw[X7] at r3;obtain⟨a,zs,rfl,q,rr⟩:=r3;have:=ig0 rr e3;subst this;exact⟨_,a,ys,rfl,rfl,`cR,`oo,k _ H2 `kM `Mf⟩
      ·cases h
    ·cases h
theorem ym0:FnR K (λxs H Q=>∃p ys,`jo/\((`asm/\`an6)∨(`asn/\Q `ch H))) R3:=by
 intro H B xs ds d Q hb r h k;unfold R3 at h;split at h
 ·cases h
  obtain⟨v,rfl,r1⟩:=`iB;rw[X7] at r1;obtain⟨a,ys,rfl,q,rr⟩:=r1;exact⟨a,ys,rfl,`k ⟨`cR,λl hl=>k _ _ (X3 hl) (p70 hb hl rr)⟩⟩
 ·cases h
  obtain⟨v,rfl,r1⟩:=`iB;have F:=r1;rw[W4] at r1;obtain⟨a,ys,rfl,q,rr⟩:=r1;exact⟨a,ys,rfl,`h ⟨`cR,k _ H `c1 F⟩⟩
 ·cases h
universe zz
section
variable{a:`z}{ga:`bA}
theorem v40(h:`dx):PD X (`K_ .USub a pos) (unG wx0 ga):=.mk λB δ=>(Qm0 Tw0 `ci).imp fun σ H Q ⟨d,en,h,k⟩=>by
 unfold unG at h;cases e1:`eD with
 | none=>rw[e1] at h;cases h
 | some x =>
  rw[e1] at h;cases x<;>simp[wx0] at h
  subst h;exact⟨_,en,e1,λv H' s r=>⟨_,`asl,k _ H' s `ug⟩⟩
noncomputable def FnD(P:`ag)(w:`N)(K:`D)(mg:`bX)(base:`R)(x:Str)(k:Nat)(ps:`u)(f:`J):Prop :=
 ∃(fa:`f) (fd:`f'),`af P w K mg `t CX0 k fa fd ps (spD K f)/\`UH
theorem Z8{k:Nat}{ps:`u}{f:`J}(C:`asr)(hr:`xJ)(hk:k<=m)(ha:`oj)(hg:`dU:=by rfl)(hdb:`bt:=by decide)
  (he:`dV:=by rfl) (hpl:`ir:=by rfl):`xz:=by
 obtain⟨fa,fd,F,hm,kp,hb⟩:=C;exact We0 F `Gu hm kp hb ha hg hdb he hpl
theorem wy0{sc scope:`c!}{elt iter tg:`z}{ifs:`b2}{N N':`u}{n:Nat}{caps:`e}{gi:`da}{idx:`e}{f:`aJ}{gt:`fD}{ge:`bA}
  (ok:`xK) (hidx:∀j∈idx,j<n) (hi:`lW)
  (hg:`om) (ht:`rV) (he:`rW)
  (hc:`bz:=by rfl) (hsc:`iw:=by rfl) (hN:X.N=N:=by rfl) (hs:`g6:=by intro _;rfl) :
  `arX:=Vr0 hc hsc `Gv `ka hi hg ht he hs
theorem Z20(i:Nat){y:Str}{py spos:Pos}{sc scope:`c!}{elt iter tg:`z}{ifs:`b2}{N N':`u}{n:Nat}{caps:`e}{gi:`da}{idx:`e}{f:`aJ}{gt:`fD}{ge:`bA}
  (hnd:`Ez) (ok:`xK) (hidx:∀j∈idx,j<n) (hi:`lW)
  (hg:`om) (ht:`rV) (he:`rW)
  (hc:`bz:=by rfl) (hsc:`iw:=by rfl) (hN:X.N=N:=by rfl)
  (hiN:`rL:=by rfl) (hy:`oc:=by first|exact `bE|exact `eF)
  (hsw:`TI:=by rfl)
  (hs:`g6:=by intro _;rfl)
  (hf:`od:=by first|exact `a3|exact `b1|assumption) :
  `arY:=gj0 i (hN▸hnd) hc hsc `Gv `ka hi hg ht he hiN hy hsw hs hf
universe zz
universe DL
namespace DL
open Spec PyProof.Rows
@[simp] noncomputable def fz:D->Sl
 | `m [`ik,`ik]=>.un
 | `m (`bj::_)=>.un
 | `m [`b!,`rM]=>.un
 | d=>.sh (unl d)
@[simp] noncomputable def zu0:Sl->Sl
 | `uo=>fz d
 | s=>s
@[simp] noncomputable def frz(δ:Ds):Ds:=δ.map zu0
@[simp] noncomputable def flat:`cD
 | `w=>`c|`bD=>`c|`b!=>`c|`bj=>`c|_=>`q
@[simp] noncomputable def Q0(g:GE):GE:=fun δ=>`UI `ass
@[simp] noncomputable def yp0(g:GB):GB:=`ast
@[simp] noncomputable def xu0(g:GE):GE:=`ast
@[simp] noncomputable def frzAt(i:Nat)(δ:Ds):Ds:=match `cv with
 | `a s=>`bw i `UJ
 | `b=>δ
@[simp] noncomputable def Yb0(i:Nat)(G:GS):GS:=fun δ=>G (frzAt i δ)
@[simp] noncomputable def T5(i:Nat)(g:GE):GS:=fun δ=>`rN λd=>.nx `m4
abbrev GX:=Ds->`aD (D×Ds)
@[simp] noncomputable def V7(g:GE):GX:=fun δ=>`rN λd=>(d,δ)
variable{gx:DL.GX}
@[simp] noncomputable def V3(gx:GX)(ft:`aJ):GS:=fun δ=>`asu λr=>(ft r.1 r.2).map .nx
@[simp] noncomputable def W7(gx:GX):GS:=fun δ=>`asv λr=>.nx r.2
@[simp] noncomputable def owL(i:Nat)(δ:Ds):`ky:=match `cv with
 | `asw=>`mR
 | _=>`b
@[simp] noncomputable def S9(i:Nat)(g:GE):GX:=fun δ=>`rZ λds=>`db λd=>if `asx then `a (`w,`asy) else `b
@[simp] noncomputable def ew0(i:Nat)(g:GE):GX:=fun δ=>`rZ λds=>`db λd=>match d with
 | `uy=>if `bN+`m8<=`W then `a (`w,`bw i (.ow (`o (ds++es)))) else `b
 | _=>`b
@[simp] noncomputable def uy0(i:Nat):GX:=fun δ=>`rZ λds=>(`asz).map λd=>(d,`asA)
@[simp] noncomputable def tz0(i:Nat)(g:GE):GX:=fun δ=>`rZ λds=>`db λd=>match d with
 | `fk=>if `f_/\k<ds.length then (ds[k.toNat]?).map λd=>(d,`bw i (.ow (`o (`UK `c4)))) else `b
 | _=>`b
@[simp] noncomputable def setAt(i:Nat)(g:GE):`aJ:=λv δ=>`rZ λds=>`db λd=>match d with
 | `fk=>(ixN `bN k).map λj=>`asB
 | _=>`b
abbrev U6:=`LT
@[simp] noncomputable def R7:D->`aD U6
 | `aj=>`a (`n_)
 | `bY=>`a (`ls)
 | _=>`b
variable{ks:`asC}
noncomputable def q40:`n->`aD (`dK)
 | []=>`jK
 | `av=>`UL λk=>(`Gw).map (k::·)
@[simp] noncomputable def yo0:D->`aD (`dK)
 | `bO=>`Gw
 | _=>`b
noncomputable def R5{κ:Type}[`he]:`hf->`n->κ->`cs
 | `gj,`av,q=>if k=q then `ar else `lY
 | _,_,_=>`b
noncomputable def Q5{κ:Type}[`he](ks:`hf)(k:κ):`V:=ks.any λq=>`G (q=k)
noncomputable def zc0{κ:Type}[`he](ks:`hf)(k:κ):`hf:=if Q5 ks k=`c then ks else ks++[k]
noncomputable def zk0{κ:Type}[`he](ks:`hf)(ds:`n)(q:κ)(v:D):`n:=if `UM then `asD (`ad1) else ds++[v]
@[simp] noncomputable def m20(i:Nat)(δ:Ds):`aD (`asE):=match `cv with
 | `a (.ow `p6)=>`asF
 | _=>`b
@[simp] noncomputable def putAt(i:Nat)(g:GE):`aJ:=λv δ=>(`Gx).bind λr=>`db λd=>`UL λk =>
 if `asG then `a (`bw i (.ow (`aP (`k `asH) `asI))) else `b
@[simp] noncomputable def nr0(i:Nat)(δ:Ds):`aD (`asJ):=match `cv with
 | `a (.ow (`aP (`lR) ds))=>`asF
 | _=>`b
@[simp] noncomputable def rs0(i:Nat)(g:GE):`aJ:=λv δ=>(`UN).bind λr=>`db λd=>`asK λk =>
 if `asG then `a (`bw i (.ow (`aP (`h `asH) `asI))) else `b
@[simp] noncomputable def yy0:`b?
 | `j',d=>match ks with
  | `mT=>`UL `asL
  | `lR=>`asK `asL
 | _,_=>`b
@[simp] noncomputable def ys0(neg:`V):`b?
 | d,`j'=>match ks with
  | `mT=>(R7 d).map `asM
  | `lR=>(yo0 d).map `asM
 | _,_=>`b
noncomputable def V2(gt:GB)(G:GS):Nat->`g!
 | 0,_=>`b
 | n+1,δ=>match `i? with
  | `bH=>`Aq
  | `dv=>match G δ with
   | `a?=>`asN
   | `ha=>`asN
   | `hb=>`a?
   | r=>r
  | `b=>`b
@[simp] noncomputable def Q7(i j:Nat):`aJ
 | `m `hy,δ=>`a (`asO)
 | _,_=>`b
mutual
noncomputable def deq:D->`cD
 | `w,`w=>`c
 | `rE,`ce=>`ii
 | `rE,`g'=>`S8
 | `n!,`ce=>`S9
 | `n!,`g'=>`ii
 | `E a,`rF=>`ii
 | `d7,`z3=>`UO
 | `cQ,`tN=>`UO
 | _,_=>`q
noncomputable def J7:`n->`Gy
 | [],[]=>`c
 | `j2,`rz=>`UP&&`UO
 | _,_=>`q
end
mutual
noncomputable def lean:D->Nat->`V
 | `kb,_=>`q
 | `kc,_=>`q
 | `d7,n+1=>`UQ
 | `cQ,n+1=>`UQ
 | `rM,0=>`q
 | `ik,0=>`q
 | _,_=>`c
noncomputable def leans:`n->Nat->`V
 | [],_=>`c
 | `j2,n=>`bx x n&&`UQ
end
@[simp] noncomputable def W5(x y:D):`cs:=if `asP then `a (.bl (`UP)) else `b
@[simp] noncomputable def Q8(x y:D):`cs:=if `asP then `a (.bl (!`UP)) else `b
@[simp] noncomputable def eqF:D->`cD
 | `w,`w=>`c
 | `rE,`ce=>`ii
 | `rE,`g'=>`S8
 | `n!,`ce=>`S9
 | `n!,`g'=>`ii
 | `E a,`rF=>`ii
 | _,_=>`q
@[simp] noncomputable def vy0(neg:`V):`b?
 | x,`tN=>`asQ
 | x,`z3=>`asQ
 | _,_=>`b
@[simp] noncomputable def X40:`J
 | `i2=>`a `ab2
 | _=>`b
@[simp] noncomputable def intOfD:`J
 | [`aj]=>`RW
 | [`ty]=>`a (`Lf)
 | _=>`b
@[simp] noncomputable def qh0:`J
 | `xp=>`lP
 | [`bO]=>`lP
 | _=>`b
noncomputable def mkF(n:Nat)(N:`u)(G:GS)(ds:`n):`cs:=if `r_ then (match `uk with
 | `ul=>`ar
 | `m0=>`asR
 | `a (.nx _)=>`qV
 | _=>`b) else `b
theorem U0{d:D}(h:`asS):`r_/\`ar_:=by
 unfold mkF at h;split at h
 ·rename_i hl
  refine`asT;split at h
  ·rename_i e;cases h;exact `pS
  ·rename_i e
   split at h
   ·cases h
   ·rename_i hn
    cases h;exact `h (`h `asU)
  ·rename_i e;cases h;exact `h (`k ⟨rfl,_,e⟩)
  ·cases h
 ·cases h
noncomputable def mkN(n:Nat)(N:`u)(G:GS)(ds:`n):`cs:=if `r_ then (match `uk with
 | `m0=>`asR
 | _=>`b) else `b
theorem v30{d:D}(h:`asV):`r_/\`Mr:=by
 unfold mkN at h;split at h
 ·rename_i hl
  refine`asT;split at h
  ·rename_i e
   split at h
   ·cases h
   ·rename_i hn
    cases h;exact`asU
  ·cases h
 ·cases h
theorem K1{d:D}(hl:`r_)(h:`adf)(hn:`AK:=by rfl):`asV:=by
 unfold mkN;rw[`lV,h];simp only[];rw[hn];rfl
@[simp] noncomputable def yl0(g:GE):GS:=fun δ=>`rN .rf
@[simp] noncomputable def pp0(i:Nat):GS:=fun δ=>match `cv with
 | `pX=>`m0
 | _=>`b
theorem O7{G1 G2:GS}{d:D}(h:`kz=`m0):`FR=`m0:=`TY
theorem yv0{g:GE}{d:D}(h:`ix):yl0 g δ=`m0:=by unfold yl0;rw[h];rfl
theorem j4{d:D}(hl:`r_)(h:`adg):`asS:=by
 unfold mkF;rw[`lV,h]
theorem u5{G1 G2:GS}{r:`py}(h:`TX)(k:`xm=r):`FR=r:=(Si0 h).trans k
@[simp] noncomputable def d9:`b?
 | `aj,`cY=>`a (`abV)
 | `bY,`E y=>if `m2+y.length<=`W then `a (`E (x++y)) else `b
 | `cQ,`tN=>if `Fh then `a (`o `z_) else `b
 | `d7,`z3=>if `Fh then `asW else `b
 | _,_=>`b
noncomputable def dl0(x:Str)(n:Int):Str:=`UR
@[simp] noncomputable def J4:`b?
 | `aj,`cY=>if `alT then `afI else `b
 | `bY,`rU=>`asX
 | `d7,`fk=>if `lE/\2<=k/\`xL/\`asY then `a (`US) else `b
 | _,_=>`b
@[simp] noncomputable def slA(d:D)(lo hi:`bC):`cs:=match d with
 | `hC=>if `pl then `a `ar8 else `b
 | `cQ=>`a (`o (`UT))
 | `d7=>`a (`m (`UT))
 | _=>`b
@[simp] noncomputable def U5(g:GE)(gl gh:GO):GE:=fun δ=>`db λd=>(gl δ).bind λl=>(gh δ).bind λh=>slA d l h
universe DL
variable{ks:`asC}{gx:DL.GX}
namespace Dep
open Spec PyProof.Rows
section
variable{w:`N}{K:Type}[`Mz K]{knd:`asZ}{s:`r}{d:`f}{xs:`as_}{k:K}{Q:`n2}
noncomputable def At(knd:`asZ)(h:`R)(d:`f)(xs:`as_):Prop :=
 ∃o es ep,`UU/\`wy/\`wz/\`Rd=`o2 (`wA knd)/\(∀x∈xs,knd.is h x.1 x.2.1)/\`aju
theorem At.old{h:`R}(x:At knd h d xs):h.DictOfH knd d xs:=by obtain⟨o,es,ep,a,b,c,e,f,g,_⟩:=x;exact⟨o,es,ep,a,b,c,e,f,g⟩
theorem put(hu:knd.room A)(hkey:`as0)(hm:`as1)
  (hQ:`as2) (hsz:`eT) :
  `l `ao A (`as3) Q E s:=by
 obtain⟨o,es,ep,ho,hc,hd,he,F,hn,hp⟩:=hm;unfold dictSet
 try with_reducible refine `kR
 refine A0 (knd.pyHash hu hkey ?_);unfold dictSetHashed
 try with_reducible refine `kR
 refine A0 (wpAny_dictFind_heap (s:=`UV) hu hkey ho hd he F hn ?_ ?_)
 ·intro M
  have J:=atKey_none_of_get M;have O:k∉`o2 `bv:=not_mem_keys_of_get M;refine A0 (L9 (wpAny_updateDictKeys (hz:=by have e:=size_of_entries he;omega) (s:=`UV) ho hd (hQ _ ?_ `r0)));rw[storedH_new J];refine⟨_,_,ep+1,S4 _ ho (`as4 (`as5)),hc.mapDictKeys _,`as5,by simp[he,`wA],`f3,?_,`TV⟩
  ·rcases `Gz with hx|hx
   ·exact `UW (F x hx) ho hd `r0
   ·rw[`r1];exact `UW hkey ho hd `r0
  ·rw[`aW,`as6]
   exact⟨hn,`aS,λx hx y hy e=>O (by rw[`Z,`fW,`as7] at hy;have e2:x=k:=e.trans hy;rw[← e2];exact hx)⟩
 ·intro j p hj
  have Y:=atKey_of_get hn hj;refine A0 (L9 (A0 (wpAny_updateDict (s:=`UV) ho hd (wpAny_point (hQ _ ?_ `r0)))));rw[storedH_old Y];refine⟨_,_,ep,S4 _ ho (`as4 (`as8)),hc.mapDict _,`as8,?_,`f3,?_,`TV⟩
  ·have:=modify_map_putAt (`wA knd) (λe:`acw=>{ e with val:=v }) k v (`lU) hn hj
   rw[← he] at this;obtain⟨l⟩:=es
   simpa using `x
  ·obtain⟨y,hy,rfl⟩:=`r2
   unfold putAt;split<;>exact `UW (F y hy) ho hd `r0
  ·rw[keys_map_putAt];exact hn
theorem set(hu:knd.room `bF)(hkey:`as0)(hm:`as1)
  (hQ:`as2) (hsz:`eT) :
  `l `ao A (`zB (`qd) `dc v) Q E s:=by
 have ty:=hm.old.typeIs;unfold setItem
 try with_reducible refine `kR
 refine A0 (y6 ty `s ?_);refine A0 (E5 (name:=`zU `as9) ty `as' (C9 `as' ty entry_dict_setitem ?_ (args_dict_setitem _ _ _)));show `l _ _ (Builtin.Dict.notOrdered `as9 ⟨[`qd,`dD,v],[]⟩>>=_) _ _ s;refine `as!;show `l _ _ (`as3>>=_) _ _ s;exact A0 (put hu hkey hm (λh' J F=>A1 ⟨`aE,rfl,A1 (hQ h' J F)⟩) hsz)
universe zz
universe Dep
namespace L2
open Spec PyProof.Rows
section
variable[`he]
noncomputable def O3(kvs:`fx)(k:κ):`dh:=(`agX `MH).map `b_
noncomputable def putK(kvs:`fx)(k:κ)(v:V):`fx :=
 if `GA=`c then `MI (λkv=>if `AQ then (kv.1,v) else kv) else `as?
theorem u30{p:`zl}{r:`fx}{k:κ}(e:`le):`ata=`zq:=`atb
theorem uh0{p:`zl}{r:`fx}{k:κ}(e:¬`le):`ata=O3 r k:=`atb
theorem ic0(k:κ):∀kvs:`fx,`GA=(`ji).isSome
 | []=>rfl
 | p::r=>by
  rw[`j5]
  by_cases e:`le
  ·simp only[u30 e,`bR e,Bool.true_or,Option.isSome_some]
  ·rw[`xM,`D?,`atc];exact ic0 k r
theorem xk0(kvs:`fx)(k:κ)(v:V):`adv<=`mf+1:=by
 unfold putK;split
 ·rw[`M];omega
 ·rw[`ai,`bo,`h1];omega
theorem RelO.isSome_eq{o:`dh}{u:`mb}(r:RelO o u):`UX=u.isSome:=by
 cases o with
 | none=>cases u with
  | none=>rfl
  | some _=>exact`Sy
 | some _=>cases u with
  | none=>exact`Sy
  | some _=>rfl
theorem KV.val{kvs:`fx}{vs:`re}(r:`ko)(k:κ):RelO `GB (`atd):=by
 unfold KV at r
 induction r with
 | nil=>exact `m3
 | @cons p q ps qs h t ih =>
  obtain⟨h1,h2⟩:=h
  by_cases e:`le
  ·have e':q.1=k:=`AU e
   have b:`ate=`a q.2:=`atf
   rw[u30 e,b];exact h2
  ·have e':¬q.1=k:=`MJ
   have b:`ate=`AT qs k:=`atf
   rw[`xM,b];exact ih
theorem KV.any{kvs:`fx}{vs:`re}(r:`ko)(k:κ):`GA=`atg:=by
 unfold KV at r
 induction r with
 | nil=>rfl
 | cons h t ih=>rw[`j5,`j5,ih,h.1]
theorem KV.repl{kvs:`fx}{vs:`re}(r:`ko)(k:κ){y:V}(ry:`eW) :
  KV `ath (`E4 λkv=>if `AQ then (kv.1,u) else kv):=by
 unfold KV at r ⊢
 induction r with
 | nil=>exact `L
 | @cons p q ps qs h t ih =>
  rw[`Z,`Z];refine `ati;obtain⟨h1,h2⟩:=h
  by_cases e:`le
  ·rw[`iD,`atj];exact⟨h1,ry⟩
  ·rw[`gk,`atk];exact`Dk
theorem KV.put{kvs:`fx}{vs:`re}(r:`ko)(k:κ){y:V}(ry:`eW):KV (putK kvs k y) (stored vs k u):=by
 unfold putK stored;rw[r.any k]
 by_cases e:(`atg)=`c
 ·rw[`iD,`iD];exact `atl
 ·rw[`gk,`gk];exact `atm r ⟨rfl,ry⟩
theorem KV.length{kvs:`fx}{vs:`re}(r:`ko):`mf=`cf:=`MN r
universe zz
theorem p30{P:`ag}{w:`N}{k:Key}(r:`UY):(P0 P w).is k u=`c:=by
 cases k with
 | inl i=>obtain⟨t,e⟩:=(show `Q4 from r);subst e;exact gg0 P w i t
 | inr x=>obtain⟨t,e⟩:=(show `ajk from r);subst e;exact gf0 P w x t
theorem lg0{P:`ag}{w:`N}:∀{ks:`de} {us:`U},`bi (`uq kV) us->ItemsAre `s! ks us
 | [],_,r=>`ar6
 | `gj,_,r=>by
  rw[`Z] at r;cases r with
  | cons h t=>exact `ah (p30 h) (lg0 t)
abbrev KT(H:Hp):`eJ->`jX->Prop:=`bp λp q=>`aa1
theorem KT.val{kvs:`eJ}{xs:`jX}(r:`r3)(k:`de):RelO `GB (`atn):=by
 induction r with
 | nil=>exact `m3
 | @cons p q ps qs h t ih =>
  obtain⟨h1,_,h2⟩:=h
  by_cases e:`le
  ·have e':q.1=k:=`AU e
   have b:`ato=`a q.2:=`atp
   rw[u30 e,b];exact h2
  ·have e':¬q.1=k:=`MJ
   have b:`ato=`AV qs k:=`atp
   rw[`xM,b];exact ih
theorem KT.repl{kvs:`eJ}{xs:`jX}(r:`r3)(k:`de){y:V}(ry:`eW) :
  KT H `ath (`o2 (`uB k u)):=by
 induction r with
 | nil=>exact `L
 | @cons p q ps qs h t ih =>
  rw[`Z,`Z];refine `ati;obtain⟨h1,h2,h3⟩:=h;unfold putAt
  by_cases e:`le
  ·rw[`iD,`atj];exact⟨h1,h2,ry⟩
  ·rw[`gk,`atk];exact⟨h1,h2,h3⟩
theorem KT.put{kvs:`eJ}{xs:`jX}(r:`r3)(k:`de){b:`f}{y:V}(hb:`m9)(ry:`eW) :
  KT H (putK kvs k y) (storedH xs k b u):=by
 have e:`GA=`atq:=by
  rw[ic0,(r.val k).isSome_eq,`atr]
 unfold putK storedH;rw[e]
 by_cases q:`atq=`c
 ·rw[`xN,`xN];exact `atl
 ·rw[`xO,`xO];exact `atm r ⟨rfl,hb,ry⟩
theorem KT.keeps{kvs:`eJ}{xs:`jX}(r:`r3)(ht:∀b ys,H b=`Np->`gp=`Np):KT H' kvs xs :=
 `Ei r λ_ _ z=>`ajD
section
variable{P:`ag}{w:`N}{h:`R}
theorem W20{u:HO}(ok:`eU)(e:Rd H a u):`ajH:=e.ok ok
theorem on0(ok:`eU)(e:`UZ):`Rc :=
 show `cb P w H h a `z4 from W20 ok e
theorem kj0(ok:`eU)(e:`xP):`Rc:=on0 ok `AX
theorem rq0{ks:`de}(ok:`eU)(e:H a=`a `ats):`att h ks a:=by
 obtain⟨_,its,r,o,h1,h2,n,h3,_⟩:=(show `cb P w H h a `ats from ok a _ e);exact⟨o,`be,n,h1,h2,h3,by simpa using lg0 r⟩
theorem j50{kvs:`eJ}(ok:`eU)(e:`GC):`mh/\`mi /\
  ∃xs,`r3/\Dep.At `Re h a xs:=by
 obtain⟨z,y,xs,r,o,es,ep,h1,h2,h3,h4,h5,h6⟩:=(show `cb P w H h a `z6 from W20 ok e);refine⟨z,y,xs,r,o,es,ep,h1,h2,h3,h4,`f3,h5,h6⟩;have all:∀{l:`eJ} {m:`jX},KT H l m->∀x∈m,`att h x.1 x.2.1:=by
  intro l m q
  induction q with
  | nil=>intro x hx;exact nomatch hx
  | @cons p q ps qs hq t ih =>
   intro x hx;rcases `TA with e|hx
   ·subst e
    exact rq0 ok (by rw[← hq.1];exact hq.2.1)
   ·exact ih x hx
 exact all r x hx
theorem k80{kvs:`eJ}(ok:`eU)(e:`GC):`mh/\`mi /\
  ∃xs,`r3/\h.DictOfH `Re a xs:=by
 obtain⟨z,y,xs,r,d⟩:=j50 ok e;exact⟨z,y,xs,r,d.old⟩
universe zz
noncomputable def DGet(H:Hp)(a:`f)(y:V)(r:`dh):Prop :=
 (∃kvs k,`UZ/\y=kV k/\r=`ji)∨∃kvs k b,`GC/\`w?/\`m9/\r=`ji
noncomputable def DPut(H:Hp)(a:`f)(y v:V)(H':Hp):Prop :=
 (∃kvs k,`xP/\y=kV k/\`lZ/\H'=`U_) ∨
 ∃kvs k b,`U0/\`w?/\`m9/\`lZ/\H'=`atu
theorem DGet.k{k:Key}(e:`xP):DGet H a (kV k) `GB:=`k ⟨kvs,k,`pS,rfl,rfl⟩
theorem DGet.t{b:`f}{kvs:`eJ}{k:`de}(e:`U0)(eb:`m9):DGet H a `p_ `GB:=`h ⟨kvs,k,b,`pS,rfl,eb,rfl⟩
theorem DPut.k{k:Key}{v:V}(e:`xP)(hl:`lZ):DPut H a (kV k) v (`U_):=`k ⟨kvs,k,e,rfl,hl,rfl⟩
theorem DPut.t{b:`f}{kvs:`eJ}{k:`de}{v:V}(e:`U0)(eb:`m9)(hl:`lZ) :
  DPut H a `p_ v (`atu):=`h ⟨kvs,k,b,e,rfl,eb,hl,rfl⟩
section
variable{σ:St}{s:`r}{y v:V}{r:`A}{o:`dh}
theorem Inv.big(I:`C):`U1:=by
 have h:`aer:=`aeq;exact A70 `s h
theorem c50(hu:`FE)(I:`C)(g:DGet H a y `o6)(ry:`eW)(h:∀w' s',`GD->`dd v w'->Q w' s') :
  `l `ac A (`mH `dc u) Q E s:=by
 rcases g with⟨kvs,k,e,ey,l⟩|⟨kvs,k,b,e,ey,eb,l⟩
 ·subst ey
  obtain⟨z,hd,vs,rel,dd⟩:=`GE;obtain⟨w',hw,F⟩:=`atv (v:=v) (o:=`atd) `atw;exact wpAny_getItem_of `GF dd.mapOf hw (`atx)
 ·subst ey
  cases `U2;obtain⟨z,hd,xs,rel,dd⟩:=`GG;obtain⟨w',hw,F⟩:=`atv (v:=v) (o:=`atn) `atw;obtain⟨p,hp,J⟩:=Y2.mp hw;refine wpAny_getItem_heap `U3 `GH dd hp ?_;rw[J];exact `atx
theorem U50(hu:`FE)(I:`C)(g:`aty)(ry:`eW)(h:∀s',`GD->Q (`cd (!`UX)) s') :
  `l `ac A (`e7 `ru u `dc) Q E s:=by
 rcases g with⟨kvs,k,e,ey,l⟩|⟨kvs,k,b,e,ey,eb,l⟩
 ·subst ey
  obtain⟨z,hd,vs,rel,dd⟩:=`GE;refine wpAny_notIn_of `GF hd dd.mapOf ?_;rw[← `atz,← l];exact h _ (`d?)
 ·subst ey
  cases `U2;obtain⟨z,hd,xs,rel,dd⟩:=`GG;refine wpAny_notIn_heap `U3 `GH hd dd ?_;have q:=`atz;rw[`atr] at q;rw[← q,← l];exact h _ (`d?)
theorem tx0{t':Nat}{ob:HO}(I:`C)(mu:Mut (H a))(hs:`akb)(he:`U4)(new:`cb `a9 X.w (upd H a ob) h' a ob) :
  Inv X `i σ (upd H a ob) `o! :=
 `S6 (x:=a) (e:=a) mu `gq (λb q hb z=>(`fK b hb).trans z) he new
theorem kw0{P:`ag}{w:`N}{H':Hp}{vs:`T (Key×`A)}(z:`mh)(hd:`mi)(rel:`ko)(dd:h'.DictOf `s! a vs) :
  `cb P w H' h' a `z4:=⟨z,hd,vs,rel,dd⟩
theorem cw0{Q:`n2}(hu:`FE)(I:`C)(g:DPut H a y v H')(ry:`eW)(rv:`GI)(h:∀s',`jY->`RL) :
  `l `ac A (`zB `dc u r) Q E s:=by
 rcases g with⟨kvs,k,e,ey,l,eH⟩|⟨kvs,k,b,e,ey,eb,l,eH⟩
 ·subst ey eH
  obtain⟨z,hd,vs,rel,dd⟩:=`U5;have hz:`U6:=`U7
  have hl:`xQ:=`xR
  refine wpAny_setItem_pairs (hsz:=hz) `GF dd `atA
  have he:`U4:=`atB
  exact `atC
 ·subst ey eH
  cases `U2;obtain⟨z,hd,xs,rel,dd⟩:=`atD;have hz:`eT:=`atE
  have hl:`xQ:=`xR
  refine Dep.set `U3 `GH dd (`atA) hz;obtain⟨q,es,ep,hq,h2,h3,h4,_,h5⟩:=F;refine `atF;rw[`atG];exact ec
universe zz
noncomputable def ec0(i:`z):Prop:=∀ov iv,`Fk i `q ov iv=`S0 [ov,iv] (`mH ov iv)
theorem U60{prog:`ag}{w:`N}{A:`bf}{E:`X}{s:`r}{env:Env}{value slice:`z}{pos:Pos}{T id:`cL}{Q:`X}
  (hl:`anh) (hs:ec0 `lF)
  (h:`l `ao A (`bZ `rC env) (λo s₁=>`l `ao A (`bZ `lF env) (λi s₂=>s₂.TypeIs o T/\`l `ao A (`mH o i) Q E s₂) E `fb) E s) :
  `l `ao A (`bZ (`mw `rC `lF pos) env) Q E s:=by
 refine `SU (D5 h (λo s₁ h₁=>D5 `eC (λi s₂ h₂=>?_) `EA) `EA);obtain⟨hT,h₂⟩:=`lO;unfold subscriptTail;refine `dn;rw[getitemInPython_of_ne hT.not_modules];refine A0 (L0 hT hl ?_);have fin:`l `ao A (`Fk `lF `q o i) (λr s₃=>`l `ao A (letTemporaryGo `rC o r>>=λ_=>`bg r) Q E s₃) E s₂:=by
  rw[hs o i];exact wpAny_operating (D5 `lO (λr s₃ h₃=>A0 (wpAny_letTemporaryGo (A1 h₃))) `EA)
 first
  | exact `atH
  | exact A0 (`atH)
  | exact A0 fin
theorem gh0{σ:St}{s:`r}{y:V}{o:`dh}(I:`C)(g:`aty):`atI := by
 rcases g with⟨kvs,k,e,_,_⟩|⟨kvs,k,b,e,_,_,_⟩
 ·obtain⟨_,_,vs,_,dd⟩:=`GE
  exact `AY
 ·obtain⟨_,_,xs,_,dd⟩:=`GG
  exact `AY
noncomputable def Q40(td ty:TE):TE:=fun σ H Q=>td σ H λx H1=>ty σ H1 λy H2=>∃a v,`eY/\DGet H2 a y `o6/\Q v H2
noncomputable def Ul0(ty td:TE):TE:=fun σ H Q=>ty σ H λy H1=>td σ H1 λx H2=>∃a o,`eY/\DGet H2 a y o/\Q (.bl (!`UX)) H2
section
variable{i:`z}{td ty:TE}
theorem gq0(hu:`l_)(ho:`U8)(hi:PE X i ty)(hs:ec0 i):PE X `R1 (Q40 td ty):=by
 intro pins s σ H Q I h;refine U60 PySem.F.slot_dict_getitem.lookup hs (thn `z7 λu s1 ⟨x,H1,I1,rx,q1⟩=>thn `ak0 λiv s2 ⟨y,H2,I2,ry,a,v,ex,g,q2⟩=>?_);subst ex;obtain rfl:u=`m1:=rx;exact⟨gh0 I2 g,c50 hu I2 g ry λw' s3 I3 J=>⟨v,H2,I3,J,q2⟩⟩
theorem co0(hu:`l_)(hi:PE X i ty)(ho:`U8):PC X `ru i o (Ul0 ty td):=by
 intro pins s σ H Q I h;refine thn `EQ λiv s1 ⟨y,H1,I1,ry,q1⟩=>thn (ho `i s1 σ H1 _ I1 q1) λu s2 ⟨x,H2,I2,rx,a,ov,ex,g,q2⟩=>?_
 subst ex;obtain rfl:u=`m1:=rx;exact U50 hu I2 g ry λs3 I3=>⟨.bl (!ov.isSome),H2,I3,rfl,q2⟩
universe zz
theorem jr0{P:`ag}{w:`N}(h:`R)(hb:`atJ):`cb P w H (h.push `Nv) `o3 (`vS) :=
 ⟨`hE,`atK,[],`L,Heap.DictOf.new h⟩
theorem Z80{P:`ag}{w:`N}(h:`R)(hb:`atJ):`cb P w H (h.push `Nv) `o3 `aes :=
 ⟨`hE,`atK,[],`L,_,#[],0,`df,⟨rfl,rfl,rfl⟩,rfl,rfl,G0,rfl⟩
noncomputable def Tq0:TE:=λ_ H Q=>∀p,`cH->Q `ch (upd H p (`vS))
theorem Yi0:PE X `atL Tq0:=λpins s σ H Q I h =>
 wpAny_Dict_empty ⟨`d!,_,`gf (a:=`an) (o:=`vS) (t':=`aZ) `Fu `bn (jr0 `aa I.big),rfl,h _ `zZ⟩
noncomputable def bw0:`U9->St->Hp->(`atM)->Prop
 | [],_,H,Q=>Q [] H
 | (tk,tv)::r,σ,H,Q=>tk σ H λx H1=>tv σ H1 λy H2=>bw0 r σ H2 λps H3=>Q ((x,y)::ps) H3
abbrev VV:`adw->`T (`A×`A)->Prop:=`bp λp q=>`dd p.1 q.1/\`ajm
noncomputable def PPs(X:Cx)(pos:Pos)(keys:`atN)(values:`b2)(trs:`U9):Prop :=
 ∀(pins:`ax) (s:`r) (σ:St) (H:Hp) (Q:`atM),`C->bw0 trs σ H Q ->
  `l `ac X.A (evalPairs (`aeu keys values `B pos)) (λvs s'=>∃ps H',`jY/\VV ps vs/\Q ps H') `az s
theorem e50:PPs X pos [] [] []:=λpins s σ H Q I h=>pairTrees_nil_walk `amc
theorem ks0{k v:`z}{ks:`atN}{vs:`b2}{tk:TE}{trs:`U9}(hk:PE X k tk)(hv:PE X v tv)(hr:PPs X pos ks vs trs) :
  PPs X pos (`ec::ks) (`r4) ((tk,tv)::trs):=λpins s σ H Q I h =>
 pairTrees_cons_walk (thn (hk `i s σ H _ I h) λu s1 ⟨x,H1,I1,rx,q1⟩=>thn (hv `i s1 σ H1 _ I1 q1) λw2 s2 ⟨y,H2,I2,ry,q2⟩ =>
  thn (hr `i s2 σ H2 _ I2 q2) λws s3 ⟨ps,H3,I3,rel,q3⟩=>⟨(x,y)::ps,H3,I3,`ah ⟨rx,ry⟩ rel,q3⟩)
structure M2(X:Cx)(o:`z)(m:Str)(apos:Pos)(e f:`z)(cpos:Pos):Prop where
 base:`mK o m `B `tT=`tq
 few:(`atO
 &&`atP)=`c
 line:`j6
 trees:`atQ
noncomputable def IsD(H:Hp)(a:`f):Prop:=(∃kvs,`UZ)∨∃kvs,`GC
theorem Sx0{σ:St}{s:`r}(I:`C)(d:IsD H a) :
  `atI/\(∀b,`m1=`ku->∃ob,`o9=`El/\`an7)/\`mi:=by
 rcases d with⟨kvs,e⟩|⟨kvs,e⟩
 ·obtain⟨_,hd,vs,_,dd⟩:=`GE
  refine`atR;cases q;obtain⟨ob,_,_,h1,h2,_⟩:=dd;exact`atS
 ·obtain⟨_,hd,xs,_,dd⟩:=`GG
  refine`atR;cases q;obtain⟨ob,_,_,h1,h2,_⟩:=dd;exact`atS
universe L2
namespace DL
open Spec PyProof.Rows L2
section
variable{σ σ':St}
theorem Gr.fresh{p:`f}{o:HO}(h:`cH):Gr H `Ua B `pN:=λb u n e=>by
 have hb:`A_:=Y7 e h;exact⟨λz=>`gI n hb,by rw[d8 hb];exact e⟩
theorem Gr.own{o:HO}(h:B a):Gr H `hP B B:=λb u n e=>⟨n,by rw[d8 (λz=>n (by rw[z];exact h))];exact e⟩
theorem RpO.mono{d:D}(s:`xq)(g:`d_)(h:`hc):RpO K H' B' d a:=by
 cases d<;>try exact `iq
 ·obtain⟨xs,e,r⟩:=h;exact⟨xs,s _ e,`m_⟩
 ·obtain⟨xs,e,l,r⟩:=h;exact⟨xs,s _ e,l,`m_⟩
theorem RpG.mono{d:D}(s:`xq)(g:`d_)(h:`lT):RpG K H' B' d a:=by
 cases d with
 | tup es=>obtain⟨x,ns,e,r⟩:=h;exact`atT
 | _=>exact(RpO.mono s g `F2).toG
theorem RpL.mono{d:D}(s:`xq)(g:`d_)(h:`jc):RpL K H' B' d a:=by
 cases d with
 | tup es =>
  rcases h with⟨d',q,r⟩|⟨ks,vs,q,ts,xs,q1,e,q2,r⟩|⟨x,ns,e,r⟩
  ·exact `k ⟨d',q,RpG.mono s g r⟩
  ·exact `h (`k ⟨ks,vs,q,ts,xs,q1,s _ e,q2,`m_⟩)
  ·exact `h (`h `atT)
 | _=>exact(RpO.mono s g `xt).toL
theorem Pd.get'{F:`ij}:∀{l:`a5} {m:`jb} {i:Nat} {a:α},`mV->`xu->∃b,`T!/\`ta
 | _,_,_,_,`L,e=>`Ea
 | _,_,0,_,`Q5,e=>`Q6
 | _,_,i+1,a,`lt,e=>by
  obtain⟨u,h1,h2⟩:=`GJ (i:=i) (a:=a) t `lu;exact`Q7
theorem Pd.impI{F G:`ij}:∀{l:`a5} {m:`jb},(∀(i:Nat) a b,`xu->`T!->`aa7)->`acW
 | _,_,_,`L=>`L
 | _,_,h,`eS=>`ah (h 0 _ _ rfl rfl r) (`AZ (λi a b e1 e2=>h `bM a b (`T1) (by simpa using e2)) t)
theorem u50:∀{l:`a5} {i:Nat} {a:α},`xu->`T?=l
 | [],_,_,h=>`dW
 | x::l,0,a,h=>by simp at h;subst h;rfl
 | x::l,i+1,a,h=>by rw[`U',u50 `ol]
theorem Pd.setR{F:`ij}{a:α}{b:β}(r:`ta){l:`a5}{m:`jb}(e:`xu)(h:`mV):`bp F l `aqA:=by
 have:=`oh r i h
 rwa [u50 e] at this
theorem get_set{l:`a5}{a b:α}(h:(`T?)[j]?=`ed):(i=j/\a=b/\`D7)∨(i≠j/\l[j]?=`ed):=by
 by_cases e:i=j
 ·subst e
  by_cases hl:i<l.length
  ·rw[`F4] at h
   exact `k ⟨rfl,`kO,hl⟩
  ·rw[`F5] at h;cases h
 ·rw[`gt e] at h
  exact `h ⟨e,h⟩
theorem Env.len(e:`bc):`KT=δ.length:=Pd.len `fS
theorem Env.at(e:`bc){d:D}(h:`adD):∃a,`hJ/\`aqz:=by
 obtain⟨o,h1,a,rfl,hb,r⟩:=`aqF;exact⟨a,h1,hb,r⟩
theorem Env.mut(e:`bc){d:D}{o:HO}(hi:`xS)(hs:`hJ)(r:RpL K `hP B d a):`atU:=by
 obtain⟨a',h1,hb,_⟩:=`GK;rw[hs] at h1;cases h1;refine`atV
 ·
  have h0:`bp (λ(o':`dh) (s:Sl)=>SlR K `hP B o' s∨`U!) σ δ:=`kG (λo' s h=>by
   cases s with
   | un=>exact `U?
   | ex c n=>obtain⟨v,e,r⟩:=h;exact `atW
   | sh d=>obtain⟨v,e,r⟩:=h;exact `atW
   | ow d =>
    obtain⟨b,e,J,r⟩:=h
    by_cases z:b=a
    ·subst z;exact `Va
    ·exact `k ⟨b,e,J,`cu (λo h=>by rw[d8 z];exact h) `hQ⟩) `fS
  have h1:=`atX;refine `atY;rcases h with h|⟨d',rfl,rfl⟩
  ·exact h
  ·rcases `GL with⟨rfl,e3,_⟩|⟨F,e3⟩
   ·cases e3;exact`MQ
   ·exact `atZ
 ·by_cases z':b=a
  ·subst z';exact `og
  ·rw[d8 z'];exact `Vb
 ·have q1:`at_:=by
   rcases `iE with⟨rfl,_,_⟩|⟨_,h⟩
   ·exact`GM
   ·exact`r5
  have q2:`at0:=by
   rcases `kd with⟨rfl,_,_⟩|⟨_,h⟩
   ·exact`GM
   ·exact`r5
  obtain⟨d1,q1⟩:=q1;obtain⟨d2,q2⟩:=q2;exact `at1
theorem EnvS.mut(en:`c2)(s:`aT)(b1:`j!)(b2:`j?){d:D}{o:HO}(hi:`xS)(hs:`hJ)
  (env:Env K (upd H' a o) B σ `m4):`dq K `aw `ak (upd H' a o) σ `m4:=by
 have h0:=`at2;have F:`xT:=`rj;refine`at3
 ·have:`p0:=λz=>by rw[z,h0] at h;cases h
  rw[`Vc];exact s _ _ `at4
 ·by_cases z:b=a
  ·obtain⟨a',e1,_,ro⟩:=`at5
   rw[hs] at e1;cases e1;rw[z] at h;exact `at6
  ·rw[d8 z] at h
   exact `Gj b ob xs (s.nf b ob xs h)
 ·rcases `iE with⟨rfl,_,_⟩|⟨_,h⟩
  ·rw[hs] at h2;cases h2;exact h0
  ·exact `at7
theorem EnvS.take(en:`c2)(b1:`j!)(b2:`j?)(e:`bc)(i:Nat){d:D}{p:`f}(hp:`cH)(s:`aT)
  (r:`ac!):`at8:=by
 have g:`Vd:=`Ve
 have F:`Uk:=`Vf;have live:`at9:=λ{j d' b} h1 h2=>by
  obtain⟨a,q1,q2,q3⟩:=e.at h1;rw[h2] at q1;cases q1;exact `at'
 refine`at!
 ·rcases z with z|rfl
  ·exact b2 a z
  ·exact `h F
 ·refine `oh ⟨p,rfl,`b1,r.toL⟩ i `at?
  cases sl with
  | un=>trivial
  | ex c n=>obtain⟨v,e,r⟩:=h;exact`xC
  | sh d=>obtain⟨v,e,r⟩:=h;exact`xC
  | ow d=>obtain⟨b,e,J,r⟩:=h;exact`aua
 ·rcases z with z|rfl
  ·exact`Vg
  ·exact `og
 ·rcases `iE with⟨rfl,_,_⟩|⟨n1,h1⟩
  ·rcases `kd with⟨rfl,_,_⟩|⟨n2,h2⟩
   ·rfl
   ·rcases `ef h3 with⟨_,e3,_⟩|⟨n3,_⟩
    ·cases e3
     rw[`xU] at h4;exact `aub
    ·exact `GN
  ·rcases `kd with⟨rfl,_,_⟩|⟨n2,h2⟩
   ·rcases `ef h4 with⟨_,e4,_⟩|⟨n4,_⟩
    ·cases e4
     rw[`op] at h3;exact `auc
    ·exact `aud
   ·rw[`op] at h3
    rw[`xU] at h4;exact `F6
 ·rcases `iE with⟨rfl,_,_⟩|⟨n1,h1⟩
  ·rcases `kd with⟨_,e3,_⟩|⟨n3,_⟩
   ·cases e3;exact F
   ·exact `GN
  ·rw[`op] at h2
   exact `Vh
theorem kg0{d e:D}(h:`Vi=.ow e):`bB:=by
 unfold DL.fz at h;split at h<;>cases h
theorem mo0{s:Sl}{e:D}(h:zu0 s=.ow e):`bB:=by
 cases s with
 | ow d=>exact kg0 h
 | un=>cases h
 | sh d=>cases h
 | ex c n=>cases h
theorem RpL.fz{d:D}(l:`rP)(n:¬`mS)(h:`jc):SlR K H B' (`pH) (`Vi):=by
 cases d with
 | tup es =>
  rcases h with⟨d',rfl,r⟩|⟨ks,vs,rfl,_⟩|⟨x,ns,rfl,_⟩
  ·cases d' with
   | tup es=>trivial
   | _=>exact⟨_,rfl,RpO.rp l n (RpG.toO rfl r)⟩
  ·trivial
  ·trivial
 | _=>exact⟨_,rfl,RpO.rp l n `xt⟩
theorem Env.frz(e:`bc):∃B':BS,(`rP)/\(∀a,B a->`mS∨`MV)/\Env K H B' σ `aue:=by
 refine⟨`auf,`A0,`fd,?_,λa z=>`hR a z.1,λi j a ds es h1 _ _ _=>?_⟩
 ·by_cases q:`MV
  ·exact `h q
  ·exact `Vj
 ·have:`bp (λo s=>SlR K H (`auf) o `UJ) σ δ:=`AZ (λi o s e1 e2 h=>by
   cases s with
   | un=>trivial
   | ex c n=>obtain⟨v,e,r⟩:=h;exact`MW
   | sh d=>obtain⟨v,e,r⟩:=h;exact`MW
   | ow d =>
    obtain⟨a,rfl,hb,r⟩:=h;exact r.fz (`A0) λz=>z.2 ⟨i,d,e2,e1⟩) `fS
  have mp:∀{l:St} {m:Ds} {F:`dh->Sl->Prop},`bp (λo s=>F o `UJ) l m->`bp F l (m.map zu0):=by
   intro l m F h
   induction h with
   | nil=>exact `L
   | cons r t ih=>exact `aoj
  exact mp `x
 ·unfold DL.frz at h1
  rw[`a_] at h1;cases q:`cv with
  | none=>rw[q] at h1;cases h1
  | some s=>rw[q] at h1;exact`aug
theorem EnvS.frz(en:`c2):`dq K `aw `ak H σ `aue:=by
 obtain⟨B,b1,b2,env⟩:=`bW;obtain⟨B',c1,c2,F⟩:=env.frz;refine⟨`hI,`auh,λi ds a h1 _=>?_,`kF⟩
 ·rcases `aui with q|⟨i,d,q1,q2⟩
  ·exact q
  ·exact `auj
 ·unfold DL.frz at h1
  rw[`a_] at h1;cases q:`cv with
  | none=>rw[q] at h1;cases h1
  | some s=>rw[q] at h1;exact`aug
theorem Env.frzAt(e:`bc)(i:Nat):∃B':BS,(`rP)/\(∀a,B a->`mS∨∃(d:D),`adE)/\Env K H B' σ (DL.frzAt i δ):=by
 unfold DL.frzAt;cases h:`cv with
 | none=>exact`GO
 | some s =>
  cases s with
  | un=>dsimp only [zu0];rw[u50 h];exact`GO
  | ex c n=>dsimp only [zu0];rw[u50 h];exact`GO
  | sh d=>dsimp only [zu0];rw[u50 h];exact`GO
  | ow d =>
   obtain⟨a,h1,hb,r⟩:=e.at h;refine⟨`auk,`aul,`MP,?_,λb z=>`hR b z.1,λj k b ds es F M h3 h4=>?_⟩
   ·by_cases q:b=a
    ·subst q;exact `h ⟨d,rfl,h1⟩
    ·exact `Vj
   ·have h0:`bp (λ(o':`dh) (s:Sl)=>SlR K H (`auk) o' s∨`U!) σ δ:=`kG (λo' s h=>by
     cases s with
     | un=>exact `U?
     | ex c n=>obtain⟨v,e,r⟩:=h;exact `aum
     | sh d=>obtain⟨v,e,r⟩:=h;exact `aum
     | ow d =>
      obtain⟨b,e,O,r⟩:=h
      by_cases z:b=a
      ·subst z;exact `Va
      ·exact `k ⟨b,e,⟨O,z⟩,`cu `Vk (`eI `A0)⟩) `fS
    have h2:=Pd.setR (i:=i) (b:=`Vi) (`k (r.fz (`aul) λz=>z.2 rfl)) h1 h0;refine `AZ (λj o' s e1 e2 hh=>?_) h2;rcases hh with hh|⟨d',rfl,rfl⟩
    ·exact hh
    ·rcases `GL with⟨rfl,e3,_⟩|⟨J,e3⟩
     ·exact(kg0 e3).elim
     ·exact `y (`kC i j a d d' h e3 h1 e1) J
   ·rcases `ef F with⟨_,q,_⟩|⟨_,q1⟩
    ·exact`aun
    ·rcases `ef M with⟨_,q,_⟩|⟨_,q2⟩
     ·exact`aun
     ·exact `kC j k b ds es q1 q2 h3 h4
theorem EnvS.frzAt(en:`c2)(i:Nat):`dq K `aw `ak H σ (DL.frzAt i δ):=by
 obtain⟨B,b1,b2,env⟩:=`bW;obtain⟨B',c1,c2,F⟩:=env.frzAt i;refine⟨`hI,`auh,`adC,`kF⟩
 ·rcases `aui with q|⟨d,q1,q2⟩
  ·exact q
  ·exact `auj
 ·unfold DL.frzAt at h1
  cases q:`cv with
  | none=>rw[q] at h1;exact `Vh
  | some s =>
   rw[q] at h1;rcases `iE with⟨rfl,q',_⟩|⟨_,q1⟩
   ·exact(mo0 q').elim
   ·exact `m5 j ds a q1 h2
theorem ny0{d:D}{v:V}(h:`AP)(r:`cp):`aqe:=by
 cases d<;>simp[`eG] at h
 ·rw[U8] at r ⊢;exact r
 ·rw[W6] at r ⊢;exact r
 ·rw[n8] at r ⊢;exact r
 ·rw[X5] at r ⊢;exact r
universe zz
section
variable{tg:`z}{g:GE}{gt:GB}
theorem yq0(h:`bU):PD X e (Q0 g):=.mk λB δ pins s σ H Q I ⟨d,en,hq,k⟩=>by
 obtain⟨B',c1,c2,F⟩:=`A1;unfold Q0 at hq;cases e1:`pQ with
 | none=>rw[e1] at hq;cases hq
 | some x =>
  rw[e1] at hq
  by_cases hf:`ado
  ·simp only[`j,`Vl] at hq
   cases hq;exact h B' `pP `i s σ H Q I ⟨_,F,e1,λv H' s' r=>k v H' s' `auo⟩
  ·simp only[`j,`P hf] at hq
   cases hq
theorem pb0(h:`aqV):PTD X e (yp0 gt):=.mk λB δ pins s σ H Q I ⟨d,en,hq,k⟩=>by
 obtain⟨B',c1,c2,F⟩:=`A1;exact h B' `pP `i s σ H Q I ⟨d,F,hq,k⟩
theorem X20(i:Nat)(h:`Ul):PSD X st (Yb0 i G):=.mk λH₀ B₀ δ pins s σ H D I ⟨r,en,hq,k⟩=>h `aw `ak _ `i s σ H D I ⟨r,en.frzAt i,hq,k⟩
theorem zt0(h:`bU):PSD X `rn (Z0 (xu0 g)):=.mk λH₀ B₀ δ pins s σ H D I ⟨r,en,hq,k⟩ =>
 d7 h `aw `ak `pP `i s σ H D I `aup
theorem K3{gA:GA}(h:`xy):PDF X `SA (Z7 gA) :=
 .mk λB δ=>`aqY fun σ H Q ⟨d,en,h,k⟩=>by
  unfold Z7 at h;cases e1:`cg with
  | none=>rw[e1] at h;cases h
  | some ds =>
   rw[e1] at h
   by_cases hl:`oe
   ·simp only[`j,`lV] at h
    cases h;refine⟨ds,en,e1,λvs H1 s1 r1=>⟨`ac4,λp hp=>k _ _ (`kL hp) (`mY `gH) ⟨vs,j8,r1.mono `Bk⟩⟩⟩
   ·simp only[`j,`Uf] at h
    cases h
theorem c80:PDF X `atL `GP:=.mk λB δ=>Yi0.imp fun σ H Q ⟨d,en,h,k⟩=>by
 cases h;exact λp hp=>k p _ hp `gH ⟨[],j8,rfl,`jg⟩
theorem Q3(i:Nat){px:Pos}(h:`xD)(hN:`eV)(hi:`cn:=by rfl)(hx:`io:=by first|exact `bE|exact `eF)
  (hs:`abB `GQ e `tp `B=`iY:=by rfl) (hw:`abC `GQ e `B=`K1:=by rfl)
  (h1:(`gw `GQ `B).map `b_=[`fM `kH `B]:=by rfl)
  (hf:`ip:=by first|exact `a3|exact `b1|assumption):PSD X (`mx `GQ e pos) (T5 i g):=.mk λH₀ B₀ δ pins s σ H D I ⟨r,en,e1,k⟩=>by
 unfold T5 at e1;obtain⟨B,b1,b2,env⟩:=`bW;cases e2:`ay with
 | none=>rw[e2] at e1;cases e1
 | some d =>
  rw[e2] at e1;cases e1;exact i80 `ci (`Gd) hs hw h1 `i s σ H D I ⟨d,env,e2,λp H' hp s' r=>k _ H' (en.take b1 b2 env i hp s' r)⟩
universe zz
universe DL
namespace L2
open Spec PyProof.Rows
open PySem.AutoSeq1 (wpAny_loadPart')
noncomputable def Re0:`RZ:=λo i v H Q=>∃a H',o=`dD/\DPut H a i v H'/\Q H'
theorem set_dict(hu:`l_):Zc0 X Re0:=by
 intro pins s σ H o i v ov iv u Q I ro ri rv h;obtain⟨a,H',rfl,g,q⟩:=h;cases ro;exact cw0 hu I g ri rv λs3 I3=>⟨H',I3,q⟩
universe L2
namespace DL
open Spec PyProof.Rows L2
section
variable{σ σ':St}
theorem Rps.set:∀{ds:`n} {xs:`K} {d:D} {v:V} (j:Nat),`a4->`cp->Rps K H B (ds.set j d) `acj
 | [],_,_,_,_,h,_=>`FY
 | `av,_,_,_,0,h,r=>by
  rw[o9] at h;obtain⟨y,t,rfl,h1,h2⟩:=h;rw[`auq,`auq,o9];exact⟨_,_,rfl,r,h2⟩
 | `av,_,_,_,j+1,h,r=>by
  rw[o9] at h;obtain⟨y,t,rfl,h1,h2⟩:=h;rw[`U',`U',o9];exact⟨_,_,rfl,h1,Rps.set j h2 r⟩
theorem Rps.dropLast(h:`a4):Rps K H B `adn `Fr:=by
 rw[`aur,`aur,h.length];exact h.take _
theorem Rps.erase(j:Nat)(h:`a4):Rps K H B (`UK j) (`Fs j):=by
 rw[`aus,`aus];exact `aqi (h.take _) (h.drop _)
structure EnvV(K:`D)(H₀:Hp)(B₀:BS)(H:Hp)(σ:St)(δ:Ds)(d:D)(v:V):Prop where
 same:`Gb
 ex:∃B:BS,(`j!)/\(`j?)/\`bc/\`cp
 fr:`aq1
 b0:`Uj
theorem EnvV.s{d:D}{v:V}(h:`GR):`c2:=⟨`F3,let ⟨B,b1,b2,e,_⟩:=h.ex;⟨B,b1,b2,e⟩,h.fr,h.b0⟩
theorem EnvV.mk'{d:D}{v:V}(h:`c2)(b1:`j!)(b2:`j?)(e:`bc)(r:`cp):`GR:=⟨`F3,⟨B,b1,b2,e,r⟩,h.fr,h.b0⟩
universe zz
noncomputable def tX(K:`D)(H₀:Hp)(B₀:BS)(δ:Ds)(gx:GX):TE:=fun σ H Q=>∃r,`c2/\`hL=`fV/\∀v H',EnvV K `aw `ak H' σ r.2 r.1 v->`mp
structure PX(X:Cx)(e:`z)(gx:GX):Prop where
 mk::go:`aut
instance{X:Cx}{e:`z}{gx:GX}:`dZ (`xV) (λ_=>`aut):=⟨PX.go⟩
noncomputable def tTG(K:`D)(H₀:Hp)(B₀:BS)(ft:`aJ)(d:D)(δ:Ds):TG:=λv σ H Q=>∃δ',`GR/\ft d δ=`As/\∀σ' H',`aq!->`abz
structure PTG(X:Cx)(tg:`z)(ft:`aJ):Prop where
 mk::go:`auu
instance{X:Cx}{tg:`z}{ft:`aJ}:`dZ (`auv) (λ_=>`auu):=⟨PTG.go⟩
section
variable{tg:`z}{g:GE}{gt:GB}
theorem z60(h:`bU):PX X e (V7 g):=.mk λH₀ B₀ δ pins s σ H Q I ⟨r,en,e1,k⟩=>by
 unfold V7 at e1;obtain⟨B,b1,b2,env⟩:=`bW;cases e2:`ay with
 | none=>rw[e2] at e1;cases e1
 | some d =>
  rw[e2] at e1;cases e1;exact h B δ `i s σ H Q I ⟨d,env,e2,λv H' s' r=>k v H' (`l0 (en.grow s') b1 b2 (`Un) r)⟩
theorem to0(h:`jh=`mR):`cv=`asw:=by
 unfold owL at h;split at h
 ·cases h;assumption
 ·cases h
theorem V80{r:`asE}(h:`Gx=`fV):`cv=`a (.ow (`aP (`k r.1) r.2)):=by
 unfold m20 at h;split at h
 ·cases h;assumption
 ·cases h
theorem xm0(i:Nat)(h:`bU)(hN:`cn:=by rfl)(hv:`fz:=by first|exact `bE|exact `gh|exact `gi)(hd:`bt:=by decide)(hcd:`ga:=by decide)
  (hbase:`auw:=by rfl)
  (hfew:(`Gr
  &&`Vm)=`c:=by rfl)
  (hline:`j6:=by rfl) (hs:`iC:=by rfl) (hplain:`Gs:=by rfl) :
  PX X `aux (S9 i g):=.mk λH₀ B₀ δ pins s σ H Q I ⟨r,en,e1,k⟩=>by
 unfold S9 at e1;obtain⟨B,b1,b2,env⟩:=`bW;cases e2:`jh with
 | none=>rw[e2] at e1;cases e1
 | some ds =>
  cases e3:`ay with
  | none=>rw[e2,e3] at e1;cases e1
  | some d =>
   rw[e2,e3] at e1;simp only[`j] at e1;split at e1
   ·rename_i hz
    cases e1;have hi:=`xW;obtain⟨a,J,hb,xs,hx,rx⟩:=`l1;refine om0 Y3 A90 Aa0 uo0 `kN (K5 `ci xj0 hs) `j7 hfew `j8 hs `rG `i s σ H Q I
     ⟨_,J,`GS,d,env,e3,λv H1 s1 r1=>⟨a,xs,v,rfl,rfl,`xX,by rw[`GT];exact hz,?_⟩⟩
    have F:Env X.K (upd H1 a (`o (`Vn))) B σ (`asy):=`xY hi J ⟨_,j8,(`m' `A? r1).mono `hQ⟩;exact k _ _ (`l0 `auy b1 b2 F `F9)
   ·cases e1
theorem Su0(i:Nat)(hN:`cn:=by rfl)(hv:`fz:=by first|exact `bE|exact `gh|exact `gi)(hd:`bt:=by decide)(hcd:`ga:=by decide)
  (hbase:`auz:=by rfl) (hline:`j6:=by rfl) :
  PX X (`bL `auA [] [] `dI) (uy0 i):=.mk λH₀ B₀ δ pins s σ H Q I ⟨r,en,e1,k⟩=>by
 unfold uy0 at e1;obtain⟨B,b1,b2,env⟩:=`bW;cases e2:`jh with
 | none=>rw[e2] at e1;cases e1
 | some ds =>
  rw[e2] at e1;simp only[`j] at e1;cases e3:`asz with
  | none=>rw[e3] at e1;cases e1
  | some d =>
   rw[e3] at e1;cases e1;have hi:=`xW;obtain⟨a,J,hb,xs,hx,rx⟩:=`l1;rw[`auB] at e3;obtain⟨y,hy,ry⟩:=rx.get e3;refine Ts0 Y3 j3 By0 T60 `kN `j7 `j8 `i s σ H Q I
    ⟨_,J,`GS,a,xs,y,rfl,rfl,hx,by rw[`GT];exact hy,?_⟩
   have F:Env X.K (upd H a (`o `Fr)) B σ (`asA):=env.mut hi J ⟨_,j8,rx.dropLast.mono `hQ⟩;exact k _ _ (`l0 (`MY (`pL) b1 b2 hi J F) b1 b2 F (ry.mono `hQ))
theorem Zk0(i:Nat)(h:`bU)(hN:`cn:=by rfl)(hv:`fz:=by first|exact `bE|exact `gh|exact `gi)(hd:`bt:=by decide)(hcd:`ga:=by decide)
  (hbase:`auz:=by rfl)
  (hfew:(`Gr
  &&`Vm)=`c:=by rfl)
  (hline:`j6:=by rfl) (hs:`iC:=by rfl) (hplain:`Gs:=by rfl) :
  PX X (`bL `auA [e] [] `dI) (tz0 i g):=.mk λH₀ B₀ δ pins s σ H Q I ⟨r,en,e1,k⟩=>by
 unfold tz0 at e1;obtain⟨B,b1,b2,env⟩:=`bW;cases e2:`jh with
 | none=>rw[e2] at e1;cases e1
 | some ds =>
  cases e3:`ay with
  | none=>rw[e2,e3] at e1;cases e1
  | some d =>
   rw[e2,e3] at e1;simp only[`j] at e1;cases d<;>try cases e1
   rename_i kk;dsimp only at e1;split at e1
   ·rename_i hz
    cases e4:ds[kk.toNat]? with
    | none=>rw[e4] at e1;cases e1
    | some dy =>
     rw[e4] at e1;cases e1;have hi:=`xW;obtain⟨a,J,hb,xs,hx,rx⟩:=`l1;obtain⟨y,hy,ry⟩:=rx.get e4;have hn:`eT:=(I.lstM hx).1;have hl:=v50;have M:=`GT;refine om0 Y3 j3 By0 Zy0 `kN (K5 `ci xj0 hs) `j7 hfew `j8 hs `rG `i s σ H Q I
      ⟨_,J,`GS,_,env,e3,`Gt⟩
     rw[n8] at r1;subst r1;refine⟨a,xs,kk,`Vo,y,rfl,rfl,`xX,`p,`p,`Fi hz.1 (by rw[M];exact hz.2),hy,?_⟩;have F:Env X.K (upd H1 a (`o (`Fs `Vo))) B σ (`bw i (.ow (`o (`UK `Vo)))):=`xY hi J ⟨_,j8,((rx.same s1).erase _).mono `hQ⟩;exact k _ _ (`l0 `auy b1 b2 F ((ry.same s1).mono `hQ))
   ·cases e1
theorem qa0{f:`aJ}(h:`Gc):PTG X tg f:=.mk λH₀ B₀ d δ pins s σ H v u Q I r ⟨δ',en,e1,k⟩=>by
 obtain⟨B,b1,b2,env,rv⟩:=`bW;exact h B d δ `i s σ H v u Q I r ⟨δ',rv,env,e1,fun σ' w en'=>k σ' H (en.s.wr b1 b2 (`pL) w en')⟩
theorem tv0(i:Nat)(h:`bU)(hN:`cn:=by rfl)(hv:`fz:=by first|exact `bE|exact `gh|exact `gi)(hd:`bt:=by decide)(hcd:`ga:=by decide)
  (ha:∀v,`Vp=(do
   let ov ← `Vq
   let iv ← `Vr
   `EF
   `EG
   `EH):=by intro _;rfl):PTG X `A3 `auC:=.mk λH₀ B₀ d δ pins s σ H v u Q I r ⟨δ',en,e1,k⟩=>by
 unfold setAt at e1;obtain⟨B,b1,b2,env,rv⟩:=`bW;cases e2:`jh with
 | none=>rw[e2] at e1;cases e1
 | some ds =>
  cases e3:`ay with
  | none=>rw[e2,e3] at e1;cases e1
  | some dk =>
   rw[e2,e3] at e1;simp only[`j] at e1;cases dk<;>try cases e1
   rename_i kk;dsimp only at e1;cases e4:ixN `bN kk with
   | none=>rw[e4] at e1;cases e1
   | some j =>
    rw[e4] at e1;cases e1;have hi:=`xW;obtain⟨a,F,hb,xs,hx,rx⟩:=`l1;refine jd0 `kN `ci set_list ha `i s σ H v u Q I r `ad2;rw[n8] at r1;subst r1;refine⟨a,xs,kk,j,rfl,rfl,`xX,by rw[`GT];exact e4,?_⟩;have J:Env X.K (upd H1 a `ack) B σ (`bw i (.ow (`o (ds.set j d)))):=`xY hi F ⟨_,j8,(Rps.set j `A? `Ne).mono `hQ⟩;exact `Vs
theorem K8{ft:`aJ}(h:`xV)(hg:`auv)(hs:`R2:=by rfl)(hw:`R3:=by rfl)
  (h1:`R4:=by rfl):PSD X `R5 (V3 gx ft):=.mk λH₀ B₀ δ pins s σ H D I ⟨r,en,e1,k⟩=>by
 unfold V3 at e1;cases e2:`hL with
 | none=>rw[e2] at e1;cases e1
 | some q =>
  rw[e2] at e1;simp only[`j] at e1;cases e3:ft q.1 q.2 with
  | none=>rw[e3] at e1;cases e1
  | some δ' =>
   rw[e3] at e1;cases e1;exact i80 `Vt (hg `aw `ak q.1 q.2) hs hw h1 `i s σ H D I ⟨q,en,e2,λv H' F=>⟨δ',F,e3,fun σ' H'' en''=>k σ' H'' en''⟩⟩
theorem M5(h:`xV)(hs:`akV:=by rfl):PSD X (.Expr e pos) (W7 gx):=.mk λH₀ B₀ δ pins s σ H D I ⟨r,en,e1,k⟩=>by
 unfold W7 at e1;cases e2:`hL with
 | none=>rw[e2] at e1;cases e1
 | some q =>
  rw[e2] at e1;cases e1;exact f60 `Vt hs `i s σ H D I ⟨q,en,e2,λv H' F=>k σ H' F.s⟩
theorem vb0(n:Nat){c:`z}(hp:`EJ)(hc:`Gf)(hb:`arn):PSD X `ak6 (V2 gt G n):=.mk λH₀ B₀ δ pins s σ H D I ⟨r,en,e1,k⟩=>by
 have J:PT X c (`UA):=λpins s σ H Q I ⟨B,δ,h⟩=>hc B δ `i s σ H Q I h
 have M:PSs X `gy (λD σ H=>∃δ,`aro):=λpins s σ H D I ⟨δ,h⟩=>`arp
 refine Zt0 hp J M `i s σ H D I ⟨λm σ H=>∃δ',`dq X.K `aw `ak H σ δ'/\`auD,⟨n,δ,en,e1⟩,?_⟩;rintro m σ1 H1 ⟨δ1,F,e2⟩;cases m with
 | zero=>cases e2
 | succ m =>
  unfold V2 at e2;obtain⟨B,b1,b2,env⟩:=F.ex;cases e3:gt δ1 with
  | none=>rw[e3] at e2;cases e2
  | some t =>
   rw[e3] at e2;refine⟨B,δ1,t,env,e3,λH2 s2=>?_⟩;cases t with
   | false =>
    rw[`cV];cases e2;exact k σ1 H2 (F.grow s2)
   | true =>
    rw[`aB];dsimp only at e2;refine⟨fun σ' H'=>∃δ',`dq X.K `aw `ak H' σ' δ'/\`auD,fun σ' H' z=>⟨m,H0 m,z⟩,δ1,?_⟩;cases e4:G δ1 with
    | none=>rw[e4] at e2;cases e2
    | some rb =>
     rw[e4] at e2;refine⟨rb,F.grow s2,e4,?_⟩;cases rb with
     | nx δn=>exact `auE
     | ct δn=>exact `auE
     | bk δn=>cases e2;exact fun σ' H' en'=>k σ' H' en'
     | rt d'=>cases e2;exact λv H' s' r'=>k v H' s' r'
     | rf d'=>cases e2;exact λp H' hp s' r'=>k p H' hp s' r'
theorem uc0(i j:Nat){y:Str}{p2 p3:Pos}{kk}(hN:`eV)(hij:i≠j)(hc:`bz:=by rfl)(hi:`cn:=by rfl)(hj:X.N[j]?=`bm:=by rfl)
  (hx:`io:=by first|exact `bE|exact `eF) (hy:`oc:=by first|exact `bE|exact `eF)
  (hf:`ip:=by first|exact `a3|exact `b1|assumption) (hf2:`od:=by first|exact `a3|exact `b1|assumption)
  (hs1:(`Vu).map `b_=`auF::`auG:=by rfl) (hs2:`auG=`auH::`auI:=by rfl)
  (hn:(`Vu).length=2:=by rfl) (hst:(`Vu).findIdx? `bv=`b:=by rfl) :
  PGD X (`kS `adI kk pos) [i,j] (Q7 i j):=.mk λB d δ=>(cd0 hc (ug0 (`Gd) (ug0 `auJ ft0 hs2) hs1) hn hst).imp λv σ H Q ⟨δ',r,en,e1,k⟩=>by
 unfold Q7 at e1;split at e1
 ·rename_i da db
  cases e1;rw[W4] at r;obtain⟨p,xs,rfl,hq,rs⟩:=r;rw[o9] at rs;obtain⟨va,t1,rfl,ra,rs⟩:=rs;rw[o9] at rs;obtain⟨vb,t2,rfl,rb,rs⟩:=rs;rw[m9] at rs;subst rs;refine⟨p,_,rfl,`on,rfl,va,[vb],rfl,vb,[],rfl,rfl,k _ ?_ (`auK)⟩;refine`auL
  ·have h1:q≠i:=`auM
   have h2:q≠j:=`auN
   rw[`GU,`GV,`GU,`GV];exact`eA
  ·rcases `ef h with⟨rfl,e3,_⟩|⟨n1,e3⟩
   ·cases e3
   ·rcases `ef e3 with⟨rfl,e4,_⟩|⟨n2,e4⟩
    ·cases e4
    ·simp at hq
     rcases hq with z|z
     ·exact n2 `hF
     ·exact n1 `hF
 ·cases e1
universe zz
universe DL
namespace HT
open PyProof.Rows
section
variable{w:`N}{s:`r}
theorem rk0{t sl:`f}{Q:`X}(ht:`am2)(hs:`E!)(pl:`E?)(pu:`Fa)
  (hw:`am3) (h:Q `mI s):`am5:=by
 obtain⟨os,J,M,hds⟩:=id hs;have O:`am6 := `am7;unfold getItem
 try with_reducible refine `kR
 first|refine `SS|skip
 refine `am8;refine A0 (E5 (name:=`am9) `mJ S0
  `am')
 show `am!;refine A0 (`ST ht ?_);refine `am?;rw[`Fc];refine `ana;have F:`Lr:=by
  rw[hw.1,hw.2];simp
 show `anb;rw[`H F];unfold Builtin.Tuple.tupleIsExact;refine A0 (A0 (i9 `mJ `kv));rw[`Fc];exact A0 (L9 `Ls)
universe zz
universe HT
namespace L2
open Spec PyProof.Rows
noncomputable def Qx0(K:`D):`n':=λx lo hi H Q=>∃a xs,`eY/\`j_/\`anl/\Q `dc H
theorem U70:SlR X (Qx0 X.K):=by
 intro pins s σ H x v vl vu lo hi sl Q I rx hs pl pu h;obtain⟨a,xs,rfl,hx,hw,q⟩:=h;cases rx;obtain⟨its,r,ht,hz⟩:=`e6 hx;have F:`gD=`ae:=`ann
 exact⟨`ev,_,S0.lookup,`mJ,HT.rk0 ht hs pl pu `ano ⟨`dD,H,I,rfl,q⟩⟩
noncomputable def cc0(K:`D):R2:=λx y H Q=>∃a b ys,`eY/\`w?/\SqT K H a []/\`anr/\Q `p_ H
theorem jb0:OpR X `w0 (cc0 X.K):=by
 intro pins s σ H x y v u Q I rx ry h;obtain⟨a,b,ys,rfl,rfl,ha,hb,q⟩:=h;cases rx;cases ry;obtain⟨its,r1,p1,_⟩:=`SW;obtain⟨O,r2,p2,_⟩:=`e6 hb;have e:its=[]:=r1.zero;subst e;obtain⟨⟨cls,dd,data,sl⟩,ho,hc,n,hd⟩:=id p1;obtain⟨⟨a0,Z,data2,Y⟩,J,F,n2,M⟩:=id p2;simp only at hc hd F M;subst hc hd F M;exact i8 `iu ⟨_,J,rfl⟩ x8 x9 y0 y3 `SP
  (tuple_addW0 a b _ O.toArray n n2 dd Z sl Y rfl) ⟨ho,J,⟨`ku,H,I,rfl,q⟩⟩
noncomputable def wf0(x:Str)(n:Int):Str:=`UR
noncomputable def W50:R2:=λx y H Q=>∃z n,x=`hC/\y=`rU/\`auO
theorem Vg0:OpR X `w1 W50:=by
 intro pins s σ H x y v u Q I rx ry h;obtain⟨z,n,rfl,rfl,h1,h2,hz,q⟩:=h;obtain⟨t,rfl⟩:=rx;obtain⟨t',rfl⟩:=ry;have fin:`auP:=`auQ
 have a0:`Vv:=`O
 have O:`auR:=by
  intro hn;have Y:0<n:=`p
  have:`auS:=by
   have e:`auT:=`p
   rw[e];have:`auU:=`auV
   rw[`Vw] at this;omega
  exact `auW
 refine PySem.P.mul_str `auX (λhn _=>O hn) `auY ?_
 ·show `auZ
  exact `xb
 ·by_cases hn:n<1
  ·rw[`H hn]
   have e:`p1=`Vx:=by
    unfold wf0;rw[`au_];rfl
   refine`au0;rw[← e];exact `M2
  ·rw[`P hn]
   by_cases h3:`au1
   ·rw[`Vy]
    have e:`p1=z:=by
     rw[`au2] at h3;rcases h3 with h3|h3
     ·have:n=1:=S2 h3
      subst this;unfold wf0;show `au3;rw[`au4]
     ·have h3:`dm=0:=S2 h3
      have J:`ux=#[]:=C10 h3;have:`au5:=by
       intro k
       induction k with
       | zero=>rfl
       | succ k ih=>rw[`dY,`j9];exact ih
      unfold wf0;rw[J,`x];cases z;simp at J;rw[J]
    have:=`au6;rw[e] at this;exact `x
   ·rw[`P h3]
    have Z:`au7:=by
     intro k
     induction k with
     | zero=>intro F;simp
     | succ k ih=>intro F;rw[`dY,`j9,ih,`Vz,`Fx];omega
    refine`au8;show `au9;rw[Z];have:`dm=`M1:=rfl;rw[`x,`xZ] at hz
    simpa using hz
theorem ns0:fillsNumberSlot `wu "mul"=`iY :=
 PySem.fillsNumberSlot_seq (id := `VA) (r:=`a (`dB `au')) `au! `el `au? `el
theorem en0:seqRepeat? `wu=`bg (`a (`dB `VA)):=by
 unfold seqRepeat?;rw[`ava (T := `ev) (name := "__mul__") (id := `VA) `au! `el,`ava (T := `ev) (name := "__rmul__") (id := `au') `au? `el];rfl
theorem ia0(a:Int)(t:Tok)(l:`f)(items:`bh)(n:Nat)(dd:`cT)(sl:`g9) :
  `r6 (Builtin.«int.__rmul__» ⟨[`d a t,`hD],[]⟩) (λ_ R s=>`avb/\R (.ok (`dC `VB)) s) :=
 `GW λprog w A R s h=>by
  obtain⟨hp,g,d,tk,os⟩:=s;obtain⟨hl,h⟩:=h
  wp_walk
  exact`x_
theorem Zw0(l:`f)(items:`bh)(n:Nat)(dd:`cT)(sl:`g9)(k:Int)(t:Tok)(h2:2<=k)(h3:`xL)(he:`VC=`q)(hsz:`dH*`c4<=`W) :
  `r6 (Builtin.«tuple.__mul__» ⟨[`hD,`d k t],[]⟩) (λ_ R s=>`avb/\R (.ok (`dC (`iQ `an))) { s with heap:=`dG { cls:=`d5,data:=`avc } }) :=
 `GW λprog w A R s h=>by
  obtain⟨hp,g,d,tk,os⟩:=s;obtain⟨hl,h⟩:=h;have f1:=AutoSeq1.idx_int;have c1:¬((`G (k < -`S4)||`G (k ≥ 2 ^ 63))=`c):=by
   rw[`m7,`m7];exact A6
  have c2:¬((`VC||k==1)=`c):=by
   rw[he,`VD `g];exact A6
  have c3:¬((`G (k<=0)||`VC)=`c):=by
   rw[he,`m7];exact A6
  have hk:(`VE*k)=((`dH*`c4:Nat):Int):=by
   rw[`Vw];congr 1;omega
  have hb:`Vv:=`O
  have c4:¬(`VE*k > `A7/8):=by
   rw[hk];omega
  have c5:¬(Builtin.Tuple.tupleTooMany (`VE*k)=`c):=by
   rw[hk];unfold Builtin.Tuple.tupleTooMany;simp only[`l2];omega
  have M:∀(m:Nat) (F:`bh),((`a! m `aK).foldl `hN F).size=F.size+m*`dH:=by
   intro m
   induction m with
   | zero=>intro F;simp
   | succ m ih=>intro F;rw[`dY,`j9,ih,`Vz,`Fx];omega
  have J:sizeOk (`avc):=by
   show (`adK).size<=`W;rw[M,`xZ]
   simpa using hsz
  wp_walk
  rw[`P c1];show `l _ _ (`Lq `pm>>=_) _ _ _;refine A0 (`ST ⟨_,hl,rfl,n,rfl⟩ ?_);dsimp only;rw[`P c2,`P c3];rw[`P c4,`P c5];exact A0 (m:=`zV) (E6 (A1 `x_) J)
noncomputable def W30(K:`D):R2:=λx y H Q=>∃a xs k,`eY/\y=`fk/\`j_/\`lE/\2<=k/\`xL/\`asY/\∀p,`cH->Q `ch (upd H p (`US))
theorem Vo0:OpR X `w1 (W30 X.K):=by
 intro pins s σ H x y v u Q I rx ry h;obtain⟨a,xs,k,rfl,rfl,ha,hx,h2,h3,hz,q⟩:=h;cases rx;obtain⟨t,rfl⟩:=ry;obtain⟨its,r1,p1,_⟩:=`SW;obtain⟨⟨cls,dd,data,sl⟩,ho,hc,n,hd⟩:=id p1;simp only at hc hd;subst hc hd;have hl:=`jd;have he:`VF=`q:=by
  cases its with
  | nil=>exact `avd
  | cons a b=>rfl
 have M:`VG<=`W:=`ave
 have J:(`a! `c4 `be).foldl `hN #[]=`avf:=by
  have:=`avg;rw[`ie] at this;exact `x
 refine C40 (T := `ev) (U := `ge) `s `iu `avh ns0 `avi k5 en0 `avj
  (O0 k5 `avk `avl `avm (ia0 k t a `be n dd sl)
   ⟨ho,rfl,`iu,O0 F.slot_tuple_mul `iu F.entry_tuple_mul (F.args_tuple_mul_2 _ _) (Zw0 a `be n dd sl k t h2 h3 he M) `avn⟩)
 rw[J];refine⟨`d!,_,`gf (t':=`aZ) (o:=`US) `Fe `bn ?_,rfl,`Ff⟩;exact⟨by rw[len_rep,`xZ];exact hz,_,`avo,`Fg⟩
universe L2
namespace DL
open Spec PyProof.Rows L2
mutual
theorem pw0:`avp
 | `w,_,_=>`avq
 | `ce,_,_=>`r7
 | `g',_,_=>`r7
 | `rF,_,_=>`r7
 | `bO,0,h=>by unfold lean at h;cases h
 | `bO,n+1,h=>`avr
 | `ct,0,h=>by unfold lean at h;cases h
 | `ct,n+1,h=>`avr
 | `kb,n,h=>by unfold lean at h;cases h
 | `kc,n,h=>by unfold lean at h;cases h
theorem rp0:`avs
 | [],_,_=>`avt
 | `av,n,h=>by
  unfold leans at h;rw[`bs] at h;unfold J7;rw[pw0 d n h.1,rp0 ds n h.2];rfl
end
theorem wg0:∀ds es:`n,J7 ds es=((`cx (`avu)).all (`oq)&&`avv)
 | [],[]=>`VH
 | [],`cB=>`VH
 | `cB,[]=>`VH
 | `av,`zA=>by
  unfold J7;rw[wg0 ds es];have h1:min `TW `Tc=`avu+1:=by simp only[`bo];omega
  rw[h1,List.range_succ_eq_map,`n?,`avw];have h2:(`TW==`Tc)=(`avv):=by
   rw[`gn];simp
  rw[h2,Bool.and_assoc];rfl
theorem qq0:∀{ds:`n} {n j:Nat} {d:D},`A8->ds[j]?=`ar->`kI
 | [],_,_,_,_,h=>`dW
 | `av,n,0,_,h,e=>by
  unfold leans at h;rw[`bs] at h;simp at e;subst e;exact h.1
 | `av,n,j+1,_,h,e=>by
  unfold leans at h;rw[`bs] at h;exact qq0 (j:=j) h.2 `lu
section
variable{σ:St}{s:`r}
mutual
theorem Rp.inj(I:`C):∀{d e:D} {n m:Nat} {v:V},`kI->`M3->Rp X.K H B d v->Rp X.K H B' e v->d=e
 | `w,e,_,m,v,_,le,h,h'=>by
  rw[U8] at h;subst h;cases e with
  | non=>rfl
  | bl b=>rw[W6] at h';cases h'
  | int b=>rw[n8] at h';cases h'
  | str b=>rw[X5] at h';cases h'
  | tup b=>rw[W4] at h';obtain⟨_,_,z,_⟩:=h';cases z
  | lst b=>rw[X7] at h';obtain⟨_,_,z,_⟩:=h';cases z
  | dct a b=>unfold lean at le;cases le
  | fn a b=>unfold lean at le;cases le
 | .bl c,e,_,m,v,_,le,h,h'=>by
  rw[W6] at h;subst h;cases e with
  | non=>rw[U8] at h';cases h'
  | bl b=>rw[W6] at h';cases h';rfl
  | int b=>rw[n8] at h';cases h'
  | str b=>rw[X5] at h';cases h'
  | tup b=>rw[W4] at h';obtain⟨_,_,z,_⟩:=h';cases z
  | lst b=>rw[X7] at h';obtain⟨_,_,z,_⟩:=h';cases z
  | dct a b=>unfold lean at le;cases le
  | fn a b=>unfold lean at le;cases le
 | `hZ,e,_,m,v,_,le,h,h'=>by
  rw[n8] at h;subst h;cases e with
  | non=>rw[U8] at h';cases h'
  | bl b=>rw[W6] at h';cases h'
  | int b=>rw[n8] at h';cases h';rfl
  | str b=>rw[X5] at h';cases h'
  | tup b=>rw[W4] at h';obtain⟨_,_,z,_⟩:=h';cases z
  | lst b=>rw[X7] at h';obtain⟨_,_,z,_⟩:=h';cases z
  | dct a b=>unfold lean at le;cases le
  | fn a b=>unfold lean at le;cases le
 | `qu,e,_,m,v,_,le,h,h'=>by
  rw[X5] at h;subst h;cases e with
  | non=>rw[U8] at h';cases h'
  | bl b=>rw[W6] at h';cases h'
  | int b=>rw[n8] at h';cases h'
  | str b=>rw[X5] at h';cases h';rfl
  | tup b=>rw[W4] at h';obtain⟨_,_,z,_⟩:=h';cases z
  | lst b=>rw[X7] at h';obtain⟨_,_,z,_⟩:=h';cases z
  | dct a b=>unfold lean at le;cases le
  | fn a b=>unfold lean at le;cases le
 | `bO,e,0,m,v,ld,_,_,_=>by unfold lean at ld;cases ld
 | `bO,e,n+1,m,v,ld,le,h,h'=>by
  rw[W4] at h;obtain⟨a,xs,rfl,q,r⟩:=h;unfold lean at ld;cases e with
  | non=>rw[U8] at h';cases h'
  | bl b=>rw[W6] at h';cases h'
  | int b=>rw[n8] at h';cases h'
  | str b=>rw[X5] at h';cases h'
  | tup es =>
   cases m with
   | zero=>unfold lean at le;cases le
   | succ m =>
    unfold lean at le;rw[W4] at h';obtain⟨a',ys,z,q',r'⟩:=h';cases z;have:=`alo `cR q'.to;subst this;rw[`avx]
  | lst es =>
   rw[X7] at h';obtain⟨a',ys,z,q',r'⟩:=h';cases z;obtain⟨_,_,⟨o,e1,c1,_⟩,_⟩:=`e6 `cR;obtain⟨_,_,p,_⟩:=`dk q'.to;obtain⟨o',e2,c2,_⟩:=`n6;rw[e1] at e2;cases e2;rw[c1] at c2;injection c2 with z
   exact `avy
  | dct a b=>unfold lean at le;cases le
  | fn a b=>unfold lean at le;cases le
 | `ct,e,0,m,v,ld,_,_,_=>by unfold lean at ld;cases ld
 | `ct,e,n+1,m,v,ld,le,h,h'=>by
  rw[X7] at h;obtain⟨a,xs,rfl,q,r⟩:=h;unfold lean at ld;cases e with
  | non=>rw[U8] at h';cases h'
  | bl b=>rw[W6] at h';cases h'
  | int b=>rw[n8] at h';cases h'
  | str b=>rw[X5] at h';cases h'
  | lst es =>
   cases m with
   | zero=>unfold lean at le;cases le
   | succ m =>
    unfold lean at le;rw[X7] at h';obtain⟨a',ys,z,q',r'⟩:=h';cases z;have:=`zD `cR q'.to;subst this;rw[`avx]
  | tup es =>
   rw[W4] at h';obtain⟨a',ys,z,q',r'⟩:=h';cases z;obtain⟨_,_,⟨o,e1,c1,_⟩,_⟩:=`e6 q'.to;obtain⟨_,_,p,_⟩:=`dk `cR;obtain⟨o',e2,c2,_⟩:=`n6;rw[e1] at e2;cases e2;rw[c1] at c2;injection c2 with z
   exact `avy
  | dct a b=>unfold lean at le;cases le
  | fn a b=>unfold lean at le;cases le
 | `aP a b,e,n,m,v,ld,_,_,_=>by unfold lean at ld;cases ld
 | .fn a b,e,n,m,v,ld,_,_,_=>by unfold lean at ld;cases ld
theorem Rps.inj(I:`C):∀{ds es:`n} {n m:Nat} {xs:`K},`A8->`avz->`GX->Rps X.K H B' es xs->ds=es
 | [],es,_,_,_,_,_,h,h'=>by
  rw[m9] at h;subst h;have:=h'.length;cases es with
  | nil=>rfl
  | cons a b=>simp at this
 | `av,es,n,m,_,ld,le,h,h'=>by
  rw[o9] at h;obtain⟨x,r,rfl,h1,h2⟩:=h;cases es with
  | nil=>rw[m9] at h';cases h'
  | cons e es =>
   rw[o9] at h';obtain⟨x',r',z,F,J⟩:=h';cases z;unfold leans at ld le;rw[`bs] at ld le;rw[Rp.inj I ld.1 le.1 h1 F,Rps.inj I ld.2 le.2 h2 J]
end
theorem view(I:`C){d:D}{x:V}(l:`kI)(h:`A9)(r:`fN) :
  (d=`w/\u=`aE)∨(∃b,d=`ce/\u=`EB)∨(∃i t,d=`aj/\u=`oW)∨(∃z t,d=`hC/\u=`E z t) ∨
  (∃m ds a xs its,n=m+1/\`avA/\d=`bO/\`eY/\u=`dD/\`GX/\`jW/\`abH) ∨
  (∃m ds a xs its,n=m+1/\`avA/\d=`ct/\`eY/\u=`dD/\`GX/\`jW/\`Bb a `be):=by
 cases d with
 | non=>rw[U8] at h;subst h;exact `k ⟨rfl,r⟩
 | bl b=>rw[W6] at h;subst h;exact `h (`k ⟨b,rfl,r⟩)
 | int i=>rw[n8] at h;subst h;obtain⟨t,e⟩:=r;exact `h (`h (`aje))
 | str z=>rw[X5] at h;subst h;obtain⟨t,e⟩:=r;exact `h (`h (`h (`k ⟨z,t,rfl,e⟩)))
 | tup ds =>
  cases n with
  | zero=>unfold lean at l;cases l
  | succ m =>
   unfold lean at l;rw[W4] at h;obtain⟨a,xs,rfl,q,rr⟩:=h;obtain⟨its,rv,p,_⟩:=`e6 `cR;exact `h (`h (`h (`h (`k ⟨m,ds,a,xs,its,rfl,l,rfl,rfl,r,rr,rv,p⟩))))
 | lst ds =>
  cases n with
  | zero=>unfold lean at l;cases l
  | succ m =>
   unfold lean at l;rw[X7] at h;obtain⟨a,xs,rfl,q,rr⟩:=h;obtain⟨its,rv,p,_⟩:=`dk `cR;exact `h (`h (`h (`h (`h ⟨m,ds,a,xs,its,rfl,l,rfl,rfl,r,rr,rv,`n6⟩))))
 | dct a b=>unfold lean at l;cases l
 | fn a b=>unfold lean at l;cases l
theorem in1_units:`M8=`iP+1:=rfl
theorem sr0{es:`n}{ys:`K}{ws:`U}{A:`bf}(ld:`A8)(le:`avz)(r1:`GX)(r2:Rps X.K H B' es ys)(v1:`cU)(v2:`ajl)
  (ih:∀d e x y u w,`avB) :
  ∀j (h1:j<us.toArray.size) (h2:j<ws.toArray.size),`oZ A s us.toArray[j] `rA[j] (`adP):=by
 intro j h1 h2;have l1:`avC:=by rw[← `jd,v1.length];simpa using h1
 have l2:j<es.length:=by rw[← `p3,v2.length];simpa using h2
 obtain⟨x,ex,rx⟩:=r1.get (B6 l1);obtain⟨y,ey,ry⟩:=r2.get (B6 l2);obtain⟨u,eu,ru⟩:=v1.get ex;obtain⟨w,ew,F⟩:=v2.get ey;have hu:us.toArray[j]=u:=by
  have:us[j]?=`a2:=eu;simp at h1;rw[`c3 h1] at this
  simpa using `vL
 have hw:`rA[j]=w:=by
  have:ws[j]?=`Dd:=ew;simp at h2;rw[`c3 h2] at this
  simpa using `vL
 rw[hu,hw];have e1:`adN=ds[j]:=by simp[`bI,l1]
 have e2:`adO=es[j]:=by simp[`bI,l2]
 rw[e1,e2];exact ih _ _ _ _ _ _ (qq0 ld (B6 l1)) (qq0 le (B6 l2)) rx ry ru F
theorem ku0(I:`C):∀(n m:Nat) (d e:D) (x y:V) (u w:`A) (A:`bf),`D8->`avB:=by
 intro n
 induction n with
 | zero =>
  intro m d e x y u w A hu ld le hx hy rx ry;have F:`rb:=`p
  rcases `VI with⟨rfl,rfl⟩|⟨b,rfl,rfl⟩|⟨i,t,rfl,rfl⟩|⟨z,t,rfl,rfl⟩|⟨n',_,_,_,_,hn,_⟩|⟨n',_,_,_,_,hn,_⟩<;>(try (exact `y hn `g)) <;>
  rcases `VJ with⟨rfl,rfl⟩|⟨b',rfl,rfl⟩|⟨i',t',rfl,rfl⟩|⟨z',t',rfl,rfl⟩|⟨m',es,a',ys,O,rfl,Y,rfl,rfl,rfl,J,M,p'⟩|⟨m',es,a',ys,O,rfl,Y,rfl,rfl,rfl,J,M,p'⟩ <;>
  unfold deq <;>
  first
  | with_reducible exact M0 _|with_reducible exact A10 _ _|with_reducible exact `QW|with_reducible exact `QZ|with_reducible exact A20 _ _ _|with_reducible exact A40 _ _ _
  | with_reducible exact z0 _|with_reducible exact d5 _ _|with_reducible exact d6 _ _|with_reducible exact A00 _|with_reducible exact A30 _ _ _|with_reducible exact i3 _ _|with_reducible exact `QX
  | with_reducible exact i4 _ _|with_reducible exact A50 _ _ _|with_reducible exact `QY
  | with_reducible exact `avD|with_reducible exact `avE|with_reducible exact `avF|with_reducible exact `avG
  | with_reducible exact t4 p' F|with_reducible exact `avH|with_reducible exact `avI|with_reducible exact `avJ
 | succ n ih =>
  intro m d e x y u w A hu ld le hx hy rx ry;have F:`rb:=`p
  have a0:`M8+n<cLine:=`GY
  rcases `VI with⟨rfl,rfl⟩|⟨b,rfl,rfl⟩|⟨i,t,rfl,rfl⟩|⟨z,t,rfl,rfl⟩|⟨n',ds,a,xs,its,hn,Z,rfl,rfl,rfl,rr,rv,p⟩|⟨n',ds,a,xs,its,hn,Z,rfl,rfl,rfl,rr,rv,p⟩ <;>
  rcases `VJ with⟨rfl,rfl⟩|⟨b',rfl,rfl⟩|⟨i',t',rfl,rfl⟩|⟨z',t',rfl,rfl⟩|⟨m',es,a',ys,O,rfl,Y,rfl,rfl,rfl,J,M,p'⟩|⟨m',es,a',ys,O,rfl,Y,rfl,rfl,rfl,J,M,p'⟩
  case inr.inr.inr.inr.inl.inr.inr.inr.inr.inl =>
   cases hn
   by_cases hab:a=a'
   ·subst hab
    have e:`fE ds=`fE es:=`avK;rw[← e,`avL];exact M0 _
   ·refine `Q0
    have:=w4 (e:=`oq) p p' F `avM;unfold deq;rw[wg0]
    simpa [← `kJ,← `M6,`un,`M7] using `x
  case inr.inr.inr.inr.inr.inr.inr.inr.inr.inr =>
   cases hn
   by_cases hab:a=a'
   ·subst hab
    have e:`gR ds=`gR es:=`avK;rw[← e,`avL];exact M0 _
   ·refine `Q0
    have s1:`VK:=`VL
    have s2:O.toArray.size=`m8:=`VM
    unfold deq;rw[wg0]
    by_cases hl:`bN=`m8
    ·have:=`avN (e:=`oq) p p' `VN F `avM
     rw[s1] at this;rw[hl] at this ⊢
     simpa using `x
    ·have:=`avO
     rw[`VD hl,`avP];exact `x
  all_goals
   unfold deq
   first
   | with_reducible exact M0 _|with_reducible exact A10 _ _|with_reducible exact `QW|with_reducible exact `QZ|with_reducible exact A20 _ _ _|with_reducible exact A40 _ _ _
   | with_reducible exact z0 _|with_reducible exact d5 _ _|with_reducible exact d6 _ _|with_reducible exact A00 _|with_reducible exact A30 _ _ _|with_reducible exact i3 _ _|with_reducible exact `QX
   | with_reducible exact i4 _ _|with_reducible exact A50 _ _ _|with_reducible exact `QY
   | with_reducible exact `avD|with_reducible exact `avE|with_reducible exact `avF|with_reducible exact `avG
   | with_reducible exact t4 p' F|with_reducible exact `avH|with_reducible exact `avI|with_reducible exact `avJ
   | with_reducible exact SeqAt.EqAt.list_none p F|with_reducible exact SeqAt.EqAt.list_bool _ p F|with_reducible exact SeqAt.EqAt.list_int _ _ p F|with_reducible exact SeqAt.EqAt.list_str _ _ p F
   | with_reducible exact `ai? p F|with_reducible exact SeqAt.EqAt.tuple_bool _ p F|with_reducible exact `aja _ _ p F|with_reducible exact `ajb _ _ p F
   | with_reducible exact SeqAt.EqAt.list_tuple p p' F|with_reducible exact SeqAt.EqAt.tuple_list p p' F
universe zz
universe DL
namespace DL
open Spec PyProof.Rows L2
section
variable{σ:St}{s:`r}
theorem bb0(I:`C)(n m:Nat)(d e:D)(x y:V)(u w:`A)(A:`bf)(hu:`D8)(ld:`kI)(le:`M3)(hx:`A9)(hy:`adQ)(rx:`fN)(ry:`M4) :
  SeqAt.RcAt A s u w (`p2)/\SeqAt.RcNeAt A s u w (!`p2):=by
 have F:`rb:=`p
 rcases `VI with⟨rfl,rfl⟩|⟨b,rfl,rfl⟩|⟨i,t,rfl,rfl⟩|⟨z,t,rfl,rfl⟩|⟨n',ds,a,xs,its,hn,a1,rfl,rfl,rfl,rr,rv,p⟩|⟨n',ds,a,xs,its,hn,a1,rfl,rfl,rfl,rr,rv,p⟩ <;>
 rcases `VJ with⟨rfl,rfl⟩|⟨b',rfl,rfl⟩|⟨i',t',rfl,rfl⟩|⟨z',t',rfl,rfl⟩|⟨m',es,a',ys,Y,rfl,Z,rfl,rfl,rfl,J,M,p'⟩|⟨m',es,a',ys,Y,rfl,Z,rfl,rfl,rfl,J,M,p'⟩
 case inr.inr.inr.inr.inl.inr.inr.inr.inr.inl =>
  subst hn;have a0:`avQ:=`GY
  have O:=`avR
  have q1:=w4 (e:=`oq) p p' F O;have q2:=SeqAt.RcNeAt.tuples (e:=`oq) p p' F O;unfold deq;rw[wg0];have s1:`VK:=`VL
  have s2:`avS:=`VM
  rw[s1,s2] at q1 q2;exact`VO
 case inr.inr.inr.inr.inr.inr.inr.inr.inr.inr =>
  subst hn;have a0:`avQ:=`GY
  have O:=`avR
  have s1:`VK:=`VL
  have s2:`avS:=`VM
  unfold deq;rw[wg0]
  by_cases hl:`bN=`m8
  ·have q1:=`avN (e:=`oq) p p' `VN F O
   have q2:=SeqAt.RcNeAt.lists (e:=`oq) p p' `VN F O;rw[s1] at q1 q2;rw[hl] at q1 q2 ⊢;simp only[`p9,`avT,Bool.and_true];exact`VO
  ·have q1:=`avO
   have q2:=SeqAt.RcNeAt.lists_lengths (A:=A) p p' `adR F;rw[`VD hl,`avP];exact`VO
 all_goals
  unfold deq;constructor
  ·first
   | with_reducible exact SeqAt.RcAt.none_none|with_reducible exact SeqAt.RcAt.bool_bool _ _|with_reducible exact SeqAt.RcAt.int_int _ _ _ _|with_reducible exact SeqAt.RcAt.str_str _ _ _ _|with_reducible exact SeqAt.RcAt.bool_int _ _ _|with_reducible exact SeqAt.RcAt.int_bool _ _ _
   | with_reducible exact SeqAt.RcAt.none_bool _|with_reducible exact SeqAt.RcAt.none_int _ _|with_reducible exact SeqAt.RcAt.none_str _ _|with_reducible exact SeqAt.RcAt.bool_none _|with_reducible exact SeqAt.RcAt.bool_str _ _ _|with_reducible exact SeqAt.RcAt.int_none _ _|with_reducible exact SeqAt.RcAt.int_str _ _ _ _
   | with_reducible exact SeqAt.RcAt.str_none _ _|with_reducible exact SeqAt.RcAt.str_bool _ _ _|with_reducible exact SeqAt.RcAt.str_int _ _ _ _
   | with_reducible exact SeqAt.RcAt.none_list p' F|with_reducible exact SeqAt.RcAt.bool_list _ p' F|with_reducible exact SeqAt.RcAt.int_list _ _ p' F|with_reducible exact SeqAt.RcAt.str_list _ _ p' F
   | with_reducible exact SeqAt.RcAt.none_tuple p' F|with_reducible exact SeqAt.RcAt.bool_tuple _ p' F|with_reducible exact SeqAt.RcAt.int_tuple _ _ p' F|with_reducible exact SeqAt.RcAt.str_tuple _ _ p' F
   | with_reducible exact SeqAt.RcAt.list_none p F|with_reducible exact SeqAt.RcAt.list_bool _ p F|with_reducible exact SeqAt.RcAt.list_int _ _ p F|with_reducible exact SeqAt.RcAt.list_str _ _ p F
   | with_reducible exact SeqAt.RcAt.tuple_none p F|with_reducible exact SeqAt.RcAt.tuple_bool _ p F|with_reducible exact SeqAt.RcAt.tuple_int _ _ p F|with_reducible exact SeqAt.RcAt.tuple_str _ _ p F
   | with_reducible exact SeqAt.RcAt.list_tuple p p' F|with_reducible exact SeqAt.RcAt.tuple_list p p' F
  ·try rw[`VP]
   try rw[`D']
   first
   | with_reducible exact SeqAt.RcNeAt.none_none|with_reducible exact SeqAt.RcNeAt.bool_bool _ _|with_reducible exact SeqAt.RcNeAt.int_int _ _ _ _|with_reducible exact SeqAt.RcNeAt.str_str _ _ _ _|with_reducible exact SeqAt.RcNeAt.bool_int _ _ _|with_reducible exact SeqAt.RcNeAt.int_bool _ _ _
   | with_reducible exact SeqAt.RcNeAt.none_bool _|with_reducible exact SeqAt.RcNeAt.none_int _ _|with_reducible exact SeqAt.RcNeAt.none_str _ _|with_reducible exact SeqAt.RcNeAt.bool_none _|with_reducible exact SeqAt.RcNeAt.bool_str _ _ _|with_reducible exact SeqAt.RcNeAt.int_none _ _|with_reducible exact SeqAt.RcNeAt.int_str _ _ _ _
   | with_reducible exact SeqAt.RcNeAt.str_none _ _|with_reducible exact SeqAt.RcNeAt.str_bool _ _ _|with_reducible exact SeqAt.RcNeAt.str_int _ _ _ _
   | with_reducible exact SeqAt.RcNeAt.none_list p' F|with_reducible exact SeqAt.RcNeAt.bool_list _ p' F|with_reducible exact SeqAt.RcNeAt.int_list _ _ p' F|with_reducible exact SeqAt.RcNeAt.str_list _ _ p' F
   | with_reducible exact SeqAt.RcNeAt.none_tuple p' F|with_reducible exact SeqAt.RcNeAt.bool_tuple _ p' F|with_reducible exact SeqAt.RcNeAt.int_tuple _ _ p' F|with_reducible exact SeqAt.RcNeAt.str_tuple _ _ p' F
   | with_reducible exact SeqAt.RcNeAt.list_none p F|with_reducible exact SeqAt.RcNeAt.list_bool _ p F|with_reducible exact SeqAt.RcNeAt.list_int _ _ p F|with_reducible exact SeqAt.RcNeAt.list_str _ _ p F
   | with_reducible exact SeqAt.RcNeAt.tuple_none p F|with_reducible exact SeqAt.RcNeAt.tuple_bool _ p F|with_reducible exact SeqAt.RcNeAt.tuple_int _ _ p F|with_reducible exact SeqAt.RcNeAt.tuple_str _ _ p F
   | with_reducible exact SeqAt.RcNeAt.list_tuple p p' F|with_reducible exact SeqAt.RcNeAt.tuple_list p p' F
universe zz
section
variable{a:`z}{ga:`bA}
noncomputable def d30(K:`D)(neg:`V):R2:=λx y H Q=>∃B B' dx dy,`Ub/\Rp K H B' dy y/\`bx dx 50=`c/\`bx dy 50=`c/\Q (.bl (xor neg (deq dx dy))) H
theorem xg0(hu:`VQ):OpR X (`e7 .Eq) (d30 X.K `q):=by
 intro pins s σ H x y v u Q I rx ry h;obtain⟨B,B',dx,dy,hx,hy,lx,ly,q⟩:=h;exact(`avU).1 _ _ _ _ ⟨`bD,H,I,rfl,by rw[`avV] at q;exact q⟩
theorem w60(hu:`VQ):OpR X (`e7 .NotEq) (d30 X.K `c):=by
 intro pins s σ H x y v u Q I rx ry h;obtain⟨B,B',dx,dy,hx,hy,lx,ly,q⟩:=h;exact(`avU).2 _ _ _ _ ⟨`bD,H,I,rfl,by rw[`r8] at q;exact q⟩
theorem yd0:Op2 K (d30 K `q) W5:=by
 intro H B x y dx dy d Q hb rx ry h k;unfold W5 at h;split at h
 ·rename_i hl
  cases h;exact⟨B,B,dx,dy,rx,ry,hl.1,hl.2,k _ H `c1 (by rw[W6,`avV])⟩
 ·cases h
theorem yu0:Op2 K (d30 K `c) Q8:=by
 intro H B x y dx dy d Q hb rx ry h k;unfold Q8 at h;split at h
 ·rename_i hl
  cases h;exact⟨B,B,dx,dy,rx,ry,hl.1,hl.2,k _ H `c1 (by rw[W6,`r8])⟩
 ·cases h
theorem i00:Op2 K (λx y H Q=>rI0 (`alV) x y H Q∨(`al6)∨Xz0 K x y H Q∨W40 K x y H Q∨cc0 K x y H Q) d9:=by
 intro H B x y dx dy d Q hb rx ry h k;cases dx<;>cases dy<;>simp only[d9] at h<;>try cases h
 ·rw[n8] at rx ry
  subst rx ry;exact `k ⟨_,_,rfl,rfl,`p4⟩
 ·split at h
  ·cases h
   rw[X5] at rx ry;subst rx ry;exact `h (`k ⟨_,_,rfl,rfl,`oo,`Uc⟩)
  ·cases h
 ·split at h
  ·rename_i hz
   cases h;have J:=ry;have M:=rx;rw[W4] at rx ry;obtain⟨a,xs,rfl,q1,r1⟩:=rx;obtain⟨b,ys,rfl,q2,r2⟩:=ry
   by_cases he:`n0
   ·subst he
    have e:`avW=`avW:=rfl;have hn:=`jd;simp at hn;have F:=`GZ;subst F;exact `h (`h (`h (`h ⟨a,b,ys,rfl,rfl,`x0,q2.to,k _ H `c1 (by rw[`ie];exact J)⟩)))
   ·refine `h (`h (`h (`k ⟨a,b,xs,ys,rfl,rfl,`x0,q2.to,he,`avX,`dX,λz p hp=>k _ _ `gH (p70 hb hp (`SX))⟩)))
    subst z;have hn:=`p3;simp at hn;have F:=`GZ;subst F;exact k _ H `c1 (by rw[`fu];exact M)
  ·cases h
 ·split at h
  ·rename_i hz
   cases h;rw[X7] at rx ry;obtain⟨a,xs,rfl,q1,r1⟩:=rx;obtain⟨b,ys,rfl,q2,r2⟩:=ry;exact `h (`h (`k ⟨a,b,xs,ys,rfl,rfl,`x0,q2.to,`avX,λp hp=>k _ _ `gH (nk0 hb hp (`SX))⟩))
  ·cases h
theorem Y8(ha:`dx)(hb:`dy):PD X `avY (o2 ga gb d9):=s40 `avZ i00 ha hb
theorem me0(h:`a4):∀k:Nat,Rps K H B (`a! k ds).flatten `aok
 | 0=>`T2
 | k+1=>by
  rw[`dY,`dY,`lI,`lI];exact h.append (me0 h k)
theorem Yy0:Op2 K (λx y H Q=>rI CMul (`alX) x y H Q∨W50 x y H Q∨W30 K x y H Q) J4:=by
 intro H B x y dx dy d Q hb rx ry h k;cases dx<;>cases dy<;>simp only[J4] at h<;>try cases h
 ·split at h
  ·cases h
   rw[n8] at rx ry;subst rx ry;exact `k ⟨_,_,rfl,rfl,`oo,`p4⟩
  ·cases h
 ·split at h
  ·rename_i hz
   cases h;rw[X5] at rx;rw[n8] at ry;subst rx ry;exact `h (`k `av_)
  ·cases h
 ·split at h
  ·rename_i hz
   cases h;rw[W4] at rx;rw[n8] at ry;subst ry;obtain⟨a,xs,rfl,q1,r1⟩:=rx;refine `h (`h ⟨a,xs,_,rfl,rfl,`x0,`av0,`M9,hz.2.2.1,by rw[`jd];exact hz.2.2.2,λp hp=>k _ _ `gH (p70 hb hp (me0 r1 _))⟩);subst z;have hn:=`jd;simp at hn;exact `GZ
  ·cases h
theorem y90(ha:`dx)(hb:`dy):PD X `VR (o2 ga gb J4):=s40 (Sn0.or (Vg0.or Vo0)) Yy0 ha hb
theorem ct0{xs:`n}(h:`TT=0/\`apQ=`ae):`UT=xs:=by
 unfold cutD;rw[h.1,h.2];simp
theorem S6{lo hi:`pV}{gl gh:`FO}{p2:Pos}(he:`bU)(hl:PDO X lo gl)(hh:PDO X hi gh) :
  PD X `ani (U5 g gl gh):=.mk λB δ =>
 (Zv0 (Sm0.or (Uc0.or (Tg0.or U70))) (he B δ) (hl B δ) (hh B δ)).imp fun σ H Q ⟨d,en,h,k⟩=>by
  unfold U5 at h;cases e1:`ay with
  | none=>rw[e1] at h;cases h
  | some x =>
   cases e2:gl δ with
   | none=>rw[e1,e2] at h;cases h
   | some l =>
    cases e3:gh δ with
    | none=>rw[e1,e2,e3] at h;cases h
    | some u =>
     rw[e1,e2,e3] at h;simp only[`j] at h;refine⟨x,en,e1,λv H1 s1 r1=>⟨l,`fU,(by first|exact e2|rfl),λH2 s2=>⟨u,`Ud,(by first|exact e3|rfl),`av1⟩⟩⟩;have S:=`Mh s3;have r3:=(`mX).same s3;have hb:=((`Ud).same s3).bad;cases x<;>simp only[slA] at h<;>try cases h
     ·split at h
      ·cases h
       rw[X5] at r3;exact `k ⟨_,r3,`oo,k _ H3 S `Mf⟩
      ·cases h
     ·have r4:=r3
      rw[W4] at r3;obtain⟨a,xs,rfl,q,r⟩:=r3;rename_i dxs
      by_cases hw:sIx `G_ 0 l=0/\sIx `G_ `G_ u=`G_
      ·refine `h (`h (`h ⟨a,xs,rfl,`cR,`av2,k _ _ S ?_⟩))
       rw[ct0 hw];exact r4
      ·exact `h (`h (`k ⟨a,xs,rfl,`cR,`av2,λp hp=>k _ _ (S.trans `gH) (p70 hb hp `av3)⟩))
     ·rw[X7] at r3
      obtain⟨a,xs,rfl,q,r⟩:=r3;exact `h (`k ⟨a,xs,rfl,`cR,λp hp=>k _ _ (S.trans `gH) (nk0 hb hp `av3)⟩)
theorem fb0{d d':D}(h:Rps K H B [d,d'] xs):∃v v',xs=[v,v']/\`cp/\Rp K H B d' v':=by
 rw[o9] at h;obtain⟨x,r,rfl,h1,h2⟩:=h;obtain⟨y,rfl,h3⟩:=z70 h2;exact⟨x,y,rfl,h1,h3⟩
theorem T20:FnR K `al! X40:=by
 intro H B xs ds d Q hb r h k;unfold X40 at h;split at h
 ·cases h
  obtain⟨v,v',rfl,r1,r2⟩:=fb0 r;rw[n8] at r1 r2;subst r1 r2;exact`av4
 ·cases h
theorem bt0:FnR K `al? `NZ:=by
 intro H B xs ds d Q hb r h k;unfold intOfD at h;split at h
 ·cases h
  obtain⟨v,rfl,r1⟩:=`iB;rw[n8] at r1;subst r1;exact `k `av5
 ·cases h
  obtain⟨v,rfl,r1⟩:=`iB;rw[W6] at r1;subst r1;exact `h `av5
 ·cases h
universe zz
universe DL
namespace DL
open Spec PyProof.Rows
theorem b8{gA:GA}(h:`lQ)(hl:`oe):m7 gA δ=`FM:=by
 unfold m7;rw[h,`j,`lV]
theorem z40{gA:GA}(h:`lQ)(hl:`oe):Z7 gA δ=`lP:=by
 unfold Z7;rw[h,`j,`lV]
theorem Vj0{n:Int}{d:D}(h:d∈`r9):∃k:Nat,`bq<n/\d=`dL:=by
 obtain⟨k,hk,rfl⟩:=`fX h;have:=`G0;exact⟨k,`p,by rw[`VS]⟩
theorem Ui0(f:D->α)(n:Int):(`r9).map f=`av6 λ(k:Nat)=>f `u':=by
 unfold T9;rw[`b3];have:n - 0=n:=`p
 rw[`x];refine `av7
 show f (`d (0+`bq))=_;rw[`VS]
theorem wz0(n:Int):(`r9).length=`hM:=by unfold T9;simp
theorem tu0{n:Int}{d:D}(h:(`r9)[j]?=`ar):j<n.toNat/\d=`fZ:=by
 have hj:j<n.toNat:=by
  have:=`x1
  rwa [wz0] at this
 refine⟨hj,?_⟩;unfold T9 at h;rw[`a_,`r' (`FQ)] at h;have:=`kO;rw[← `x];show `aQ (0+`cy)=_;rw[`VS]
theorem io0{gt:GB}{ge:GE}{n:Int}(h:Nat->D)(H:∀k:Nat,`bq<n->∃δ',gN 0 `u' δ=`As/\`xn=`dv/\`t'=`a (h k)) :
  V1 `bb gt ge δ (`r9)=`a (`av6 h):=by
 rw[zb0 (λd=>match d with|`cY=>h `nv|_=>`w) (λd hd=>by
  obtain⟨k,hk,rfl⟩:=Vj0 hd;exact H k hk),Ui0]
 rfl
universe DL
namespace DL
open Spec PyProof.Rows L2
section
variable{a:`z}{ga:`bA}
theorem o00(hm:`lA)(hv:`o4=`adY)(ha:`bU)(hg:`dU:=by rfl)
  (hn:`iT := by decide) (hdb:`bt:=by decide) (he:`iC:=by rfl) (hpl:`hd:=by rfl) :
  PDF X `av8 (oA `x2 qh0):=.mk λB δ=>(rr0 g60 hg hm hv (K5 `bV xj0 he) hn hdb he hpl).imp fun σ H Q ⟨d,en,h,k⟩=>by
 unfold oA z9 v7 at h;cases e1:`ay with
 | none=>rw[e1] at h;cases h
 | some x =>
  rw[e1] at h;simp only[`j,`cC] at h;refine⟨x,en,e1,`Gt⟩;cases x<;>simp only[qh0] at h<;>try cases h
  ·rw[W4] at r1
   obtain⟨q,xs,rfl,hq,rr⟩:=r1;exact⟨q,xs,rfl,`h `on,`av9⟩
  ·rw[X7] at r1
   obtain⟨q,xs,rfl,hq,rr⟩:=r1;exact⟨q,xs,rfl,`k `on,`av9⟩
universe zz
noncomputable def FnN(P:`ag)(w:`N)(K:`D)(mg:`bX)(base:`R)(x:Str)(k:Nat)(ps:`u)(f:`J):Prop :=
 ∃(fa:`f) (fd:`f'),`af P w K mg `t CX0 k fa fd ps (spN K f)/\`UH
theorem jf0{k:Nat}{ps:`u}{f:`J}(C:`av')(hr:`xJ)(hk:k<=m)(ha:`oj)(hg:`dU:=by rfl)(hdb:`bt:=by decide)
  (he:`dV:=by rfl) (hpl:`ir:=by rfl):PDF X `tB (oA gA f):=by
 obtain⟨fa,fd,F,hm,kp,hb⟩:=C;exact .mk λB δ=>(qy0 (E:=E0) F `Gu hg hm kp hb `L kc0 `bV hdb he hpl).imp fun σ H Q h=>by
  obtain⟨d,en,h,k⟩:=h;unfold oA at h;cases e1:`cg with
  | none=>rw[e1] at h;cases h
  | some ds =>
   rw[e1] at h;refine`aq0;show spN X.K f `Ui H1 Q E0;rw[`fu];exact⟨B,ds,d,`Ug,r1,h,λp H' hp s r=>k p H' (`kL hp) (`mY s) r⟩
theorem G8{k:Nat}{ps:`u}{f:`J}(C:`av')(hr:`xJ)(hk:k<=m)(ha:`oj)(hg:`dU:=by rfl)(hdb:`bt:=by decide)
  (he:`dV:=by rfl) (hpl:`ir:=by rfl):`xz:=(jf0 C hr hk ha hg hdb he hpl).pd
theorem zg0(h:`xD):PSD X `rn (yl0 g):=.mk λH₀ B₀ δ pins s σ H D I ⟨r,en,e1,k⟩=>by
 unfold yl0 at e1;obtain⟨B,b1,b2,env⟩:=`bW;cases e2:`ay with
 | none=>rw[e2] at e1;cases e1
 | some d =>
  rw[e2] at e1;cases e1;exact v80 `ci `i s σ H D I ⟨d,env,e2,λp H' hp s' r=>k p H' (`Vf) (`ut s') (`cu `Vk (`eI λa z=>z.imp (b1 a) id)).toL⟩
theorem s20(i:Nat){px:Pos}(hN:`cn:=by rfl)(hv:`fz:=by first|exact `bE|exact `gh|exact `gi)(hd:`bt:=by decide)(hcd:`ga:=by decide) :
  PSD X (`pd (`a `kH) pos) (pp0 i):=.mk λH₀ B₀ δ pins s σ H D I ⟨r,en,e1,k⟩=>by
 unfold pp0 at e1;obtain⟨B,b1,b2,env⟩:=`bW;split at e1
 ·rename_i d hi
  obtain⟨a,hs,hb,ro⟩:=`l1;cases e1;exact v80 `kN `i s σ H D I ⟨_,hs,k a H (`m5 i d a hi hs) `hI (ro.mono `Vk (`eI λb z=>`gI (b1 b) λq=>by rw[q];exact hb))⟩
 ·cases e1
universe DL
namespace DL
@[simp] noncomputable def dj0:`J
 | `av!=>`a (`m (`av? λp=>`m [p.1,p.2]))
 | _=>`b
@[simp] noncomputable def o20:`J
 | `xp=>`a (`o `awa)
 | _=>`b
noncomputable def Y6(ds:`n):`n:=(`cx `bN).map λ(k:Nat)=>`m [`dL,ds.getD k `w]
noncomputable def cj0:`TQ
 | `xp=>`a (Y6 ds)
 | _=>`b
noncomputable def qx0(gA:GA):GA:=fun δ=>`g? cj0
@[simp] noncomputable def Ws0:`J
 | [`L5]=>`VT
 | _=>`b
mutual
noncomputable def tree:`cD
 | `ik=>`q
 | `kb=>`q
 | `kc=>`q
 | `bO=>`Nq
 | _=>`c
noncomputable def trees:`Gy
 | []=>`c
 | `av=>`jj d&&`Nq
end
noncomputable def xw0(g:GE):GE:=fun δ=>`UI λd=>if `x3 then `ar else `b
theorem gy0{g:GE}{d:D}(h:`pQ=`ar)(ht:`x3):xw0 g δ=`ar:=by
 unfold xw0;rw[h,`j,`H ht]
theorem yb0{gA:GA}{n:Int}(h:`cg=`a [`rU])(h1:`MC)(h2:`MD):Q6 gA δ=`a (`r9):=by
 unfold Q6;rw[h,`j];simp only[ey0];rw[`H `Dk]
theorem R30{g:GE}(h:`ay=`lP):oA `x2 b7 δ=`a (`d (`bN:Int)):=by
 rw[o7 `awb];rfl
universe DL
namespace RevL
open Spec PyProof.Rows
theorem ev0:`zX `G1 "__len__"=`K1:=by rw[`D2,`D3];kernel_rfl
theorem Xd0:`zX `G1 `awc=`bg (`a (`dB "list_reverseiterator.__length_hint__")):=by rw[`D2,`D3];kernel_rfl
theorem Ww0:isSubtype `G1 `G1=`LS:=by rw[`QO];kernel_rfl
section
variable{w:`N}{s:`r}
variable{wr:`b6}{G:`awd}{P:`awe}{St:`TD}
theorem U40(W:`awf)(hT:`VU)(C:`f)(res:`A)(c0:Nat)(st:St 0 s)(hC:C∉fp)(hI:I∈fp)
  (gC:`cO C=`a { cls:=`dg,data:=`bu #[] c0 })
  (hR:∀s' acc' c',`awg->`awh->`VV->R (.ok (`dC res)) s') (hn:`xh) :
  `l `ao `bF (`adW `pE `uA res)
   `awi `awj s:=by
 have ne:C≠I:=λe=>hC (e▸hI)
 unfold Builtin.List.listExtendWith;refine A0 (i9 `G2 (by
  have q1:`awk `pE `uA=`q:=by simp[`awk,ne]
  have q2:(`awl==`p7 `ew)=`q:=`O
  have q3:(`awl==`p7 `ev)=`q:=`O
  simp only[q1,q2,q3,`anK,`ih,`cA];refine A0 (W.self 0 _ _ _ st (A0 (C2 (by
   unfold Builtin.List.listLengthHint;refine A0 (L0 `G2 ev0 (by
    show `l _ `bF (specialOf (`iQ I) (`zU `awc)>>=_) _ _ _;refine A0 (L0 `G2 Xd0 ?_);refine A0 (i6 `G2 Ww0 ?_);rw[`Fb];dsimp only;rw[`H `el,`Fb];refine `cZ;rw[`P `el];refine A1 ⟨P4 PySem.F.plain_extend_loop _,?_⟩;exact codeAny_extend_loopS W hn _ hC _ n 0 _ _ _ rfl `FG st gC (ItemsOf.nil P) λs' acc' c' m e J=>hR s' acc' c' m e J))))))))
theorem Yz0(W:`awf)(hT:`VU)(C:`f)(st:St 0 s)(hC:C∉fp)(hI:I∈fp)
  (gC:`cO C=`awm)
  (hR:∀s' acc' c',`awg->`awh->`VV->R (.ok (`dC `aE)) s') (hn:`xh) :
  `l `ao `bF (Builtin.«list.__init__» ⟨[`ab C,`A!],[]⟩)
   `awi `awj s:=by
 show `l _ `bF (do let old ← Builtin.List.listItems `pE;Builtin.List.listUpdate `pE `VW;letGo old.toList.reverse;`awn) _ _ s;refine A0 (by
  unfold Builtin.List.listItems;refine A0 (D4 gC rfl (A1 (by
   show `l _ `bF (`VX C `VW>>=λ_=>letGo (#[]:`bh).toList.reverse>>=λ_=>`awn) _ _ s;have g2:=S4 `awo gC rfl;have oth:∀b o,b≠C->`iV->(`qc C `awo).get? b=`_:=λb o hb e=>`anO e
   refine A0 (k6 gC rfl (A0 (I0 (U40 W hT C `aE _ (`G3 0 s _ `aZ st `bn λb hb o e=>oth b o (λh=>hC (h▸hb)) e) hC hI g2 (λs' acc' c' m e F=>?_) hn))));exact hR s' acc' c' (Moved.trans W.gtrans ((Moved.refl W.grefl).then_heap `bn λb o hb e=>oth b o (λh=>hb (h▸B0)) e) m) e F))))
universe zz
section
variable{w:`N}{s:`r}
variable{wr:`b6}{G:`awd}{P:`awe}{St:`TD}
theorem k00{Q:`X}(W:WalksS `dE w A.in1.in1 I fp wr G n P St)(hT:`VU)(st:St 0 s)(hfp:∀b∈fp,`awp)(hI:I∈fp)
  (hQ:∀s' acc' c',Moved (`an::wr) G `awq s' ->
   `adS `an=`adT->`VV->Q `kQ s') (hn:`xh) :
  `l `ao A (`e? `p5 [`A!]) Q E s:=by
 have hC:s.heap.objs.size∉fp:=λz=>E2 _ (hfp _ z)
 refine callType_codes (Q₁:=λob s1=>ob=`d!/\s1=`awq) PySem.F.called_list (PySem.F.typeCall_list_1 _) PySem.F.entry_list_init (code_list_new _ `eA) λob s1 h1=>?_
 obtain⟨rfl,rfl⟩:=h1;have gC:(`adX).get? `an=`awm:=`df;exact⟨⟨_,gC,rfl⟩,PySem.F.args_list_init_2 _ _,Yz0 W hT _ (`G3 0 s _ `aZ st `bn λb _ o e=>`iZ) hC hI gC (λs' acc' c' m e J=>⟨rfl,hQ s' acc' c' m e J⟩) hn⟩
theorem ly0{l:`f}{its:`bh}{Q:`X}(hh:`j1)(hl:`Bb l its)(hz:`abw)
  (h:∀(h':`R) (tk c:Nat) (a:`f),`RB->`zj=`a { cls:=`dg,dict:=`b,data:=`bu `VY c,slots:=#[] }->(∀b o,`Bg)->Q `dc `hT) :
  `l `ao A (`e? (`bl `jk) [`hD]) (λv s1=>`l `ao A (`e? `p5 [v]) Q E s1) E s:=by
 refine `awr hl ?_;obtain⟨ol,gl,_,_⟩:=id hl;have M:l<s.heap.objs.size:=A7 gl;have Y:A.in1.in1.handled=`b:=by simp[hh]
 have Wk:=(Walks.listRev (prog:=`dE) (w:=w) Y `an l (B9 M) its).toS;refine k00 Wk (λi s x=>x.2.1.typeIs) ⟨`hE,⟨_,`df,rfl,by
  show `alq #[`hD,`fe (`G4)]=_;have z:`G4 - `tu=`G4:=`p
  rw[z]⟩,hl.push _⟩ (`fA) `S (λs' F c' m e J=>?_) hz
 ·show b<(`dG _).objs.size
  rw[`r!];simp only[`aX,`a7,`a8] at hb;rcases hb with rfl|rfl
  ·exact H0 _
  ·exact k7 M
 ·obtain⟨h',g',d',O,Z⟩:=s'
  obtain rfl:g'=`n1:=m.gens;obtain rfl:d'=`wK:=m.drawn;obtain rfl:Z=s.os:=m.os;have ea:F=`VY:=by
   apply Array.ext
   ·rw[J.1,Array.size_reverse]
   ·intro i h1 h2
    have q:its[`zy - 1 - i]?=`a F[i]:=J.2 i F[i] (`VZ h1);have hi:i<its.size:=by rw[← J.1];exact h1
    rw[`VZ `g] at q;rw[Array.getElem_reverse];exact(A2 q).symm
  subst ea;have a0:(`dG (revObj l (`G4))).objs.size=`i4:=k8 ..;refine h h' O c' _ ?_ e λb o eb=>?_
  ·show `an<=`V_
   rw[`r!];exact D9 _
  ·have lb:=A7 eb
   refine m.heap b o ?_ (B3 _ (B3 _ eb));simp only[`aX,`a7,`a8,`r?];refine⟨?_,B9 lb⟩;show b≠`V_;rw[`r!];exact B9 (k7 lb)
universe zz
universe RevL
namespace DL
open Spec PyProof.Rows L2
theorem Rps.reverse:∀{ds:`n} {xs:`K},`a4->Rps K H B `awa `Ft
 | [],_,h=>`FY
 | `av,_,h=>by
  rw[o9] at h;obtain⟨x,r,rfl,h1,h2⟩:=h;rw[`oa,`oa];exact `m' (Rps.reverse h2) h1
theorem gl0:`aws:=`aY
theorem fs0:`awt:=`aY
theorem Wv0(hc:`bz)(hl:`V0)(hs:`G5)(he:`gb)(hgl:`V1 := by rfl)(hgs:`G6 := by rfl)
  (e1:`awu:=by rfl) (e2:`iC:=by rfl)
  (h1:`hd:=by rfl) (h2:`awv:=by rfl) :
  PE X `aww (fun σ H Q=>te σ H λv H'=>∃q xs,v=`nE/\SqL X.K H' q xs/\∀l,H' l=`b->Q `pm (upd H' l (`o `Ft))):=by
 intro pins s σ H Q I h;refine L4 (zo0 I hgl hl fs0 ?_ `s `s);refine `awx;rw[e1];show `l _ _ (`rk (`adZ::`AN)) _ _ s;refine N3 ?_;refine L4 (zo0 I hgs hs gl0 ?_ `s `s);refine E3 ?_ e2 h2;rw[e2];show `l _ _ (`rk (`mF::`ad_)) _ _ s;refine N3 (thn `n5 λu s1 ⟨v,H1,I1,r1,q,xs,ev,hq,k⟩=>Q2 ?_);subst ev;obtain rfl:u=`iQ q:=r1;obtain⟨its,rv,pl,hz⟩:=`Bh hq;have F:=`kJ;refine thn (RevL.ly0 (I1.ok.hd hc) `j4 (by rw[`b0,← F];exact hz) (Q:=`abq) (E:=`az) λh' tk c a ha ga hk=>?_) `awy
 have hf:H1 a=`b:=`mC ha;refine⟨`dD,_,`Lg (a:=a) (o:=`o `Ft) (t':=tk) hk ha ?_,rfl,k a hf⟩;exact⟨by rw[`ke];exact hz,`VY,c,rv.reverse,by rw[ga];simp⟩
theorem Ze0(hl:`V0)(hs:`G5)(he:`bU)(hc:`bz:=by rfl)(hgl:`V1 := by rfl)(hgs:`G6 := by rfl)
  (e1:`awu:=by rfl) (e2:`iC:=by rfl)
  (h1:`hd:=by rfl) (h2:`awv:=by rfl) :
  PDF X `aww (oA `x2 o20):=.mk λB δ =>
 (Wv0 hc hl hs (he B δ) hgl hgs e1 e2 h1 h2).imp fun σ H Q ⟨d,en,h,k⟩=>by
  unfold oA z9 v7 at h;cases e3:`ay with
  | none=>rw[e3] at h;cases h
  | some x =>
   rw[e3] at h;simp only[`j,`cC] at h;cases x<;>simp only[o20] at h<;>try cases h
   refine⟨_,en,e3,λv H1 s1 r=>?_⟩;rw[X7] at r;obtain⟨q,xs,rfl,hq,rr⟩:=r;exact⟨q,xs,rfl,`on,λl hl=>k l _ `M' `M! ⟨_,j8,rr.reverse.mono (`MX hl)⟩⟩
theorem t90[`he]:∀{ks:`hf} {ds:`n} {xs:`K} {q:κ},`a4->(∀d,`lY=`ar->∃x,`Nc=`bd/\`uc)/\`awz
 | [],ds,xs,q,h=>by
  refine⟨λd e=>?_,λ_=>?_⟩
  ·unfold R5 at e;cases e
  ·rfl
 | `gj,[],xs,q,h=>by
  rw[m9] at h;subst h;refine⟨λd e=>?_,`dX⟩
  ·unfold R5 at e;cases e
  ·simp at z
 | `gj,`av,xs,q,h=>by
  rw[o9] at h;obtain⟨x,r,rfl,h1,h2⟩:=h;obtain⟨i1,i2⟩:=t90 (ks:=ks) (q:=q) h2
  by_cases e:k=q
  ·subst e
   refine⟨`awA,λ_=>?_⟩
   ·unfold R5 at e'
    rw[`aB] at e';cases e';exact⟨x,u30 rfl,h1⟩
   ·rw[`et,u30 rfl]
    unfold Q5;simp
  ·refine⟨`awA,`dX⟩
   ·unfold R5 at e'
    rw[`gk] at e';rw[`et,`xM];exact i1 d' e'
   ·rw[`et,`xM,i2 (`Uw)]
    unfold Q5;simp[e]
theorem fq0[`he]:∀{ks:`hf} {xs:`K} {q:κ},`ub->((`t?).any λkv=>`G (kv.1=q))=`up
 | [],_,_,_=>rfl
 | `gj,[],_,h=>`dW
 | `gj,`j2,q,h=>by
  rw[`et,`j5,fq0 `ol];rfl
theorem fi0[`he]{ks:`hf}{q:κ}{v:V}(h:`ub):∃ys,putK `ua q v=(zc0 ks q).zip ys/\(zc0 ks q).length=`kw/\(`UM->ys=`V2)/\(`up=`q->ys=`Vn):=by
 unfold putK zc0;rw[fq0 h];cases hk:`up with
 | true =>
  rw[`aB,`aB];refine⟨`V2,?_,`x4,`rI,λz=>by cases z⟩;clear hk
  induction ks generalizing xs with
  | nil=>rfl
  | cons k ks ih =>
   cases xs with
   | nil=>simp at h
   | cons x xs =>
    rw[`et,`Z,`Z,`et,ih `ol]
    by_cases e:k=q<;>simp[e]
 | false =>
  rw[`eZ,`eZ];refine⟨`Vn,?_,`x4,`ap4,`rI⟩;rw[`Qb h];rfl
theorem s70[`he]{q:κ}{d:D}{v:V}(hv:`cp):∀{ks:`hf} {ds:`n} {xs:`K},`a4->Rps K H B (`asD λp=>if p.1=q then d else p.2) (`V2)
 | [],_,_,_=>`T2
 | `gj,[],xs,h=>`FY
 | `gj,d'::ds,xs,h=>by
  rw[o9] at h;obtain⟨x,r,rfl,h1,h2⟩:=h;rw[`et,`et,`Z,`Z,o9];refine⟨_,_,rfl,?_,s70 hv h2⟩
  by_cases e:k=q
  ·simp only[e,`es];exact hv
  ·simp only[e,`cA];exact h1
section
variable{a:`z}{ga:`bA}
theorem si0{d:D}{k:U6}{v:V}(h:R7 d=`ec)(r:`cp):v=kV k:=by
 cases d<;>simp[R7] at h
 ·subst h;rw[n8] at r;subst r;rfl
 ·subst h;rw[X5] at r;subst r;rfl
theorem dw0:∀{ds:`n} {ks:`dK} {xs:`K},`Gw=`a ks->`a4->xs=`uq kV
 | [],ks,xs,h,r=>by cases h;rw[m9] at r;exact r
 | `av,ks,xs,h,r=>by
  unfold q40 at h;rw[o9] at r;obtain⟨x,r',rfl,h1,h2⟩:=r;cases e1:R7 d with
  | none=>rw[e1] at h;cases h
  | some k =>
   cases e2:`Gw with
   | none=>rw[e1,e2] at h;cases h
   | some l =>
    rw[e1,e2] at h;cases h;rw[si0 e1 h1,dw0 e2 h2];rfl
theorem oj0{d:D}{k:`dK}{v:V}(h:yo0 d=`ec)(r:`cp):`awB:=by
 cases d<;>simp only[yo0] at h<;>try cases h
 rw[W4] at r;obtain⟨a,xs,rfl,q,rr⟩:=r;exact⟨a,rfl,by rw[← dw0 h rr];exact q.2⟩
theorem nm0(hu:`l_)(ha:`dx)(hb:`dy)(hs:ec0 b:=by exact `lU):PD X `rD (o2 ga gb yy0):=.mk λB δ=>(gq0 hu `bV `iz hs).imp fun σ H Q ⟨d,en,h,k⟩=>by
 unfold o2 at h;cases e1:`eD with
 | none=>rw[e1] at h;cases h
 | some x =>
  cases e2:`eE with
  | none=>rw[e1,e2] at h;cases h
  | some y =>
   rw[e1,e2] at h;simp only[`j] at h;refine`F';cases x<;>simp only[yy0] at h<;>try cases h
   rename_i ks ds;have r1:=`mX;cases ks with
   | inl ks =>
    simp only at h;cases e3:R7 y with
    | none=>rw[e3] at h;cases h
    | some q =>
     rw[e3] at h;simp only[`j] at h;rw[ix0] at r1;obtain⟨p,xs,rfl,_,hp,hl,rr⟩:=r1;obtain⟨v,hv,rv⟩:=(t90 rr).1 d h;have:=si0 e3 r2;subst this;exact⟨p,v,rfl,by rw[← hv];exact DGet.k hp,`V3⟩
   | inr ks =>
    simp only at h;cases e3:yo0 y with
    | none=>rw[e3] at h;cases h
    | some q =>
     rw[e3] at h;simp only[`j] at h;rw[ml0] at r1;obtain⟨p,xs,rfl,_,hp,hl,rr⟩:=r1;obtain⟨v,hv,rv⟩:=(t90 rr).1 d h;obtain⟨b,rfl,hb⟩:=oj0 e3 r2;exact⟨p,v,rfl,by rw[← hv];exact `awC,`V3⟩
theorem aq0(hu:`l_)(ha:`dx)(hb:`dy)(hm:`KY `ru b=`q:=by first|rfl|with_unfolding_all rfl):PTD X (`abt a [`ru] [b] pos) (ob (o2 ga gb `NQ)):=.mk λB δ=>(Tr0 (co0 hu `bV `iz) hm).imp fun σ H Q ⟨t,en,h,k⟩=>by
 unfold ob o2 at h;cases e1:`eD with
 | none=>rw[e1] at h;cases h
 | some x =>
  cases e2:`eE with
  | none=>rw[e1,e2] at h;cases h
  | some y =>
   rw[e1,e2] at h;simp only[`j] at h;refine`F';cases y<;>simp only[ys0] at h<;>try cases h
   rename_i ks ds;cases ks with
   | inl ks =>
    simp only at h;cases e3:R7 x with
    | none=>rw[e3] at h;cases h
    | some q =>
     rw[e3] at h;simp only[`cC,`j,asB,`r8] at h;cases h;rw[ix0] at r2;obtain⟨p,xs,rfl,_,hp,hl,rr⟩:=r2;have:=si0 e3 r1;subst this;refine⟨p,_,rfl,DGet.k hp,_,rfl,?_⟩;rw[(t90 rr).2 hl];exact `awD
   | inr ks =>
    simp only at h;cases e3:yo0 x with
    | none=>rw[e3] at h;cases h
    | some q =>
     rw[e3] at h;simp only[`cC,`j,asB,`r8] at h;cases h;rw[ml0] at r2;obtain⟨p,xs,rfl,_,hp,hl,rr⟩:=r2;obtain⟨b,rfl,hb⟩:=oj0 e3 `F!;refine⟨p,_,rfl,`awC,_,rfl,?_⟩;rw[(t90 rr).2 hl];exact `awD
theorem V60(i:Nat)(hu:`l_)(h:`bU)(hN:`cn:=by rfl)(hv:`fz:=by first|exact `bE|exact `gh|exact `gi)(hd:`bt:=by decide)(hcd:`ga:=by decide)
  (ha:∀v,`Vp=(do
   let ov ← `Vq
   let iv ← `Vr
   `EF
   `EG
   `EH):=by intro _;rfl):PTG X `A3 `awE:=.mk λH₀ B₀ d δ pins s σ H v u Q I r ⟨δ',en,e1,k⟩=>by
 unfold putAt at e1;obtain⟨B,b1,b2,env,rv⟩:=`bW;cases e2:`Gx with
 | none=>rw[e2] at e1;cases e1
 | some pr =>
  cases e3:`ay with
  | none=>rw[e2,e3] at e1;cases e1
  | some dk =>
   rw[e2,e3] at e1;simp only[`j] at e1;cases e4:R7 dk with
   | none=>rw[e4] at e1;cases e1
   | some q =>
    rw[e4] at e1;simp only[`j] at e1;split at e1
    ·rename_i hz
     cases e1;have hi:=V80 e2;obtain⟨a,F,hb,xs,hx,hl,rx⟩:=`l1;have hl:pr.1.length=`ae:=hl;refine `awF;have:=si0 e4 r1;subst this;obtain⟨ys,hy,M,O,Y⟩:=`awG;refine⟨a,_,rfl,DPut.k (`xX) `awH,?_⟩;have rr:`awI:=by
      unfold zk0;cases hk:Q5 pr.1 q with
      | true=>rw[`aB,O hk];exact `awJ
      | false=>rw[`eZ,Y hk];exact `awK
     rw[hy];have J:Env X.K (upd H1 a (.dK ((`G7).zip ys))) B σ (`bw i (.ow (`aP (`k (`G7)) `Nd))):=`xY hi F ⟨ys,j8,M,rr.mono `hQ⟩;exact `Vs
    ·cases e1
theorem Vq0{r:`asJ}(h:`UN=`fV):`cv=`a (.ow (`aP (`h r.1) r.2)):=by
 unfold nr0 at h;split at h
 ·cases h;assumption
 ·cases h
theorem ax0(i:Nat)(hu:`l_)(h:`bU)(hN:`cn:=by rfl)(hv:`fz:=by first|exact `bE|exact `gh|exact `gi)(hd:`bt:=by decide)(hcd:`ga:=by decide)
  (ha:∀v,`Vp=(do
   let ov ← `Vq
   let iv ← `Vr
   `EF
   `EG
   `EH):=by intro _;rfl):PTG X `A3 (rs0 i g):=.mk λH₀ B₀ d δ pins s σ H v u Q I r ⟨δ',en,e1,k⟩=>by
 unfold rs0 at e1;obtain⟨B,b1,b2,env,rv⟩:=`bW;cases e2:`UN with
 | none=>rw[e2] at e1;cases e1
 | some pr =>
  cases e3:`ay with
  | none=>rw[e2,e3] at e1;cases e1
  | some dk =>
   rw[e2,e3] at e1;simp only[`j] at e1;cases e4:yo0 dk with
   | none=>rw[e4] at e1;cases e1
   | some q =>
    rw[e4] at e1;simp only[`j] at e1;split at e1
    ·rename_i hz
     cases e1;have hi:=Vq0 e2;obtain⟨a,F,hb,xs,hx,hl,rx⟩:=`l1;have hl:pr.1.length=`ae:=hl;refine `awF;obtain⟨kb,rfl,M⟩:=oj0 e4 r1;obtain⟨ys,hy,O,Y,Z⟩:=`awG;refine⟨a,_,rfl,DPut.t (`xX) M `awH,?_⟩;have rr:`awI:=by
      unfold zk0;cases hk:Q5 pr.1 q with
      | true=>rw[`aB,Y hk];exact `awJ
      | false=>rw[`eZ,Z hk];exact `awK
     rw[hy];have J:Env X.K (upd H1 a (.dT ((`G7).zip ys))) B σ (`bw i (.ow (`aP (`h (`G7)) `Nd))):=`xY hi F ⟨ys,j8,O,rr.mono `hQ⟩;exact `Vs
    ·cases e1
universe zz
universe DL
namespace DL
open Spec PyProof.Rows L2
section
variable{a:`z}{ga:`bA}
theorem sv0{sc scope:`c!}{elt iter tg:`z}{ifs:`b2}{N N':`u}{n:Nat}{caps:`e}{gi:`da}{idx:`e}{f:`aJ}{gt:`fD}{ge:`bA}
  (ok:`xK) (hidx:∀j∈idx,j<n) (hi:`lW)
  (hg:`om) (ht:`rV) (he:`rW)
  (hc:`bz:=by rfl) (hsc:`iw:=by rfl) (hN:X.N=N:=by rfl) (hs:`g6:=by intro _;rfl) :
  `arU:=ii0 hc hsc `Gv `ka hi hg ht he hs
theorem aj0{d:D}{v:V}(h:`AP)(r:`cp):yi0 v=`c/\∀e u,`eG e=`c->Rp K H B e u->eqV v u=eqF d e:=by
 cases d<;>simp[`eG] at h
 ·rw[U8] at r;subst r
  refine`G8;cases e<;>simp[`eG] at he<;>simp only[U8,W6,n8,X5] at ru<;>subst ru<;>rfl
 ·rw[W6] at r;subst r
  refine`G8;cases e<;>simp[`eG] at he<;>simp only[U8,W6,n8,X5] at ru<;>subst ru<;>rfl
 ·rw[n8] at r;subst r
  refine`G8;cases e<;>simp[`eG] at he<;>simp only[U8,W6,n8,X5] at ru<;>subst ru<;>rfl
 ·rw[X5] at r;subst r
  refine`G8;cases e<;>simp[`eG] at he<;>simp only[U8,W6,n8,X5] at ru<;>subst ru<;>rfl
theorem cx0{d:D}{v:V}(h:`AP)(r:`cp):∀{ds:`n} {xs:`K},`V4=`c->`a4->`Fo/\inV v xs=ds.any λy=>eqF y d
 | [],_,_,rs=>by rw[m9] at rs;subst rs;exact`eA
 | e::ds,_,ha,rs=>by
  rw[o9] at rs;obtain⟨x,t,rfl,r1,r2⟩:=rs;rw[`n?,`bs] at ha;obtain⟨i1,i2⟩:=cx0 h r ha.2 r2;obtain⟨f1,f2⟩:=aj0 ha.1 r1;refine⟨by rw[`n?,f1,i1];rfl,?_⟩;unfold inV at i2 ⊢;rw[`j5,`j5,f2 d v h r,i2]
theorem b90(neg:`V):Op2 K (rIn K neg) (vy0 neg):=by
 intro H B x y dx dy d Q hb rx ry h k;have key:∀(ds:`n) (xs:`K),`a4->`eG dx=`c/\`V4=`c->d=.bl (xor neg (ds.any λy=>eqF y dx))->∀p,y=`e9->(`Fl∨`S2)->rIn K neg x y H Q:=by
  intro ds xs rs hf hd p hp hq;obtain⟨f1,f2⟩:=cx0 hf.1 rx hf.2 rs;refine⟨p,xs,hp,hq,(aj0 hf.1 rx).1,f1,`um⟩;rw[hd,W6,f2];cases neg<;>simp
 cases dy<;>simp only[vy0] at h<;>try cases h
 ·split at h
  ·rename_i hf
   have hd:=`V5;rw[W4] at ry;obtain⟨p,xs,e,q,rs⟩:=ry;exact key _ xs rs hf hd p e (`h `cR)
  ·cases h
 ·split at h
  ·rename_i hf
   have hd:=`V5;rw[X7] at ry;obtain⟨p,xs,e,q,rs⟩:=ry;exact key _ xs rs hf hd p e (`k `cR)
  ·cases h
universe zz
universe DL
namespace ZipL
open Spec PyProof.Rows
abbrev IsZ(h:`R)(z TI TO a:`f)(f:`V):Prop :=
 `mc z=`a { cls:=`V6,dict:=`b,data:=`iS #[`fe a,`cd f,`Be,`Nj,`Nu],slots:=#[] }
section
variable{w:`N}{s:`r}
theorem alive{o:Obj}{Q:`awL}(ho:`RM)(h:Q (`_) s):`awM:=by
 have h':Q (`mo) s:=`awN
 exact `awO
theorem jv0{TI TO:`f}{f:`V}{Q:`p?}(hz:`G9)(ha:`V7)
  (hQ:∀h',`awP->`hs z `aa h'->Q `q `gx):`V8:=by
 unfold Builtin.SmallTypes.ownedTupleIsFree;refine `awQ;show `awR;rw[`aA];refine A0 (alive ha ?_);simp only[Option.isNone_some,`ih,`cA];refine A0 (B8 hz rfl (x:=`cd f) rfl ?_);cases f with
 | true =>
  rw[`P (show ¬((`FA != `FA)=`c) from A6)];exact A1 (hQ _ hz (Heap.SameBut.refl _ _))
 | false =>
  rw[`H (show (`pu `q != `FA)=`c from rfl)];exact A0 (E1 hz `S λh3 F J=>A1 (hQ h3 F J))
theorem Zl0{TI TO a:`f}{f:`V}{oa:Obj}{k1 k2:Nat}{xs ys:`bh}{x y:`A}{Q:`X}(D:`sa)
  (hz:`G9) (ha:`V7) (hTI:`sb)
  (h1:`sc) (h2:`sd) (hl1:`se) (hl2:`sf) (hx:`V9) (hy:`V')
  (hQ:∀h',`awP->`V!->`V?->`Wa->`x5 ->
   `awS->`Nt) :
  `awT:=by
 show `G';refine `G!;show `G?;refine `Ha;refine `Hb;show `Hc;refine A0 (jv0 hz ha λh₁ a0 F=>?_);simp only[`ih,`cA];refine `dn;simp only[`awU,`lK,`sg];refine `Hd;show `He;refine A0 (U1 `Wb `Wc hx λh₂ Y J=>`cZ);refine `cZ;refine `Hd;show `Hf;refine A0 (U1 `awV `awW hy λh₄ Z M=>`cZ);refine A1 `kv;refine `awX;have O:`awY=`an:=by rw[M.1,J.1,F.1]
 have a1:IsZ h₄ z TI TO a `c:=`x6 _ _ `Wd (`uF _ _ `Hg a0);have a2:∀c o,`uD->`Nh->`Ni->`uC->`We c=`_:=λc o c1 c3 c4 e=>`x6 _ _ c4 (`uF _ _ c3 (`m! _ _ c1 e))
 refine `awZ;show Q (`ab `awY) _;have hq:=hQ (h₄.push `aw_) (B3 _ a1) ((`FI `x6 D.i12).at `Wf) (Z.at `Wf)
  (by rw[← O];exact `df) (by rw[`r!,O]) λc o c1 c3 c4 e=>B3 _ (a2 c o c1 c3 c4 e)
 rw[O];exact hq
theorem Vd0{TI TO a:`f}{f:`V}{oa:Obj}{k1 k2:Nat}{xs ys:`bh}{Q:`QS}(hh:`j1)(D:`sa)
  (hz:`G9) (ha:`V7) (hTI:`sb)
  (h1:`sc) (h2:`sd) (hl1:`se) (hl2:`sf) (hend:`Wg)
  (hE:∀h' e,`awS->`aep) :
  `aw0:=by
 show `G';refine `G!;show `G?;refine `Ha;refine `Hb;show `Hc;refine A0 (jv0 hz ha λh₁ Y F=>?_);simp only[`ih,`cA];refine `dn;simp only[`awU,`lK,`sg];refine `Hd;show `He;cases hx:`Bc with
 | none =>
  refine A0 (k9 hh `Wb `Wc hx λh₂ e J he=>?_);exact hE `lO e (λc o c1 c3 _ x=>J _ _ c3 (`m! _ _ c1 x)) he
 | some x =>
  have hy:`Nm:=`aw1
  refine A0 (U1 `Wb `Wc hx λh₂ O J=>`cZ);refine `cZ;refine `Hd;show `Hf;refine A0 (k9 hh `awV `awW hy λh₄ e M he=>?_);exact hE h₄ e (λc o c1 c3 c4 x=>M _ _ c4 (`uF _ _ c3 (`m! _ _ c1 x))) he
universe zz
universe ZipL
namespace L2
open Spec PyProof.Rows
noncomputable def c20(X:Cx)(f1 f2:`A)(r:`e!):Prop :=
 ∀(pins:`ax) (s:`r) (σ:St) (H:Hp) (xs:`K) (us:`U) (Q:VK),`C->`cU->`ER ->
  `l `ac X.A (`e? f2 us) (λv s1=>`l `ac X.A (`e? f1 [v]) `fa `az s1) `az s
section
variable{x1:Str}{T1 T2:`cL}{r:`e!}{t:TA}
theorem b60(hc:c20 X `aw2 `aw3 r)(hg1:Gl X x1)(hg2:Gl X x2)(hm1:`cW x1=`b)(hm2:`cW x2=`b)(hv1:`d8 x1=`a `aw2)(hv2:`d8 x2=`a `aw3)(ha:`w6)
  (hn1:x1 ≠`zp := by decide) (hd1:(x1==`tl)=`q:=by decide) (hn2:x2 ≠`zp := by decide) (hd2:(x2==`tl)=`q:=by decide)
  (e1:`di [`No] `B=`aw4::`hK:=by rfl) (h1:`hd:=by rfl)
  (he:`dV:=by rfl) (hpl:(`ey `jl (`tk)).any `bv=`q:=by rfl) :
  PE X (`bL (`bK x1 p) [`No] [] pos) (tCB r t):=by
 intro pins s σ H Q I h;refine L4 (zo0 I hg1 hm1 hv1 ?_ hn1 hd1);refine `awx;rw[e1];show `l _ _ (`rk (`aw4::`AN)) _ _ s;refine N3 ?_;refine L4 (zo0 I hg2 hm2 hv2 ?_ hn2 hd2);refine E3 `aw5 he hpl;exact thn (`ab9) `awy
universe zz
universe L2
namespace L2
open Spec PyProof.Rows
section
variable{s:`r}
theorem Inv.turnedL(I:`C)(hf:∀b∈fp,`zC)(k:`aw6):`RH:=by
 have F:∀b u,`Ed->b∉fp:=λb u e z=>by rw[(hf b z).1] at e;cases e
 refine `Ex (g':=`n1) (d':=`wK) (ch:=fp) (λb hb=>⟨(`mA).2.2.2.1,(`mA).2.1,(`mA).2.2.2.2.1,(`mA).2.2.2.2.2⟩) (λb o _ _ hc e _=>`Wh) (λb o _ _ hc e _=>⟨o.slots,`Wh⟩) `aj6
  (λb o hc e=>⟨o,`Wh⟩) (`RJ) (λ_ _ _ e=>e) `aj7 (λm hm=>?_) (λb u e=>?_) `g5
 ·obtain⟨o,es,ep,ho,r⟩:=hm
  exact⟨o,es,ep,k _ o (λz=>(hf _ z).2.1 rfl) ho,r⟩
 ·refine`aj8
  rcases hc with z|z
  ·rw[z];exact F b u e
  ·exact F c _ z
theorem Inv.turnedNew{t':Nat}{x y:V}{w:`A}(I:`C)(hf:∀b∈fp,`zC)(rx:`fN)(ry:`M4)(hlt:∀b∈fp,`awp)
  (hob:`an3=`a `aef) (k:`aw6) :
  Inv X `i σ `aw7 `o!/\∀b∈fp,`aw8:=by
 have ne:∀b∈fp,b≠`an:=λb hb=>B9 (hlt b hb)
 have fr:∀b∈fp,`aw8:=λb hb=>by rw[d8 (ne b hb)];exact(`mA).1
 have I1:Inv X `i σ `aw7 `aw9 :=
  `gf (`ts) `bn ⟨`vs,[u,w],`ah rx (`ah ry `L),`Q?⟩
 refine⟨Inv.turnedL (s:=`aw9) (t':=t') (fp:=fp) I1 `aw' λb o hb e=>?_,fr⟩;rcases Heap.get?_push_cases e with⟨rfl,rfl⟩|e
 ·exact hob
 ·exact k b o hb e
universe zz
noncomputable def Ite(K:`D)(a:`f):It :=
 ⟨`alh,
   λi H v H'=>∃t x,v=`zR/\H t=`b/\H'=upd H t (`m [`dN,x])/\`Sc,
   `ali⟩
theorem a00{P:`ag}{w:`N}{x1}{e:`f}(hei:e≠it):`my P w K `aw! (Ite K a) [e,it] e
  (λi h=>(∃old,`iF h e it i old)/\`alk) where
 mem:=`aS
 obj:=λi h st c hc=>by
  obtain⟨⟨old,he⟩,⟨o1,e1,c1,d1⟩⟩:=st;simp only[`aX,`a7,`a8] at hc;rcases hc with rfl|rfl
  ·exact`aw?
  ·exact`axa
 keep:=λi h h' st k=>by
  obtain⟨⟨old,he⟩,h1⟩:=st;exact⟨`axb,h1.at λo x=>k it `S o x⟩
 item:=by
  intro X hP hw hK hc i pins s σ H E I hf st hg;subst hP hw hK;obtain⟨⟨old,he⟩,h1⟩:=st;obtain⟨xs,x,hq,hx⟩:=hg;obtain⟨us,rv,p1,z1⟩:=`fB;obtain⟨u,hu,ru⟩:=`EL;refine wpAny_pyNext_enum_item he h1 `iA (x:=u) `wU hei λh' a1 a2 a3 a4 hk=>?_
  refine⟨_,rfl,Ch0 (s:=`Wi) a1 λF b1 hs=>?_⟩;have le:=A7 he;obtain⟨o1,e1,_⟩:=id h1;have l1:=A7 e1;obtain⟨I1,fr⟩:=`axc (h':=F) (t':=`oY) (fp:=[e,it]) (x:=`dN) (u:=`Wj) hf `aq ru (λc hc=>by
   simp only[`aX,`a7,`a8] at hc;rcases hc with rfl|rfl<;>assumption) ((`fK _ (D8 le)).trans a3) (λc o hc x=>by
   simp only[`aX,`a7,`a8,`r?] at hc;exact(`fK _ hc.1).trans (hk c o hc.1 hc.2 x))
  exact⟨`d!,_,I1,rfl,⟨_,x,rfl,`pj,rfl,`abG⟩,⟨`axd,a2.at λo y=>(`fK it hei.symm).trans y⟩,fr⟩
 done:=by
  intro X hP hw hK hc i pins s σ H E I hf st hg;subst hP hw hK;obtain⟨⟨old,he⟩,h1⟩:=st;obtain⟨xs,hq,J⟩:=hg;obtain⟨us,rv,p1,z1⟩:=`fB;have l1:=`kJ;refine wpAny_pyNext_enum_end `eX he h1 `iA `n7 λh' hk=>⟨rfl,I.turnedL (t':=`aZ) (fp:=[e,it]) hf λc o hc x=>?_⟩
  simp only[`aX,`a7,`a8,`r?] at hc;exact hk c o hc.2 x
 self:=λ_ _ _ _ _ st h=>by
  obtain⟨⟨old,he⟩,_⟩:=st;exact l0 he h
theorem boot_zip:`d8 `hx=`a (`V6):=`aY
theorem l20:`d8 `hw=`a (`Bp):=`aY
noncomputable def Qe0(K:`D)(ta:TA):TI:=fun σ H R=>ta σ H λvs H1=>∃a,vs=`i6/\`Si/\R (Ite K a) H1
theorem Ug0{a:`z}{ta:TA}{p pos:Pos}(hg:`Hh)(hm:`Hi)(ha:`Sl)(hs:`EO:=by rfl) :
  PI X `Hj `axe (Qe0 X.K ta):=by
 intro pins s σ H R I h;refine `wZ (zo0 I hg hm l20 `alA);obtain⟨qa,e,⟨xs,h1⟩,q⟩:=q1;subst e;cases r1 with
 | cons r rr =>
  cases rr;obtain rfl:=r;obtain⟨us1,v1,p1,z1⟩:=`Wk;refine call_enumerate_list `iA λh' hz F J hk=>?_
  refine l0 (s:=`axf) hz ?_;refine⟨_,_,_,_,H1,rfl,`zE (t':=`zF) hk,a00 (D8 `Hk),⟨⟨_,hz⟩,F⟩,`fA,q⟩;simp only[`aX,`a7,`a8] at hb;rcases hb with rfl|rfl
  ·exact `axg
  ·exact `rp
universe L2
namespace DL
open Spec PyProof.Rows L2
section
variable{a:`z}
theorem nl0{t:`f}{x y:V}{d e:D}(hn:¬B t)(ht:H t=`a `uG)(r1:`uc)(r2:Rp K H B e y):Rp K H B (`m [d,e]) `mI:=by
 rw[W4];refine⟨t,`tx,rfl,⟨hn,ht⟩,?_⟩;rw[o9];refine⟨_,_,rfl,r1,?_⟩;rw[o9];exact⟨_,_,rfl,r2,`jg⟩
theorem X00(hm:`Hi)(ha:`Up)(hg:`Hh := by rfl)(hs:`EO:=by rfl) :
  PID X `Hj `axe (qx0 gA):=.mk λB δ=>`ok (Ug0 hg hm `bV hs) fun σ H R ⟨`aK,en,e1,k⟩=>by
 unfold qx0 at e1;cases e2:`cg with
 | none=>rw[e2] at e1;cases e1
 | some ds =>
  rw[e2] at e1;simp only[`j] at e1;unfold cj0 at e1;split at e1<;>try cases e1
  rename_i ds;refine`xB;rw[o9] at r;obtain⟨x,t,rfl,r1,r⟩:=r;rw[m9] at r;subst r;rw[X7] at r1;obtain⟨q1,us,rfl,s1,t1⟩:=r1;have F:(Y6 ds).length=`fv:=by unfold Y6;simp[`Hl]
  refine⟨q1,rfl,`axh,`axi⟩
  ·rw[F] at hi
   exact⟨us,us[i],`uH,by simp[hi]⟩
  ·obtain⟨t,x,rfl,ht,rfl,hx⟩:=y
   rw[F,`Hl] at hi;obtain⟨x',e4,rx⟩:=t1.get (i:=i) (B6 hi);have ex:=`axj;rw[e4] at ex;cases ex;refine⟨X3 ht,`m [`dN,ds[i]],by unfold Y6;simp[hi],`axk⟩;exact nl0 (λz=>hb t z ht) j8 `ug (rx.mono gB)
  ·rw[F] at hi
   exact⟨us,`uH,hi⟩
universe zz
section
mutual
theorem f50(hB:`axl):∀(d:D) (v:V),`x3->Rp K H B' d v->`cp
 | `w,v,_,r=>by rw[U8] at r ⊢;exact r
 | `bD,v,_,r=>by rw[W6] at r ⊢;exact r
 | `b!,v,_,r=>by rw[n8] at r ⊢;exact r
 | `bj,v,_,r=>by rw[X5] at r ⊢;exact r
 | `ik,v,h,_=>by unfold tree at h;cases h
 | `kb,v,h,_=>by unfold tree at h;cases h
 | `kc,v,h,_=>by unfold tree at h;cases h
 | `bO,v,h,r=>by
  unfold tree at h;rw[W4] at r ⊢;obtain⟨a,xs,rfl,q,rs⟩:=r;refine⟨a,xs,rfl,?_,pz0 hB ds xs h rs⟩;obtain⟨n,q⟩:=q;refine⟨`dX,q⟩;exact(hB a z).elim n λz=>z _ q
theorem pz0(hB:`axl):∀(ds:`n) (vs:`K),`Hm->Rps K H B' ds vs->`Ga
 | [],vs,_,r=>`axm
 | `av,vs,h,r=>by
  unfold trees at h;rw[`bs] at h;rw[o9] at r ⊢;obtain⟨x,t,rfl,r1,r2⟩:=r;exact⟨x,t,rfl,f50 hB d x h.1 r1,pz0 hB ds t h.2 r2⟩
end
universe zz
theorem nh0{g:GE}(h:`bU):PD X e (xw0 g):=.mk λB δ pins s σ H Q I ⟨d,en,hq,k⟩=>by
 obtain⟨B',c1,c2,F⟩:=`A1;unfold xw0 at hq;cases e1:`pQ with
 | none=>rw[e1] at hq;cases hq
 | some x =>
  rw[e1] at hq
  by_cases hf:`jj x=`c
  ·simp only[`j,`Vl] at hq
   cases hq;refine h B' `pP `i s σ H Q I ⟨_,F,e1,λv H' s' r=>k v H' s' (f50 (`fd) _ _ hf r)⟩;rcases c2 a z with q|⟨i,d',h1,h2⟩
   ·exact `kt
   ·obtain⟨o,h3,a',e4,_,ro⟩:=`ud en.all h1
    rw[h2] at h3;cases h3;cases e4;exact `h λys z=>(ro.live.same s').nt ys z
  ·simp only[`j,`P hf] at hq
   cases hq
universe DL
namespace DL
open Spec PyProof.Rows L2
@[simp] noncomputable def mg0:`b?
 | `rU,`bY=>`asX
 | _,_=>`b
section
variable{a c:`z}{ga gc:`bA}
open Builtin Builtin.Str Builtin.Int in
theorem ep0{prog:`ag}{w:`N}{A:`bf}{E:`X}{s:`r}{x:Str}{n:Int}{t u:Tok}{Q:`X}(hr:(`G (n < -`S4)||`G (n ≥ 2 ^ 63))=`q)
  (hb:¬n<1->`axn->¬((`m2:Int) > `A7/n)) (hl:¬n<1->`axn->tooLong (`m2*`hM)=`q)
  (h:(if n<1 then Made.str `Vx else if `aei=`c then Made.val `D! else Made.str `UR).post Q s) :
  `l `ao A (`i0 .Mult (`d n u) `D!) Q E s :=
 PySem.lm_binaryOp_repeat_right (T := `iv) (U := `ge) `s (λs'=>N9 s' n u) `axo PySem.F.fills_int_mul PySem.noFill_str_mul Ci0 PySem.lm_noRepeat_int PySem.repeat_str PySem.F.slot_int_index.lookup
  (`axp Ci0 (N9 s n u) PySem.F.entry_int_mul (PySem.F.args_int_mul_2 _ _) (PySem.AutoIntG3.int___mul___int_str_0 n u x t)
   ⟨rfl,S3 _ x t,`axp PySem.F.slot_str_mul `axo PySem.F.entry_str_mul (PySem.F.args_str_mul_2 _ _) (gives_str_mul x n t u hr hb hl) h⟩)
noncomputable def Xv0:R2:=λx y H Q=>∃z n,y=`hC/\x=`rU/\`auO
theorem Ue0:OpR X `w1 Xv0:=by
 intro pins s σ H x y v u Q I rx ry h;obtain⟨z,n,rfl,rfl,h1,h2,hz,q⟩:=h;obtain⟨t,rfl⟩:=ry;obtain⟨t',rfl⟩:=rx;have fin:`auP:=`auQ
 have a0:`Vv:=`O
 have O:`auR:=by
  intro hn;have Y:0<n:=`p
  have:`auS:=by
   have e:`auT:=`p
   rw[e];have:`auU:=`auV
   rw[`Vw] at this;omega
  exact `auW
 refine ep0 `auX (λhn _=>O hn) `auY ?_
 ·show `auZ
  exact `xb
 ·by_cases hn:n<1
  ·rw[`H hn]
   have e:`p1=`Vx:=by
    unfold wf0;rw[`au_];rfl
   refine`au0;rw[← e];exact `M2
  ·rw[`P hn]
   by_cases h3:`au1
   ·rw[`Vy]
    have e:`p1=z:=by
     rw[`au2] at h3;rcases h3 with h3|h3
     ·have:n=1:=S2 h3
      subst this;unfold wf0;show `au3;rw[`au4]
     ·have h3:`dm=0:=S2 h3
      have J:`ux=#[]:=C10 h3;have:`au5:=by
       intro k
       induction k with
       | zero=>rfl
       | succ k ih=>rw[`dY,`j9];exact ih
      unfold wf0;rw[J,`x];cases z;simp at J;rw[J]
    have:=`au6;rw[e] at this;exact `x
   ·rw[`P h3]
    have Z:`au7:=by
     intro k
     induction k with
     | zero=>intro F;simp
     | succ k ih=>intro F;rw[`dY,`j9,ih,`Vz,`Fx];omega
    refine`au8;show `au9;rw[Z];have:`dm=`M1:=rfl;rw[`x,`xZ] at hz
    simpa using hz
theorem Yk0:Op2 K Xv0 mg0:=by
 intro H B x y dx dy d Q hb rx ry h k;cases dx<;>cases dy<;>simp only[mg0] at h<;>try cases h
 split at h
 ·rename_i hz
  cases h;rw[X5] at ry;rw[n8] at rx;subst rx ry;exact`av_
 ·cases h
theorem Vw0(ha:`dx)(hb:`dy):PD X `VR (o2 ga gb mg0):=s40 Ue0 Yk0 ha hb
universe zz
universe DL
namespace HL
open PySem.SeqAt PyProof.Rows
open PySem.AutoSeq1 (wpAny_loadPart')
open PySem.MeetsSeq PySem.MeetsSeq2 PySem.MeetsSeq3
theorem uz0:∀{vs:`U} {ns:`au},`rH->∀i,`E6->∃a t,`Lj=`a `tF/\`uI i=a::`uI `bM
 | _,_,`L,i,h=>`dW
 | _,_,`axq,0,_=>⟨a,t,rfl,rfl⟩
 | _,_,`axq,i+1,h=>by
  obtain⟨b,u,h1,h2⟩:=uz0 r i `ol;exact⟨b,u,`kn,`aaR⟩
theorem Uh0(l b:`f)(items items2:`bh)(n n2:Nat)(dd dd2:`cT)(sl sl2:`g9)(ns ms:`au)(hi:`axr)(hj:`axs)(k:Nat) :
  ∀i:Nat,`dH - i=k->i<=`dH->i<=`axt->`r6 (Builtin.«list.__eq__.loop» ⟨[`hD,`ku,`fe i,`fe 0],[]⟩)
   (λA R s=>`axu/\`axv /\
    R (.ok (`dC (`cd (`axw)))) s):=by
 have z1:`dH=`pr:=by rw[← hi.length];simp
 have z2:`axt=ms.length:=by rw[← hj.length];simp
 induction k with
 | zero =>
  intro i hk Y O prog w A R s h;obtain⟨hp,g,d,tk,os⟩:=s;obtain⟨hl,hb,h⟩:=h
  wp_walk using `hg,`or
  have F:`axx=`b:=`mB
  rw[F];have hd:`uI i=[]:=`axy
  have hv:`axw=`axz:=by
   rw[hd];cases e:ms.drop i with
   | nil =>
    have:=List.drop_eq_nil_iff.mp e;rw[HT.vk0,`m7]
   | cons x r =>
    have:`axA:=by
     by_cases q:`axA
     ·exact q
     ·rw[List.drop_eq_nil_iff.mpr `g] at e;cases e
    rw[HT.m50,`bR `g]
  rw[hv] at h
  wp_walk using `hg,`or
  exact h
 | succ k ih =>
  intro i hk Y O prog w A R s h;obtain⟨hp,g,d,tk,os⟩:=s;obtain⟨hl,hb,h⟩:=h
  wp_walk using `hg,`or
  have Z:i<items.size:=`p
  obtain⟨a,t,e1,d1⟩:=uz0 hi i (by simpa using Z);have F:`axx=`a `tF:=by rw[`aA];simpa using e1
  have hc:`jp=`axB:=by push_cast;rfl
  by_cases hlt2:i<items2.size
  ·obtain⟨c,u,e2,d2⟩:=uz0 hj i (by simpa using hlt2)
   have J:`axC=`a `zQ:=by rw[`aA];simpa using e2
   rw[F,J];rw[d1,d2,`os] at h;obtain⟨e,he,M⟩:=HT.je0 `bF `qe a t c u;refine `axD;cases e with
   | true =>
    rw[`H (M.mp rfl)] at h
    wp_walk
    rw[hc];exact⟨`axE,P7 `axF (by
     rw[`axG];exact ih `bM `g `g `g `dE w A R _ `axH)⟩
   | false =>
    rw[`P (λq=>`y (M.mpr q) A6)] at h;have a0:=HT.Yu0 `bF `qe a t c u `dE w
    wp_walk using `hg,`or
    rw[F,J]
    wp_walk using a0
    exact h
  ·have J:`axC=`b:=`mB
   rw[F,J];have hd:ms.drop i=[]:=`axy
   rw[d1,hd,HT.wk0] at h
   wp_walk using `hg,`or
   show R (.ok (`dC (`cd (`axz)))) _;rw[`m7];exact h
theorem Vt0(l b:`f)(items items2:`bh)(n n2:Nat)(dd dd2:`cT)(sl sl2:`g9)(ns ms:`au)(hi:`axr)(hj:`axs) :
  `r6 (Builtin.«list.__lt__» `axI)
   (λA R s=>`axu/\`axv /\
    R (.ok (`dC (`cd (`hS ns ms)))) s):=by
 intro prog w A R s h;obtain⟨hp,g,d,tk,os⟩:=s;obtain⟨hl,hb,h⟩:=h;have f3:=AutoSeq1.sub_list_list
 wp_walk using `hg,`or
 exact⟨`axE,P7 `axF (by
  rw[`axG];exact Uh0 l b `aK `Nr n n2 dd dd2 sl sl2 ns ms hi hj _ 0 rfl `g `g `dE w A R _ `axH)⟩
universe HL
namespace DL
open Spec PyProof.Rows L2
noncomputable def K6:`n->`aD (`au)
 | []=>`jK
 | `aj::r=>(K6 r).map (i::·)
 | _=>`b
theorem b50(ns:`au):K6 `uP=`CT:=by
 induction ns with
 | nil=>rfl
 | cons n r ih=>show (K6 (`lL `d)).map (n::·)=_;rw[ih];rfl
theorem pv0:∀{ds:`n} {ns:`au},K6 ds=`CT->ds=`gA `d
 | [],ns,h=>by cases h;rfl
 | `aj::r,ns,h=>by
  unfold K6 at h;cases e:K6 r with
  | none=>rw[e] at h;cases h
  | some ms =>
   rw[e] at h;cases h;rw[pv0 e];rfl
 | `w::_,_,h=>by unfold K6 at h;cases h
 | `bD::_,_,h=>by unfold K6 at h;cases h
 | `bj::_,_,h=>by unfold K6 at h;cases h
 | `rM::_,_,h=>by unfold K6 at h;cases h
 | `ik::_,_,h=>by unfold K6 at h;cases h
 | `kb::_,_,h=>by unfold K6 at h;cases h
 | `kc::_,_,h=>by unfold K6 at h;cases h
theorem wr0:∀{ns:`au} {xs:`K},Rps K H B `uP xs->xs=`Lt
 | [],xs,h=>by rw[`fW,m9] at h;exact h
 | n::r,xs,h=>by
  rw[`Z,o9] at h;obtain⟨x,r',rfl,h1,h2⟩:=h;rw[n8] at h1;rw[h1,wr0 h2];rfl
universe DL
namespace ZipL
open Spec PyProof.Rows
abbrev wj0(h:`R)(z TI TO:`f)(v:`A)(f:`V):Prop :=
 `mc z=`a { cls:=`V6,dict:=`b,data:=`iS #[v,`cd f,`Be,`Nj,`Nu],slots:=#[] }
section
variable{w:`N}{s:`r}
theorem dead{Q:`awL}(ho:`mo=`b)(h:Q `b s):`awM:=by
 have h':Q (`mo) s:=`awN
 exact `awO
theorem l30{TI TO:`f}{f:`V}{Q:`p?}(hz:`G9)(ha:`mo=`b)(hQ:`Q1):`V8:=by
 unfold Builtin.SmallTypes.ownedTupleIsFree;refine `awQ;show `awR;rw[`aA];refine A0 (dead ha ?_);simp only[Option.isNone_none,`es];exact `wT
theorem ef0{TI TO:`f}{v0:`A}{f:`V}{k1 k2:Nat}{xs ys:`bh}{x y a b:`A}{Q:`X}(D:`sa)
  (hz:`axJ) (hfree:`axK) (hTI:`sb) (hTO:`Hn)
  (h1:`sc) (h2:`sd) (hl1:`se) (hl2:`sf) (hx:`V9) (hy:`V')
  (hQ:∀h',IsZ h' z TI TO `an `q->`ff h' TO x y->`V!->`V?->`Wa->`x5 ->
   `axL) :
  `awT:=by
 show `G';refine `G!;show `G?;refine `Ha;refine `Hb;show `Hc;refine A0 (hfree _ ?_);simp only[`es];refine `Wl;refine `axM;refine A0 (E1 hz `S λg1 J e1=>?_)
 replace J:`axN:=J
 refine `dn;simp only[`axO,`axP,`lK,`sg];refine `Ho;show `He;refine `axQ;have Y:`axR:=`axS;refine `axT;refine A0 (Ac0 Y λg3 M e3=>?_)
 replace M:`ff g3 TO x b:=M
 refine `Hp;refine `Ho;show `Hf;refine A0 (U1 `axU `axV hy λg4 Z e4=>`cZ);have O:`ff g4 TO x b:=`Hq _ _ D.TOi2 M;refine A0 (D4 O rfl ?_);refine A0 (Ac0 O λg5 F e5=>?_)
 replace F:`ff g5 TO x y:=F
 refine A0 (I0 (A1 `kv));refine A0 (D4 F rfl ?_);refine `awX;have sz:`qa=`an:=by rw[e5.1,e4.1,e3.1,e2.1,e1.1]
 have z5:wj0 g5 z TI TO `uJ f:=`sh _ _ `Wm (`Hq _ _ `Wd (`jn _ _ `Wm (`m? _ _ `Hg J)));have keep:∀c o,`uD->c≠TO->`Nh->`Ni->`uC->`axW:=λc o c1 c2 c3 c4 e=>`sh _ _ c2 (`Hq _ _ c4 (`jn _ _ c2 (`m? _ _ c3 (`kT _ _ c1 e))))
 have j1:`axX i1 l1 (k1+1):=((`Wn `jn `axY).extBut `Hq D.i12).extBut `sh `axY;have j2:`axX i2 l2 (k2+1):=Z.extBut `sh `aeo;have lz:z<g5.objs.size:=A7 z5;show `l _ _ (`axZ `kP `ax_>>=_) _ _ _;refine `dn;unfold Builtin.SmallTypes.ownedTupleHandOut;have z6:wj0 (g5.push `aw_) z TI TO `uJ f:=B3 _ z5;refine A0 (E1 z6 `S λg7 z7 e7=>?_)
 replace z7:wj0 g7 z TI TO (`fe `qa) f:=z7
 refine E1 z7 `S λg8 z8 e8=>?_
 replace z8:IsZ g8 z TI TO `qa `q:=z8
 have up:∀c o,`uD->`axW->g8.get? c=`_:=λc o c1 e=>e8.extBut _ _ c1 (e7.extBut _ _ c1 (`iZ))
 have t8:`ff g8 `qa x y:=e8.extBut _ _ (D8 lz) (e7.extBut _ _ (D8 lz) (`df));have s8:g8.objs.size=`qa+1:=by rw[e8.1,e7.1,`r!]
 rw[sz] at z8 t8 s8;refine `awZ;show Q `ax_ _;rw[sz];exact hQ g8 z8 (up _ _ D.TOz F) (j1.at λo e=>up _ o D.i1z e) (j2.at λo e=>up _ o D.i2z e) t8 s8 λc o c1 c2 c3 c4 e=>up c o c1 (keep c o c1 c2 c3 c4 e)
theorem dr0{TI TO:`f}{v0:`A}{f:`V}{k1 k2:Nat}{xs ys:`bh}{a b:`A}{Q:`QS}(hh:`j1)(D:`sa)
  (hz:`axJ) (hfree:`axK) (hTI:`sb) (hTO:`Hn)
  (h1:`sc) (h2:`sd) (hl1:`se) (hl2:`sf) (hend:`Wg)
  (hE:`ax0) :
  `aw0:=by
 show `G';refine `G!;show `G?;refine `Ha;refine `Hb;show `Hc;refine A0 (hfree _ ?_);simp only[`es];refine `Wl;refine `axM;refine A0 (E1 hz `S λg1 M e1=>?_)
 replace M:`axN:=M
 refine `dn;simp only[`axO,`axP,`lK,`sg];refine `Ho;show `He;cases hx:`Bc with
 | none =>
  refine A0 (k9 hh `aem `aen hx λg2 e e2 he=>?_);obtain⟨oe,F,J⟩:=he;have z2:wj0 g2 z TI TO `uJ f:=e2 _ _ `Hg M;have O:e≠z:=λx=>by subst x;rw[z2] at F;cases F;simp at J
  exact E1 z2 `S λg3 _ e3=>hE g3 e (λc o c1 _ c3 _ x=>`jn _ _ c1 (e2 _ _ c3 (`kT _ _ c1 x))) ⟨oe,`jn _ _ O F,J⟩
 | some x =>
  have hy:`Nm:=`aw1
  refine `axQ;have Y:`axR:=`axS;refine `axT;refine A0 (Ac0 Y λg3 Z e3=>?_);refine `Hp;refine `Ho;show `Hf;refine A0 (k9 hh `axU `axV hy λg4 e e4 he=>?_);obtain⟨oe,F,J⟩:=he;have z4:wj0 g4 z TI TO `uJ f:=e4 _ _ `Wd (`jn _ _ `Wm (`m? _ _ `Hg M));have O:e≠z:=λx=>by subst x;rw[z4] at F;cases F;simp at J
  exact E1 z4 `S λg5 _ e5=>hE g5 e (λc o c1 c2 c3 c4 x=>`sh _ _ c1 (e4 _ _ c4 (`jn _ _ c2 (`m? _ _ c3 (`kT _ _ c1 x))))) ⟨oe,`sh _ _ O F,J⟩
theorem l80{TI TO:`f}{f:`V}{Q:`p?}(hz:wj0 `aa z TI TO `aE f)(hQ:`Q1):`V8:=by
 unfold Builtin.SmallTypes.ownedTupleIsFree;exact A0 (B8 hz rfl (x:=`aE) rfl (`wT))
theorem j90{TI TO:`f}{f:`V}(hz:`Wo)(h:Q `kP s):`l `ao A (`wS `kP) Q E s:=by
 have hT:`Wp := `Wq;refine `ax1 hT `ax2 (C9 `ax2 hT F.entry_zip_iter ?_ (F.args_zip_iter_1 _));exact A1 ⟨_,rfl, `hx,_,hT,K0.lookup,h⟩
noncomputable def ir0(h:`R)(z TI TO:`f):Prop:=∃v f,wj0 h z TI TO v f/\(v=`aE∨∃a:`f,v=`fe a)
universe zz
universe ZipL
namespace L2
open Spec PyProof.Rows
theorem bl0{s:`r}{d b:`f}{kvs:`eJ}{k:`de}{v:V}{r:`A}{Q:`n2}(hu:`rb)(I:`C)(e:H d=`AW)(eb:`m9)(l:`lZ)(rv:`GI)
  (h:∀h' tk,Inv X `i σ (upd H d `adu) `hT->`ax3) :
  `l `ac A (`MG d `p_ r) Q E s:=by
 obtain⟨z,hd,xs,rel,dd⟩:=`atD;have hz:`eT:=`atE
 have hl:`xQ:=`xR
 refine Dep.put (knd:=`aa2 (P0 `a9 X.w)) (show `rb from hu) `GH dd (λh' F hs=>h _ _ ?_) hz;obtain⟨q,es,ep,hq,h2,h3,h4,_,h5⟩:=F;refine `atF;rw[`atG];exact ec
universe L2
namespace DL
open Spec PyProof.Rows L2
noncomputable def ru0(gk gv:GE):GE:=fun δ=>`Wr λa=>(yo0 a).bind λk=>`ax4 λb=>`aP (`h [k]) [b]
section
variable{σ:St}
theorem lb0{p:`f}{o0 o:HO}(hp:`cH)(sm:`c0 (upd H p o0) H2)(hz:`aqI:=by intro _ _ z;cases z):`c0 H (upd H2 p o):=by
 refine⟨λc u e=>?_,λb ob xs e=>?_⟩
 ·have hc:c≠p:=Y7 e hp
  rw[d8 hc];exact sm c u (by rw[d8 hc];exact e)
 ·by_cases z:b=p
  ·subst z
   rw[j8] at e;exact `aqJ
  ·rw[d8 z] at e
   have:=sm.nf b ob xs e
   rwa [d8 z] at this
theorem Env.fresh{p:`f}{o:HO}(e:`bc)(hp:`cH)(no:∀ob u,o≠`KJ:=by exact λ_ _ z=>nomatch z)(nt:∀xs,o≠`d7:=by exact λ_ z=>nomatch z):Env K `Ua `pN σ δ:=by
 refine⟨`kG (λv s h=>?_) `fS,`fd,`kC⟩
 ·cases s with
  | un=>trivial
  | ex c n=>obtain⟨u,q,r⟩:=h;exact`ax5
  | sh d=>obtain⟨u,q,r⟩:=h;exact`ax5
  | ow d =>
   obtain⟨a,q,hb,r⟩:=h;exact⟨a,q,`xk,`cu (λo ho=>by rw[d8 (Y7 ho hp)];exact ho) `Bk⟩
 ·rcases z with z|z
  ·have:=`hR a z
   by_cases q:a=p
   ·rw[q,j8];exact `ax6
   ·rw[d8 q];exact `x
  ·rw[z,j8];exact `ax6
universe zz
section
variable{ke ve:`z}{gk gv:`bA}
theorem cn0(hu:`MO<cLine)(hk:`ax7)(hv:`ax8):PDF X `ax9 (ru0 gk gv):=.mk λB δ pins s σ H Q I ⟨d,en,h,k⟩=>by
 unfold ru0 at h;cases e1:`Bj with
 | none=>rw[e1] at h;cases h
 | some a =>
  rw[e1] at h;simp only[`j] at h;cases e2:yo0 a with
  | none=>rw[e2] at h;cases h
  | some key =>
   rw[e2] at h;simp only[`j] at h;cases e3:`uK with
   | none=>rw[e3] at h;cases h
   | some b =>
    rw[e3] at h;cases h;have hb:`U1:=`ax';have hp:`Tf:=`pj;have I1:Inv X `i σ `Ws `ax!:=`gf (a:=`an) (o:=.dT []) (t':=`aZ) `Fu `bn (Z80 `aa hb);have F:Env X.K `Ws `qb σ δ:=`ax?;have pp:=`aya;rw[`ayb,`ayc,`ayd];refine `TJ;unfold subDict;refine `aye;refine `Nk;rw[`ayf];refine A0 (thn (pp `i _ σ _ (λps H2=>∃v1 v2,`ayg/\`ayh/\`ayi/\`c0 `Ws H2) I1
     `ayj) λvs s2 ⟨ps,H2,I2,rel,v1,v2,J,r1,r2,sm⟩=>?_)
    subst J;cases rel with
    | @cons _ q _ _ rh rt =>
     cases rt;obtain⟨q1,q2⟩:=q;obtain⟨kb,rfl,M⟩:=oj0 e2 r1;obtain⟨Y,O⟩:=rh;cases (show q1=`iQ kb from Y);refine `kR;refine `dn;simp only[`lK,`sg];refine A0 (A0 (bl0 hu I2 `ayk M `s O λh' tk I3=>`cZ));refine `ayl;refine `aym
     ·have:=`Wt (`pZ (H:=H2) (B:=`Nw) (a:=`an) (o:=.dT `ayn) `Fq)
      rw[o9];exact`ayo
universe zz
@[simp] noncomputable def i70:`J
 | `i2=>`a `ab1
 | _=>`b
theorem Ra0:FnR K `al' i70:=by
 intro H B xs ds d Q hb r h k;unfold i70 at h;split at h
 ·cases h
  obtain⟨v,v',rfl,r1,r2⟩:=fb0 r;rw[n8] at r1 r2;subst r1 r2;exact`av4
 ·cases h
noncomputable def d60(i:Nat)(g:GE):GS:=fun δ=>match `cv with
 | `a (.sh (`n!))=>`db λd=>match d with
  | `g'=>`a (.nx (`bw i (.sh (`d (a+b)))))
  | _=>`b
 | _=>`b
theorem U30(i:Nat)(hN:`eV)(h:`bU)(hi:`cn:=by rfl)(hx:`io:=by first|exact `bE|exact `eF)
  (hf:`ip:=by first|exact `a3|exact `b1|assumption):PSD X (`ak1 (`EI) .Add e pos) (d60 i g):=.mk λH₀ B₀ δ pins s σ H D I ⟨r,en,e1,k⟩=>by
 unfold d60 at e1;obtain⟨B,b1,b2,env⟩:=`bW;split at e1
 ·rename_i a ha
  cases e2:`ay with
  | none=>rw[e2] at e1;cases e1
  | some d =>
   rw[e2] at e1;simp only[`j] at e1;cases d<;>simp only at e1<;>try cases e1
   rename_i b;obtain⟨v,hv,rv⟩:=env.get ha;rw[n8] at rv;subst rv;refine Ss0 hN hi hx `ci Rf0 hf `i s σ H D I ⟨_,hv,`g',env,e2,λv2 H1 s1 r1=>?_⟩;rw[n8] at r1;subst r1;refine⟨a,b,rfl,rfl,?_⟩;exact k _ H1 (en.wr b1 b2 s1 jk0 ((`uv).set i `ug))
 ·cases e1
noncomputable def flats(ds:`n):`V:=`V4
noncomputable def Y50(g:GE):GE:=fun δ=>`UI λd=>match d with
 | `ct=>if `Wu then `lP else `b
 | _=>`b
theorem Um0{g:GE}(h:`pQ=`lP)(hf:`Wu):Y50 g δ=`lP:=by
 unfold Y50;rw[h,`j];simp only[];rw[`Vl]
section
variable{g:GE}
theorem lp0:∀{ds:`n} {xs:`K},`Wu->`aqg
 | [],xs,_,r=>`axm
 | `av,xs,h,r=>by
  rw[o9] at r ⊢;obtain⟨x,r',e1,r1,r2⟩:=r;unfold flats at h;rw[`n?,`bs] at h;exact⟨x,r',e1,ny0 h.1 r1,lp0 (ds:=ds) h.2 r2⟩
theorem b00(h:`xD):PSD X `rn (yl0 (xu0 g)):=.mk λH₀ B₀ δ pins s σ H D I ⟨r,en,hq,k⟩ =>
 zg0 h `aw `ak `pP `i s σ H D I `aup
universe zz
universe DL
namespace DL
open Spec PyProof.Rows L2
@[simp] noncomputable def s50(i j k:Nat):`aJ
 | `m `Wv,δ=>`a ((`asO).set k (.sh c))
 | _,_=>`b
section
variable{e0:`z}{g:GE}{gA:GA}{p0:Pos}
theorem Zu0(i j k:Nat){y z:Str}{p2 p3 p4:Pos}{kk}(hN:`eV)(hij:i≠j/\i≠k/\j≠k)(hc:`bz:=by rfl)(hi:`cn:=by rfl)(hj:X.N[j]?=`bm:=by rfl)(hk:X.N[k]?=`a z:=by rfl)
  (hx:`io:=by first|exact `bE|exact `eF) (hy:`oc:=by first|exact `bE|exact `eF) (hz:`ayp:=by first|exact `bE|exact `eF)
  (hf:`ip:=by first|exact `a3|exact `b1|assumption) (hf2:`od:=by first|exact `a3|exact `b1|assumption) (hf3:`ayq:=by first|exact `a3|exact `b1|assumption)
  (hs1:(`Ww).map `b_=`auF::`ayr:=by rfl) (hs2:`ayr=`auH::`ays:=by rfl) (hs3:`ays=`fM (`Bn) `B::`auI:=by rfl)
  (hn:(`Ww).length=3:=by rfl) (hst:(`Ww).findIdx? `bv=`b:=by rfl) :
  PGD X (`kS `aew kk pos) [i,j,k] (s50 i j k):=.mk λB d δ=>(cd0 hc (ug0 (`Gd) (ug0 `auJ (ug0 (ww0 (i:=k) hN hk hz hf3) ft0 hs3) hs2) hs1) hn hst).imp λv σ H Q ⟨δ',r,en,e1,kq⟩=>by
 unfold s50 at e1;split at e1
 ·rename_i da db dc
  cases e1;rw[W4] at r;obtain⟨p,xs,rfl,hq,rs⟩:=r;rw[o9] at rs;obtain⟨va,t1,rfl,ra,rs⟩:=rs;rw[o9] at rs;obtain⟨vb,t2,rfl,rb,rs⟩:=rs;rw[o9] at rs;obtain⟨vc,t3,rfl,rc,rs⟩:=rs;rw[m9] at rs;subst rs;refine⟨p,_,rfl,`on,rfl,va,[vb,vc],rfl,vb,[vc],rfl,vc,[],rfl,rfl,kq _ ?_ ((`auK).set k rc)⟩;refine`auL
  ·have h1:q≠i:=`auM
   have h2:q≠j:=`auN
   have h3:q≠k:=λz=>hq (by rw[z];exact A8 _ (A8 _ B0))
   rw[`ayt,`GU,`GV,`ayt,`GU,`GV];exact`eA
  ·rcases `ef h with⟨rfl,e3,_⟩|⟨n1,e3⟩
   ·cases e3
   ·rcases `ef e3 with⟨rfl,e4,_⟩|⟨n2,e4⟩
    ·cases e4
    ·rcases `ef e4 with⟨rfl,e5,_⟩|⟨n3,e5⟩
     ·cases e5
     ·simp at hq
      rcases hq with z|z|z
      ·exact n3 `hF
      ·exact n2 `hF
      ·exact n1 `hF
 ·cases e1
universe zz
universe DL
namespace L2
open Spec PyProof.Rows
theorem bh0{s:`r}{d:`f}{k:Key}{v:V}{r:`A}{Q:`n2}(I:`C)(e:H d=`z5)(l:`lZ)(rk:`UY)(rv:`GI)
  (h:∀h' tk,Inv X `i σ (upd H d `adt) `hT->`adq->`ax3) :
  `l `ac A (`MG d u r) Q E s:=by
 obtain⟨z,hd,vs,rel,dd⟩:=`U5;have hz:`U6:=`U7
 have hl:`xQ:=`xR
 refine wpAny_dictSet_pairs (hsz:=hz) (p30 rk) dd λh' F hs=>h _ _ ?_ hs
 have he:∃q,`fJ d=`eH:=`atB
 exact `atC
universe L2
namespace DL
open Spec PyProof.Rows L2
noncomputable def vr0(x y:D):`cs:=match y with
 | `w=>`a (.bl (match x with|`w=>`q|_=>`c))
 | _=>`b
theorem u00:Op2 K `al3 vr0:=by
 intro H B x y dx dy d Q hb rx ry h k;have hy:dy=`w:=by cases dy<;>first|rfl|cases h
 subst hy;cases h;rw[U8] at ry;refine`asi;rw[W6];cases dx<;>simp only[U8,W6,n8,X5,W4,X7,vv0,ee0] at rx
 all_goals first
  | (subst rx;rfl)
  | (obtain⟨a,xs,rfl,_⟩:=rx;rfl)
universe DL
namespace L2
open Spec PyProof.Rows
noncomputable def Qs0(K:`D):R2:=λx y H Q=>∃a xs k,`eY/\y=`fk/\`gz/\`lE/\`f_/\`xL/\`ayu/\∀p,`cH->Q `ch (upd H p `ayv)
theorem Wl0:OpR X `w1 (Qs0 X.K):=by
 intro pins s σ H x y v u Q I rx ry h;obtain⟨a,xs,k,rfl,rfl,ha,hx,h2,h3,hz,q⟩:=h;cases rx;obtain⟨t,rfl⟩:=ry;obtain⟨its,r1,p1,_⟩:=`dk ha;obtain⟨⟨cls,dd,data,sl⟩,ho,hc,n,hd⟩:=`iA;simp only at hc hd;subst hc hd;have hl:=`jd;have he:`VF=`q:=by
  cases its with
  | nil=>exact `avd
  | cons a b=>rfl
 have M:`VG<=2 ^ 20:=`ave
 have J:(`a! (if `VF=`c then 0 else `c4) `be).foldl `hN #[]=`avf:=by
  rw[he];have:=`avg;rw[`ie] at this;exact `x
 have Y:¬(!`ayw)=`c:=by
  have:`ayw=`c:=by unfold Builtin.List.listFitsIndex;simp;omega
  rw[`x];decide
 have Z:¬`gD*`c4 > `A7/8:=`p
 have O:¬Builtin.List.listTooLong (`VG)=`c:=by
  rw[`b0] at M ⊢;unfold Builtin.List.listTooLong;simp;unfold sizeLine;omega
 refine C40 (T := `ew) (U := `ge) `s `iu `avh noFill_list_mul `avi k5 repeat_list `avj
  (O0 k5 `avk `avl `avm (lm_int_rmul_list_any k t a `be n dd sl)
   ⟨ho,rfl,`iu,O0 F.slot_list_mul `iu F.entry_list_mul (F.args_list_mul_2 _ _) (lm_list_mul_any a `be n dd sl k t Y Z O) `avn⟩)
 rw[J];exact⟨`ab _,_,I.lnew (t':=`aZ) (`avo) (by rw[len_rep,`xZ];unfold sizeLine;omega),rfl,`asd⟩
universe L2
namespace DL
open Spec PyProof.Rows L2
noncomputable def mulL:`b?
 | `cQ,`fk=>if `lE/\`f_/\`xL/\`ayu then `a `ayv else `b
 | _,_=>`b
structure But(p:`f)(H H':Hp):Prop where
 old:`ayx
 nf:∀b o xs,`A_->`aoM
instance{p:`f}{H H':Hp}:`dZ (`Hr) (λ_=>`ayx):=⟨But.old⟩
section
variable{σ:St}
theorem Gr.but{p:`f}(hb:B p)(h:`Hr):`ap7:=λb u n e=>⟨n,h b u (λz=>n (z▸hb)) e⟩
theorem Env.mutB(e:`bc){d:D}(hi:`xS)(hs:`hJ)(hh:`Wx)(r:`aqv):`ayy:=by
 obtain⟨a',h1,hb,_⟩:=`GK;rw[hs] at h1;cases h1;refine`atV
 ·have h0:`bp (λ(o':`dh) (s:Sl)=>SlR K H' B o' s∨`U!) σ δ:=`kG (λo' s h=>by
   cases s with
   | un=>exact `U?
   | ex c n=>obtain⟨v,e,r⟩:=h;exact `ayz
   | sh d=>obtain⟨v,e,r⟩:=h;exact `ayz
   | ow d =>
    obtain⟨b,e,J,r⟩:=h
    by_cases z:b=a
    ·subst z;exact `Va
    ·exact `k ⟨b,e,J,`cu (λo h=>hh b o z h) (Gr.but hb hh)⟩) `fS
  have h1:=`atX;refine `atY;rcases h with h|⟨d',rfl,rfl⟩
  ·exact h
  ·rcases `GL with⟨rfl,e3,_⟩|⟨F,e3⟩
   ·cases e3;exact`MQ
   ·exact `atZ
 ·by_cases z':b=a
  ·subst z';exact `og
  ·cases q:H b with
   | none=>exact `y q (`Vb)
   | some o=>exact(`Vb).keep λo h=>hh b o z' h
 ·have q1:`at_:=by
   rcases `iE with⟨rfl,_,_⟩|⟨_,h⟩
   ·exact`GM
   ·exact`r5
  have q2:`at0:=by
   rcases `kd with⟨rfl,_,_⟩|⟨_,h⟩
   ·exact`GM
   ·exact`r5
  obtain⟨d1,q1⟩:=q1;obtain⟨d2,q2⟩:=q2;exact `at1
theorem EnvS.mutB(en:`c2)(b1:`j!)(b2:`j?){d:D}(hi:`xS)(hs:`hJ)(hh:`Wx)
  (env:`ayy):`dq K `aw `ak H' σ `m4:=by
 have h0:=`at2;have F:`xT:=`rj;refine`at3
 ·have:`p0:=λz=>by rw[z,h0] at h;cases h
  exact hh _ _ `x `at4
 ·by_cases z:b=a
  ·obtain⟨a',e1,_,ro⟩:=`at5
   rw[hs] at e1;cases e1;rw[z] at h;exact `at6
  ·exact `Gj b ob xs (hh.nf b ob xs z h)
 ·rcases `iE with⟨rfl,_,_⟩|⟨_,h⟩
  ·rw[hs] at h2;cases h2;exact h0
  ·exact `at7
universe zz
universe DL
namespace L2
open Spec PyProof.Rows PySem.W
noncomputable def Pd0(td ty tx:TE):TE:=fun σ H Q=>td σ H λx H1=>∃a,`eY/\IsD H1 a/\ty σ H1 λy H2=>tx σ H2 λz H3=>∃kvs k,H3 a=`z5/\y=kV k/\`lZ /\
 (∀v,`ji=`aL->Q v H3)/\(`Hs->Q z (upd H3 a (.dK (putK kvs k z))))
section
variable{f:`z}{td ty:TE}
theorem Qw0{σ:St}{s:`r}{k:Key}{v:V}{r:`A}{A:`bf}{E:`X}{Q:`X}(I:`C)(e:`xP)(ry:`UY)(rv:`GI)(l:`lZ)
  (h1:∀x,`ji=`bd->∀w' s',`GD->`dd x w'->Q w' s') (h2:`Hs->∀s',Inv X `i σ (`U_) s'->Q r s') :
  `l `ac A (`e? (`dB "dict.setdefault") [`dD,u,r]) Q E s:=by
 obtain⟨z,hd,vs,rel,dd⟩:=`U5;have hz:`U6:=`U7
 have hv:=`MK;refine call_meetsIn Co0 `AY PySem.F.entry_dict_setdefault (PySem.F.args_dict_setdefault_3 _ _ _) (kt_meets_setdefault (P0 `a9 X.w) a `GF hd r) ⟨vs,dd,hz,λw hw=>?_,λhn h' J hs=>?_⟩
 ·rw[hw] at hv
  cases e1:`ji with
  | none=>rw[e1] at hv;exact hv.elim
  | some x=>rw[e1] at hv;exact h1 x e1 _ _ (`d?) hv
 ·rw[hn] at hv
  have e1:`Hs:=by
   cases e1:`ji with
   | none=>rfl
   | some x=>rw[e1] at hv;exact hv.elim
  have hl:`xQ:=`xR
  have he:`U4:=let ⟨q,_,_,hq,_⟩:=J;⟨q,hq⟩
  exact h2 e1 _ (tx0 I `MM hs he (kw0 hl hd (rel.put k rv) J))
theorem Uw0(ho:`U8)(he:PE X e ty)(hf:PE X f tx)(m:M2 X o `Nx `mL e f `dI):PE X `ayA (Pd0 td ty tx):=by
 intro pins s σ H Q I h;refine wpAny_Call_method m.base m.few m.line PySem.F.plainAttrs_dict Co0 PySem.F.type_dict_setdefault (thn `z7 λu s1 ⟨x,H1,I1,rx,a,ex,d,q1⟩=>?_);subst ex;cases (show u=`m1 from rx);obtain⟨t1,t2,_⟩:=Sx0 I1 d;refine⟨t1,t2,?_⟩;rw[m.trees];refine A60 rfl (`aoh (N3 (thn (he `i s1 σ H1 _ I1 q1) λiv s2 ⟨y,H2,I2,ry,q2⟩=>N3 (thn (hf `i s2 σ H2 _ I2 q2) λfv s3 ⟨z,H3,I3,rz,kvs,k,ea,ey,l,q3,q4⟩=>Q2 ?_))));subst ey;exact Qw0 I3 ea ry rz l (λx ex w' s4 I4 r4=>⟨x,H3,I4,r4,q3 x ex⟩) λen s4 I4=>⟨z,_,I4,rz,q4 en⟩
universe zz
universe L2
namespace L2
open Spec PyProof.Rows PySem.W
theorem c60:`dl X `S! `ayB:=by
 intro pins s σ H xs us Q I r h;obtain⟨p,kvs,rfl,hq,q⟩:=h;obtain⟨u,rfl,rx⟩:=`lD;cases rx;have hn:=v50;obtain⟨z,hd,vs,rel,dd⟩:=kj0 `cc hq;have hl:=`ML;exact call_len_dict hd dd `g ⟨`d `mf,H,`d?,⟨`oY,by rw[hl]⟩,q⟩
universe L2
namespace DL
open Spec PyProof.Rows L2
noncomputable def k90:`J
 | [`aP (`mT) _]=>`a (`d `pD)
 | _=>`b
theorem Uk0:FnR K `ayB k90:=by
 intro H B xs ds d Q hb r h k;unfold k90 at h;split at h
 ·cases h
  obtain⟨v,rfl,r1⟩:=`iB;rw[ix0] at r1;obtain⟨p,ys,rfl,_,hp,hl,rr⟩:=r1;refine⟨p,_,rfl,hp,`um⟩;rw[n8,`dM,← hl,`p9]
 ·cases h
universe DL
namespace SoT
open PyProof.Rows
noncomputable def lt2(a b:`uM):`V:=`G (a.1<b.1∨(a.1=b.1/\a.2<b.2))
universe SoT
namespace SoT
noncomputable def le2(a b:`uM):`V:=!lt2 b a
noncomputable def srt(ps:`Wy):`Wy:=ps.mergeSort le2
theorem Yv0(ps:`Wy):(srt ps).Perm ps:=List.mergeSort_perm ps le2
universe SoT
namespace RawD
open PyProof.Rows PySem.W
noncomputable def At(d:`f)(es:`Ts)(ep:Nat)(h:`R):Prop:=∃o,`UU/\`wy/\`wz
section
variable{P:`ag}{w:`N}{s:`r}{d:`f}{es:`Ts}{ep:Nat}
theorem At.ty(x:`Ht):`hk (`qd) `pT := by obtain⟨o,e,c,_⟩:=x;exact⟨o,e,c.1⟩
theorem At.lt{h:`R}(x:`Wz):d<h.objs.size:=by obtain⟨o,e,_⟩:=x;exact `cX
theorem At.to{h:`R}(x:`Wz)(k:∀o,`UU->`fJ d=`_):At d es ep h':=by obtain⟨o,e,r⟩:=x;exact⟨o,k o e,r⟩
theorem Qi0{Q:`X}(lo:`ayC)(x:`Ht)
  (k:Q `kQ { s with heap:=`dG { cls:=`bl `NA,data:=`iS #[`qd,`d 0 0,`d `hn 0,`d ep 0] } }):`l `i9 A (`wS (`qd)) Q E s:=by
 have ty:=x.ty;obtain⟨o,e,c,da⟩:=x;refine `ax1 ty `ayD (C9 `ayD ty F.entry_dict_iter ?_ (F.args_dict_iter_1 _));unfold Builtin.«dict.__iter__»;refine `dn;unfold Builtin.Dict.dictSlotNone;refine `as!;show `l _ _ (`bg (`iQ d)) _ _ s;refine `cZ;show `l _ _ (Builtin.Dict.showsAll d>>=_) _ _ s;unfold Builtin.Dict.showsAll;rw[`P (by rw[lo];decide)];refine A0 (A1 (A0 (Ad0 e da (A0 (Ae0 e da (A0 (E6 (A1 ⟨_,rfl, `NA,_,`ayE,c6.lookup,?_⟩))))))))
 simpa [`fe] using k
theorem Qc0{Q:`QT}(hi:`ayF)(x:`Ht)(hl:i<es.size)
  (k:∀h',h'.IsKeyIter it d `bM `hn ep->`hs it `aa h'->Q (`a es[i].key) `gx):`ayG:=by
 have ti:=hi.typeIs;obtain⟨u,eu,cu,du⟩:=hi;obtain⟨o,e,c,da⟩:=x;unfold pyNext;refine `ayH;refine `ayI;refine `ayJ;simp only[`ayK,`ih,`cA];show `ayL;rw[`ayM];refine `ayN;rw[`eZ];refine `ayO;rw[`eZ];refine `cZ;simp only[`ayP,`cA,`aA,`VZ hl];refine A0 (A0 (l5 ti (A1 (A0 (`ayQ ti ?_)))));show `l _ _ (`Hu `hv 1 `NC>>=_) _ _ s;refine `ayR;have F:(`ayS).IsKeyIter it d `bM `hn ep :=
  ⟨_,S4 _ eu (Obj.isFreed_of_fields (`ayT du _)),(Obj.cls_mapFields ..).trans cu,by rw[`ayT du];simp[`fe]⟩
 refine A0 (C2 (A0 (`ayQ (s:={ s with heap:=`ayS }) F.typeIs ?_)));show `l _ _ (`bg es[i].key) _ _ _;exact A1 (A1 ⟨_,rfl,A1 (k _ F `r0)⟩)
theorem Pb0{Q:`QT}(hh:`j1)(hi:`ayF)(x:`Ht)(hl:`hn<=i)
  (k:∀h',Heap.ExtBut it `aa h'->Q `b `gx):`ayG:=by
 have ti:=hi.typeIs;obtain⟨u,eu,cu,du⟩:=hi;obtain⟨o,e,c,da⟩:=x;unfold pyNext;refine `ayH;refine `ayI;refine `ayJ;simp only[`ayK,`ih,`cA];show `ayL;rw[`ayM];refine `ayN;rw[`eZ];refine `ayO;rw[`eZ];refine `cZ;simp only[`ayP,`cA,`aA,Array.getElem?_eq_none hl];refine A0 (A0 (l5 ti `kv));show `l _ _ (`Hu `hv 0 `aE>>=_) _ _ s;refine `ayR;show `l _ _ (newExc (`aee) []>>=_) _ _ _;refine `dn;simp only[newExc,`WA];refine A0 (E6 (A0 (m:=`ayU _ _) (`ayV (a:=`nY) (by first|rfl|(simp only[`ayU];rfl)) (E6 ?_ (by size_fits)))) (by size_fits));simp only[raiseNew];refine A0 (wpAny_handled ?_);rw[show `Hv from hh];refine A0 (A1 (wpAny_throw ?_));refine A0 (i6 (b:=`c) (T := `Nn) `ayE `ayW (A1 (k _ ?_)));exact((P2 ..).extBut.push _).push _
theorem Q20(hh:`j1)(ne:d≠it):Walks P w A it [it,d] [it] `hn `ayX (λi h=>h.IsKeyIter it d i `hn ep/\`Wz) where
 sub:=λb hb=>by simp at hb;simp[hb]
 frame:=λ_ _ _ st hk=>⟨st.1.at λo e=>hk it `S o e,st.2.to λo e=>hk d `S o e⟩
 item:=λi s Q E hi st hQ=>Qc0 st.1 st.2 hi λh' J sb=>hQ _ h' `aZ ⟨es[i],getElem?_pos es i hi,rfl⟩ ⟨J,st.2.to λo e=>sb.extBut d o ne e⟩ λb o hb e=>sb.extBut b o (λh=>hb (`x4)) e
 done:=λs Q E st hQ=>Pb0 hh st.1 st.2 `bn λh' F=>hQ h' `aZ λb o hb e=>F b o (λh=>hb (`x4)) e
 self:=λ_ _ _ _ st hQ=>wpAny_pyIter_keyiter st.1 hQ
theorem src(lo:`ayC):KdlSrc P w `pT d d `hn `ayX (At d es ep) where
 type:=λ_ x=>x.ty
 there:=λ_ x=>⟨x.lt,x.lt⟩
 keep:=λ_ _ x hk=>x.to λo e=>hk d `gq o e
 notList:=`O
 notTuple:=`O
 hint:=λ_ _ _ _ x hq=>kdl_hint_dict x.ty hq
 iter:=λ_ _ hh x=>⟨_,_,(λ_ _ hq=>Qi0 lo x hq),Q20 hh (B9 x.lt),⟨`wV,x.to `Wf⟩⟩
universe zz
universe RawD
namespace L2
open Spec PyProof.Rows
noncomputable def KyV(H:Hp):`TZ->`L1
 | [],[]=>`fw
 | `gj,`r4=>(`awB)/\KyV H ks vs
 | _,_=>`bB
theorem eq0(hc:`bz:=by rfl):`dl X `p5 `ayY:=by
 intro pins s σ H xs us Q I r h;obtain⟨d,kvs,rfl,e,k⟩:=h;obtain⟨u,rfl,rx⟩:=`lD;cases rx;obtain⟨z,hd,zs,rel,o,es,ep,h1,h2,h3,h4,h5⟩:=(show `cb `a9 X.w H `aa d `z6 from `cc d _ e);have hl:=`ML;have M:`hn=`mf:=by rw[← `ig,h4,`M,hl]
 have ky:∀{a:`eJ} {b:`jX},`bp `ajt a b->KyV H (`P_) (`qP `WB):=by
  intro a b q
  induction q with
  | nil=>trivial
  | cons q t ih=>exact⟨⟨_,rfl,`s?⟩,ih⟩
 refine W.kdl_call (RawD.src (es:=es) (ep:=ep) hd) `eX `ar9 (by rw[M];exact z) λh' tk F c' hk hS J=>?_
 have hv:`bi (zs.map `WB) `si:=by
  have e1:`si=zs.map `ayZ:=by
   refine `ay_
   cases hq:`si[i]? with
   | none =>
    rw[List.getElem?_eq_none_iff,`ig,J.1,M] at hq;rw[`ue `fl]
   | some v =>
    obtain⟨en,e2,e3⟩:=J.2 i v (by rw[← `Fw];exact hq);rw[← `Fw,h4,`a_] at e2;rw[`a_];cases hz:zs[i]? with
    | none=>rw[hz] at e2;cases e2
    | some q=>rw[hz] at e2;cases e2;rw[e3];rfl
  rw[e1];have:∀l:`jX,`bi (`dJ `WB) (`dJ `ayZ):=λl=>by
   induction l with
   | nil=>exact `L
   | cons q l ih=>exact `ah rfl ih
  exact `x zs
 refine⟨`d!,_,`gf (t':=tk) hk `bn (show `cb `a9 X.w _ h' _ (`ik) from ⟨?_,`si,c',hv,hS⟩),rfl,k _ _ `zZ (ky rel)⟩;rw[`M,← hl];exact z
universe L2
namespace DL
open Spec PyProof.Rows L2
noncomputable def kD:U6->D
 | `n_=>`aj
 | `ls=>`bY
noncomputable def ktD(k:`dK):D:=`m `ay0
noncomputable def ta0:`J
 | [`aP (`lR) _]=>`a (`o (`uq ktD))
 | _=>`b
theorem g90:∀k:`dK,Rps K H B `ay0 `ads
 | []=>`ay1
 | `n_::k=>by rw[`Z,`Z,o9];exact⟨_,_,rfl,by unfold kD;rw[n8];rfl,g90 k⟩
 | `h i::k=>by rw[`Z,`Z,o9];exact⟨_,_,rfl,by unfold kD;rw[X5];rfl,g90 k⟩
theorem ao0(hb:`pI):∀{ks:`pR} {ys:`K},KyV H ks ys->Rps K H B (`uq ktD) ys
 | [],[],_=>by rw[`fW,m9]
 | [],`cB,h=>`iq
 | `cB,[],h=>`iq
 | `gj,`rz,h=>by
  obtain⟨⟨b,rfl,e⟩,h2⟩:=h;rw[`Z,o9];refine⟨_,_,rfl,?_,ao0 hb h2⟩;unfold ktD;rw[W4];exact⟨b,_,rfl,⟨λz=>(hb b z).nt _ e,e⟩,g90 k⟩
theorem Yd0:FnR K `ayY ta0:=by
 intro H B xs ds d Q hb r h k;unfold ta0 at h;split at h
 ·cases h
  obtain⟨v,rfl,r1⟩:=`iB;rw[ml0] at r1;obtain⟨p,ys,rfl,_,hp,hl,rr⟩:=r1;refine⟨p,_,rfl,hp,λl zs F hk=>k _ _ (X3 F) ?_⟩;rw[`ay2 (k4 hl)] at hk;exact nk0 hb F (ao0 hb hk)
 ·cases h
universe DL
namespace L2
open Spec PyProof.Rows PySem.W
noncomputable def Itv(K:`D)(a:`f)(n:Nat):It :=
 ⟨λi H=>∃xs x,`gz/\`ae=n/\i<n/\`ay3,λi H x H'=>H'=H/\∀xs,`gz->`ay3,`alj⟩
theorem Y30{P:`ag}{w:`N}{tg:`z}(a it:`f)(n:Nat):`my P w K tg (Itv K a n) [it] it (λi h=>i<=n/\h.IsRevIter it a (`ay4)) where
 mem:=`aS
 obj:=λi h st b hb=>by
  have e:b=it:=`im
  subst e;obtain⟨_,o,e,c,d⟩:=st;exact`Se
 keep:=λi h h' st k=>⟨st.1,st.2.at `abE⟩
 item:=by
  intro X hP hw hK hc i pins s σ H E I hf st hg;subst hP hw hK;obtain⟨_,st⟩:=st;obtain⟨xs,x,hq,hn,hi,hx⟩:=hg;obtain⟨its,rv,p,hz⟩:=`fB;obtain⟨u,hu,ru⟩:=`EL;obtain⟨f0,f1,f2,f3,f4,f5⟩:=`lC;have e1:`ay4=`ay5:=`p
  rw[e1] at st;refine wpAny_pyNext_rev_item st `n6 (x:=u) `wU `Sf
  have e2:`ay5 - 1=`ND - `axB:=`p
  rw[e2] at F;have I1:`wP:=`Sg;obtain⟨o,e,c,d⟩:=id F;exact⟨u,rfl,k70 (s:=`gx) e c d `s ⟨x,H,I1,ru,`alm,⟨`p,F⟩,`EM⟩⟩
 done:=by
  intro X hP hw hK hc i pins s σ H E I hf st hg;subst hP hw hK;obtain⟨J,st⟩:=st;have hx:n=i:=Nat.le_antisymm hg J;subst hx;obtain⟨f0,f1,f2,f3,f4,f5⟩:=`lC;have e1:`ND - `b7=-1:=`p
  rw[e1] at st;exact wpAny_pyNext_rev_end `eX st `EN
 self:=λ_ _ _ _ _ st h=>`ay6 st.2 h
section
variable{tg:`z}
noncomputable def P00(K:`D)(ta:TA):TI:=fun σ H R=>ta σ H λvs H1=>∃a xs,vs=`i6/\`abI/\R (Itv K a `ae) H1
theorem Yf0:`aws:=`aY
theorem T90{a:`z}{ta:TA}{p:Pos}(hg:`G6)(hm:`G5)(ha:`Sl)(hs:`ay7:=by rfl)(hpl:`hd:=by rfl) :
  PI X tg `ay8 (P00 X.K ta):=by
 intro pins s σ H R I h;refine `wZ (zo0 I hg hm Yf0 (E3 `K! hs hpl));obtain⟨qa,xs,e,h1,q⟩:=q1;subst e;cases r1 with
 | cons r rr =>
  cases rr;obtain rfl:=r;obtain⟨us1,v1,p1,z1⟩:=`Wk;have hl:=v1.length;refine `awr `iA ?_;have hI:(`ay9).IsRevIter `ea qa `aeA:=`wV;refine `ay6 (s:={ s1 with heap:=`ay9 }) hI ?_;refine⟨`ea,[`ea],_,_,H1,rfl,`Sj,Y30 qa _ `ae,?_,`fA,q⟩
  ·have e0:(`S_ - 1 - `tu)=`aez:=`Hw
   refine⟨`hE,?_⟩;rw[e0];exact hI
  ·have e:b=`ea:=`im
   subst e;exact `rp
universe zz
universe L2
namespace DL
open Spec PyProof.Rows L2
noncomputable def nz0(gA:GA):GA:=fun δ=>`g? λds=>match ds with
 | [`o l]=>`a l.reverse
 | _=>`b
noncomputable def oc0(i:Nat)(gx:GX):GX:=fun δ=>`rZ λ_=>`asu λr=>(owL i r.2).bind λds=>if `asx then `a (`w,r.2.set i (.ow (`o (ds++[r.1])))) else `b
section
variable{a:`z}{ga gb g:GE}{gA:GA}{tg:`z}
theorem Wq0(hm:`G5)(ha:`Up)(hg:`G6 := by rfl)(hs:`ay7:=by rfl)(hpl:`hd:=by rfl) :
  PID X tg `ay8 (nz0 gA):=.mk λB δ=>`ok (T90 hg hm `bV hs hpl) fun σ H R ⟨`aK,en,e1,k⟩=>by
 unfold nz0 at e1;cases e2:`cg with
 | none=>rw[e2] at e1;cases e1
 | some ds =>
  rw[e2] at e1;simp only[`j] at e1;split at e1<;>try cases e1
  rename_i l;refine`xB;rw[o9] at r;obtain⟨x,t,rfl,r1,r⟩:=r;rw[m9] at r;subst r;rw[X7] at r1;obtain⟨q,xs,rfl,sq,rs⟩:=r1;have hl:=`uh;refine⟨q,xs,rfl,sq.to,`ac8⟩
  ·rw[`ke] at hi
   have:`ay'<xs.length:=`p
   exact⟨xs,xs[`ay'],`ay!,rfl,`p,B6 `x⟩
  ·obtain⟨e3,y⟩:=y
   subst e3;rw[`ke] at hi;have hj:`WC<l.length:=`p
   obtain⟨y',e4,ry⟩:=rs.get (i:=`WC) (B6 hj);have ey:=y xs `ay!;rw[hl,e4] at ey;cases ey;refine⟨`pL,l[`WC],?_,λB' gB hb=>ry.mono gB⟩;rw[List.getElem?_reverse hi,`Do]
  ·rw[`ke] at hi
   rw[hl];exact hi
theorem Ym0(ha:`dx)(hb:`dy):PDF X `VR (o2 ga gb mulL):=.mk λB δ=>(df0 Wl0 `bV `iz).imp fun σ H Q ⟨d,en,h,k⟩=>by
 unfold o2 at h;cases e1:`eD with
 | none=>rw[e1] at h;cases h
 | some x =>
  cases e2:`eE with
  | none=>rw[e1,e2] at h;cases h
  | some y =>
   rw[e1,e2] at h;simp only[`j] at h;refine`F';unfold mulL at h;split at h
   ·split at h
    ·rename_i hz
     cases h;have r1:=`mX;rw[X7] at r1;rw[n8] at r2;subst r2;obtain⟨a,xs,rfl,q1,rr⟩:=r1;refine⟨a,xs,_,rfl,rfl,`x0,`av0,`M9,hz.2.2.1,by rw[`un];exact hz.2.2.2,λp hp=>k p _ ((`kE).free hp) (`Mh `gH) ⟨_,j8,(me0 rr _).mono `Bk⟩⟩;subst z;have hn:=`un;simp at hn;exact `GZ
    ·cases h
   ·cases h
theorem U80(i:Nat)(h:`xV)(hN:`cn:=by rfl)(hv:`fz:=by first|exact `bE|exact `gh|exact `gi)(hd:`bt:=by decide)(hcd:`ga:=by decide)
  (hbase:`auw:=by rfl)
  (hfew:(`Gr
  &&`Vm)=`c:=by rfl)
  (hline:`j6:=by rfl) (hs:`iC:=by rfl) (hplain:`Gs:=by rfl) :
  PX X `aux (oc0 i gx):=.mk λH₀ B₀ δ pins s σ H Q I ⟨r,en,e1,k⟩=>by
 unfold oc0 at e1;obtain⟨B,b1,b2,env⟩:=`bW;cases e2:`jh with
 | none=>rw[e2] at e1;cases e1
 | some ds0 =>
  rw[e2] at e1;simp only[`j] at e1;cases e3:`hL with
  | none=>rw[e3] at e1;cases e1
  | some r' =>
   rw[e3] at e1;simp only[`j] at e1;cases e4:owL i r'.2 with
   | none=>rw[e4] at e1;cases e1
   | some ds =>
    rw[e4] at e1;simp only[`j] at e1;split at e1
    ·rename_i hz
     cases e1;obtain⟨a,F,hb,xs,hx,rx⟩:=`MR (`xW);refine om0 Y3 A90 Aa0 uo0 `kN (K5 `Vt xj0 hs) `j7 hfew `j8 hs `rG `i s σ H Q I
      ⟨_,F,`GS,r',en,e3,λv H1 ev=>?_⟩
     obtain⟨B2,c1,c2,J,rv⟩:=ev.ex;have M:=to0 e4;obtain⟨a2,Y,Z,ys,hy,ry⟩:=J.at M;rw[F] at Y;cases Y;refine⟨a,ys,v,rfl,rfl,hy,by rw[ry.length];exact hz,?_⟩;have O:Env X.K (upd H1 a (`o (ys++[v]))) B2 σ (r'.2.set i (.ow (`o (ds++[r'.1])))):=J.mut M F ⟨_,j8,(`m' ry rv).mono (`pZ Z)⟩;exact k _ _ (`l0 (ev.s.mut (`AD H1) c1 c2 M F O) c1 c2 O `F9)
    ·cases e1
universe zz
noncomputable def na0:`J
 | `i2=>if `TP/\(`wW)/\`WD then `ay? else `b
 | _=>`b
section
variable{f:`z}
noncomputable def X60:`e!:=λvs H Q=>∃i j:Int,vs=`i2/\`TP/\(`wW)/\`WD/\∀l,`po->Q `pm (upd H l (`aza))
theorem nf0(hc:`bz:=by rfl):c20 X `p5 (`bl `kp) X60:=by
 intro pins s σ H vs us Q I r h;obtain⟨i,j,rfl,h1,h2,h3,k⟩:=h;cases r with
 | cons r rr =>
  cases rr with
  | cons r' rr =>
  cases rr;obtain⟨t,rfl⟩:=r;obtain⟨t',rfl⟩:=r';refine `alF ?_;have M:`alx i j 1=(`uO:Nat):=`aly
  have zl:`azb<=`W:=`O
  refine call_list_range (n:=`uO) `eX `alv (small_one h1.1 h1.2 h2.1 h2.2) M (by
   have:`azb<=2 ^ 24:=`O
   omega) λh' tk F c hk ha hi=>?_
  have hS:∀o:Obj,(`dG o).objs.size=`i4:=λo=>k8 ..
  have hf:H (`i4)=`b:=`Lw `kf;show EP X `i σ Q (`ab `V_) _;rw[hS];refine⟨`ab (`i4),_,`gf (a:=`i4) (o:=`aza) (t':=tk) (λb o q=>hk b o (`Lu)) `kf ⟨`azc,`si,c,?_,by rw[← hS];exact ha⟩,rfl,k _ hf⟩;have key:∀(l:`U) (m:Nat),(∀q v,l[q]?=`aL->∃t,v=`KD (i+((m+q:Nat):Int)) t)->`bi ((`eQ m `cS).map `NE) l:=by
   intro l
   induction l with
   | nil=>intro m _;exact `L
   | cons v l ih =>
    intro m h;obtain⟨t0,e0⟩:=h 0 v rfl;rw[`bo,`WE,`Z];refine `ah ⟨t0,by simpa using e0⟩ (ih `v_ λq w hw=>?_);obtain⟨t1,e1⟩:=h (q+1) w `z2;exact⟨t1,by rw[e1];congr 2;omega⟩
  have J:F.toList.length=`uO:=by rw[`ig];exact hi.1
  have:=key `si 0 (λq v hv=>by
   obtain⟨t0,e0⟩:=hi.2 q v `SQ;exact⟨t0,by rw[e0];simp⟩)
  rw[J,← `azd] at this;exact `x
theorem gp0(hm1:`V0)(hm2:`wY)(ha:PDA X `pW gA)(hc:`bz:=by rfl)(hg1:`V1 := by rfl)(hg2:`wX := by rfl)
  (e1:`di [`WF] `B=(`q,`bZ (`WF) `B)::`hK:=by rfl) (h1:`hd:=by rfl)
  (he:`aze:=by rfl) (hpl:(`ey `jl (`NF)).any `bv=`q:=by rfl) :
  PDF X (`bL `ad0 [`WF] [] pos) (oA gA na0):=.mk λB δ=>(b60 (nf0 hc) hg1 hg2 hm1 hm2 fs0 `Sm `bV `s `s `s `s e1 h1 he hpl).imp fun σ H Q ⟨d,en,h,k⟩=>by
 unfold oA at h;cases e3:`cg with
 | none=>rw[e3] at h;cases h
 | some ds =>
  rw[e3] at h;simp only[`j] at h;unfold na0 at h;split at h<;>try cases h
  rename_i i j;split at h<;>try cases h
  rename_i hj;refine⟨_,en,e3,λvs H1 s1 r=>?_⟩;rw[o9] at r;obtain⟨x,t,rfl,r1,r⟩:=r;rw[o9] at r;obtain⟨y,t,rfl,r2,r⟩:=r;rw[m9] at r;subst r;rw[n8] at r1 r2;subst r1;subst r2;refine⟨i,j,rfl,hj.1,hj.2.1,hj.2.2,λl hl=>k l _ `M' `M! ⟨_,j8,?_⟩⟩;have:∀(l:`e) (H:Hp) (B:BS),Rps X.K H B (`dJ λ(k:Nat)=>`aQ (i+`bq)) (`dJ `NE):=by
   intro l H B
   induction l with
   | nil=>simp[m9]
   | cons a l ih =>
    rw[`Z,`Z,o9];exact⟨_,_,rfl,`uf,ih⟩
  exact `x _ _ _
universe zz
universe DL
namespace DL
open Spec PyProof.Rows L2
noncomputable def orE(g1 g2:GE):GE:=fun δ=>match `iG with
 | `fV=>`fV
 | `b=>`ot
theorem Sr0(h1:PD X e g1)(h2:PD X e g2):PD X e (orE g1 g2):=.mk λB δ=>by
 cases e1:`iG with
 | some r =>
  have q:`Hx=`iG:=`azf
  intro pins s σ H Q I ⟨d,en,h,k⟩;exact h1 B δ `i s σ H Q I `azg
 | none =>
  have q:`Hx=`ot:=`azf
  intro pins s σ H Q I ⟨d,en,h,k⟩;exact h2 B δ `i s σ H Q I `azg
noncomputable def isLs(H:Hp)(a:`f):Prop:=∃xs,`L_
theorem isLs.nt(h:isLs H a):`aeh:=by
 obtain⟨xs,h|⟨o,h⟩⟩:=h<;>intro ys z<;>rw[h] at z<;>cases z
theorem isLs.nb(h:isLs H a):`gG:=by
 obtain⟨xs,h|⟨o,h⟩⟩:=h<;>rw[h]
 ·exact⟨`dF,`rT,λ_ z=>nomatch z⟩
 ·exact⟨`dF,(λ_ _ z=>by cases z;exact`aq),λ_ z=>nomatch z⟩
theorem isLs.new{p:`f}(s:`aT)(sq:SqL' K H' B p xs)(_:`Hy->B p∨`Hy):(H' p=`tM∨`Hy)/\(`cH∨`Hy):=by
 obtain⟨nb,h⟩:=sq.at;refine⟨h.imp id λ⟨o,h⟩=>⟨xs,`h ⟨o,s.nf _ _ _ h⟩⟩,?_⟩;cases e:H p with
 | none=>exact `a3
 | some u =>
  right;have:=`FZ;rcases h with h|⟨o,h⟩
  ·rw[h] at this;cases `x;exact⟨xs,`pS⟩
  ·rw[h] at this;cases `x;exact⟨xs,`h ⟨o,e⟩⟩
noncomputable def jt0:`ax->`V
 | []=>`c
 | p::K=>(match p.2.cls with
  | `bl n=>!(n == `ew)
  | _=>`c)&&jt0 K
theorem fk0:∀{K:`ax} {a:`f} {o:Obj},`WG->`RV->`s8≠`dg
 | [],_,_,_,h=>nomatch h
 | (b,u)::K,a,o,h,e=>by
  unfold jt0 at h;rw[`bs] at h;rw[`gg] at e;split at e
  ·cases e
   intro z;rw[z] at h;exact `y h.1 `s
  ·exact fk0 h.2 e
theorem script_at(hK:`WG)(h:`gz):SqL' K H (`azh) a xs:=by
 rcases h with h|⟨o,its,n,e,c,_⟩
 ·exact `k ⟨λz=>z,h⟩
 ·exact `y c (fk0 hK e)
theorem Yw0{l:`Tt}{n k:Nat}{q:`ag}{loose:`u}{XP:`D0}{YP:`D1}{d:DefRec}{K:`aoG}{CX:CXT}{sp:`D->Sp}{x:Str}
  (hn:`Fy) (hn2:`xh) (hdf:`Tm) (hr:`Tp) (hY:`aoH)
  (F:∀(w:`N) (mg:`bX) (fa:`f) (h:`R),`tX h->`FB->`Tn ->
   ∃fd:`f',(`Tq)/\∀base:`R,`tX `t->`wD->`af `aI w `pv mg `t CX k fa fd [x] (sp `pv))
  (hsp:∀(w:`N) (H:Hp) (a:`f) (ns:`au),`xe->`aoI->sp `pv `i6 H `Fz `jZ)
  (hCX:∀(H:Hp) (s:`r) (e:`A) (s':`r),CX [] H s (`jZ) e s'->`bB):`aoJ :=
 Wn0 (K:=K) (CX:=λ_=>CX) (sp:=λw=>sp `pv) hn hn2 hdf hr hY F (λw H a ns h1 _ h3=>hsp w H a ns h1 h3) λ_ H s e s'=>hCX H s e s'
universe DL
namespace ZipL
open Spec PyProof.Rows
section
variable{w:`N}{s:`r}
theorem d80{TI TO:`f}{k1 k2:Nat}{xs ys:`bh}{x y a b:`A}{Q:`X}(D:`sa)
  (hz:`azi) (hTI:`sb) (hTO:`Hn)
  (h1:`sc) (h2:`sd) (hl1:`se) (hl2:`sf) (hx:`V9) (hy:`V')
  (hQ:∀h',ir0 h' z TI TO->`azj->`V!->`V?->`Wa->`x5 ->
   `axL) :
  `NG:=by
 obtain⟨v,f,hz,hv⟩:=hz;have hT:`Wp := `Wq;have again:`azk:=λhf=>by
  unfold Builtin.SmallTypes.nextOf;exact A0 (E5 (name:=`nb) hT K0
   (C9 K0 hT l6
    (ef0 D hz `azl hTI hTO h1 h2 hl1 hl2 hx hy λh' a1 a2 a3 a4 a5 a6 a7=>A1 (hQ h' ⟨_,_,a1,`h `aq⟩ ⟨_,_,a2⟩ a3 a4 a5 a6 a7)) `Hz))
 rcases hv with rfl|⟨a0,rfl⟩
 ·exact `azm
 ·cases e:`cO a0 with
  | none=>exact `azn
  | some oa =>
   unfold Builtin.SmallTypes.nextOf;exact A0 (E5 (name:=`nb) hT K0
    (C9 K0 hT l6
     (Zl0 D hz e hTI h1 h2 hl1 hl2 hx hy λh' b1 b2 b3 b4 b5 b6=>A1 (hQ h' ⟨_,_,b1,`h `aq⟩ ⟨_,_,b6 _ _ D.TOz D.TOi1 D.TOi2 hTO⟩ b2 b3 b4 b5 λc o c1 _ c3 c4 q=>b6 c o c1 c3 c4 q)) `Hz))
theorem mm0{TI TO:`f}{k1 k2:Nat}{xs ys:`bh}{a b:`A}{Q:`X}(hh:`j1)(D:`sa)
  (hz:`azi) (hTI:`sb) (hTO:`Hn)
  (h1:`sc) (h2:`sd) (hl1:`se) (hl2:`sf) (hend:`Wg)
  (hE:`ax0) :
  `NG:=by
 obtain⟨v,f,hz,hv⟩:=hz;have hT:`Wp := `Wq;have again:`azk:=λhf=>by
  unfold Builtin.SmallTypes.nextOf;exact A0 (E5 (name:=`nb) hT K0
   (C9 K0 hT l6 (dr0 hh D hz `azl hTI hTO h1 h2 hl1 hl2 hend hE) `Hz))
 rcases hv with rfl|⟨a0,rfl⟩
 ·exact `azm
 ·cases e:`cO a0 with
  | none=>exact `azn
  | some oa =>
   unfold Builtin.SmallTypes.nextOf;exact A0 (E5 (name:=`nb) hT K0
    (C9 K0 hT l6 (Vd0 hh D hz e hTI h1 h2 hl1 hl2 hend λh' e hk he=>hE h' e (λc o c1 _ c3 c4 q=>hk c o c1 c3 c4 q) he) `Hz))
theorem c40{e:`f}{old:`A}{Q:`X}{R:`A->`oU}(he:`iF `aa e it i old)
  (inner:∀(Q':`X),(∀x h₁,R x `eC->`iF `eC e it i old->Q' x { s with heap:=`eC })->`l `ao A (`Bf `hv) Q' E s)
  (hQ:∀x h₁ h',R x `eC->`WH h' e it `jp x `kV->`fJ `kV=`a { cls:=`d5,data:=`bu #[`Wj,x] } ->
   (∀b o,`tc->`TE->`tf)->Q (`WI) `Wi) :
  `l `ao A (Builtin.«enumerate.__next__» ⟨[`ab e],[]⟩) `ad! E s:=by
 obtain⟨hp,g,d,tk,os⟩:=s;show `azo;refine A0 (B8 he rfl (x:=`K2) rfl ?_);refine A0 (inner _ λx h₁ hR J=>?_);show `l _ _ (`uE `jm 3>>=_) _ _ `WJ;refine A0 (B8 J rfl (x:=`fe i) rfl ?_);show `l _ _ (`uE `jm 4>>=_) _ _ `WJ;refine A0 (B8 J rfl (x:=`aE) rfl ?_);show `l _ _ (mkInt i>>=_) _ _ `WJ;refine A0 (wpAny_mkInt ?_);show `l _ _ (`Hu `jm 3 `NC>>=_) _ _ ⟨`eC,g,d,tk+1,os⟩;refine A0 (E1 J `S λh₂ a3 Z=>?_)
 replace Z:`hs e `eC `lO:=Z
 replace a3:`iF `lO e it `jp old:=a3
 show `l _ _ (`Hu `jm 4 `aE>>=_) _ _ ⟨`lO,g,d,tk+1,os⟩;refine A0 (E1 a3 `S λh₃ a6 O=>?_)
 replace O:`hs e `lO h₃:=O
 replace a6:`iF h₃ e it `jp old:=a6
 show `l _ _ (`WA [`aeC,x]>>=_) _ _ ⟨h₃,g,d,tk+1,os⟩;refine A0 (Ab0 ?_);have a1:`iF (`azp) e it `jp old:=B3 _ a6;generalize hh₄:`azp=h₄ at a1;have a8:h₃.objs.size=`kV:=by rw[O.1,Z.1]
 have a5:e<h₁.objs.size:=A7 J;have b0:`We `kV=`a `aeD:=by rw[← hh₄,← a8];exact `df
 have b1:∀b o,`tc->`TE->`We b=`_:=λb o F hb=>by
  rw[← hh₄];exact B3 _ (O.extBut b o F (Z.extBut b o F hb))
 show `l _ _ (`ad4 `jm>>=_) _ _ ⟨h₄,g,d,tk+1,os⟩;rw[a8];refine `dn
 ·unfold Builtin.SmallTypes.ownedTupleIsFree
  refine A0 (B8 a1 rfl (x:=`aE) rfl `kv);simp only[`es];refine `Wl;refine A0 (B8 a1 rfl (x:=old) rfl ?_);refine A0 (E1 a1 `S λh₅ a7 Y=>?_)
  replace Y:`hs e h₄ h₅:=Y
  replace a7:`iF h₅ e it `jp x:=a7
  show `l _ _ (`axZ `jm (`WI)>>=_) _ _ ⟨h₅,g,d,tk+1,os⟩;refine `dn
  ·unfold Builtin.SmallTypes.ownedTupleHandOut
   refine A0 (E1 a7 `S λh₆ a4 a0=>?_)
   replace a0:`hs e h₅ h₆:=a0
   replace a4:`WH h₆ e it `jp x `kV:=a4
   refine E1 a4 `S λh₇ a2 M=>?_
   replace M:`hs e h₆ h₇:=M
   replace a2:`WH h₇ e it `jp x `kV:=a2
   refine A0 (I0 (A1 ⟨_,rfl,hQ x `eC h₇ hR a2 ?_ ?_⟩))
   ·exact `x6 _ _ `WK (`Wn _ _ `WK (`FI _ _ `WK b0))
   ·exact λb o F hb=>`x6 b o F (`Wn b o F (`FI b o F (b1 b o F hb)))
universe zz
set_option maxHeartbeats 1000000 in
theorem mi0(z TI TO:`f)(v:`A)(f:`V) :
  `r6 (Builtin.«enumerate.__new__» ⟨[`Bp,`p'],[]⟩) (λ_ R s=>`Wo /\
   R (.ok (`dC `kQ)) { s with heap:=`azq }) :=
 `GW λprog w A R s h=>by
  obtain⟨hp,g,d,tk,os⟩:=s;obtain⟨hl,h⟩:=h;have F:=sub_enumerate
  wp_walk using `hg
  refine wpAny_stack_any λst=>`cZ
  split
  ·rename_i c _ _ _ _ _
   cases (c==`p7 `hw)
   ·wp_walk using `hg,`WL
    exact`x_
   ·wp_walk using `hg,`WL
    exact`x_
  ·wp_walk using `hg,`WL
   exact`x_
theorem k20{prog:`ag}{w:`N}{A:`bf}{E:`X}{s:`r}{TI TO:`f}{f:`V}{Q:`X}(hz:`Wo)
  (h:∀h',`iF h' `an z 0 `aE->`x5->(∀b o,`Bg)->`Nt) :
  `l `ao A (`e? (`Bp) [`p']) Q E s:=by
 refine callType_new F.called_enumerate `s (F.typeCall_enumerate_1 _) (F.newCall_enumerate_1 _) (λobj=>F.args_object_init_2 obj _) F.entry_enumerate_new
  (mi0 z TI TO v f) ⟨hz,?_⟩
 have he:`iF (`azq) `an z 0 `aE:=`df;exact⟨`WM,h _ he (by rw[`r!]) λb o x=>B3 _ x⟩
universe ZipL
namespace L2
open Spec PyProof.Rows
noncomputable def S40(K:`D)(a b:`f):It :=
 ⟨λi H=>∃xs ys x y,`gz/\`WN/\`mz/\`azr,
   λi H v H'=>∃t u x y,v=`zR/\H u=`b/\upd H u `uG t=`b/\H'=upd (upd H u `uG) t (`m [`dN,`ab u])/\(`Sc)/\∀ys,`WN->`azr,
   λi H=>∃xs ys,`gz/\`WN/\(`K4∨`Uy)⟩
theorem eh0{P:`ag}{w:`N}{K:`D}{elts:`b2}{x1}{pos:Pos}{e TI TO b:`f}(D:`ad6 z TI TO i1 i2 a b)(hne:∀c∈[z,TI,TO,i1,i2],c≠e) :
  `my P w K `aw! `azs `x7 e
  (λi h=>(∃old,`iF h e z i old)/\ZipL.ir0 h z TI TO/\`ff h TI `Nf `Ng/\(∃p q,`ff h TO p q)/\`K5 i1 a i/\`K5 i2 b i) where
 mem:=`aS
 obj:=λi h st c hc=>by
  obtain⟨⟨old,he⟩,⟨v,f,hz,_⟩,F,⟨p,q,J⟩,⟨o1,e1,c1,d1⟩,⟨o2,e2,c2,d2⟩⟩:=st;simp only[`aX,`a7,`a8] at hc;rcases hc with rfl|rfl|rfl|rfl|rfl|rfl
  ·exact`aw?
  ·exact⟨_,hz,λv z=>nomatch z⟩
  ·exact⟨_,F,λv z=>nomatch z⟩
  ·exact⟨_,J,λv z=>nomatch z⟩
  ·exact`axa
  ·exact⟨_,e2,λv z=>by rw[d2] at z;cases z⟩
 keep:=λi h h' st k=>by
  obtain⟨⟨old,he⟩,⟨v,f,hz,hv⟩,F,⟨p,q,J⟩,h1,h2⟩:=st;exact⟨`axb,⟨v,f,k z `S _ hz,hv⟩,k TI `S _ F,⟨p,q,k TO `S _ J⟩,h1.at λo e=>k i1 `S o e,h2.at λo e=>k i2 `S o e⟩
 item:=by
  intro X hP hw hK hc i pins s σ H E I hf st hg;subst hP hw hK;obtain⟨⟨old,he⟩,hz,F,⟨p,q,J⟩,h1,h2⟩:=st;obtain⟨xs,ys,x,y,M,O,hx,hy⟩:=hg;obtain⟨us,Y,p1,z1⟩:=`dk M;obtain⟨ws,Z,p2,z2⟩:=`dk O;obtain⟨u,hu,ru⟩:=Y.get hx;obtain⟨w,hw,c4⟩:=Z.get hy;have hT:`azt := `WM;have ez:e≠z:=(hne z `S).symm;have b6:e≠TI:=(hne TI `S).symm;have a8:e≠TO:=(hne TO `S).symm;have b3:e≠i1:=(hne i1 `S).symm;have b2:e≠i2:=(hne i2 `S).symm;unfold pyNext;refine A0 (l4 (E5 (name:=`nb) hT l8
   (C9 l8 hT Cy0
    (ZipL.c40 he (R:=λv h'=>v=`d!/\ZipL.ir0 h' z TI TO/\`azj/\`Bd i1 a `bM/\`Bd i2 b `bM/\`ff h' `an u w/\`x5 /\
      `Ns)
     (λQ' e5=>ZipL.d80 D hz F J h1 h2 `iA `xI (x:=u) (y:=w) `wU `z2 λh' a1 a2 a3 a4 a5 a6 hk=>e5 _ h' ⟨rfl,a1,a2,a3,a4,a5,a6,hk⟩ (hk _ _ ez a8 b3 b2 he))
     λv h₁ h' hR ho e4 c0=>`cZ) (Cz0 _))))
  obtain⟨rfl,a1,a2,a3,a4,a5,a6,hk⟩:=hR;refine⟨_,rfl,Ch0 (s:=`Wi) ho λb0 b1 hs=>?_⟩;have lt:∀{c o},`uC->`azu:=λe=>`cX
  obtain⟨v0,f0,e3,_⟩:=id hz;have le:=lt he;have lz:=lt e3;have e8:=lt J;have e7:=lt F;obtain⟨o1,e1,_⟩:=id h1;obtain⟨o2,e2,_⟩:=id h2;have l1:=lt e1;have l2:=lt e2;have a7:∀c∈`x7,`azu:=λc hc=>by
   simp only[`aX,`a7,`a8] at hc;rcases hc with rfl|rfl|rfl|rfl|rfl|rfl<;>assumption
  obtain⟨I1,fr⟩:=`axc (h':=`eC) (t':=`aZ) (fp:=`x7) hf ru c4 a7 a5 (λc o hc e=>by
   simp only[`aX,`a7,`a8,`r?] at hc;exact `azv)
  have up:∀c o,c≠e->`acI c=`_->b0.get? c=`_:=λc o hc q=>(`fK c hc).trans (c0 c o hc q)
  obtain⟨I2,c5⟩:=I1.turnedNew (h':=b0) (t':=`oY) (fp:=`x7) (x:=`dN) (u:=`Wj) (y:=`d!) (w:=`d!) `aw' `aq rfl
   (λc hc=>by show c<h₁.objs.size;rw[a6];exact k7 (a7 c hc)) ((`fK _ (by show `kV≠e;rw[a6];exact D8 (k7 le))).trans e4) (λc o hc q=>by
   simp only[`aX,`a7,`a8,`r?] at hc;exact up c o hc.1 q)
  refine⟨`WI,_,I2,rfl,⟨_,`an,x,y,rfl,`pj,`tt,rfl,λys a0=>by rw[`zD a0 M];exact hx,λe6 a0=>by rw[`zD a0 O];exact hy⟩,
   ⟨`axd,?_,up _ _ b6.symm (hk _ _ D.TIz D.TITO D.TIi1 D.TIi2 F),?_,a3.at λo q=>up _ o b3.symm q,a4.at λo q=>up _ o b2.symm q⟩,c5⟩
  ·obtain⟨v,f,q1,q2⟩:=a1
   exact⟨v,f,up _ _ ez.symm q1,q2⟩
  ·obtain⟨p',q',r⟩:=a2
   exact⟨p',q',up _ _ a8.symm r⟩
 done:=by
  intro X hP hw hK hc i pins s σ H E I hf st hg;subst hP hw hK;obtain⟨⟨old,he⟩,hz,F,⟨p,q,J⟩,h1,h2⟩:=st;obtain⟨xs,ys,M,O,b4⟩:=hg;obtain⟨us,Y,p1,z1⟩:=`dk M;obtain⟨ws,Z,p2,z2⟩:=`dk O;have l1:=Y.length;have l2:=Z.length;have hT:`azt := `WM;unfold pyNext;refine A0 (l4 (E5 (name:=`nb) hT l8
   (C9 l8 hT Cy0 ?_ (Cz0 _))))
  show `azo;refine A0 (B8 he rfl (x:=`p') rfl ?_);refine A0 (ZipL.mm0 (A:=X.A.in1) `eX D hz F J h1 h2 `iA `xI (b4.imp (`azw) `azw) λh' x hk b5=>?_);obtain⟨o,ho,c3⟩:=b5;refine A0 (i6 (T := `Nn) (b:=`c) ⟨o,ho,c3⟩ `ayW ?_);refine A1 ⟨rfl,I.turnedL (t':=`aZ) (fp:=`x7) hf λc o hc e=>?_⟩;simp only[`aX,`a7,`a8,`r?] at hc;exact `azv
 self:=λ_ _ _ _ _ st h=>by
  obtain⟨⟨old,he⟩,_⟩:=st;exact l0 he h
noncomputable def Te0(K:`D)(ta:TA):TI:=fun σ H R=>ta σ H λvs H1=>∃a b,vs=[`dD,`ku]/\`Si/\(∃ys,SqL K H1 b ys)/\R `azs H1
theorem Y90{a:`z}{ta:TA}{p pos p2 pos2:Pos}(hg1:`Hh)(hm1:`Hi)(hg:`azx)(hm:`azy)(ha:`alB)
  (e1:`azz:=by rfl) (h1':`hd:=by rfl)
  (hs:`azA:=by rfl) (hs2:`azB:=by rfl) :
  PI X `Hj `azC (Te0 X.K ta):=by
 intro pins s σ H R I h;refine `wZ (zo0 I hg1 hm1 l20 ?_);refine E3 ?_ e1 h1';rw[e1];show `l _ _ (`rk (`aeE::`AN)) _ _ s;refine N3 ?_;refine L4 (zo0 I hg hm boot_zip ?_);refine E3 `aw5 hs hs2;obtain⟨qa,qb,e,⟨xs,h1⟩,⟨ys,h2⟩,q⟩:=q1;subst e;cases r1 with
 | cons r rr =>
  cases rr with
  | cons r' rr =>
   cases rr;obtain rfl:=r;obtain rfl:=r';obtain⟨us1,v1,p1,z1⟩:=`Wk;obtain⟨us2,v2,p2,z2⟩:=`Bh h2;have a1:qa<s1.heap.objs.size:=by obtain⟨_,e,_⟩:=`iA;exact `cX
   have a2:qb<s1.heap.objs.size:=by obtain⟨_,e,_⟩:=`xI;exact `cX
   refine call_zip_2 `iA `xI λh' hz J O Z M Y hk=>Q2 ?_
   refine ZipL.k20 (s:=`axf) hz λa0 he a3 F=>?_
   refine l0 (s:={ s1 with heap:=a0 }) he ?_;have sz:`p!=`ea+5:=Y;refine⟨_,_,_,_,H1,rfl,`zE (t':=`zF) λb o q=>F b o (hk b o q),eh0 (zipApart_new a1 a2) (`azD),⟨⟨_,he⟩,⟨_,_,F _ _ hz,`a3⟩,F _ _ J,⟨_,_,F _ _ O⟩,Z.at `azE,M.at `azE⟩,`fA,q⟩
   ·simp only[`aX,`a7,`a8] at hc
    show c≠`p!;rw[sz];rcases hc with rfl|rfl|rfl|rfl|rfl<;>exact B9 `g
   ·simp only[`aX,`a7,`a8] at hb
    rcases hb with rfl|rfl|rfl|rfl|rfl|rfl
    ·show u10 X `i H1 `p!
     rw[sz];exact `pe (D6 _ 5) (`mC (D6 _ 5))
    ·exact `pe (D6 _ 4) (`mC (D6 _ 4))
    ·exact `pe (D6 _ 2) (`mC (D6 _ 2))
    ·exact `pe (D6 _ 3) (`mC (D6 _ 3))
    ·exact `rp
    ·exact `axg
universe L2
namespace DL
open Spec PyProof.Rows L2
noncomputable def ur0(ds es:`n):`n:=Y6 (`av? λp=>`fE [p.1,p.2])
noncomputable def fx0:`TQ
 | `av!=>`a (`HA)
 | _=>`b
theorem ji0{es:`n}(h1:`Gm)(h2:`WO):(`HA)[i]?=`a (`azF):=by
 have hz:`azG:=`azH;unfold ur0 Y6;rw[`a_,`r' (by rw[`M,`dM];omega),`cC,`bI,`a_,hz];rfl
noncomputable def te0(gA:`da):`da:=fun δ=>`g? fx0
section
variable{a:`z}
theorem bq0(hm1:`Hi)(hm:`azy)(ha:`arm)(hg1:`Hh := by rfl)(hg:`azx := by rfl)
  (e1:`azz:=by rfl) (h1':`hd:=by rfl)
  (hs:`azA:=by rfl) (hs2:`azB:=by rfl) :
  PID X `Hj `azC (te0 gA):=.mk λB δ=>`ok (Y90 hg1 hm1 hg hm `bV e1 h1' hs hs2) fun σ H R ⟨`aK,en,e1,k⟩=>by
 unfold te0 at e1;cases e2:`cg with
 | none=>rw[e2] at e1;cases e1
 | some ds =>
  rw[e2] at e1;simp only[`j] at e1;unfold fx0 at e1;split at e1<;>try cases e1
  rename_i ds es;refine`xB;rw[o9] at r;obtain⟨x,t,rfl,r1,r⟩:=r;rw[o9] at r;obtain⟨y,t,rfl,r2,r⟩:=r;rw[m9] at r;subst r;rw[X7] at r1 r2;obtain⟨q1,us,rfl,s1,t1⟩:=r1;obtain⟨q2,ws,rfl,s2,t2⟩:=r2;have F:(`HA).length=min `fv `n9:=by unfold ur0 Y6;simp[`Hl,t2.length]
  refine⟨q1,q2,rfl,`axh,⟨ws,s2.to⟩,`axi⟩
  ·rw[F] at hi
   have h1:i<us.length:=`p
   have h2:i<ws.length:=`p
   exact⟨us,ws,us[i],ws[i],`uH,`WP,by simp[h1],by simp[h2]⟩
  ·obtain⟨t,u,x,y,rfl,hu,ht,rfl,hx,hy⟩:=y
   rw[F,`Hl,t2.length] at hi;have h1:`Gm:=`p
   have h2:`WO:=`p
   obtain⟨x',e4,rx⟩:=t1.get (i:=i) (B6 h1);obtain⟨y',e5,ry⟩:=t2.get (i:=i) (B6 h2);have ex:=`axj;have ey:=hy ws `WP;rw[e4] at ex;rw[e5] at ey;cases ex;cases ey;have tu:t≠u:=λz=>by subst z;rw[j8] at ht;cases ht
   have J:H2 t=`b:=by rw[d8 tu] at ht;exact ht
   refine⟨(X3 hu).trans (X3 ht),`azF,ji0 h1 h2,`axk⟩;exact nl0 (λz=>hb t z J) j8 `ug (nl0 (λz=>hb u z hu) (by rw[d8 tu.symm,j8]) (rx.mono gB) (ry.mono gB))
  ·rw[F] at hi
   exact⟨us,ws,`uH,`WP,`p⟩
universe zz
universe DL
namespace DL
open Spec PyProof.Rows L2
theorem o10:∀ns:`au,`hS ns ns=`q
 | []=>rfl
 | n::ns=>by rw[`os,`aB,o10 ns]
theorem if0:∀ns ms:`au,J7 `HB (ms.map `aQ)=`c->ns=ms
 | [],[],_=>rfl
 | [],`cB,h=>`azI
 | `cB,[],h=>`azI
 | n::ns,m::ms,h=>by
  rw[`Z,`Z,J7,`bs] at h;have h1:n=m:=by have:=h.1;rw[deq] at this;simpa using `x
  rw[h1,if0 ns ms h.2]
theorem xz0(ns:`au)(k:Nat):`bx `u0 `bS=`c:=by
 show `cw `uP k=`c
 induction ns with
 | nil=>rfl
 | cons n ns ih=>rw[`Z,`cw,ih];rfl
universe DL
namespace W
open DL
noncomputable def hasAll(x s:Str):`V:=x.cps.toList.all λc=>`G (c∈`BT)
noncomputable def nameS:Str := "0123456789abcdefghijklmnopqrstuvwxyz"
noncomputable def ki0:Str := " 0123456789abcdefghijklmnopqrstuvwxyz"
noncomputable def isName(x:Str):`V:=(`G (`azJ<=8)&&hasAll x nameS)&&`G (0<(`m2:Int))
noncomputable def isWord(x:Str):`V:=`G (`azJ<=20)&&hasAll x ki0
noncomputable def marks(x:D)(m:Str):`V:=match x with
 | `E y=>`G (y=m)
 | _=>`q
noncomputable def m30:`cD
 | `w=>`c
 | `b!=>`c
 | `WQ=>marks x "at"&&`G (`gC)
 | _=>`q
noncomputable def Ph0:D->Str
 | `m (`E n::_)=>n
 | _ => ""
inductive Pt where
 | text (w:Str)|row (vs:`n)|table (ps:`eu)|rcd (c:Str) (ps:`eu)
variable{ps qs:`T W.Pt}
noncomputable def pr(p:Str×D):D:=`m [`E p.1,p.2]
noncomputable def Pt.d:Pt->D
 | `sj=>`azK
 | `sk=>`m [`Bs,`m vs]
 | `ou=>`m [`uU,`k2]
 | `HC=>`m [`Bv,`qu,`k2]
noncomputable def Pt.vals:Pt->`n
 | .text _=>[]
 | `sk=>vs
 | `ou=>`hU
 | `qf _ ps=>`hU
noncomputable def Pt.pnames:Pt->`u
 | .text _=>[]
 | .row _=>[]
 | `ou=>`nc
 | `qf _ ps=>`nc
noncomputable def Pt.cls:Pt->`u
 | `qf c _=>[c]
 | _=>[]
noncomputable def Pt.all(p:Pt):`u:=p.pnames++p.cls
noncomputable def lk:D->`bC
 | `HD=>`Fd
 | _=>`b
structure PsOk(ps:`eu):Prop where
 len:`am<=12
 names:∀p∈ps,`u1 p.1=`c
 vals:∀p∈ps,m30 p.2=`c
 nd:(`nc).Nodup
noncomputable def Pt.Ok:Pt->Prop
 | `sj=>`azL
 | `sk=>`B6/\∀v∈vs,`WR
 | `ou=>`WS
 | `HC=>`u1 c=`c/\`WS
theorem ej0{n:Str}(h:`u1 n=`c):n.length<=8:=by
 unfold isName at h;simp only[`bs,`l2] at h;omega
theorem iu0(ps:`eu):V1 `bb noT `hV [.un] `kW=`azM:=by
 rw[zb0 `azN (λd hd=>by
  obtain⟨p,hp,rfl⟩:=`d1;exact`azO),`b3]
 rfl
theorem i50(ps:`eu):V1 `bb noT `gJ [.un] `kW=`azP:=by
 rw[zb0 (λd=>`E (Ph0 d)) (λd hd=>by
  obtain⟨p,hp,rfl⟩:=`d1;exact`azO),`b3,`b3]
 rfl
noncomputable def Pt.few(p:Pt):Prop:=`B0<=`W
theorem l70{v:D}(h:`WR):`nr∨(∃i,`rg)∨∃i,v=`m [`gM,`aj]/\`gC:=by
 cases v with
 | non=>exact `a3
 | int i=>exact `WT
 | tup xs =>
  match xs,h with
  | [x,`aj],h =>
   simp only[m30,`bs,`l2] at h;cases x<;>simp[marks] at h
   exact `h (`h ⟨i,by rw[h.1],h.2⟩)
 | _=>cases h
noncomputable def S5:Str := `ae6
noncomputable def cg(i:Int):Nat:=`HE `eb 0
theorem f90(i:Int)(h0:`gC)(h1:i<36):ixD (`u2) `dj=`a (`azQ):=by
 have hl:S5.cps.toList.length=36:=`aY
 have hz:S5.length<=`W:=`aY
 have:=za0 (xs:=S5.cps.toList) (i:=i) h0 `azR 0;simp only[ixD,`H hz,`x,`cC];rfl
theorem a70(i:Int)(h0:`gC)(h1:i<36):cg i∈`sl:=by
 have h:∀n:Nat,n<36->`HE n 0∈`sl:=`aY
 exact h `eb `g
theorem R00(i j:Int)(h0:`gC)(h1:i<36)(h2:0<=j)(h3:j<36)(e:cg i=cg j):i=j:=by
 have h:∀n:Nat,n<36->∀m:Nat,m<36->`HE n 0=`HE m 0->n=m:=`aY
 have:=h `eb `g `nv `g e;omega
noncomputable def ones(l:`e):`u:=`dJ λc=>`ach
noncomputable def strOf(l:`e):Str:=⟨`WU⟩
theorem join_ones(l:`e):`acU "" (ones l)=`uS:=by
 have key:∀(l:`e) (F:`e),`azS (λa p=>a++`NK++p.cps) `aeG=(F++l).toArray:=by
  intro l
  induction l with
  | nil=>intro F;simp[ones]
  | cons c l ih =>
   intro F;show `azS _ (`azT)=_;have e:`azT=(F++[c]).toArray:=by
    have:`NK=#[]:=rfl;rw[`x];simp
   rw[e,ih];simp
 cases l with
 | nil=>rfl
 | cons c l =>
  show `azU=_;unfold strOf;congr 1;exact key l [c]
theorem lm0:∀l:`e,`azV=`cS
 | []=>rfl
 | c::l=>by
  show 1+`azV=`cS+1;rw[lm0 l];omega
theorem mz0(l:`e)(h1:0<l.length)(h2:`cS<=8)(h3:∀c∈l,c∈`sl):`u1 `x8=`c:=by
 unfold isName hasAll;have e:`azW:=`azX
 have e2:`azY:=`azZ
 rw[e,e2];simp only[`bs,`l2,`jV];exact⟨`az_,`p⟩
theorem lk0{l m:`e}(h:`uS=`ba m):l=m:=by
 unfold strOf at h;injection h with h
 simpa using C5 `abx h
universe W
variable{ps qs:`T W.Pt}
namespace Wa
open DL
noncomputable def qr0:GS:=(u6 (ifD (J5 `ov `ow)
 (u6 (yl0 `fh)
 p7)
 p7)
 (u6 (yl0 (V5 1 [] `HF `bb noT `gJ))
 p7))
noncomputable def u40:`u:=`fr
noncomputable def zn0:`J:=mkN 1 u40 qr0
noncomputable def b70:GS:=(u6 (ifD `ov
 (u6 (Z0 (m7 (z9 `Br `NN)))
 p7)
 p7)
 (u6 (ifD `ow
 (u6 `az0
 p7)
 p7)
 (u6 (ifD `az1
 (u6 (Z0 (m7 (z9 `Bu `az2)))
 p7)
 p7)
 (u6 (Z0 (m7 (z9 `WV (z9 `hV `az2))))
 p7))))
noncomputable def bx0:`u:=`fr
noncomputable def z00:`J:=mkF 1 bx0 b70
noncomputable def jm0:GS:=(u6 (ifD `ov
 (u6 (yl0 `fh)
 p7)
 p7)
 (u6 (ifD `ow
 (u6 `az3
 p7)
 p7)
 (u6 (yl0 (V5 1 [] `HF `bb noT `hV))
 p7)))
noncomputable def pt0:`u:=`fr
noncomputable def m_values:`J:=mkN 1 pt0 jm0
noncomputable def g40:GS:=(u6 `az4
 (u6 (m8 `bP (o2 `I `aC yy0))
 (u6 (V2 `HG
 (u6 (W7 (S9 2 `qg))
 (u6 `az5
 p7)) 100000)
 (u6 (yl0 (xu0 (oA `c6 o20)))
 p7))))
noncomputable def i60:`u:=[`Qy, `ll, "backward", "step"]
noncomputable def zv0:`J:=mkN 2 i60 g40
noncomputable def pn0:GS:=(u6 (Z0 (ei0 (U7 `cI `gJ) (U7 `cI `hV)))
 p7)
noncomputable def t30:`u:=`ln
noncomputable def R4:`J:=mkF 1 t30 pn0
noncomputable def re0:GS:=(u6 (Z0 (m7 (z9 (o2 `gJ `aM ixD) (z9 (o2 `hV `aM ixD) v7))))
 p7)
noncomputable def rc0:`u:=`ln
noncomputable def X6:`J:=mkF 1 rc0 re0
noncomputable def rd0:GS:=(u6 (ifD (ob `az6)
 (u6 (m8 `bP (oA `c6 X6))
 (u6 (Z0 (o2 `az7 `az8 Q8))
 p7))
 p7)
 (u6 (Z0 (o2 `nd `qh Q8))
 p7))
noncomputable def rf0:`u:=[`q5, `q6, `Bw, `ll]
noncomputable def O2:`J:=mkF 3 rf0 rd0
noncomputable def sz0:GS:=(u6 `az9
 (u6 (ifD `az'
 (u6 `az!
 p7)
 p7)
 (u6 (T5 4 (Z7 `c6))
 (u6 (m8 `fi `bG)
 (u6 (V2 `az?
 (u6 `aAa
 (u6 `aAb
 (u6 (M8 `aAc `qF
 (u6 (ifD `aAd
 (u6 `aAe
 p7)
 p7)
 (u6 (ifD `aAf
 (u6 `aAg
 (u6 `aAh
 p7))
 p7)
 p7)))
 p7))) 100000)
 (u6 (Z0 (xu0 (m7 (z9 `aF (z9 `fY v7)))))
 p7))))))
noncomputable def xq0:`u:=[`q5, `q6, "start", `Qy, "waiting", `WW, `ll, "place", `Bw]
noncomputable def Y5:`J:=mkF 3 xq0 sz0
noncomputable def uf0:GS:=(u6 (M8 (qx0 `eL) `qU
 (u6 (M8 (ye0 `x9) `bP
 (u6 (ifD `aAi
 (u6 `aAj
 p7)
 p7)
 p7))
 p7))
 (u6 `HH
 p7))
noncomputable def ui0:`u:=[`sm, `WW, `ll, "ahead"]
noncomputable def c7:`J:=mkF 1 ui0 uf0
noncomputable def h40:GS:=(u6 (m8 `eN (oA `ahG Y5))
 (u6 (m8 `bP (oA `ahI c7))
 (u6 (ifD `HG
 (u6 (Z0 (m7 (z9 `Py (z9 (oA (z9 `nd (z9 `uV v7)) zv0) (z9 (oA (z9 `nd (z9 `qg v7)) zv0) v7)))))
 p7)
 p7)
 (u6 (ifD (ob (o2 `qh `fY vr0))
 (u6 (Z0 (m7 (z9 `Pz (z9 `qh v7))))
 p7)
 p7)
 (u6 `HH
 p7)))))
noncomputable def h00:`u:=[`q5, `q6, "walk", "crossing"]
noncomputable def W3:`J:=mkF 2 h00 h40
noncomputable def ty0:GS:=(u6 (ifD (ob (o2 `aC `gO ltD))
 (u6 (Z0 `af2)
 p7)
 p7)
 (u6 (Z0 `bG)
 p7))
noncomputable def tj0:`u:=`DR
noncomputable def Y0:`J:=mkF 2 tj0 ty0
noncomputable def pm0:GS:=(u6 `aAk
 (u6 `aAl
 (u6 `aAm
 (u6 `HI
 (u6 (M8 (Q6 `gP) `fi
 (u6 `aAn
 (u6 `aAo
 p7)))
 (u6 `aAp
 (u6 (ifD (ob (o2 (o2 (o2 `aC `gK Y9) `js Z4) `aM eqD))
 (u6 (yl0 (V5 1 [6] (d90 (z9 `aM (z9 `BD v7))) `bb noT (U5 (o2 `gK `aC mg0) V8 (`eM `I))))
 p7)
 p7)
 (u6 (m8 `uY (o2 `aC `aF Z4))
 (u6 (T5 8 `fh)
 (u6 (M8 (Q6 (z9 `gK v7)) `fi
 (u6 `aAq
 (u6 `aAr
 p7)))
 (u6 (pp0 8)
 p7)))))))))))
noncomputable def v20:`u:=[`gL, `DH, `ait, "_law_size", `WX, `c8, `aiu, `WY, `qM, "_law_sign"]
noncomputable def xl0:`J:=mkN 2 v20 pm0
noncomputable def og0:GS:=(u6 (Z0 (o2 (o2 (o2 (o2 `I `NX Z4) `aM d9) (o2 `afc (o2 (gc (`d 7)) `aC J4) d9) J4) `NX Z4))
 p7)
noncomputable def oy0:`u:=`DL
noncomputable def R6:`J:=mkF 2 oy0 og0
noncomputable def rl0:GS:=(u6 (m8 `eN `aAs)
 (u6 (ifD (ob (o2 `bQ `qO ltD))
 (u6 (Z0 (m7 (z9 `nh (z9 (o2 `WZ `aC Z4) v7))))
 p7)
 p7)
 (u6 (ifD (ob (o2 `bQ `qO eqD))
 (u6 `HH
 p7)
 p7)
 (u6 (ifD (ob (o2 `bQ `BD ltD))
 (u6 (Z0 (o2 (o2 `WZ `js Z4) `aM eg0))
 p7)
 p7)
 (u6 (Z0 (o2 (o2 (o2 `WZ (gc (`d 7)) iz0) (o2 `NW `ni iz0) Z4) (o2 `aM (o2 `gN (o2 (o2 `I (gc (`d 20)) Y9) `gN Z4) J4) eg0) J4))
 p7)))))
noncomputable def qo0:`u:=[`nU, `jQ, `aAt]
noncomputable def M9:`J:=mkF 2 qo0 rl0
noncomputable def sy0:GS:=(u6 `W_
 (u6 (M8 (Q6 `hX) `fp
 (u6 `aAu
 (u6 `aAv
 p7)))
 (u6 `W0
 p7)))
noncomputable def rj0:`u:=[`nU, `QC, `jQ, `qM, `c8]
noncomputable def y60:`J:=mkN 3 rj0 sy0
noncomputable def po0:GS:=(u6 (m8 `bP `NR)
 (u6 (ifD `aAw
 (u6 (Z0 (m7 (z9 `Br (z9 (o2 `aAx `aAy ixD) v7))))
 p7)
 p7)
 (u6 (ifD `aAz
 (u6 `W1
 p7)
 p7)
 (u6 (m8 `fp `aAA)
 (u6 (m8 `fi `aAB)
 (u6 (ifD (ob (o2 `aF `qO ltD))
 (u6 (Z0 (m7 (z9 `Bu `vc)))
 p7)
 p7)
 (u6 (Z0 (m7 (z9 `WV (z9 (o2 `bQ (o2 `afg `gN Z4) ixD) `vc))))
 p7)))))))
noncomputable def uv0:`u:=[`nU, `jt, `q7, `aAt, `aiv, "_law_pairs"]
noncomputable def xh0:`J:=mkF 3 uv0 po0
noncomputable def ob0:GS:=(u6 `W_
 (u6 (M8 (Q6 `hX) `fp
 (u6 `aAC
 (u6 `aAD
 (u6 (ifD `aAE
 (u6 `aAF
 p7)
 p7)
 (u6 `aAG
 (u6 `aAH
 p7))))))
 (u6 (Z0 (xu0 (oA `gP R3)))
 p7)))
noncomputable def oh0:`u:=[`aix, `jQ, `q7, `aAI, `c8, `nU, `QC, `jt]
noncomputable def wi0:`J:=mkF 3 oh0 ob0
noncomputable def pl0:GS:=(u6 (ifD `ov
 (u6 (yl0 `fh)
 p7)
 p7)
 (u6 (ifD `ow
 (u6 `az3
 p7)
 p7)
 (u6 (yl0 (V5 2 [] `HF `HJ noT `aC))
 p7)))
noncomputable def uu0:`u:=`lq
noncomputable def j5:`J:=mkN 1 uu0 pl0
noncomputable def pi0:GS:=(u6 (ifD `ow
 (u6 `az0
 p7)
 p7)
 (u6 (ifD `ov
 (u6 `sn
 p7)
 p7)
 (u6 (Z0 (o2 `W2 (m7 (z9 (oA (z9 (V5 2 [] `HF `HJ noT `I) v7) R3) v7)) d9))
 p7)))
noncomputable def uw0:`u:=`lq
noncomputable def m5:`J:=mkF 1 uw0 pi0
noncomputable def pj0:GS:=(u6 (ifD `ov
 (u6 `sn
 p7)
 p7)
 (u6 (ifD `ow
 (u6 `W1
 p7)
 p7)
 (u6 (Z0 (o2 `W2 `aAJ d9))
 p7)))
noncomputable def t40:`u:=`DP
noncomputable def V9:`J:=mkF 2 t40 pj0
noncomputable def oz0:GS:=(u6 `az4
 (u6 (M8 (ye0 (oA `eL j5)) `bP
 (u6 (ifD `Px
 (u6 `aAK
 p7)
 p7)
 (u6 (W7 `W3)
 p7)))
 (u6 (Z0 (xu0 (oA `BC V9)))
 p7)))
noncomputable def n80:`u:=[`ng, `DM, `jt, `QF]
noncomputable def ze0:`J:=mkF 2 n80 oz0
noncomputable def u70:GS:=(u6 (m8 `eN (oA (z9 (oA (z9 `I `qj) Y0) (z9 (oA (z9 `I `afl) Y0) v7)) xl0))
 (u6 (m8 `bP (oA (z9 `I (z9 `gN v7)) Y0))
 (u6 (m8 `fp (o2 `aM `aAL d9))
 (u6 (Z0 (oA (z9 (o2 `aAM `aAN d9) (z9 `cj `c6)) wi0))
 p7))))
noncomputable def ud0:`u:=[`kY, `aiy, `q7, `DH, `jQ]
noncomputable def G7:`J:=mkF 2 ud0 u70
noncomputable def t60:GS:=(u6 `W4
 (u6 `W5
 (u6 (ifD `Pv
 (u6 `sn
 p7)
 p7)
 (u6 (m8 `fp (o2 `ag_ `agZ Z4))
 (u6 (V3 (V7 (oA (z9 (o2 `ag8 (gc (`aAO)) Z4) `N7) M9)) `W6)
 (u6 `aAP
 p7))))))
noncomputable def tr0:`u:=[`g2, `gL, `c8, `jt, `WY]
noncomputable def G4:`J:=mkF 2 tr0 t60
noncomputable def ql0:GS:=(u6 (T5 1 `fh)
 (u6 (T5 2 (Z7 `qj))
 (u6 (V2 `HK
 (u6 `aAQ
 (u6 (ifD `aAR
 (u6 (W7 `W7)
 (u6 (M8 `aAS `fp
 (u6 (ifD `W8
 (u6 (W7 (S9 2 `nJ))
 p7)
 p7)
 p7))
 p7))
 p7)
 p7)) 100000)
 (u6 (pp0 1)
 p7))))
noncomputable def q30:`u:=[`g2, `qM, "_law_waiting", `c8, `QF]
noncomputable def wa0:`J:=mkN 1 q30 ql0
noncomputable def u90:GS:=(u6 (m8 (gN 1) (oA `eL wa0))
 (u6 (T5 2 `GP)
 (u6 (M8 (ye0 `aC) `bP
 (u6 (V3 `aAT (`uB 2 `aF))
 p7))
 (u6 (Z0 (xu0 (oA (z9 (V5 1 [0,2] (ye0 `aC) `bb noT (oA `W9 ze0)) v7) R3)))
 p7))))
noncomputable def xt0:`u:=[`g2, "_law_order_here", `DM, `c8]
noncomputable def V0:`J:=mkF 1 xt0 u90
noncomputable def r00:GS:=(u6 (T5 2 (oA (z9 `aM `hX) na0))
 (u6 (T5 3 (Z7 `qj))
 (u6 (V2 `HK
 (u6 `aAU
 (u6 `aAV
 p7)) 100000)
 (u6 `W0
 p7))))
noncomputable def ri0:`u:=[`gL, `jQ, "_law_left", `qM]
noncomputable def xp0:`J:=mkN 2 ri0 r00
noncomputable def vl0:GS:=(u6 (m8 `bP (oA (z9 `aC (z9 `aAW v7)) xp0))
 (u6 (T5 4 (o2 (Z7 (z9 (m7 (z9 `Br (z9 (gc (`E "b")) v7))) v7)) `aAW mulL))
 (u6 (M8 `Pw `fi
 (u6 `aAX
 p7))
 (u6 (M8 (Q6 `c6) `fi
 (u6 `aAY
 p7))
 (u6 (Z0 (xu0 (m7 (z9 (oA `By R3) (z9 (U5 `aF V8 (`eM `gO)) v7)))))
 p7)))))
noncomputable def vm0:`u:=[`g2, `gL, `DT, `WX, `aAI, `c8]
noncomputable def O1:`J:=mkF 3 vm0 vl0
universe Wa
namespace Pn
open Wa
open DL W
noncomputable def y30:GS:=(u6 (ifD `ov
 (u6 `sn
 p7)
 p7)
 (u6 (ifD `ow
 (u6 `W1
 p7)
 p7)
 (u6 (m8 `eN (oA (z9 `aeH `hX) dj0))
 (u6 (ifD `az1
 (u6 (Z0 (m7 (z9 `Bu `c6)))
 p7)
 p7)
 (u6 (Z0 (m7 (z9 `WV (z9 `hV `c6))))
 p7)))))
noncomputable def y50:`u:=[`uT, "some", "pairs"]
noncomputable def K7:`J:=mkF 2 y50 y30
theorem z90(p:Pt)(h:`e_):`W':=by
 cases p with
 | text w=>kernel_rfl
 | row vs =>
  refine `aAZ
 | table ps =>
  refine `aA_;exact `aA0
 | rcd c ps =>
  refine `aA1;exact `aA0
theorem ra0(p:Pt)(h:`e_):zn0 `ju=`a (`o (p.pnames.map `E)):=by
 cases p with
 | text w=>kernel_rfl
 | row vs=>kernel_rfl
 | table ps =>
  refine K1 rfl `afE;exact `aA2
 | rcd c ps =>
  refine K1 rfl `afG;exact `aA2
noncomputable def hd:Pt->D
 | `sj=>`azK
 | `sk=>`m [`Bs,`d `cf]
 | `ou=>`m [`uU,`BJ]
 | `HC=>`m [`Bv,`qu,`BJ]
noncomputable def put:Pt->`n->Pt
 | `sj,_=>`sj
 | .row _,vs=>`sk
 | `ou,vs=>.table (`N!)
 | `HC,vs=>`qf c (`N!)
theorem mv0(p:Pt)(h:`e_):z00 `ju=`a (hd p):=by
 have e:=ra0 p h;cases p with
 | text w=>kernel_rfl
 | row vs=>kernel_rfl
 | table ps =>
  refine j4 rfl (u5 (δ':=`qk) `b8 (u5 (δ':=`qk) `b8 `eg));rw[`BF];refine o8 (Z2 (b8 (`v rfl `aA3) `vs));rw[o7 (`v `aA4 rfl)];rfl
 | rcd c ps =>
  refine j4 rfl (u5 (δ':=`nj) `b8 (u5 (δ':=`nj) `b8 (u5 (δ':=`nj) `b8 ?_)));refine o8 (Z2 (b8 (`v rfl (`v (d:=`qu) rfl `aA3)) (by show `Oi;decide)));rw[o7 (`v `aA5 rfl)];rfl
theorem bz0(ns:`u)(vs:`n):dj0 [`o (`gA `E),`hY]=`a (`m ((ns.zip vs).map pr)):=by
 simp only[dj0];rw[List.zip_map_left,`b3];rfl
theorem tm0(p:Pt)(h:`e_)(vs:`n):K7 `On=`a (put p vs).d:=by
 have e:=ra0 p h;cases p with
 | text w=>kernel_rfl
 | row us=>kernel_rfl
 | table ps =>
  refine j4 rfl (u5 (δ':=`aA6) `b8 (u5 (δ':=`aA6) `b8 (u5 `aA7 `eg)))
  ·rw[o7 (`v `aA4 `ei)]
   exact bz0 _ _
  ·rw[`BF]
   rfl
 | rcd c ps =>
  refine j4 rfl (u5 (δ':=`aA8) `b8 (u5 (δ':=`aA8) `b8 (u5 `aA7
   (u5 (δ':=[`BI,`dO,.sh (`u_)]) `b8 ?_))))
  ·rw[o7 (`v `aA5 `ei)]
   exact bz0 _ _
  ·rfl
theorem Xa0(h:∀d∈l,`kI):`cw l n=`c:=by
 induction l with
 | nil=>unfold leans;rfl
 | cons d l ih =>
  unfold leans;rw[`HL,`W!];rfl
theorem ue0(s:Str)(n:Nat):`bx (`q!) n=`c:=`aA9
theorem xv0(h:∀d∈l,`kI):`bx `wr `gT=`c:=by unfold lean;exact Xa0 h
mutual
theorem ps0:`avp
 | `w,_,_=>`avq
 | `ce,_,_=>`r7
 | `g',_,_=>`r7
 | `rF,_,_=>`r7
 | `bO,0,h=>by unfold lean at h;cases h
 | `bO,n+1,h=>`aA'
 | `ct,0,h=>by unfold lean at h;cases h
 | `ct,n+1,h=>`aA'
 | `kb,n,h=>by unfold lean at h;cases h
 | `kc,n,h=>by unfold lean at h;cases h
theorem qu0:`avs
 | [],_,_=>`avt
 | `av,n,h=>by
  unfold leans at h;rw[`bs] at h;unfold J7;rw[ps0 d n h.1,qu0 ds n h.2];rfl
end
mutual
noncomputable def nb:`cD
 | `bD=>`q
 | `kb=>`q
 | `kc=>`q
 | `d7=>nbs xs
 | `cQ=>nbs xs
 | _=>`c
noncomputable def nbs:`Gy
 | []=>`c
 | `j2=>nb x&&nbs xs
end
mutual
theorem is0:∀(d e:D),`HM->nb e=`c->`p2=`c->d=e
 | `w,e,_,h2,h=>by cases e<;>unfold deq at h<;>first|rfl|(cases h)
 | `ce,e,h1,_,_=>by unfold nb at h1;cases h1
 | `aj,e,_,h2,h=>by
  cases e<;>unfold deq at h<;>first|(cases h;done)|(unfold nb at h2;cases h2;done)|(rw[`zk] at h;rw[h])
 | `bY,e,_,h2,h=>by cases e<;>unfold deq at h<;>first|(cases h;done)|(rw[`zk] at h;rw[h])
 | `d7,e,h1,h2,h=>by
  cases e<;>unfold deq at h<;>try (cases h;done)
  unfold nb at h1 h2;rw[`aA!]
 | `cQ,e,h1,h2,h=>by
  cases e<;>unfold deq at h<;>try (cases h;done)
  unfold nb at h1 h2;rw[`aA!]
 | `kb,e,h1,_,_=>by unfold nb at h1;cases h1
 | `kc,e,h1,_,_=>by unfold nb at h1;cases h1
theorem m40:∀(ds es:`n),nbs ds=`c->nbs es=`c->J7 ds es=`c->ds=es
 | [],[],_,_,_=>rfl
 | [],`cB,_,_,h=>by unfold J7 at h;cases h
 | `cB,[],_,_,h=>by unfold J7 at h;cases h
 | `av,`zA,h1,h2,h=>by
  unfold nbs at h1 h2;unfold J7 at h;rw[`bs] at h1 h2 h;rw[is0 d e h1.1 h2.1 h.1,m40 ds es h1.2 h2.2 h.2]
end
theorem dp0(h:∀d∈l,`HM):nbs l=`c:=by
 induction l with
 | nil=>unfold nbs;rfl
 | cons d l ih =>
  unfold nbs;rw[`HL,`W!];rfl
structure Pl(d:D):Prop where
 le:`W?
 nb:`HM
theorem dg0{d:D}(h:`W?):W5 d d=`jM:=by
 unfold W5;rw[`aA?,`aBa]
theorem ni0{d:D}(h:`W?):Q8 d d=`FL:=by
 unfold Q8;rw[`aA?,`aBa];rfl
theorem Yp0{d e:D}(h1:Pl d)(h2:Pl e)(n:d≠e):W5 d e=`FL:=by
 unfold W5;rw[`aBb];cases q:`p2 with
 | false=>rfl
 | true=>exact `aBc
theorem es0{d e:D}(h1:Pl d)(h2:Pl e)(n:d≠e):Q8 d e=`jM:=by
 unfold Q8;rw[`aBb];cases q:`p2 with
 | false=>rfl
 | true=>exact `aBc
theorem zq0(s:Str):nb (`q!)=`c:=`aBd
theorem Ux0(i:Int):nb `dj=`c:=`aBd
theorem z30(h:∀d∈l,`HM):nb `wr=`c:=by unfold nb;exact dp0 h
theorem vt0(p:Pt):Pl (hd p):=by
 have ls:∀(ns:`u) (n:Nat),`bx `aBe `gT=`c:=λns n=>xv0 λd hd=>by
  obtain⟨q,_,rfl⟩:=`d1;exact `x'
 have nn:∀(ns:`u),nb `aBe=`c:=λns=>z30 λd hd=>by
  obtain⟨q,_,rfl⟩:=`d1;exact `x!
 have li:∀(i:Int) (n:Nat),`bx `dj n=`c:=λi n=>`aA9
 cases p with
 | text w=>exact⟨xv0 λd hd=>by simp only[`aX,`a7,`a8] at hd;rcases hd with rfl|rfl<;>exact `x',z30 λd hd=>by simp only[`aX,`a7,`a8] at hd;rcases hd with rfl|rfl<;>exact `x!⟩
 | row w=>exact⟨xv0 λd hd=>by simp only[`aX,`a7,`a8] at hd;rcases hd with rfl|rfl<;>first|exact `x'|exact li _ _,z30 λd hd=>by simp only[`aX,`a7,`a8] at hd;rcases hd with rfl|rfl<;>first|exact `x!|exact Ux0 _⟩
 | table w=>exact⟨xv0 λd hd=>by simp only[`aX,`a7,`a8] at hd;rcases hd with rfl|rfl<;>first|exact `x'|exact ls _ _,z30 λd hd=>by simp only[`aX,`a7,`a8] at hd;rcases hd with rfl|rfl<;>first|exact `x!|exact nn _⟩
 | rcd c w=>exact⟨xv0 λd hd=>by simp only[`aX,`a7,`a8] at hd;rcases hd with rfl|rfl|rfl<;>first|exact `x'|exact ls _ _,z30 λd hd=>by simp only[`aX,`a7,`a8] at hd;rcases hd with rfl|rfl|rfl<;>first|exact `x!|exact nn _⟩
universe Pn
namespace W
open DL StrLaws Builtin.Str
theorem w70(l:`e):`azY:=`azZ
theorem yt0(l:`e):`azW:=`azX
theorem Zs0(x:PySem.Str):`ba x.cps.toList=x:=by cases x;simp[`ba]
universe W
namespace Gw
open Wa
open DL W StrLaws
theorem mul_r(i j:Int)(h:`abU):`aBf:=by simp only[J4];rw[`H (`FF)]
theorem W60(i j:Int)(h:`abT):`aBf:=by simp only[J4];rw[`H (`E5)]
theorem zh0(i j:Int)(h:0<j):Z4 `dj (`cY)=`apO:=by simp only[Z4,ii];rw[`lX]
theorem v90(i j:Int)(h:`EU):Y9 `dj (`cY)=`apN:=by simp only[Y9,ii];rw[`lX]
theorem v60{g:GE}{d:D}(h1:`jh=`a l)(h2:`ix)(h3:`cS<sizeLine):W7 (S9 i g) δ=`a (.nx (`bw i (.ow (`o (l++[d]))))):=by
 unfold W7 S9;rw[h1,h2];simp only[`j];rw[`Vy];rfl
theorem zm0(ns:`au)(k:Int)(h0:`f_):`Xa:=by
 by_cases h:k<ns.length
 ·have F:`c4<ns.length:=`p
  refine⟨ns[`c4],`so⟩;rw[U4 (by
   show `aBg;rw[`bR `Xb])]
  refine `BR;show atI `HB k=_;rw[za0 h0 `Xb `w];simp[`bI,F]
 ·refine⟨0,j4 rfl (u5 (δ':=[`sp,.sh (`fk)]) ?_ rfl)⟩
  rw[Z3 (by
   show `aBg;rw[`cE `Xb])]
  rfl
theorem X10(l:`e)(n:Nat):dl0 `x8 `b7=`ba (`a! n l).flatten:=by
 have key:∀(k:Nat) (F:`M0),(`a! k `WU).foldl `hN F=F++(`a! k l).flatten.toArray:=by
  intro k
  induction k with
  | zero=>intro F;simp
  | succ k ih=>intro F;rw[`dY,`j9,ih,`dY,`lI];simp
 unfold dl0;show (⟨(`a! (`b7).toNat `WU).foldl `hN #[]⟩:Str)=`NL;rw[`aA,key];simp
theorem bs0(l:`e)(k:Int)(h0:`f_)(h1:k<=`cS):`Mu `x8 `b (`ec)=`ba (l.take `c4):=by
 show `aBh;rw[sliceText_to `aBi,w70];simp[`ba]
theorem Tc0(l:`e)(k:Int)(h0:`f_)(h1:k<=`cS):`Mu `x8 (`ec) `b=`ba (l.drop `c4):=by
 show `aBh;rw[sliceText_from `aBi,w70];unfold strOf;congr 2;rw[`HN];rw[`fC];omega
theorem Qr0(a b:`e):`ba a++`ba b=`ba `ra:=by
 show `azU=`NL;simp[`ba]
theorem el0(a b:`e)(h:`nD+`vB<=`W):d9 (`E (`ba a)) (`E (`ba b))=`a (`E (`ba `ra)):=by
 simp only[d9];rw[`H (by rw[yt0,yt0];exact h),Qr0]
structure Pool(nm:`u):Prop where
 len:nm.length=8
 names:∀s∈nm,`aBj
 nd:nm.Nodup
noncomputable def PB:GS:=(u6 `aAn
 (u6 `aAo
 p7))
noncomputable def PC:GS:=(u6 `aAq
 (u6 `aAr
 p7))
theorem nt0(c t:Int):∃nm,`aBk/\`x?:=by
 have z:`HO:=`O
 obtain⟨n,hn⟩:∃n:Nat,`b7=1+c%8:=⟨(1+c%8).toNat,`p⟩;obtain⟨δ',l1,l2⟩:=zz0 (f:=gN 5) (G:=PB) (λi δ=>∃(c':Int) (l:`au) (s5:Sl),δ=[`nm,`eh,`h_,`ds,.ow (`o (`dJ `d)),s5,.un,.un,.un,.un]/\`cS=i/\∀x∈l,0<=x/\x<36) (`ya) 0
  `aBl (by
   rintro j d δ hj ⟨c',l,s5,rfl,hl,hx⟩;obtain⟨O,rfl⟩:=`yb;rw[`aA] at O;refine⟨_,[.sh (`d (c'/36)),`eh,`h_,`ds,.ow (`o ((`aBm).map `d)),`h0,.un,.un,.un,.un],rfl,?_,c'/36,`aBm,_,rfl,`Hw,λx a3=>?_⟩
   ·refine u5 (v60 (l:=`dJ `d) (d:=`d (c'%36)) rfl rfl `fl) ?_
    rw[`aW];rfl
   ·rcases `d' a3 with q|q
    ·exact hx x q
    ·rw[`ee q];omega) ⟨_,[],_,rfl,rfl,λx hx=>by cases hx⟩
 obtain⟨c',pl,s5,rfl,a0,M⟩:=l2;rw[wz0,`aA,`bT] at a0;obtain⟨w,hw⟩:∃w:`e,w=`BO cg:=`aq;have wl:`nz=n:=by rw[hw,`M,a0]
 have wm:∀x∈w,x∈`sl:=λx hx=>by
  rw[hw] at hx;obtain⟨i,hi,rfl⟩:=`r2;exact a70 i (M i hi).1 (M i hi).2
 have Z:∀(G:GS) (r:`py),G `aBn=r ->
   (u6 `aAk
    (u6 `aAl
    (u6 `aAm
    (u6 `HI
    (u6 (M8 (Q6 `gP) `fi PB)
    (u6 `aAp G)))))) [`yc,`eh,.un,.un,.un,.un,.un,.un,.un,.un]=r:=λG r hG=>by
  refine u5 (j6 (d:=`u2) rfl) (u5 (j6 (d:=`k_) (by rw[hn];rfl)) (u5 (j6 (d:=`afJ) rfl) (u5 (δ':=`aBl) rfl (u5 (T8 (items:=`ya) `yd l1) (u5 (j6 (d:=`u4) ?_) hG)))));show `f6 _ _=_;rw[Uq0 (x:=`uX) (ds:=[`o (`aBo `E)]) rfl (`v (U3 (items:=`BO `d) rfl `fl (by
   rw[zb0 (λd=>match d with|`aj=>`azQ|_=>`w) (λd hd=>by
    obtain⟨i,hi,rfl⟩:=`d1;refine⟨[.sh `dj,`h_],rfl,rfl,?_⟩;rw[o4 (x:=`u2) (y:=`aj) rfl rfl];exact f90 i (M i hi).1 (M i hi).2)]
   rw[hw];unfold ones;rw[`b3,`b3,`b3];rfl)) rfl)]
  have e1:=strs_map id (ones w);have a2:qm0 (`aBo `ox)=`a (ones w):=`T1
  simp only[k60];rw[a2,`j,lm0,join_ones,`H (by
   have:("" : PySem.Str).length=0:=`aY
   rw[`x];omega)]
  rfl
 by_cases hb:t/8%3=1
 ·refine⟨`Xc λk=>`ba (`aBp `bS),K1 rfl (Z _ _ `Xd),`aS,`Xe,?_⟩
  ·rw[U4 (by show `aBq;rw[`bR hb])]
   refine O7 (yv0 (U3 (items:=`Xc λ(k:Nat)=>`aQ `u5) rfl `n7 ?_));rw[zb0 (λd=>match d with|`aj=>`E (`ba (`aBp `eb))|_=>`w) (λd hd=>by
    obtain⟨k,hk,rfl⟩:=`d1;have hk:=`G0;refine⟨`aBr,rfl,rfl,?_⟩;have hm:o2 `gK `aC mg0 `aBr=`a `aBs:=by
     rw[o4 (x:=`d 8) (y:=`u4) rfl rfl];simp only[mg0];rw[`H ⟨`O,`O,by rw[yt0,wl];show n*8<=_;omega⟩];exact C5 (λs=>`a (`ox s)) (X10 w 8)
    have J:`Xf:=`Xg
    unfold U5;rw[hm];show slA `aBs `b (`a `u5)=_;simp only[slA];rw[`H (by rw[yt0,J];omega),bs0 _ _ `g (by rw[J];omega)])]
   rw[`b3,`b3];rfl
  ·obtain⟨k,hk,rfl⟩:=`Xh
   have hk:=`G0;have J:`Xf:=`Xg
   refine mz0 _ (by rw[`b9,J];omega) (`ye) `f3
   have:=l9 hx;obtain⟨l,hl,hx⟩:=List.mem_flatten.mp `x;rw[(List.mem_replicate.mp hl).2] at hx;exact wm x hx
  ·refine `aBt
   intro a b ha a1 a7 e;have ha:=`kK ha;have a1:=`kK a1;have e:=C5 `B1 (lk0 e);have J:`Xf:=`Xg
   rw[`b9,`b9,J] at e;omega
 ·obtain⟨a,ha⟩:∃a:Nat,`fR=t%(n:Int):=⟨(t%(n:Int)).toNat,by have:=D2 t (`p:`b7≠0);omega⟩
  have a5:a<n:=by have:=D7 t (`p:`h2<n);omega
  obtain⟨p,hp⟩:∃p,p=pl.getD a 0:=`aq;have a6:0<=p/\p<36:=by
   have Y:`aBu:=`p
   have:p=pl[a]:=by rw[hp];simp[`bI,Y]
   rw[`x];exact M _ (C0 Y)
  let F:`oy:=λk=>`aBv
  have Fl:∀k,(F k).length=n:=λk=>by
   show (`aBv).length=n;rw[`ai,`bo,`b9,`fC];omega
  obtain⟨a8,m1,m2⟩:=zz0 (f:=gN 5) (G:=PC) (λi δ=>∃(s5 s9:Sl),δ=[`nm,`eh,`h_,`ds,`qm,s5,`nn,`ej,.ow (`o (((`cx i).map `BQ).map `E)),s9]) (T9 0 8) 0
   `aBw (by
    rintro j d δ hj ⟨s5,s9,rfl⟩;obtain⟨O,rfl⟩:=`yb;have O:j<8:=O;rw[`bT];refine⟨_,[`nm,`eh,`h_,`ds,`qm,`h0,`nn,`ej,.ow (`o (((`cx `gW).map `BQ).map `E)),.sh (`Ob)],rfl,?_,_,_,rfl⟩;refine u5 (j6 (d:=`Ob) ?_) ?_
    ·rw[o4 (x:=`u2) (y:=`d ((p+4*`cy)%36)) rfl (by
      rw[o4 (x:=`d (p+4*`cy)) (y:=`ae8) (by
       rw[o4 (x:=`HP) (y:=`d (4*`cy)) (by
        have q:o2 `cj `jq ixD (frz [`nm,`eh,`h_,`ds,`qm,`h0,`nn,`ej,`afM,s9])=`a (`HP):=by
         rw[o4 (x:=`afK) (y:=`k0) rfl rfl];show atI (`BO `aQ) `fR=_;have Y:`aBu:=`p
         rw[`yf,hp];simp[`bI,Y]
        show `f6 _ _=_;exact(C5 (λo=>`f6 o _) q).trans rfl) (by rw[o4 (x:=`BB) (y:=`fZ) rfl rfl];exact `l3)]
       rfl) rfl]
      rfl)]
     exact f90 _ `g `g
    ·refine u5 (v60 (l:=`afL) (d:=`E (`ba (F j))) rfl ?_ `n7) ?_
     ·have t1:U5 `dr V8 `ae' `Xi=`a (`E (`ba (`qn))):=by
       show slA (`u4) `b (`a `fR)=_;simp only[slA];rw[`aBx,bs0 _ _ `g `g,`aA]
      have t2:U5 `dr `ae? V8 `Xi=`a (`aBy):=by
       show slA (`u4) (`a (`fR+1)) `b=_;simp only[slA];rw[`aBx,Tc0 _ _ `g `g,show (`fR+1).toNat=a+1 by omega]
      change o2 _ _ _ `Xi=_
      rw[o4 (x:=`E (`ba (`qn++[`BP]))) (y:=`aBy) (by
       rw[o4 t1 rfl];exact el0 _ [`BP] (by rw[`b9];simp;omega)) t2]
      rw[el0 _ _ (by rw[`ai,`b9,`fC];simp;omega)];show `a (`ox (`ba _))=`a (`ox (`ba (`qn++`BP::`u6)));rw[`eP];rfl
     ·rw[List.range_succ,`aW,`aW]
      rfl) `aBz
  obtain⟨a4,s9,rfl⟩:=m2;refine⟨`Xc `BQ,K1 rfl (Z _ _ (u5 (δ':=`aBn) ?_ (u5 (j6 (d:=`k0) ?_) (u5 (δ':=`aBw) rfl (u5 (T8 (items:=T9 0 8) rfl m1) `HQ))))),`aS,`Xe,?_⟩
  ·rw[Z3 (by show `aBq;rw[`cE hb])];rfl
  ·rw[o4 (x:=`nk) (y:=`k_) rfl rfl,`aBA,ha]
  ·obtain⟨k,hk,rfl⟩:=`Xh
   refine mz0 _ `aBB `aBB `f3
   rcases `Gz with q|q
   ·exact wm x (l9 q)
   ·rcases `HR with q|q
    ·rw[q];exact a70 _ `g `g
    ·exact wm x (List.mem_of_mem_drop q)
  ·refine `aBt
   intro x y hx hy b0 e;have hx:=`kK hx;have hy:=`kK hy;have e:`qn++cg ((p+4*`k4)%36)::`u6=`qn++cg ((p+4*`Xj)%36)::`u6:=lk0 e;have e:=List.append_cancel_left e;injection e with e _
   have:=R00 _ _ `g `g `g `g e;omega
universe Gw
namespace Gw
open Wa
open DL W
theorem qc0(c k:Int)(hk:`aBC):`aBD:=by
 refine⟨`aBE%2147483647,`Xk,`aBF,`aBG⟩;rw[o4 (x:=`d (`aBE)) (y:=`NU) (by
  rw[o4 (x:=`d `afN) (y:=`d `afO) rfl (by
   rw[o4 (x:=`NV) (y:=`d (7*k)) rfl (by rw[o4 (x:=`d 7) (y:=`fk) rfl rfl];exact `l3)];rfl)]
  exact `l3) rfl]
 rfl
structure Vk(v:D)(m:Int):Prop where
 ok:`WR
 bd:∀i,`rg->`abS<10 ^ 60
 lk:∀k,lk v=`ec->k<m
theorem Qu0:iz0 `afb (`jr)=`a (`aBH):=`N8
theorem iy0(x m:Int)(hx:`aBI)(hm:0<m):∃v,`aBJ/\`qr:=by
 have z:`Xl:=`O
 have s0:m8 `eN `aAs [`a6,`jx,.un]=`Xm:=rfl;have el:∀k:Int,ob `aBK `u7=`a (`G (`k1<k)):=λk=>rfl
 have ee:∀k:Int,ob `aBL `u7=`a (`G (`k1=k)):=λk=>rfl
 have nl:∀(k:Int) (A:GS),¬`k1<k->ifD (ob `aBK) A p7 `u7=`Xm:=λk A h=>by
  rw[Z3 (by rw[el,`rd])];rfl
 have ne:∀(k:Int) (A:GS),¬`k1=k->ifD (ob `aBL) A p7 `u7=`Xm:=λk A h=>by
  rw[Z3 (by rw[ee,`rd])];rfl
 by_cases h6:`k1<6
 ·have M:0<=x/10%m:=`l4
  have Y:x/10%m<m:=D7 _ hm;refine⟨`m [`gM,`aBM],`aBN,by simp[m30,marks,M],`aBO,`HS⟩
  ·rw[U4 (by rw[el,`bR h6])]
   exact o8 (Z2 (b8 (`v rfl (`v (d:=`aBM) (by
    rw[o4 (x:=`d (x/10)) (y:=`qo) rfl rfl];exact zh0 _ _ hm) rfl)) `c9))
  ·have:=A2 hk
   omega
 by_cases e6:`k1=6
 ·refine⟨`w,j4 rfl (u5 s0 (u5 `Xn `eg)),rfl,`aBO,λk hk=>by cases hk⟩
  rw[U4 (by rw[ee,`bR e6])];rfl
 have F:(10:Nat) ^ 60=1000000000000000000000000000000000000000000000000000000000000:=`O
 by_cases h9:`k1<9
 ·refine⟨`d (x/10%3 - 1),j4 rfl (u5 s0 (u5 `Xn (u5 `aBP `eg))),rfl,(`sq),λk hk=>by cases hk⟩
  ·rw[U4 (by rw[el,`bR h9])];rfl
  ·injection hi with hi
   rw[F];omega
 ·obtain⟨b,hb⟩:∃b:Int,b=(x/10) ^ 7%10 ^ 60:=`aq
  have J:(10:Int) ^ 60=1000000000000000000000000000000000000000000000000000000000000:=`O
  have b0:0<=b:=by rw[hb];exact `Xk
  have b1:b<10 ^ 60:=by rw[hb];exact `aBF
  obtain⟨q,hq,O⟩:∃q:Int,q=1 - 2*`Xo/\(q=1∨q=-1):=⟨_,rfl,`p⟩;refine⟨`d (b*q),j4 rfl (u5 s0 (u5 `Xn (u5 `aBP (u5 (nl 9 _ h9) `cz)))),rfl,(`sq),λk hk=>by cases hk⟩
  ·rw[o4 (x:=`g') (y:=`d q) (by
    rw[o4 (x:=`d ((x/10) ^ 7)) (y:=`aBH) (by
     rw[o4 (x:=`d (x/10)) (y:=`d 7) rfl rfl];simp only[iz0,ii];rw[`H ⟨`O,`O,`p⟩];rfl) (by rw[o4 (x:=`afa) (y:=`jr) rfl rfl];exact Qu0)]
    rw[zh0 _ _ `s,hb]) (by
    rw[o4 (x:=`eK) (y:=`d (2*`Xo)) rfl (by rw[o4 (x:=`kZ) (y:=`d `Xo) rfl rfl];exact `l3),hq];rfl)]
   exact `l3
  ·injection hi with hi
   rw[← hi,F];rw[J] at b1;rcases O with rfl|rfl
   ·rw[`Sh];omega
   ·rw[Int.mul_neg,`Sh,Int.natAbs_neg];omega
noncomputable def VB:GS:=(u6 `aAu
 (u6 `aAv
 p7))
theorem z90(x:Int)(c:Nat)(m:Int)(hc:c<=1000)(hm:0<m):∃vs,y60 [`ek,`Oc,`qo]=`HT/\`cf=c/\∀v∈vs,`qr:=by
 have z:`Xp:=`O
 obtain⟨δ',l1,l2⟩:=zz0 (f:=gN 4) (G:=VB) (λi δ=>∃(x':Int) (vs:`n) (s4:Sl),δ=[.sh (`d x'),`Od,`jx,.ow `ql,s4]/\`cf=i/\∀v∈vs,`qr) (`aBQ) 0
  `aBR (by
   rintro j d δ hj ⟨x',vs,s4,rfl,hl,hv⟩;obtain⟨J,rfl⟩:=`yb;rw[`aA] at J;obtain⟨v,M,F⟩:=iy0 `afQ m ⟨`Xk,by have:=D7 (`Oe) (`O:`h2<2147483647);omega⟩ hm;refine⟨_,[.sh (`Xq),`Od,`jx,.ow (`o (vs++[v])),`h0],rfl,?_,_,vs++[v],_,rfl,`Hw,`sr⟩
   ·refine u5 (j6 (d:=`Xq) (by
     rw[o4 (x:=`d (`Oe)) (y:=`NU) (by rw[o4 (x:=`d x') (y:=`NV) rfl rfl];exact `l3) rfl];rfl)) ?_
    refine u5 (v60 (l:=vs) (d:=v) rfl (by rw[o7 (ds:=[`Xq,`qo]) rfl];exact M) `g) rfl
   ·rcases `d' hu with q|q
    ·exact hv u q
    ·rw[`ee q];exact F) ⟨_,[],_,rfl,rfl,λv hv=>by cases hv⟩
 obtain⟨x',vs,s4,rfl,hl,hv⟩:=l2;rw[wz0,`aA,`bT] at hl;exact⟨vs,K1 rfl (u5 (δ':=`aBR) rfl (u5 (T8 (items:=`aBQ) `yd l1) `HQ)),hl,hv⟩
structure Gd(p:Pt)(m:Int)(nm:`u):Prop where
 ok:p.Ok
 vk:∀v∈`fj,`qr
 nms:∀s∈p.all,s∈nm
theorem w_a:`uR ("" : Str)=`c/\`uR ("a" : Str)=`c/\`uR (" a" : Str)=`c:=`aY
theorem s_0:((" 0" : Str))=`ba `BU:=`aY
theorem cv0(l:`e)(h2:`cS<=20)(h3:∀c∈l,`Xr):`uR `x8=`c:=by
 unfold isWord hasAll;rw[yt0,w70];simp only[`bs,`l2,`jV];exact`az_
theorem dq0:∀c∈`sl,`Xr:=`aY
theorem Uj0:∀c∈(`BU:`e),`Xr:=`aY
theorem name_mem{s:Str}(h:`aBj):∀c∈`BT,c∈`sl:=by
 unfold isName hasAll at h;simp only[`bs,`l2,`jV] at h;intro c hc;have:=h.1.2 c hc
 simpa using `x
theorem k40(nm:`u)(hp:`x?)(i:Int)(h0:`gC)(h1:i<8):ixD (`jv) `dj=`a (`E (`Xs))/\`Xs∈nm:=by
 have hl:=hp.len;have F:`eb<nm.length:=`p
 refine`FK
 ·show atI (nm.map `ox) i=_
  rw[za0 h0 `fl `w];simp[`bI,F]
 ·rw[show `Xs=nm[`eb] by simp[`bI,F]]
  exact C0 F
theorem Vp0(x m:Int)(vs:`n)(nm:`u)(hp:`x?)(hv:∀v∈vs,`qr)(hl:`B6)(hl8:¬`qq->`cf<=8):∃p:Pt,xh0 `aBS=`a p.d/\Gd p m nm:=by
 have z:`Xl:=`O
 have b1:=hp.len;have s0:m8 `bP `NR [`a6,`dO,`eO,.un,.un,.un]=`Xt:=rfl
 by_cases h0:x%8=0
 ·obtain⟨w,hw,a3⟩:∃w:Str,o2 `aAx `aAy ixD `u8=`a (`E w)/\`azL:=by
   obtain⟨a1,a2⟩:=k40 nm hp 0 `g `g;obtain⟨s,hs⟩:∃s,s=`qp (0:Int).toNat "" := `aq;rw[← hs] at a1 a2;have hn:=`Xu s a2;have a7:=ej0 hn;have es:s=`aBT:=(Zs0 s).symm;have a6:`aBU<=8:=by
    have:`Xv=`aBU:=by show s.cps.size=_;simp
    omega
   rw[o4 (x:=`o [`uX,`E "a",`afe,`Xw]) (y:=`d (`yg)) (z40 (`v rfl (`v rfl (`v rfl (`v (d:=`Xw) (by
    rw[o4 (x:=`q!) (y:=`afd) (by rw[o4 (x:=`jv) (y:=`c5) rfl rfl];exact a1) rfl];have e:d9 (`E (`aBT)) (`E (`ba `BU))=`a (`Xw):=el0 _ _ `aBV;rw[← es,← s_0] at e;exact e) rfl)))) (by show 4<=`W;omega)) rfl]
   have q:`yg=0∨`yg=1∨`yg=2∨`yg=3:=`p
   rcases q with q|q|q|q<;>rw[q]
   ·exact⟨_,rfl,w_a.1⟩
   ·exact⟨_,rfl,w_a.2.1⟩
   ·exact⟨_,rfl,w_a.2.2⟩
   ·refine⟨_,rfl,cv0 _ (by simp only[`ai,`bo,`h1];omega) `azD⟩
    rcases `d' hc with q|q
    ·exact dq0 c (name_mem hn c q)
    ·exact Uj0 c q
  refine⟨`sj,`aBN,a3,`aBW,λs hs=>by cases hs⟩;rw[U4 (by show `aBX;rw[`HU])];exact o8 (Z2 (b8 (`v rfl (`v hw rfl)) `c9))
 have n0:∀A:GS,ifD `aAw A p7 `u8=`Xt:=λA=>by
  rw[Z3 (by show `aBX;rw[`HV])];rfl
 by_cases h4:`qq
 ·refine⟨`sk,j4 rfl (u5 s0 (u5 (n0 _) `eg)),⟨hl,λv q=>(hv v q).ok⟩,hv,λs hs=>by cases hs⟩
  rw[U4 (by show `a (`Xx)=_;rw[`bR h4])];exact o8 (Z2 (b8 (`v rfl (`v (by rw[o7 (ds:=[`hY]) rfl];rfl) rfl)) `c9))
 have n4:∀A:GS,ifD `aAz A p7 `u8=`Xt:=λA=>by
  rw[Z3 (by show `a (`Xx)=_;rw[`cE h4])];rfl
 have b0:=hl8 h4;obtain⟨st,a0⟩:∃st:Int,st=x/8%2*3:=`aq;have a5:0<=st/\st<=3:=`p
 obtain⟨ns,Y⟩:∃ns:Nat->Str,ns=λ(j:Nat)=>`qp (`aBY).toNat "" := `aq
 have a4:∀j,ns j∈nm:=λj=>by rw[Y];exact(k40 nm hp (`aBY) `g `g).2
 obtain⟨ps,J⟩:∃ps:`eu,ps=(`cx `cf).map λj=>`aBZ:=`aq
 have O:`hU=vs:=by
  rw[J,`b3];refine r9 `S `aB_
  simp[`bI,h2]
 have M:∀s∈`nc,s∈nm:=λs hs=>by
  obtain⟨p,F,rfl⟩:=`Xh;rw[J] at F;obtain⟨j,_,rfl⟩:=`fX F;exact a4 j
 have Z:`WS:=by
  refine⟨by rw[J];simp;omega,λp F=>`Xu _ (M _ (`aB0)),λp F=>(hv p.2 (by rw[← O];exact `aB0)).ok,?_⟩;rw[J,`b3];refine Ag0.mpr (`Oa (Ah0 ?_ (n5 (n:=`cf))));intro a b ha hb a8 e;have ha:=`kK ha;have hb:=`kK hb;have e:ns a=ns b:=e;rw[Y] at e;have la:`Og<nm.length:=`p
  have lb:`Oh<nm.length:=`p
  have e:`aB1=`aB2 := e;rw[show `aB1=nm[`Og] by simp[`bI,la],show `aB2=nm[`Oh] by simp[`bI,lb]] at e;have:=(P8 hp.nd).mp e;omega
 have s4:m8 `fp `aAA `u8=`a (.nx `aB3):=j6 (d:=`d st) (by
  rw[o4 (x:=`d (x/8%2)) (y:=`ne) rfl rfl,`l3,a0])
 have s5:m8 `fi `aAB `aB3=`a (.nx `aB4):=j6 (d:=`k2) (by
  rw[o7 (ds:=[`o `kW]) (`v (U3 (items:=`aB5) `yd `aB6 (by
   rw[J,`b3];have q:=io0 (gt:=noT) (ge:=`afk) (δ:=[.un,`dO,`eO,`BV]) (n:=`BW) (λj=>pr `aBZ) (λk hk=>⟨[`bk,`dO,`eO,`BV],rfl,rfl,by
    refine b8 (`v (d:=`E (ns k)) ?_ `aB7) `c9
    ·rw[o4 (x:=`jv) (y:=`d ((st+`bq)%8)) rfl rfl,Y]
     exact(k40 nm hp _ `g `g).1
    ·rw[`aB8]
     show atI vs `bq=_;rw[`HW,`aA]⟩)
   rw[`aA] at q;exact q)) rfl)]
  rfl)
 by_cases h6:x%8<6
 ·refine⟨`ou,j4 rfl (u5 s0 (u5 (n0 _) (u5 (n4 _) (u5 s4 (u5 s5 `eg))))),Z,`aB9,λs hs=>M s (by simpa [Pt.all,Pt.pnames,Pt.cls] using hs)⟩
  rw[U4 (by show `aB';rw[`bR h6])];exact `yh
 ·obtain⟨a1,a2⟩:=k40 nm hp (x/16%2) `g `g
  refine⟨`qf (`qp (x/16%2).toNat "") ps,j4 rfl (u5 s0 (u5 (n0 _) (u5 (n4 _) (u5 s4 (u5 s5 (u5 (δ':=`aB4) ?_ `cz)))))),⟨`Xu _ a2,Z⟩,`aB9,`Xe⟩
  ·rw[Z3 (by show `aB';rw[`cE h6])];rfl
  ·exact b8 (`v rfl (`v (by
    rw[o4 (x:=`jv) (y:=`d (x/16%2)) rfl rfl];exact a1) `ei)) `v3
  ·rcases `d' hs with q|q
   ·exact M s q
   ·have:=`Cx q
    rw[`x];exact a2
noncomputable def WB:GS:=(u6 `aAC
 (u6 `aAD
 (u6 (ifD `aAE
 (u6 `aAF
 p7)
 p7)
 (u6 `aAG
 (u6 `aAH
 p7)))))
theorem Q80(cs:`au)(hc:`HX)(m:Int)(hm:`Xy)(nm:`u)(hp:`x?)(k:Nat)(hk:k<=1000)(acc:`n)(ha:acc.length<=2000)(s5 s6 s7:Sl) :
  ∃(p:Pt) (t5 t6 t7:Sl),Gd p m nm/\WB `aB!=`a (.nx [`qt,`jx,`eO,.ow (`o (acc++`ju)),`bk,t5,t6,t7]):=by
 have z:`Xp:=`O
 obtain⟨l,hl⟩:∃l:Int,l=(`afS:Int):=`aq;have Y:0<=`u!:=`l4;have a7:`u!<l:=`oz;obtain⟨c,a2⟩:∃c:Int,ixD (`qs) (`d (`u!))=`a (`hZ):=by
  have O:`aB?<cs.length:=`p
  refine⟨cs[`aB?],?_⟩;show atI (`aCa) _=_;rw[za0 Y `fl `w];simp[`bI,O]
 have b0:`bq/l<=1000/\0<=`bq/l:=by
  have h1:=Int.ediv_le_self l `aCb;have h2:=Int.ediv_nonneg `aCb (show `h2<=l by omega);omega
 obtain⟨x,a8,a6,hx⟩:=qc0 (c+`Ok) `bq `w!;obtain⟨n,hn,a4,a0⟩:∃n:Nat,`b7=(if `Ol then `aCc else `aCd)/\n<=12/\(¬`qq->n<=8):=by
  split
  ·split
   ·exact⟨12,rfl,`p,λh=>`y (`oo) h⟩
   ·exact⟨8,rfl,`p,`u?⟩
  ·have q:`aCe:=`p
   rcases q with q|q|q|q|q|q|q|q<;>rw[q]
   ·exact⟨0,rfl,`p,`u?⟩
   ·exact`aCf
   ·exact`Xz
   ·exact`Xz
   ·exact`aCg
   ·exact`Xz
   ·exact`aCg
   ·exact`aCf
 obtain⟨vs,Z,a5,a3⟩:=z90 (x/8+1) n m `g `g;obtain⟨p,M,a1⟩:=Vp0 x m vs nm hp a3 `g (λh=>by have:=a0 h;omega);refine⟨p,`a6,`ds,`dO,a1,?_⟩;unfold WB;have F:∀(s5 s6 s7:Sl),oA `eL b7 `aB!=`a (`d l):=λs5 s6 s7=>by
  rw[o7 (ds:=[`qs]) rfl];show `a (`aQ (((`aCa).length:Nat):Int))=_;rw[`M,hl]
 refine u5 (j6 (d:=`ek) ?_) ?_
 ·rw[o7 (ds:=[`aCh,`dL]) (`v (d:=`aCh) (by
   rw[o4 (x:=`hZ) (y:=`d (`Ok)) (by
    rw[o4 (x:=`qs) (y:=`d (`u!)) rfl (by rw[`aCi];exact `aBA)];exact a2) (by
    rw[o4 (x:=`dL) (y:=`d (`bq/l)) rfl (by rw[`aCi];exact v90 _ _ `w!)];exact `l3)]
   rfl) rfl)]
  exact hx
 obtain⟨n0,J⟩:∃n0:Int,n0=`aCd:=`aq;refine u5 (j6 (d:=`d n0) ?_) ?_
 ·rw[o4 (x:=`o [`c5,`eK,`kZ,`kZ,`ne,`kZ,`ne,`eK]) (y:=`d (`h3)) (z40 rfl (by show 8<=`W;omega)) rfl]
  rw[J];have q:`aCe:=`p
  rcases q with q|q|q|q|q|q|q|q<;>rw[q]<;>rfl
 refine u5 (δ':=[`qt,`jx,`eO,`Oj,`bk,`a6,`ds,s7]) ?_ ?_
 ·change ifD _ _ _ [`qt,`jx,`eO,`Oj,`bk,`a6,.sh (`d n0),s7]=_
  rw[hn]
  by_cases h:`Ol
  ·rw[U4 (by show `aCj;rw[`yi]),`lX]
   refine u5 (j6 (d:=`d `aCc) ?_) rfl;rw[o4 (x:=`o [`d 8,`afm]) (y:=`d (if `Xx=`c then 1 else 0)) (z40 rfl `c9) rfl]
   by_cases q:`qq
   ·rw[`H (L3 q),`xN];rfl
   ·rw[`P (`EP),`xO];rfl
  ·rw[Z3 (by show `aCj;rw[`rd]),`wx,J];rfl
 refine u5 (j6 (d:=`hY) (by
  rw[o7 (ds:=[`d (x/8+1),`k_,`qo]) rfl];exact Z)) ?_
 refine u5 (v60 (l:=acc) (d:=p.d) rfl (by
  rw[o7 (ds:=`aBS) rfl];exact M) `g) rfl
theorem rt0(cs:`au)(hc:`HX)(m:Nat)(hm:`Xy)(nm:`u)(hp:`x?) :
  ∃ps:`Y,`aCk/\`am=m/\∀p∈ps,`aCl:=by
 have z:`Xp:=`O
 obtain⟨δ',l1,l2⟩:=zz0 (f:=gN 4) (G:=WB) (λi δ=>∃(ps:`Y) (s4 s5 s6 s7:Sl),δ=[`qt,`nq,`eO,.ow (`aCm),s4,s5,s6,s7]/\`am=i/\∀p∈ps,`aCl) (`aCn) 0
  `aCo (by
   rintro j d δ hj ⟨ps,s4,s5,s6,s7,rfl,hl,hg⟩;obtain⟨F,rfl⟩:=`yb;rw[`aA] at F;obtain⟨p,t5,t6,t7,h1,h2⟩:=Q80 cs hc `fP `g nm hp j `g `BZ `fl s5 s6 s7;refine⟨_,_,rfl,h2,ps++[p],_,t5,t6,t7,by rw[`aW];rfl,`Hw,`A6⟩;rcases `d' hq with a|a
   ·exact hg q a
   ·rw[`ee a];exact h1) ⟨[],_,_,_,_,rfl,rfl,λp hp=>by cases hp⟩
 obtain⟨ps,s4,s5,s6,s7,rfl,hl,hg⟩:=l2;rw[wz0,`aA,`bT] at hl;refine⟨ps,j4 rfl (u5 (δ':=`aCo) rfl (u5 (T8 (items:=`aCn) `yd l1) `cz)),hl,hg⟩;show oA `gP R3 `XA=_;rw[o7 (ds:=[`aCm]) rfl];rfl
theorem l00(ps:`eu):V1 `HJ noT `aC [.un,.un] `kW=`azM:=by
 rw[zb0 `azN (λd hd=>by
  obtain⟨p,hp,rfl⟩:=`d1;exact⟨_,rfl,rfl,rfl⟩),`b3]
 rfl
theorem xb0(p:Pt)(h:`e_):`HY:=by
 cases p with
 | text w=>kernel_rfl
 | row vs =>
  refine `aAZ
 | table ps =>
  refine `aA_;exact `aCp
 | rcd c ps =>
  refine `aA1;exact `aCp
theorem aw0(xs:`n)(x:D):`hO (`va) `b `XB=xs:=by
 unfold cutD;have i1:sIx `B_ `B_ `XB=`ae:=by
  show (if `Om<0 then `aCq else min (-1:Int).toNat `B_)=_;rw[`Fc,`ai];simp only[`bo,`h1];omega
 rw[i1];show ((`va).drop 0).take (`ae - 0)=_;simp
theorem Z10(xs:`n)(x:D):atI (`va) (-1)=`bd:=by
 unfold atI ixN;rw[`Fb,`H (by rw[`ai];simp only[`bo,`h1];omega)];rw[show `aCq=`ae by rw[`ai];simp only[`bo,`h1];omega];simp
theorem tm0(p:Pt)(h:`e_)(vs:`n)(hl:`oA∨`fj=[]/\`q'):`XC:=by
 have z:`Xl:=`O
 have zz:(`W:Int)<2 ^ 62:=`O
 have key:∀(xs:`n) (ps:`eu),`am=`cf->`am<=`W->`ae<=10 ->
   o2 `W2 `aAJ d9 `aCr=`a (`m (xs++[`u_])):=λxs ps hp hz hx=>by
  have hc:oA `afo R3 `aCr=`a (`u_):=by
   rw[o7 (ds:=[`o (`BK pr)]) (`v (U3 (items:=`aB5) `yd `aB6 (by
    have q:=io0 (gt:=noT) (ge:=`afn) (δ:=[.un,`Op,`dO]) (n:=`BW) (λj=>pr (`aCs j "",`afR)) (λk hk=>⟨[`bk,`Op,`dO],rfl,rfl,by
     have J:`aCt:=`p
     refine b8 (`v (d:=`E (`aCs k "")) ?_ `aB7) `c9
     ·rw[o4 (x:=pr ps[k]) (y:=`c5) (by
       rw[o4 (x:=`k2) (y:=`dL) (by
        rw[o4 (x:=`Oo) (y:=`XD) rfl rfl];exact Z10 _ _) rfl]
       show atI `kW `bq=_;rw[`yf,`aA];simp[`bI,J]) rfl]
      simp[`bI,J];rfl
     ·rw[`aB8]
      show atI vs `bq=_;rw[`HW,`aA]⟩)
    rw[`aA] at q;refine q.trans ?_;congr 1;refine r9 `n7 `aB_
    have hi:`E6:=`kn
    have M:`ss:=`p
    simp[`bI,hi,M])) rfl)]
   rfl
  rw[o4 (x:=`d7) (y:=`m [`u_]) (by
   show slA (`Oo) `b `XB=_;simp only[slA];rw[aw0]) (b8 (`v hc rfl) `f7)]
  simp only[d9];rw[`H `aBV]
 have F:∀ps:`eu,`fj=`hU->`am=`cf:=λps e=>by
  rcases hl with q|⟨q1,q2⟩
  ·rw[q,e,`M]
  ·rw[q2];rw[q1] at e;have:=`aCu;simp at this;simpa using `st
 cases p with
 | text w=>kernel_rfl
 | row us=>kernel_rfl
 | table ps =>
  exact j4 rfl (u5 (δ':=`aCv) `b8 (u5 (δ':=`aCv) `b8 (o8 (Z2 (key [`uU] ps `aCw `uZ `S)))))
 | rcd c ps =>
  exact j4 rfl (u5 (δ':=`aCx) `b8 (u5 (δ':=`aCx) `b8 (o8 (Z2 (key `aCy ps `aCw `uZ `S)))))
universe Gw
namespace K22
open Wa
open DL W
inductive Dfs (adj:`oy) (S:`e):Nat->`e->`e->`XE
 | nil (o:`e):Dfs adj S 0 o [] o
 | skip {c:Nat} {o T r:`e} {x:Nat}:`aCz->`yj->`aCA
 | visit {c:Nat} {o T r:`e} {x:Nat}:x∉o->`B4->(`jA++T).length+`ve<=10000->Dfs adj S c `gQ (`jA++T) r->`aCA
theorem sub_len:∀{l m:`e},`XF->(∀a∈l,a∈m)->`cS<=`wt
 | [],m,_,_=>`hE
 | a::l,m,h,hs=>by
  obtain⟨h1,h2⟩:=E7.mp h;obtain⟨m1,m2,rfl⟩:=List.append_of_mem (hs a B0);have:=`O9 (m:=m1++m2) h2 λb hb=>by
   have:=hs b (`wG);rcases `d' `x with q|q
   ·exact B5.mpr `ry
   ·rcases `HR with rfl|q
    ·exact `y hb h1
    ·exact B5.mpr `yk
  simp only[`ai,`bo] at this ⊢;omega
theorem Tu0(adj:`oy)(S:`e)(n:Nat)(hn:n<=60)(ha:∀i,i<n->(`yl).length<=12/\∀j∈`yl,j<n):∀(M:Nat) (o T:`e),`vd+13*(n - `ve)<=M->M<=5000->o.Nodup->(∀x∈o,`aCB)->(∀x∈T,x<n) ->
  ∃c r,`yj/\c<=M/\`ym/\(∀x∈r,`aCB)/\`ve<=`a':=by
 intro M
 induction M with
 | zero =>
  intro o T hM a2 ho F hT;have:T=[]:=T0.mp `g;subst this;exact⟨0,o,`L o,`hl,ho,F,`hl⟩
 | succ M ih =>
  intro o T hM a2 ho F hT;cases T with
  | nil=>exact⟨0,o,`L o,`hE,ho,F,`hl⟩
  | cons x T =>
   rw[`bo] at hM
   by_cases hx:`aCz
   ·obtain⟨c,r,h1,h2,h3⟩:=ih o T `g `g ho F `XG
    exact⟨c+1,r,.skip hx h1,`p,h3⟩
   ·have Y:=`XH
    obtain⟨hl,hj⟩:=ha x Y;have O:x∉o:=λz=>hx (`jf)
    have J:`B4:=λz=>hx (`h z)
    have Z:(`B3).Nodup:=List.nodup_append.mpr ⟨ho,`aS,λa ha b hb e=>by
     have:=`Cx hb;subst this;subst e;exact O ha⟩
    have a0:∀y∈`B3,y<n/\y∉S:=λy hy=>by
     rcases `kg with z|z
     ·exact F y z
     ·have:=`Cx z;subst this;exact⟨Y,J⟩
    have a1:`aCC<=n:=by
     have:=`O9 Z (m:=`cx n) λy hy=>`qH (a0 y hy).1
     rwa [Ai0] at this
    rw[`ai,`c'] at a1;obtain⟨c,r,h1,h2,h3,h4,h5⟩:=ih `gQ (`jA++T) `aCD `g Z a0 (λy hy=>by
     rcases `kg with z|z
     ·exact hj y z
     ·exact `aCE)
    refine⟨c+1,r,.visit O J (`aCF) h1,`p,h3,h4,?_⟩;rw[`ai] at h5;omega
noncomputable def y30:GS:=Pn.y30
noncomputable def y50:`u:=Pn.y50
noncomputable def K7:`J:=Pn.K7
noncomputable def m70:GS:=(u6 (yl0 (V5 1 [] `aCG `bb `B7 `hV))
 p7)
noncomputable def ng0:`u:=`fr
noncomputable def w50:`J:=mkN 1 ng0 m70
noncomputable def qk0:GS:=(u6 `W_
 (u6 (T5 4 (oA `c6 Ws0))
 (u6 (T5 5 (Z7 `hX))
 (u6 (V2 `aCH
 (u6 `aCI
 (u6 (ifD `aCJ
 (u6 `aCK
 (u6 (W7 `XI)
 (u6 (W7 (ew0 5 (oA (z9 (oA `ahl w50) v7) o20)))
 p7)))
 p7)
 p7)) 100000)
 (u6 `W0
 p7)))))
noncomputable def q80:`u:=["web", "k", "left", `sm, "seen", "waiting", `uT]
noncomputable def v70:`J:=mkN 3 q80 qk0
noncomputable def s60:GS:=(u6 (m8 `eN (V5 1 [1] `aCG `bb noT (ifG `B7 (m7 (z9 `nh (z9 (o2 `aC `hV yy0) v7))) `I)))
 (u6 (Z0 (oA `BC K7))
 p7))
noncomputable def sj0:`u:=[`uT, "numbers", "some"]
noncomputable def wh0:`J:=mkF 2 sj0 s60
noncomputable def nd(l:`e):`n:=`dJ λ(i:Nat)=>`aQ `fO
structure GoodD(W:D)(n:Nat):Prop where
 few:n<=60
 ex:∃Wb,W=`m Wb/\Wb.length=n/\∀i,i<n->∃vs,j5 [`XJ]=`HT/\`aCL
noncomputable def tgs(vs:`n):`e:=vs.filterMap λv=>match v with|`yn=>`a `nv|_=>`b
noncomputable def y00(W:D)(i:Nat):`e:=match W with
 | `m Wb=>(match j5 [`XJ] with
  | `HT=>`iH
  | _=>[])
 | _=>[]
theorem vc0(a b:`e):nd `ra=nd a++nd b:=by unfold nd;rw[`aW]
theorem Sf0(a:`e):(nd a).reverse=nd a.reverse:=by unfold nd;rw[`aCM]
theorem M4(a:`e):(nd a).length=`nD:=by simp[nd]
theorem Tl0(o:`e)(x:Nat):((nd o).any λy=>eqF y (`k6))=`aCN:=by
 unfold nd;rw[`aCO,`gn,`yo,`l2];constructor
 ·rintro⟨y,hy,e⟩
  have e:`G (`Xj=`k4)=`c:=e;have e:=W1 e;have:y=x:=`p
  subst this;exact hy
 ·intro h
  exact⟨x,h,show `G (`k4=`k4)=`c from `Ce⟩
theorem ik0(o:`e):((nd o).all λd=>`eG d)=`c:=by
 unfold nd;rw[`avw,`jV];exact `lU
theorem tn0:∀{vs:`n},(∀v∈vs,`Oq)->∀j∈`iH,j<n:=by
 intro vs h j hj;obtain⟨v,hv,e⟩:=`rq hj;rcases h v hv with rfl|⟨z,rfl⟩|⟨i,rfl,hi⟩
 ·cases e
 ·cases e
 ·simp only[`aA,`aCP] at e
  omega
theorem Sc0{W:D}(hW:GoodD W n)(hi:i<n):∃vs,`aCQ=`aCQ/\(∃d,ixD W (`dN)=`ar/\j5 [d]=`HT)/\y00 W i=`iH/\`aCL:=by
 obtain⟨Wb,rfl,hl,h⟩:=hW.ex;obtain⟨vs,e,h1,h2⟩:=h i hi;refine⟨vs,rfl,⟨`XJ,?_,e⟩,?_,h1,h2⟩
 ·show atI Wb `fO=_
  rw[`HW,`aA]
 ·unfold y00
  simp only[];rw[e]
theorem R10{W:D}(hW:GoodD W n):∀i,i<n->∀j∈y00 W i,j<n:=λi hi j hj=>by
 obtain⟨vs,_,_,e,_,h⟩:=Sc0 hW hi;rw[e] at hj;exact tn0 h j hj
theorem z90(p:Pt)(h:`e_):`W':=`HZ p h
theorem Yq0(p:Pt)(h:`e_)(vs:`n):K7 `On=`afV:=Pn.tm0 p h vs
theorem xb0(p:Pt)(h:`e_):`HY:=`vi p h
noncomputable def Lv(n:Nat)(v:D):Prop:=`Oq
theorem Lv.mono(h:n<=m){v:D}(x:`dQ):Lv m v:=x.imp id λx=>x.imp id λ⟨j,e,q⟩=>⟨j,e,`p⟩
structure Pw(n:Nat)(p:Pt):Prop where
 few:`B0<=12
 lv:∀v∈`fj,`dQ
theorem Pw.f{p:Pt}(h:`dz):`e_:=by
 have z:`aCR:=`O
 exact C1 `k? z
structure Web(ps:`Y):Prop where
 len:0<ps.length/\`am<=60
 pw:∀p∈ps,Pw `am p
noncomputable def wd(ps:`Y):D:=`afU
theorem Web.at(h:`Q)(hi:`ss):`aCS=`a `CH/\(`BY).getD i `w=`CH/\Pw `am ps[i]:=by
 refine⟨?_,?_,h.pw _ (C0 hi)⟩
 ·show atI `BZ `fO=_
  rw[`yf,`aA];simp[hi]
 ·simp[hi]
theorem Web.good(h:`Q):GoodD `ck `am:=⟨`H_,`BY,rfl,`af6,λi hi=>by
 obtain⟨_,e,q⟩:=`yp;exact⟨`aCT,by rw[e];exact xb0 _ q.f,q.few,q.lv⟩⟩
theorem Web.adj(h:`Q)(hi:`ss):`yq=tgs `aCT:=by
 obtain⟨_,e,q⟩:=`yp;unfold y00 wd;simp only[];rw[e,xb0 _ q.f]
theorem m00(vs:`n):(`iH).length<=`cf:=List.length_filterMap_le _ _
theorem ol0(j:Nat)(vs:`n):tgs (`k3::vs)=j::`iH:=by unfold tgs;rw[`wF];simp only[`aA]
theorem my0:∀vs:`n,`aCU->`aCV=`a (nd (`iH))
 | [],_=>rfl
 | `r4,h=>by
  have ih:=my0 vs `XK
  unfold V1;rcases `zL with rfl|⟨z,rfl⟩|⟨j,rfl,hj⟩
  ·exact ih
  ·exact ih
  ·show (match o2 `I `aM ixD [.sh (`k3)] with|`b=>`b|`bm=>(`aCV).map `TR)=_
   rw[ih,ol0];rfl
theorem Yg0{p:Pt}(h:`dz):w50 `ju=`a (`o (nd (`su))) :=
 K1 rfl (O7 (yv0 (U3 (items:=`fj) (by
  show `f6 (oA `eL `kX [`h']) n70=_;rw[`XL,z90 p h.f];rfl) h.f (my0 `fj h.lv))))
noncomputable def lkv(f:`cq):D->D
 | `yn=>`m [`gM,`d (f `nv:Int)]
 | v=>v
noncomputable def rel(f:`cq)(p:Pt):Pt:=`jy p (`B8)
theorem tt0{vs:`n}(h:`fE `af0∈vs):j∈`iH:=`nC ⟨_,h,by simp only[`aA]⟩
theorem t00{p:Pt}(h:`dz)(f:`cq)(D':D)(hd:∀j∈`su,`XM):`aCW:=by
 refine j4 rfl (u5 (δ':=[`h',`gU,.sh (`af5)]) (j6 (U3 (items:=`fj) (by
  show `f6 (oA `eL `kX [`h',`gU,.un]) n70=_;rw[`XL,z90 p h.f];rfl) h.f ?_)) (o8 (Z2 (by rw[`aCX];exact Yq0 p h.f _))))
 refine zb0 `ns λv hv=>⟨[.sh v,`gU],rfl,rfl,?_⟩
 rcases `yr with rfl|⟨z,rfl⟩|⟨j,rfl,hj⟩
 ·rfl
 ·rfl
 ·unfold ifG
  rw[show ob (U7 `cI `I) [.sh (`k3),`gU]=`dv from rfl];show m7 _ _=_;exact b8 (`v rfl (`v (d:=`Or) (by
   rw[o4 (x:=D') (y:=`fZ) rfl rfl];exact hd j `XN) rfl)) `vs
theorem sn0(p:Pt)(vs:`n)(h:`oA):(`vb).vals=vs:=by
 cases p with
 | text w=>exact(List.eq_nil_of_length_eq_zero h).symm
 | row us=>rfl
 | table ps =>
  show `aCY;refine D00 ?_;have h':`O8:=h;simp only[`M] at h' ⊢;omega
 | rcd c ps =>
  show `aCY;refine D00 ?_;have h':`O8:=h;simp only[`M] at h' ⊢;omega
theorem cu0{p:Pt}(h:`dz)(f:`cq)(hf:∀j∈`su,f j<m):Pw m `ys:=by
 have e:`aCZ:=`XO;refine⟨by rw[e,`M];exact `k?,`oB⟩;rw[e] at hv;obtain⟨u,hu,rfl⟩:=`fX hv;rcases h.lv u hu with rfl|⟨z,rfl⟩|⟨i,rfl,hi⟩
 ·exact `a3
 ·exact `h (`k `agB)
 ·exact `h (`h ⟨f i,rfl,hf i (tt0 hu)⟩)
noncomputable def kd(l:`e):`dK:=`dJ `ap9
noncomputable def td(l:`e):`n:=`dJ `aC_
theorem b80(a b:`e):kd `ra=kd a++kd b:=by unfold kd;rw[`aW]
theorem ho0(o:`e)(x:Nat):Q5 (kd o) `B?=`aCN:=by
 unfold Q5 kd;rw[`aCO];rw[`gn,`yo,`l2];constructor
 ·rintro⟨y,hy,e⟩
  have e:=W1 e;injection e with e
  have:y=x:=`p
  subst this;exact hy
 ·intro h;exact⟨x,h,`Ce⟩
noncomputable def ded(S:`e):`e:=S.foldl (λa x=>`Os) []
theorem ib0:∀(S a:`e),(∀y,y∈`aC0↔y∈a∨y∈S)/\(`aC0).length<=`nD+`XP
 | [],a=>⟨`aC1,`aS⟩
 | x::S,a=>by
  obtain⟨h1,h2⟩:=ib0 S (`Os);refine⟨λy=>?_,?_⟩
  ·rw[`j9,h1]
   split
   ·rename_i hx
    constructor
    ·rintro (h|h)
     ·exact `E5
     ·exact `h (A8 _ h)
    ·rintro (h|h)
     ·exact `E5
     ·rcases `c_ h with rfl|h
      ·exact `k hx
      ·exact `FF
   ·rw[List.mem_append,`as7,`aX,or_assoc]
  ·rw[`j9]
   refine C1 h2 ?_;split
   ·simp only[`bo];omega
   ·simp only[`ai,`bo,`h1];omega
theorem Wg0(S:`e)(y:Nat):y∈`qx↔y∈S:=by
 unfold ded;rw[(ib0 S []).1];simp
theorem Wc0(S:`e):(`qx).length<=`XP:=by
 have:=(ib0 S []).2;rw[`h1,`bT] at this;exact `x
noncomputable def MT:GB:=`aCH
noncomputable def MBg(gw:GE):GS:=(u6 `aCI
 (u6 (ifD `aCJ
 (u6 `aCK
 (u6 (W7 `XI)
 (u6 (W7 `aC2)
 p7)))
 p7)
 p7))
noncomputable def ms(W:D)(k l:Sl)(U o T:`e)(s:Sl):Ds:=[`nt,k,l,`Ca,.ow (`aP (`k `B!) (nd U++td o)),`Cb,s]
section
variable{W:D}{k l:Sl}{U:`e}
theorem eo0(s:Sl)(o T:`e):MT `XQ=`aC3:=by
 have e:Q0 `afX `XQ=`aC4:=by
  show `a (`aQ (`aC5:Int))=_;rw[M4,`ke]
 unfold MT ob;rw[`aC6];show `aC7;congr 1;rw[`oC];omega
theorem Sp0(s:Sl)(o T:`e)(x:Nat):V3 (uy0 5) `hW `Ov=`aC8:=by
 have e1:owL 5 `Ov=`a (nd `O'):=rfl;have e2:nd `O'=`Ou++[`k6]:=by rw[`oa,vc0];rfl
 unfold V3 uy0;rw[e1,`j,e2,`aC9,`aC'];rfl
theorem Xo0(o T:`e)(x:Nat):yp0 `afY (`B')=`a (`G (x∉U++o)):=by
 show `a (xor `c (`aC!))=_;rw[ho0,`r8];congr 1
 by_cases h:x∈U++o
 ·rw[`yi,`cE (`XR)];rfl
 ·rw[`rd,`yi];rfl
theorem cz0{gw:GE}{P:Nat->Prop}{adj:`oy}{S:`e}(hS:∀y,y∈U↔y∈S)(hU:U.length<=1000)(hA:∀x,P x->∃d,(∀s1 s2 s3 s4 s5:Sl,gw [`nt,s1,s2,s3,s4,s5,`h4]=`ar)/\w50 [d]=`a (`XS)/\(`jA).length<=12/\∀j∈`jA,P j):∀{c:Nat} {o T r:`e},`yj->(∀x∈T,P x)->`aC?->∀(m:Nat) (s:Sl),c<m->∃s',V2 MT (MBg gw) m `XQ=`a (.nx (ms W k l U r [] s')):=by
 intro c o T r h
 induction h with
 | nil o =>
  intro _ _ m s hm;cases m with
  | zero=>omega
  | succ m =>
   refine⟨s,?_⟩;unfold V2;rw[eo0];rfl
 | @skip c o T r x hx hd ih =>
  intro hT hl m s hm;cases m with
  | zero=>omega
  | succ m =>
   rw[`bo] at hl;obtain⟨s',e⟩:=ih (`XG) `g m `fm `g;refine`yt;have F:x∈U++o:=B5.mpr (hx.symm.imp (hS x).mpr id);have eb:`aDa=`aC8 :=
    u5 (Sp0 s o T x) (u5 (δ':=`B') (by rw[Z3 (by rw[Xo0,`cE (λz=>z F)])];rfl) rfl)
   unfold V2;rw[eo0,`H0];dsimp only;rw[eb];exact e
 | @visit c o T r x hx hxS hz hd ih =>
  intro hT hl m s hm;cases m with
  | zero=>omega
  | succ m =>
   have M:=`XH;obtain⟨d,Y,O,Z,J⟩:=hA x M;have zs:`H1:=`O
   rw[`ai] at hz;obtain⟨s',e⟩:=ih (λy hy=>by
    rcases `kg with q|q
    ·exact J y q
    ·exact hT y (A8 _ q)) `aCD m `fm `g
   refine`yt;have F:x∉U++o:=λz=>(`d' z).elim (λq=>hxS ((hS x).mp q)) hx
   have p1:V3 (V7 `B5) `afZ (`B')=`a (.nx `aDb):=by
    have hk:`aC!=`q:=`aDc
    have e1:`aDd=`af9:=by
     unfold zc0;rw[hk,`eZ,← `eP,b80 (U++o)];rfl
    have e2:`aDe=`af':=by
     unfold zk0;rw[hk,`eZ];unfold td;rw[`aW,`eP];rfl
    unfold V3 V7;show ((if (kd (U++o)).length<sizeLine then `a ([`nt,k,l,`Ca,Sl.ow (`aP (`k (`aDd)) (`aDe)),`Cb,`h4]) else `b).map `vq)=_;rw[`H (by unfold kd;rw[`M,`ai];omega),e1,e2];rfl
   have p2:W7 `XI `aDb=`a (.nx `XT):=by
    rw[`aDf,vc0];rfl
   have p3:W7 `aC2 `XT=`aDg:=by
    have ev:oA `af7 o20 `XT=`a (`o (`aDh)):=by
     rw[o7 (ds:=[`XS]) (`v (d:=`XS) (by
      rw[o7 (ds:=[d]) (`v (d:=d) (Y _ _ _ _ _) rfl)];exact O) rfl)]
     show `a (`gR (nd (`jA)).reverse)=_;rw[Sf0]
    unfold W7 ew0;rw[ev];show `oD _ (if `aC5+(`aDh).length<=`W then _ else _)=_;rw[`H (by rw[M4,M4,`ke,`ke];omega),← vc0,← `XU];rfl
   have eb:`aDa=`aDg :=
    u5 (Sp0 s o T x) (u5 (δ':=`aga) (by
     rw[U4 (by rw[Xo0,`bR F])];exact u5 p1 (u5 p2 (u5 p3 rfl))) rfl)
   unfold V2;rw[eo0,`H0];dsimp only;rw[eb];exact e
universe zz
theorem sa0(h:`Q)(S:`e)(hS:`XP<=1000){x:Nat}(hx:`XV)(hd:`aDi)(hc:`XW):v70 [`br,`k6,`Cd]=`H2:=by
 have hl:=Wc0 S;obtain⟨s',e⟩:=cz0 (W:=`br) (k:=`h4) (l:=`yu) (U:=`qx) (gw:=`af_) (P:=λy=>`XX) (Wg0 S) `g (λy hy=>by
  obtain⟨e1,_,q⟩:=`qv hy;refine⟨_,λ_ _ _ _ _=>(o4 (x:=`br) (y:=`d `Xj) rfl rfl).trans e1,?_,?_,?_⟩
  ·rw[`yv hy];exact Yg0 q
  ·rw[`yv hy];exact `aDj
  ·exact R10 h.good y hy) hd `aDk `S 100000 .un `g
 refine K1 rfl (u5 (δ':=[`as,`h4,`yu,`jw,.un,.un,.un]) rfl (u5 (δ':=[`as,`h4,`yu,`jw,.ow (`Cd),.un,.un]) rfl (u5 (δ':=ms `ck `fm (`yu) (`qx) [] [x] .un) ?_ (u5 e `Xd))))
 ·unfold ms
  rw[`fu];show `a (`vq [`as,`h4,`yu,`jw,.ow (`Cd),.ow (`o [`k6]),.un])=_;have:`Ox++td []=`Ox:=Aj0 _;rw[`x];rfl
 ·rfl
theorem l40{adj:`oy}{S:`e}:∀{c:Nat} {o T r:`e},`yj->(∀i∈o,∀j∈`yl,j∈o∨j∈S∨j∈T)->(`aDl)/\∀i∈r,∀j∈`yl,`aDm:=by
 intro c o T r h
 induction h with
 | nil o =>
  intro H;refine⟨`aDn,`aDo⟩;rcases `XY with q|q|q
  ·exact `kt
  ·exact `h q
  ·cases q
 | @skip c o T r x hx hd ih =>
  intro H;refine ih `aDo
  rcases `XY with q|q|q
  ·exact `kt
  ·exact `h `ry
  ·rcases `HR with rfl|q
   ·exact hx.imp id `k
   ·exact `h `yk
 | @visit c o T r x hx hxS hz hd ih =>
  intro H;obtain⟨⟨s,e⟩,h2⟩:=ih λi hi j hj=>by
   rcases `d' hi with hi|hi
   ·rcases `XY with q|q|q
    ·exact `k (N1 _ q)
    ·exact `h `ry
    ·rcases `HR with rfl|q
     ·exact `k `S
     ·exact `h (`h (E4 _ q))
   ·rw[`ee hi] at hj
    exact `aDp
  exact⟨`aDq,h2⟩
theorem walk(h:`Q)(S:`e){x:Nat}(hx:`XV):∃c r,`aDi/\`XW/\`ym/\(∀y∈r,`XX/\y∉S)/\(∀i∈r,∀j∈`yq,`aDm)/\(x∈S->r=[])/\(`B4->∃s,r=x::s):=by
 obtain⟨c,r,h1,h2,h3,h4,_⟩:=Tu0 `vf S `am `H_ (λi hi=>by
  rw[`yv hi];obtain⟨_,_,q⟩:=`yp;exact⟨`aDj,tn0 q.lv⟩) 1000 [] [x] (by have:=`H_;simp only[`bo,`h1];omega) `s G0 `aDr `aDk
 obtain⟨_,f2⟩:=l40 h1 λi hi=>by cases hi
 refine⟨c,r,h1,`p,h3,h4,f2,λhS=>?_,λhS=>?_⟩
 ·cases h1 with
  | skip _ h=>cases h;rfl
  | visit _ q _ _=>exact `y hS q
 ·cases h1 with
  | skip q _=>exact `y (q.resolve_left `S) hS
  | visit _ _ _ hd =>
   obtain⟨⟨s,e⟩,_⟩:=l40 hd λi hi j hj=>by
    rw[show i=x from `Lm] at hj;exact `aDp
   exact⟨s,e⟩
theorem fl0:∀(r:`e) (m j:Nat),`nu->R5 (kd r) (nd (`eQ m `a')) `XZ=`a (`d ((m+`vA:Nat):Int))
 | [],_,_,h=>by cases h
 | u::r,m,j,h=>by
  rw[`bo,`WE];show (if (`go (u:Int):U6)=`agb then `a (`aQ `fP) else R5 (kd r) (nd (`eQ `v_ `a')) `XZ)=_
  by_cases e:u=j
  ·subst e;rw[`aB,List.idxOf_cons_self];rfl
  ·rw[`P (by intro q;injection q with q;omega),fl0 r `v_ j `aDs,show (u::r).idxOf j=`vA+1 from by rw[`X_,`X0 e];rfl]
   congr 2;omega
universe K22
namespace K22
open Wa
open DL W
theorem zm0(ns:`au)(k:Int)(h0:`f_):`Xa:=`aDt
theorem nt0(c t:Int):∃nm,`aBk/\`aDu:=Gw.nt0 c t
theorem rt0(cs:`au)(hc:`HX)(m:Nat)(hm:`Xy)(nm:`u)(hp:`aDu) :
  ∃ps:`Y,`aCk/\`am=m/\∀p∈ps,`aDv:=Gw.rt0 cs hc m hm nm hp
theorem Rr0{p:Pt}{nm:`u}(h:`aDv):Pw m p:=by
 refine⟨?_,`oB⟩
 ·have ok:=h.ok
  cases p with
  | text w=>show 0<=12;decide
  | row vs=>exact ok.1
  | table ps=>show `H3;rw[`M];exact ok.len
  | rcd c ps=>show `H3;rw[`M];exact ok.2.len
 ·have k:=h.vk v hv
  rcases l70 k.ok with rfl|⟨i,rfl⟩|⟨i,rfl,hi⟩
  ·exact `a3
  ·exact `WT
  ·have:=`aDw
   exact `aDx
theorem sb0(ns:`au)(hl:`X1):`aDy:=by
 have z:`HO:=`O
 obtain⟨c0,h0⟩:=zm0 ns 0 `s;obtain⟨c1,h1⟩:=zm0 ns 1 `s;obtain⟨t,ht⟩:=zm0 ns 2 `s;obtain⟨c3,h3⟩:=zm0 ns 3 `s;obtain⟨nm,Z,J⟩:=nt0 c0 c1;obtain⟨m,hm,a0⟩:∃m:Nat,(`aDz)/\∀s4:Sl,o2 `aM `aAL d9 [`sp,.sh (`jr),`eO,`eh,s4]=`a (`np):=by
  obtain⟨q,hq,O⟩:∃q:Int,(0<q/\q<=60)/\atI `aDA (`sv)=`a (`d q):=by
   have h:`sv=0∨`sv=1∨`sv=2∨`sv=3:=`p
   rcases h with e|e|e|e<;>rw[e]
   ·exact`aDB
   ·exact`aDB
   ·exact⟨60,`O,rfl⟩
   ·exact⟨4,`O,rfl⟩
  have b1:0<=t%q:=`l4;have b2:t%q<q:=`oz;refine⟨`aDC,`p,λs4=>?_⟩;have e:((`aDC:Nat):Int)=1+t%q:=`p
  rw[e];rw[o4 (x:=`eK) (y:=`d (t%q)) rfl (by
   rw[o4 (x:=`nk) (y:=`d q) rfl (by
    rw[o4 (x:=`o `aDA) (y:=`d (`sv)) (z40 rfl (by show (4:Nat)<=_;omega)) rfl];exact O)]
   exact `OB _ _ hq.1)]
  rfl
 obtain⟨cs,a1,M⟩:∃cs:`au,(`HX)/\o2 `aAM `aAN d9 [`sp,.sh (`jr),`eO,`eh,`nq]=`a (`qs):=by
  obtain⟨us,hu,a2⟩:∃us:`au,`fv<=63/\`hO `HB (`a 9) (`a 60)=`aDD:=by
   refine⟨(`uI (`aDE)).take (sIx `BN `BN (`a 60) - `aDE),?_,?_⟩
   ·rw[`b9,`fC];omega
   ·unfold cutD
    rw[`sw,`aDF]
  refine⟨us++[c3],`mB,?_⟩;rw[o4 (x:=`o (`aDD)) (y:=`o [`d c3]) (by rw[← a2];rfl) (z40 (`v (by rw[o7 (ds:=[`fg,`ne]) rfl];exact h3) rfl) (by show `aDG;omega))];simp only[d9];rw[`H (by rw[`M];show `fv+1<=_;omega),`aW];rfl
 obtain⟨ps,Y,F,hg⟩:=rt0 cs a1 m ⟨hm.1,`p⟩ nm J;refine⟨ps,j4 rfl (u5 (j6 (d:=`jv) ?_) (u5 `aDH (u5 (j6 (a0 _)) `cz))),⟨by rw[F];exact hm,λp hp=>by rw[F];exact Rr0 (hg p hp)⟩⟩
 ·rw[o7 (ds:=[`d c0,`d c1]) (`v (by rw[o7 (ds:=[`fg,`c5]) rfl];exact h0) (`v (by rw[o7 (ds:=[`fg,`eK]) rfl];exact h1) rfl))]
  exact Z
 ·rw[o7 (ds:=[`fg,`kZ]) rfl]
  exact ht
 ·rw[o7 (ds:=`afT) (`v (by exact M) rfl)]
  exact Y
theorem o80{v:D}(h:`dQ)(k:Nat):`bx v `bS=`c:=by
 rcases h with rfl|⟨z,rfl⟩|⟨j,rfl,_⟩<;>simp[`bx,`cw]
theorem up0{k:Nat}(h:∀x∈l,`bx x k=`c):`cw l k=`c:=by
 induction l with
 | nil=>rfl
 | cons a l ih=>rw[`cw,h a B0,ih `Tz];rfl
theorem Sj0{p:Pt}(h:`dz)(k:Nat):`bx p.d (k+4)=`c:=by
 have lp:∀ps:`eu,(∀v∈`hU,`dQ)->`cw `kW (k+2)=`c:=λps hv=>up0 λx hx=>by
  obtain⟨q,hq,rfl⟩:=`r2;have:=o80 (`aDI) k;show `cw [`E q.1,q.2] `bS=`c;rw[`cw,`cw,`cw,`x];simp[`bx]
 cases p with
 | text w=>simp[`dP,`bx,`cw]
 | row vs =>
  have e:`cw vs (k+2)=`c:=up0 λx hx=>o80 `aDJ `bS
  simp[`dP,`bx,`cw,e]
 | table ps =>
  have e:=`aDK;simp[`dP,`bx,`cw,e]
 | rcd c ps =>
  have e:=`aDK;simp[`dP,`bx,`cw,e]
theorem Wz0(h:`Q)(k:Nat):`bx `ck (k+5)=`c:=by
 unfold wd;rw[`bx];refine up0 `f3
 obtain⟨p,hp,rfl⟩:=`r2;exact Sj0 (`X2) k
universe K22
namespace Bw
open DL W
theorem z10{g:GE}{b:`V}(h:`ay=`rm):`X3=`ed:=by
 unfold ob;rw[h];rfl
universe Bw
namespace Ta
open Wa
open DL W K22
noncomputable def pN(p:`F):D:=`m [`d `H4,`d `H5]
noncomputable def k2(p:`F):`dK:=[`k `H4,`k `H5]
theorem y80{p:`F}(h:k2 p=k2 q):p=q:=by
 unfold k2 at h;injection h with h1 h2
 injection h2 with h2 _
 injection h1 with h1
 injection h2 with h2
 exact `aDL
theorem Z90(ks:`pR)(k:`dK):`aDM:=by
 unfold Q5;rw[`yo];constructor
 ·rintro⟨x,hx,e⟩
  rw[← `aDN];exact hx
 ·intro h
  exact`aDO
noncomputable def Dc(L:`aG)(d:D):Prop:=∃ks vs,d=`aP (`lR) vs/\∀x,x∈ks↔∃p∈L,x=k2 p
theorem Qq0{d:D}(h:Dc L d)(p:`F):ys0 `c (pN p) d=`a (.bl (`G (p∉L))):=by
 obtain⟨ks,vs,rfl,hk⟩:=h;show `a (D.bl (xor `c (`X4)))=_
 by_cases z:p∈L
 ·rw[(Z90 ks _).mpr ((hk _).mpr ⟨p,z,rfl⟩),`cE (λq=>q z)];rfl
 ·have:`X4=`q:=by
   cases e:`X4 with
   | false=>rfl
   | true =>
    obtain⟨q,hq,e2⟩:=(hk _).mp ((Z90 ks _).mp e);exact `y (y80 e2▸hq) z
  rw[`x,`bR z];rfl
noncomputable def okv(L:`aG):D->D->Prop
 | `HD,`yn=>`aDP∈L
 | v,w=>v=w
theorem Pj0{v:D}(h:`dQ):`yw v:=by
 refine⟨o80 h 49,?_⟩;rcases h with rfl|⟨z,rfl⟩|⟨j,rfl,_⟩<;>simp[`vG,Pn.nbs]
noncomputable def J6(p:Prop)(o:`cs):Prop:=(p->o=`jM)/\(¬p->o=`FL)
theorem fj0{p:Prop}{g:GE}(h:J6 p (`ay)):(p->`X3=`dv)/\(¬p->`X3=`bH) :=
 ⟨λz=>by unfold ob;rw[h.1 z];rfl,λz=>by unfold ob;rw[h.2 z];rfl⟩
theorem ck0{v w:D}(hv:`dQ)(hw:`H6)(h:¬(`X5)):`X6↔v=w:=by
 rcases hv with rfl|⟨z,rfl⟩|⟨j,rfl,_⟩<;>rcases hw with rfl|⟨z',rfl⟩|⟨j',rfl,_⟩<;>first|exact Iff.rfl|exact `y `eA h
theorem Ur0(v w:D):`aDQ:=by
 refine `aBG;unfold ei0;rw[show ob (U7 `cI `gJ) (W9 t30 [`vh])=`a (`qy) from rfl,`j];cases `qy with
 | false=>rfl
 | true=>rw[`aB];rfl
noncomputable def pa(ps:`Y)(i:Nat):Pt:=ps.getD i (.row [])
noncomputable def up(ps qs:`Y)(L:`aG)(p:`F):Prop:=`cJ (pa ps p.1)=`cJ (pa qs p.2)/\∀q∈(pa ps p.1).vals.zip (pa qs p.2).vals,`aDR
theorem Z6(h:`Q)(hi:`ss):`aCS=`a (`h5).d/\Pw `am `vC:=by
 obtain⟨a,_,c⟩:=`yp;have:`h5=ps[i]:=`aDS
 rw[`x];exact⟨a,c⟩
noncomputable def prg(ps qs:`Y)(L:`aG):Prop:=`cm∈L/\(`h! `bv).Nodup/\(`h! `b_).Nodup/\∀p∈L,up ps qs L p
theorem zr0(ps:`Y)(δ:Ds)(h:gv i δ=`a `ck):oA (z9 (gv i) v7) b7 δ=`a (`CJ):=by
 rw[o7 (ds:=`CE) `awb];show `a (`aQ ((`BY).length:Int))=_;rw[`M]
universe Ta
namespace Ta
open Wa
open DL W K22
theorem so0{p:Pt}(h:`dz):m5 `ju=`aDT:=by
 have zs:`HO:=`O
 have hf:=`k?;have nc:∀ps:`eu,V1 `HJ noT `I [.un,.un] `kW=`azP:=λps=>by
  rw[zb0 (λd=>match d with|`m [a,_]=>a|_=>`w) (λd hd=>by
   obtain⟨q,_,rfl⟩:=`d1;exact⟨[.sh (`E q.1),.sh q.2],rfl,rfl,rfl⟩),`b3,`b3]
  rfl
 cases p with
 | text w=>kernel_rfl
 | row vs =>
  have hf:`B6:=hf;refine `so;rw[`BF];exact `yh
 | table ps =>
  have hf:`H3:=hf;rw[`M] at hf;refine j4 rfl (u5 (δ':=`qk) `b8 (u5 (δ':=`qk) `b8 `cz));rw[o4 (x:=`m [`uU]) (y:=`aDU) rfl (b8 (`v (by
   rw[`aDV];rfl) rfl) `f7)]
  rfl
 | rcd c ps =>
  have hf:`H3:=hf;rw[`M] at hf;refine j4 rfl (u5 (δ':=`nj) `b8 (u5 (δ':=`nj) `b8 `cz));rw[o4 (x:=`m `aCy) (y:=`aDU) rfl (b8 (`v (by
   rw[`aDV];rfl) rfl) `f7)]
  rfl
theorem pq0{p q:Pt}(h:`X7):`B0=q.vals.length:=by
 have inj:∀{a b:`eu},`fE ((`P_).map `E)=`fE ((`qP `bv).map `E)->(`uN `b_).length=(`qP `b_).length:=λ{a b} e=>by
  injection e with e
  have:=`aCu
  simpa using `x
 cases p with
 | text w =>
  cases q with
  | text w'=>rfl
  | row vs=>injection h with h;injection h with h _;injection h with h;exact `gl
  | table ps=>injection h with h;injection h with h _;injection h with h;exact `gl
  | rcd c ps=>injection h with h;injection h with h _;injection h with h;exact `gl
 | row vs =>
  cases q with
  | text w'=>injection h with h;injection h with h _;injection h with h;exact `gl
  | row ws =>
   injection h with h
   injection h with _ h
   injection h with h _
   injection h with h
   show `cf=`n9;omega
  | table ps=>injection h with h;injection h with h _;injection h with h;exact `gl
  | rcd c ps=>injection h with h;injection h with h _;injection h with h;exact `gl
 | table as =>
  cases q with
  | text w'=>injection h with h;injection h with h _;injection h with h;exact `gl
  | row vs=>injection h with h;injection h with h _;injection h with h;exact `gl
  | table ps =>
   injection h with h
   injection h with _ h
   injection h with h _
   exact inj h
  | rcd c ps=>injection h with h;injection h with h _;injection h with h;exact `gl
 | rcd c as =>
  cases q with
  | text w'=>injection h with h;injection h with h _;injection h with h;exact `gl
  | row vs=>injection h with h;injection h with h _;injection h with h;exact `gl
  | table ps=>injection h with h;injection h with h _;injection h with h;exact `gl
  | rcd c' ps =>
   injection h with h
   injection h with _ h
   injection h with _ h
   injection h with h _
   exact inj h
noncomputable def gl1:`aN->`aD `s5
 | (`HD,`yn)=>`a `aDP
 | _=>`b
noncomputable def gl(z:`ca):`aG:=z.filterMap gl1
noncomputable def nl(q:`aN):Prop:=(`X8)∨q.1=q.2
theorem i10(n:Nat):`ya=`aDW λ(k:Nat)=>`aQ `bq:=by
 unfold T9;rw[`azd,show (`b7 - 0).toNat=n by omega];refine `av7
 congr 1;omega
theorem su0{p:Pt}(h:`dz):`HY:=`aDX
theorem bf0{P R:Pt}(hP:Pw n P)(hR:Pw m R)(L:`aG):(∀q∈`H7,`aDR)↔(∀q∈`H7,nl q)/\∀x∈gl (`H7),x∈L:=by
 have lv:∀q∈`H7,Lv n q.1/\Lv m q.2:=λq hq=>⟨hP.lv _ (L5 hq).1,hR.lv _ (L5 hq).2⟩
 have one:∀v w,`dQ->`H6->(`X5->∃x,`H8=`bd/\(`X6↔x∈L)):=λv w hv hw hb=>by
  rcases hv with rfl|⟨z,rfl⟩|⟨i,rfl,_⟩
  ·exact `aDY
  ·exact `aDY
  ·rcases hw with rfl|⟨z,rfl⟩|⟨j,rfl,_⟩
   ·exact `aDZ
   ·exact `aDZ
   ·refine⟨`f1,?_,?_⟩
    ·unfold gl1;simp only[`aA]
    ·unfold okv;simp only[`aA]
 have F:∀v w,`H8≠`b->`X5:=λv w h=>by
  unfold gl1 at h;split at h
  ·rename_i e
   injection e with e1 e2
   subst e1;subst e2;exact`eA
  ·exact `al5
 constructor
 ·intro z
  refine⟨`A6,`f3⟩
  ·by_cases hb:`X8
   ·exact `xk
   ·exact `h ((`aD_).mp (z q hq))
  ·obtain⟨q,hq,e⟩:=`rq hx
   have hb:=F q.1 q.2 (by rw[`aD0,e];exact λz=>nomatch z);obtain⟨y,e2,e3⟩:=`aD1;rw[`aD0,e] at e2;cases e2;exact e3.mp (z q hq)
 ·rintro⟨z1,z2⟩ q hq
  by_cases hb:`X8
  ·obtain⟨y,e2,e3⟩:=`aD1
   exact e3.mpr (z2 y (`nC ⟨q,hq,e2⟩))
  ·exact(`aD_).mpr ((z1 q hq).resolve_left hb)
theorem fp0{l:`a5}{a:α}:(l++[a]).Nodup↔`XF/\a∉l:=by
 rw[`as6];constructor
 ·rintro⟨h1,_,h3⟩
  exact⟨h1,λz=>h3 a z a (L7.mpr rfl) rfl⟩
 ·rintro⟨h1,h2⟩
  exact⟨h1,`aS,λx hx y hy e=>by rw[`jB] at e;exact h2 (e▸hx)⟩
universe Ta
namespace Ta
open Wa
open DL W K22
theorem b40(h:j<n):ixN n `cy=`rB:=by
 unfold ixN;rw[`yx,`yx,`aA]
theorem o40(P:`e)(h:`aD2):ixD `vJ `nl=`a (`d ((`CG:Nat):Int)):=by
 show atI `Cg `cy=_;rw[za0 `g `qw `w,`aA];unfold nd;simp[h]
theorem getD_mem{P:`e}(h:`aD2):`CG∈P:=by
 rw[show `CG=P[j] from `x4];exact C0 h
theorem dx0(f:α->β):∀(l:`a5) (i:Nat),(`dJ f).eraseIdx i=(`Td i).map f
 | [],i=>`aS
 | a::l,0=>`aS
 | a::l,i+1=>by simp[dx0 f l i]
noncomputable def LTt:DL.GB:=`HK
noncomputable def LB:GS:=(u6 `aAU
 (u6 `aAV
 p7))
noncomputable def ls(c:Int)(m:Sl)(L P:`e):Ds:=[`yc,m,.ow (`o (nd L)),.ow `vJ]
theorem j60(c:Int)(m:Sl)(L P:`e):Q0 `N6 `oE=`a (`H9):=by
 show `a (`aQ ((nd L).length:Int))=_;rw[M4]
theorem Xn0(c:Int)(m:Sl)(L P:`e):LTt `oE=`a (`G (`H')):=by
 unfold LTt ob;rw[o4 (x:=`H9) (y:=`c5) (j60 c m L P) rfl];show `a (`G (`h2<(`h6:Int)))=_;congr 1;rw[`oC];omega
theorem Xl0(c:Int)(m:Sl)(L P:`e)(hL:`H')(hP:`j3<=1000):∃c' t,`X9/\LB `oE=`a (.nx (ls c' m `qA `H!)):=by
 have zs:`kh:=`O
 have b1:0<=`H?:=`l4;have b2:`H?<L.length:=`oz;obtain⟨t,ht⟩:∃t:Nat,`H?=`Ia:=⟨(`H?).toNat,`p⟩;have F:`X9:=`p
 have J:o2 `I `BE Z4 `oE=`a (`d `Ia):=by
  rw[o4 (x:=`hZ) (y:=`H9) rfl (j60 c m L P),`oF,ht]
 have gx:(nd L)[t]?=`a (`X'):=`aD3
 have ex:`aD4 t=nd `qA:=dx0 _ _ _;have hp:tz0 2 `afz `oE=`a (`X',`aD5):=by
  unfold tz0;rw[J];show (if 0<=`Ia/\`Ia<(nd L).length then ((nd L)[(t:Int).toNat]?).map λd=>(d,([`yc,m,Sl.ow (`o (`aD4 (t:Int).toNat)),.ow `vJ]:Ds)) else `b)=_;rw[`H ⟨`p,`af?⟩,`aA,gx,ex];rfl
 refine⟨c/3+`X!,t,F,?_⟩;refine u5 (δ':=ls c m `qA `H!) ?_ (u5 (j6 (d:=`d (c/3+`X!)) ?_) rfl)
 ·unfold W7 oc0
  rw[show owL 3 `oE=`a `Cg from rfl,`j,hp,`j];rw[show owL 3 (`aD5)=`a `Cg from rfl,`j,`H `qw];show `a (`vq [`yc,m,.ow (`o (nd `qA)),.ow (`o (nd P++[`X']))])=_;rw[show nd P++[`aQ `age]=nd `H! from `X?];rfl
 ·rw[o4 (x:=`d (c/3)) (y:=`d (`X!)) (by
   rw[o4 (x:=`hZ) (y:=`ne) rfl rfl];exact `sx) (by
   rw[o4 (x:=`afA) (y:=`d `agg) rfl (j60 _ _ _ _)];exact Gw.W60 _ _ `s)]
  rfl
theorem Xf0{i j:Int}(h1:`gC/\i<=1000)(h2:0<=j/\j<=1000):na0 `i2=`ay?:=by
 have q:∀B:Int,1000<B->(-B<=i/\i<B)/\(-B<=j/\j<B)/\`WD:=λB hB=>`p
 show (if _ then _ else _)=_;rw[`H (q _ `s)]
universe Ta
namespace Ta
open Wa
open DL W K22
theorem kd0(qs:`Y)(j:Nat)(q:Pt):(`k7).set j q.d=(`qC j q).map `dP:=by rw[List.map_set]
theorem tf0{g:GE}{gx:GE}{v:D}(h1:`jh=`mR)(h2:`ay=`a `nl)(h3:`avC)(h4:`hL=`aL):V3 (V7 gx) `auC δ=`a (.nx (`asB)):=by
 unfold V3 V7;rw[h4];unfold setAt;rw[`cC,`j,h1,`j,h2,`j];simp only[];rw[b40 h3];rfl
noncomputable def e90(a:Nat):Pt:=.row `aD6
theorem gw0{N a:Nat}(h:a<N):Pw N (e90 a):=by
 refine⟨by show 3<=12;decide,`oB⟩;have hv:v∈[`fE `agh,`w,`agj]:=hv;simp only[`aX,`a7,`a8] at hv;rcases hv with rfl|rfl|rfl
 ·exact `h (`h ⟨a,rfl,h⟩)
 ·exact `a3
 ·exact `h (`h ⟨0,rfl,`p⟩)
theorem wt0(xs:`n)(n:Nat):`hO xs `b `Ci=xs.take n:=by
 unfold cutD;show (`o0 0).take (sIx `ae `ae `Ci - 0)=_;rw[`yy,Nat.sub_zero];unfold sIx;simp only[];rw[`Ib,`aA]
 by_cases h:n<=`ae
 ·rw[`Ic h]
 ·rw[`aD7,`Ya,`HN `g]
theorem g50(xs:`n)(n:Nat):`hO xs `Ci `b=`o0 n:=by
 unfold cutD;show (`o0 (`aD8)).take (`ae - `aD8)=_;unfold sIx;simp only[];rw[`Ib,`aA]
 by_cases h:n<=`ae
 ·rw[`Ic h,`HN (by rw[`fC];exact `hl)]
 ·rw[`aD7,`Gl,List.take_nil,`aD9]
theorem Xr0{g gh:GE}{xs:`n}(h1:`ay=`tM)(h2:`Yb):`aD'=`a (`o `Eb):=by
 unfold U5 someO;rw[h1,h2,← wt0];rfl
theorem Rn0{g gh:GE}{xs:`n}(h1:`aD!)(h2:`Yb):`aD'=`a (`m `Eb):=by
 unfold U5 someO;rw[h1,h2,← wt0];rfl
theorem Ub0{g gh:GE}{xs:`n}(h1:`aD!)(h2:`Yb):U5 g (`eM gh) V8 δ=`a (`m `Q9):=by
 unfold U5 someO;rw[h1,h2,← g50];rfl
theorem U20{B:Int}{E:Nat}{xs:`n}{k:Int}{o:`cs}(h1:`lE)(h2:`aD?)(h3:`ae=1)(hB:100<B)(hE:100<=E):(if `lE/\`f_/\k<B/\`ME<=E then `Yc else o)=`Yc:=by
 rw[`H ⟨h1,h2.1,`p,by rw[h3];omega⟩]
theorem j10(a:α):∀n:Nat,(`a! n [a]).flatten=`a! n a
 | 0=>rfl
 | n+1=>by rw[`dY,`lI,j10 a n,`dY];rfl
theorem cq0{xs:`n}{k:Int}(h1:`lE)(h2:`aD?)(h3:`ae=1):mulL `kr (`fk)=`Yc:=U20 h1 h2 h3 `s `s
universe Ta
namespace Ta
open Wa
open DL W K22
theorem bj0(x m:Int)(hx:`aBI)(hm:0<m):∃v,`aBJ/\Gw.Vk v m:=Gw.iy0 x m hx hm
theorem qd0(p:Pt)(h:`e_)(vs:`n)(hl:`oA):`XC:=`aEa
theorem Rz0{v:D}(k:Gw.Vk v `fP):Lv m v:=by
 rcases l70 k.ok with rfl|⟨i,rfl⟩|⟨i,rfl,hi⟩
 ·exact `a3
 ·exact `WT
 ·have:=`aDw
  exact `aDx
theorem he0{p:Pt}(h:`dz){vs:`n}(hl:`oA)(hv:∀v∈vs,`dQ):Pw n (`vb):=by
 have e:=sn0 p vs hl;exact⟨by rw[e,hl];exact `k?,λv F=>by rw[e] at F;exact hv v F⟩
theorem eq_nil{vs:`n}(h:∀v∈vs,`dQ):W5 `ql `u3=`a (.bl (`G (`q'))):=by
 unfold W5;have e:`bx `ql 50=`c:=by
  rw[`bx];exact up0 λx hx=>o80 (h x hx) 48
 rw[`H ⟨e,by simp[`bx,`cw]⟩];cases vs with
 | nil=>simp[deq,J7]
 | cons a vs=>simp[deq,J7]
theorem sl0{xs ys:`n}(h:`Fh):d9 `o1 `tR=`asW:=by
 simp only[d9];rw[`lX]
theorem sp0(h:`ad)(x:Int):`aEb:=by
 have zs:`kh:=`O
 have hq:=`dt;have b1:0<=`vk:=`l4;have b2:`vk<qs.length:=`oz;obtain⟨k,hk⟩:∃k:Nat,`vk=`bq:=⟨`aEc,`p⟩;have F:k<qs.length:=`p
 obtain⟨e1,_,pw⟩:=`qv F;have gk:o2 `aC `gO Z4 `aEd=`aEe:=by
  rw[o4 (x:=`ek) (y:=`Id) rfl (zr0 qs _ rfl),`oF,hk]
 have gp:∀s2 s3:Sl,o2 `I `bQ ixD [`ap,`a6,`bk,s2,s3]=`a `yz:=λs2 s3=>by
  rw[`aEf];exact e1
 have M:oA `afr j5 `Yd=`aEg:=by
  rw[o7 (ds:=[`yz]) `aEh];exact su0 pw
 have s1:m8 `eN `N_ `aEd=`a (.nx `Yd):=j6 gk;have s2:T5 3 `N0 `Yd=`a (.nx `Ye):=by
  unfold T5;rw[M];rfl
 have t:yp0 `N2 `Ye=`aEi:=by
  show ob `N1 [`ap,`a6,`bk,`Yf,.un]=_;exact `cK (by rw[`aEj];exact eq_nil `ny)
 by_cases hn:`OD
 ·refine⟨qs,j4 rfl (u5 s1 (u5 s2 `eg)),h,rfl⟩
  rw[U4 (t.trans (by rw[`bR hn]))];exact o8 (Z2 rfl)
 ·have O:`aEk:=`Yg hn
  have c1:0<=`Ie:=`l4;have c2:`Ie<qs[k].vals.length:=`oz;obtain⟨j,hj⟩:∃j:Nat,`Ie=`cy:=⟨(`Ie).toNat,`p⟩;obtain⟨v,hv,vk⟩:=bj0 (x/240%1000000) `Cl `g `g;have hl:(`OF).length=`nx:=n9;have J:Pw `em (`Co):=he0 pw hl λu hu=>by
   rcases L8 hu with z|rfl
   ·exact `Yh
   ·exact Rz0 vk
  refine⟨`aEl,j4 rfl (u5 s1 (u5 s2 (u5 (δ':=`Ye) ?_ (u5 (δ':=[`ap,`a6,`bk,`nw,`h0]) (j6 ?_) (u5 (δ':=[`ap,`a6,`bk,.ow (`OG),`h0]) ?_ `cz))))),⟨`aEm,`lx⟩,n9⟩
  ·rw[Z3 (t.trans (by rw[`cE hn]))];rfl
  ·rw[o4 (x:=`aEn) (y:=`aEo) (by rw[`aEp];rfl) rfl,`oF,hj]
  ·rw[tf0 (ds:=`qB) (j:=j) (v:=v) rfl rfl `g (by
    rw[o7 (ds:=[`d (x/240%1000000),`Id]) (`v (by
     rw[o4 (x:=`aEq) (y:=`aAO) (by rw[`aEr];rfl) rfl];rfl) (`v (zr0 qs _ rfl) rfl))]
    exact hv)]
   rfl
  ·show o2 _ _ _ `If=_
   have g1:U5 `I V8 `N3 `If=`a (`m (`Yi)):=Rn0 rfl rfl;have g2:m7 `N4 `If=`a (`m [(`Co).d]):=b8 (`v (by
    rw[o7 (ds:=[`yz,`OG]) `aEh];exact qd0 _ pw.f _ hl) rfl) `f7
   have g3:U5 `I `N5 V8 `If=`a (`m (`Yj)):=Ub0 rfl (by rw[o4 (x:=`dL) (y:=`eK) rfl rfl];rfl);have l1:(`Yi).length<=60:=by rw[`b9,`M];omega
   have l2:(`Yj).length<=60:=by rw[`fC,`M];omega
   rw[o4 (o4 g1 g2 |>.trans (sl0 (by rw[`c'];omega))) g3,sl0 `Ig];have es:`Yi++[(`Co).d]++`Yj=(`aEl).map `dP:=by
    rw[← kd0,`aEs (l:=`k7),`H `aEt,`eP];rfl
   rw[es];rfl
  ·rw[`jD]
   rcases L8 hp with z|rfl
   ·exact `Yk
   ·exact J
noncomputable def OT:DL.GB:=`HK
noncomputable def OI:GS:=(u6 (ifD `W8
 (u6 (W7 (S9 2 `nJ))
 p7)
 p7)
 p7)
noncomputable def OB:GS:=(u6 `aAQ
 (u6 (ifD `aAR
 (u6 (W7 `W7)
 (u6 (M8 `aAS `fp OI)
 p7))
 p7)
 p7))
noncomputable def os(W:D)(o T:`e)(s3 s4:Sl):Ds:=[`nt,`Ca,.ow (`o (nd T)),s3,s4]
theorem d70(W:D)(o T:`e)(s3 s4:Sl):OT `Ih=`aC3:=by
 have e:Q0 `N6 `Ih=`aC4:=by
  show `a (`aQ ((nd T).length:Int))=_;rw[M4]
 unfold OT ob;rw[`aC6];show `aC7;congr 1;rw[`oC];omega
theorem tb0{v:D}(vs:`n)(h:`nr∨`af1):tgs (`r4)=`iH:=by
 unfold tgs;rw[`wF];rcases h with rfl|⟨z,rfl⟩<;>rfl
theorem k50(W:D)(o:`e)(s3:Sl):∀(us:`n) (T:`e) (s4:Sl),(∀v∈us,`dQ)->`vd+`fv<=15000->∃s',Y4 `fp OI us `Ih=`a (.nx (os W o (T++tgs us) s3 s'))
 | [],T,s4,_,_=>⟨s4,by rw[show tgs []=[] from rfl,`fu];rfl⟩
 | v::us,T,s4,h,hl=>by
  have zs:`H1:=`O
  rw[`bo] at hl;unfold Y4;have h':∀v∈us,`dQ:=`SF
  rcases `zL with e|⟨z,e⟩|⟨j,e,hj⟩
  ·obtain⟨s',k⟩:=`aEu
   refine`yt;rw[tb0 us `AX,← k];subst e;rfl
  ·obtain⟨s',k⟩:=`aEu
   refine`yt;rw[tb0 us (`h ⟨z,e⟩),← k];subst e;rfl
  ·obtain⟨s',k⟩:=k50 W o s3 us `Yl `Cp h' `Ig
   refine`yt;have eb:OI `aEv=`a (.nx (os W o `Yl s3 `Cp)):=by
    subst e;refine `sy;rw[`iI];refine `sy;rw[`Ow (l:=nd T) (d:=`fZ) rfl rfl `qw,show nd T++[`aQ `cy]=nd `Yl from `X?];rfl
   rw[show gN 4 v `Ih=`a `aEv from rfl,`j,eb];dsimp only;rw[k];subst e;rw[ol0,`eP];rfl
theorem Vb0(vs:`n):tgs vs.reverse=(`iH).reverse:=by unfold tgs;rw[List.filterMap_reverse]
universe Ta
namespace Ta
open Wa
open DL W K22 SoT
noncomputable def zz(p:`F):`uM:=(`H4,`H5)
noncomputable def nn2(q:`uM):`F:=(q.1.toNat,q.2.toNat)
theorem ih0{f:α->β}(hf:∀a b,`O7):∀{l:`a5},`XF->(`dJ f).Nodup
 | [],_=>G0
 | a::l,h=>by
  rw[`l5] at h;rw[`Z,`l5];refine⟨`dX,ih0 hf h.2⟩;obtain⟨b,hb,e⟩:=`yA;exact h.1 (hf _ _ e▸hb)
universe Ta
namespace Fa
open DL W K22 Ta
noncomputable def ir(n:Nat)(L:`aG):Prop:=∀p∈L,p.1<n/\p.2<n
theorem Xw0{A:`aG}(h:`Ym)(hA:ir n A):`Yn<=n*n:=by
 have h2:(`Yo).Nodup:=by
  refine `Oa (h.imp_of_mem λ{p q} hp hq F z=>F ?_);have a1:=hA p hp;have a2:=hA q hq;have e1:`zm:=by
   have:=C5 (·/n) z;rw[`Tk,`aEw,`aEx a1.2,`Tk (q.1*n),`aEw,`aEx a2.2] at this;omega
  refine N4 e1 ?_;rw[e1] at z;omega
 have h3:(`Yo).length<=n*n:=by
  have sub:(`Yo) ⊆ `cx (n*n):=λx hx=>by
   obtain⟨p,hp,rfl⟩:=`r2;have:=hA p hp;rw[List.mem_range]
   calc p.1*n+p.2<p.1*n+n:=by omega
    _=(p.1+1)*n:=by rw[Nat.add_mul,`aEy]
    _<=n*n:=Nat.mul_le_mul_right n `g
  have:=D10 h2 sub
  rwa [Ai0] at this
 rwa [`M] at h3
theorem Zn0(h:∀d∈l,`x3):trees l=`c:=by
 induction l with
 | nil=>unfold trees;rfl
 | cons d l ih =>
  unfold trees;rw[`HL,`W!];rfl
theorem zx0(h:∀d∈l,`x3):`jj `wr=`c:=by unfold tree;exact Zn0 h
theorem wl0(s:Str):`jj (`q!)=`c:=by unfold tree;rfl
theorem gv0{v:D}(h:`dQ):`Yp:=by
 rcases h with rfl|⟨i,rfl⟩|⟨i,rfl,_⟩
 ·unfold tree;rfl
 ·unfold tree;rfl
 ·exact zx0 λd hd=>by
   simp only[`aX,`a7,`a8] at hd;rcases hd with rfl|rfl<;>(unfold tree;rfl)
theorem Wm0(p:Pt)(h:∀v∈`fj,`Yp):`jj p.d=`c:=by
 have F:∀ps:`eu,(∀v∈`hU,`Yp)->`jj (`k2)=`c:=λps hv=>zx0 λd hd=>by
  obtain⟨q,hq,rfl⟩:=`d1;refine zx0 `agI
  simp only[`aX,`a7,`a8] at he;rcases he with rfl|rfl
  ·exact `sz
  ·exact `aDI
 cases p with
 | text w=>exact zx0 λd hd=>by simp only[`aX,`a7,`a8] at hd;rcases hd with rfl|rfl<;>exact `sz
 | row vs =>
   refine `Yq
   simp only[`aX,`a7,`a8] at hd;rcases hd with rfl|rfl
   ·exact `sz
   ·exact zx0 λv hv=>(h v hv)
 | table ps =>
   refine `Yq
   simp only[`aX,`a7,`a8] at hd;rcases hd with rfl|rfl
   ·exact `sz
   ·exact F ps h
 | rcd c ps =>
   refine `Yq
   simp only[`aX,`a7,`a8] at hd;rcases hd with rfl|rfl|rfl
   ·exact `sz
   ·exact `sz
   ·exact F ps h
universe Fa
namespace La
open Wa
open DL W K22 Ta
abbrev Bk:=`iJ
abbrev Cs:=`aG×`Ii
noncomputable def cD:Bk->D
 | `b=>`w
 | `OL=>`m [pN p,`dL]
variable{s':La.Cs}
noncomputable def cm(s:Cs):D:=`aP (`h `vu) (`Ij)
noncomputable def nI(k:Nat):D:=`dL
noncomputable def ex1(q:`F)(k:Nat)(v:`aN)(s:Cs):Cs:=match `eR with
 | `bd=>if `oG then s else (`sA,`OV)
 | `b=>s
noncomputable def exs(q:`F):Nat->`ca->Cs->Cs
 | _,[],s=>s
 | k,`fo,s=>exs q `bS z `yB
noncomputable def prt(ps qs:`Y)(v:`aN):Prop:=match `eR with
 | `bd=>`aEz
 | `b=>v.1≠v.2
noncomputable def zp(ps qs:`Y)(q:`F):`ca:=(`vz).vals.zip `O2
noncomputable def lk(s:Cs)(q:`F)(b:Bk):Prop:=R5 `vu (`Ij) (k2 q)=`a `Ik
inductive Wy (s:Cs):`s5->`XE
 | top {q:`F}:lk s q `b->Wy s q []
 | go {q:`F} {p:`F} {k:Nat} {w:`e}:lk s q (`OL)->Wy s p w->Wy s q (`Cv)
theorem Wy.lk{s:Cs}{w:`e}(h:`sB):∃b,`Il:=by
 cases h with
 | top h=>exact`r5
 | go h _=>exact`r5
theorem Wd0{ks:`pR}{k:`dK}{d:D}(ks':`pR)(ds':`n)(h:`MA=`ar):R5 (ks++ks') (ds++ds') k=`ar:=by
 induction ks generalizing ds with
 | nil=>cases ds<;>exact nomatch h
 | cons q ks ih =>
  cases ds with
  | nil=>exact nomatch h
  | cons x ds =>
   rw[`c?,`c?];unfold R5 at h ⊢;split at h
   ·rename_i e;rw[`iD];exact h
   ·rename_i e;rw[`gk];exact ih h
theorem V90{ks:`pR}{k:`dK}{d:D}(hl:`pD=`bN)(h:k∉ks):R5 (ks++[k]) (ds++[d]) k=`ar:=by
 induction ks generalizing ds with
 | nil =>
  cases ds with
  | nil=>show (if k=k then `ar else _)=_;rw[`aB]
  | cons=>cases hl
 | cons q ks ih =>
  cases ds with
  | nil=>cases hl
  | cons x ds =>
   rw[`c?,`c?];unfold R5;rw[`P (λe=>h (by rw[e];exact B0))];exact ih `AC λz=>h `afW
theorem Wy.app{s:Cs}{w:`e}(A:`aG)(B:`Ii)(h:`sB):Wy `yC q w:=by
 have up:∀{q b},La.lk s q b->La.lk `yC q b:=λ{q b} e=>by
  unfold La.lk;rw[`aW,`aW];exact Wd0 _ _ e
 induction h with
 | top e=>exact `jE (up e)
 | go e _ ih=>exact .go (up e) ih
noncomputable def WW:GS:=(u6 (W7 (S9 2 `qg))
 (u6 `az5
 p7))
theorem S30(p:`F):yo0 (pN p)=`a (k2 p):=rfl
theorem br0{s:Cs}{b:Bk}(h:`Il):yy0 `Cq (pN q)=`a `Ik:=h
theorem Y40{s:Cs}(P:Sl):∀{q:`F} {w:`e},`sB->∀(b:Bk),`Il->∀(f:Nat) (bk:`e),`nz<f->bk.length+`nz<=5000 ->
  V2 `HG WW f [`h7,P,.ow (`o (`Cr)),.sh `Ik]=`a (.nx [`h7,P,.ow (`o ((bk++w.reverse).map nI)),`qW]):=by
 intro q w h;have one:∀{q:`F} {b c:Bk},`Il->lk s q c->cD b=cD c:=λh1 h2=>A2 (`AU h2)
 have zs:`l6:=`O
 induction h with
 | top e =>
  intro b hb f bk hf _;rw[one hb e];obtain⟨f,rfl⟩:∃g,`yD:=⟨f - 1,by simp at hf;omega⟩;rw[List.reverse_nil,`fu];rfl
 | @go q p k w e hw ih =>
  intro b hb f bk hf hl;rw[one hb e];rw[`ai,`c'] at hf hl;obtain⟨f,rfl⟩:∃g,`yD:=`Im;obtain⟨c,hc⟩:=hw.lk;have body:WW `aEA=`a (.nx [`h7,P,`aEB,.sh (cD c)]):=by
   refine u5 (δ':=[`h7,P,`aEB,`OM]) ?_ (u5 (j6 (d:=cD c) ?_) rfl)
   ·unfold W7 S9
    show `oD `aEC (if (`Cr).length<sizeLine then `a (D.non,([`h7,P,.ow (`o (`Cr++[nI k])),`OM]:Ds)) else `b)=_;rw[`In,`aW];rfl
   ·rw[o4 (x:=`en) (y:=pN p) rfl rfl]
    exact br0 hc
  have:=ih c hc f (bk++[k]) `g `Ig;unfold V2;rw[show ob `aeI `aEA=`dv from rfl];dsimp only;rw[`gy];dsimp only;rw[`x,`XU,`eP];rfl
theorem tc0{s:Cs}{w:`e}(h:`sB)(hl:`yE):zv0 `aED=`a (`nM):=by
 obtain⟨b,hb⟩:=h.lk;refine K1 rfl (u5 (δ':=[`h7,`qE,.ow (`o ([].map nI)),.un]) rfl (u5 (j6 (d:=cD b) ?_) (u5 (Y40 `gS h b hb 100000 [] `g (by simp only[`h1];omega)) `Xd)))
 ·rw[o4 (x:=`en) (y:=pN q) rfl rfl]
  exact br0 hb
 ·show `a (Res.rf (`o ((([]++w.reverse).map nI).reverse)))=_
  rw[`ie,← `aCM,List.reverse_reverse]
theorem W80(p:Pt)(h:`e_):z00 `ju=`aDT:=Pn.mv0 p h
theorem m60(p:Pt)(h:`e_):`W':=`HZ p h
theorem bv0(v w:D):`aDQ:=Ta.Ur0 v w
theorem ke0(i j:Nat):X6 [`Ct]=`Yr:=j4 rfl (o8 (Z2 (`Ys)))
theorem p10{v:D}(h:`dQ):`yw v:=by
 rcases h with rfl|⟨z,rfl⟩|⟨j,rfl,_⟩<;>exact`eA
theorem O6{v w:D}(hv:`dQ)(hw:`H6):(∃i j:Nat,i<n/\j<m/\v=`agq/\w=`k3/\`H8=`a `f1)∨(`H8=`b/\`Oz=`q):=by
 rcases hv with rfl|⟨z,rfl⟩|⟨i,rfl,hi⟩
 ·exact `w'
 ·exact `w'
 ·rcases hw with rfl|⟨z,rfl⟩|⟨j,rfl,hj⟩
  ·exact `w'
  ·exact `w'
  ·exact `k ⟨i,j,hi,hj,rfl,rfl,rfl⟩
theorem o70(hp:`Q)(hq:`ad){x:`F}(h1:`agv)(h2:`agw)(e1:`iG=ixD `ck (`d `Dm))(e2:`ot=ixD `vl (`d `Dn)) :
  J6 (`aEz) (o2 (oA `aEE z00) (oA `aEF z00) Q8 δ):=by
 obtain⟨a1,a2⟩:=Z6 hp h1;obtain⟨b1,b2⟩:=Z6 hq h2;rw[o4 (x:=`OI) (y:=`OJ) (by rw[o7 (ds:=[(`ago).d]) `aEG];exact W80 _ a2.f) (by rw[o7 (ds:=[(`agp).d]) `aEH];exact W80 _ b2.f)];exact`aEI
theorem e80(hp:`Q)(hq:`ad){v w:D}(hv:`aEJ)(hw:Lv `em w):J6 (prt ps qs (v,w)) (`aEK):=by
 have hl:ob `az6 `Yt=`a `Oz:=`cK (by rw[o7 (ds:=[`vh]) rfl];exact bv0 v w);rcases O6 hv hw with⟨i,j,hi,hj,rfl,rfl,e⟩|⟨e,e2⟩
 ·unfold prt
  rw[e];dsimp only;obtain⟨t1,t2⟩:=o70 hp hq (x:=`f1) hi hj (g1:=`aeJ) (g2:=`Bx) (δ:=`aEL) rfl rfl;have k:∀b,o2 `az7 `az8 Q8 `aEL=`rm->O2 [`br,`b',`Ct]=`rm:=λb hb=>by
   refine `so
   change ifD _ _ _ [`as,`ap,`k',.un]=_
   rw[U4 hl];refine u5 (j6 (d:=`vr) (`Io)) (o8 (Z2 hb))
  exact⟨λz=>k _ (t1 z),λz=>k _ (t2 z)⟩
 ·unfold prt
  rw[e];dsimp only;rw[e2] at hl;have k:∀b,Q8 v w=`rm->`aEK=`rm:=λb hb=>by
   refine j4 rfl (u5 (δ':=`Yt) ?_ `cz)
   ·change ifD _ _ _ `Yt=_
    rw[Z3 hl];rfl
   ·rw[o4 (x:=v) (y:=w) rfl rfl]
    exact hb
  exact⟨λz=>k _ (`OO (p10 hv) (p10 hw) z),λz=>k _ (by rw[`OP z];exact `vt (p10 hw).le)⟩
noncomputable def PB:GS:=(u6 (ifD `aAd
 (u6 `aAe
 p7)
 p7)
 (u6 (ifD `aAf
 (u6 `aAg
 (u6 `aAh
 p7))
 p7)
 p7))
noncomputable def pS(ps qs:`Y)(P:Sl)(s:Cs)(n:Nat)(a b c:Sl):Ds:=[`as,`ap,P,.ow `Cq,.ow (`nB),`ds,a,b,c]
theorem Qb0(s:Cs):Dc s.1 `Cq:=⟨_,_,rfl,λx=>by
 rw[`Ip];constructor
 ·rintro⟨p,h,e⟩;exact`aEM
 ·rintro⟨p,h,e⟩;exact`aEM⟩
theorem Vv0{s:Cs}{x:`F}(h:x∉s.1)(b:Bk):zc0 `vu `OR=(`sA).map k2/\zk0 `vu (`Ij) `OR `Ik=(s.2++[b]).map cD:=by
 have hf:`aEN=`q:=by
  cases e:`aEN with
  | false=>rfl
  | true =>
   obtain⟨q,hq,e2⟩:=`fX ((Z90 _ _).mp e);exact `y (y80 e2▸hq) h
 unfold zc0 zk0;rw[hf];simp
theorem Q90(hp:`Q)(hq:`ad)(P:Sl){s:Cs}(n:Nat){w:`e}(hw:`sB)(hwl:`yE)(hs:`h8<=4000)(k:Nat){v u:D}(hv:`aEJ)(hu:Lv `em u) :
  (`Yu->PB (`sC)=`a (.rt (`m [`en,`aEO]))) /\
  (¬`Yu->PB (`sC)=`a (.nx (pS ps qs P (ex1 q k (v,u) s) n `gS `nA (`OT)))):=by
 have zs:`Iq:=`O
 obtain⟨t1,t2⟩:=fj0 (g:=`aeT) (δ:=`sC) (p:=`Yu) (by
  rw[o7 (ds:=[`br,`b',`OS]) rfl];exact e80 hp hq hv hu)
 refine⟨`dX,`dX⟩
 ·refine o8 ?_
  rw[U4 (t1 z)];refine `BR;show m7 `aeV [`as,`ap,zu0 P,`h7,`Yv,`ds,`qE,`vv,`OT]=_;refine b8 (`v rfl (`v (d:=`aEO) ?_ rfl)) `c9;rw[o4 (x:=`nM) (y:=`o [nI k]) (by rw[o7 (ds:=`aED) rfl];exact tc0 hw hwl) (z40 rfl `f7)];show (if `aEP then `a (`gR (`qD++[nI k])) else `b)=_;rw[`In,`aW];rfl
 ·refine u5 (δ':=`sC) (by rw[Z3 (t2 z)];rfl) ?_
  have hl:ob `aeW (`sC)=`a (`qy&&`cI u):=`cK (by rw[o7 (ds:=[`OS]) rfl];exact bv0 v u);unfold ex1;rcases O6 hv hu with⟨i,j,hi,hj,rfl,rfl,e⟩|⟨e,e2⟩
  ·rw[e]
   dsimp only;have lp:∀s':Cs,oA `qi X6 (pS ps qs P s' n `gS `nA (`k'))=`Yr:=λs'=>`Io
   have J:yp0 `aeY `Ir=`aEQ:=by
    show ob `aeX [`as,`ap,zu0 P,`h7,`Yv,`ds,`qE,`vv,`k']=_;refine `Is;rw[o4 (x:=`vr) (y:=`en) (`Io) rfl];exact Qq0 (Qb0 s) `f1
   have ht:N6 `aeZ `ae_ `Ir=`aEQ:=by
    unfold N6;rw[hl,`j];exact J
   by_cases h:`f1∈s.1
   ·rw[`lX]
    rw[`cE (`XR)] at ht;refine u5 (δ':=`OU) ?_ rfl;rw[Z3 ht];rfl
   ·rw[`wx]
    rw[`yi] at ht;obtain⟨k1,F⟩:=Vv0 h (`vp);refine `aER;rw[U4 ht];refine u5 (δ':=`aES) ?_ (`aER)
    ·unfold V3
     rw[show V7 `ae0 `Ir=`a (cD (`vp),`OU) from rfl,`j];unfold rs0;show `oD `vq ((nr0 3 _).bind _)=_;rw[lp s,show nr0 3 `Ir=`a (`OH,`Ij) from rfl,`j,`j,S30,`j];dsimp only;rw[`In,k1,F];rfl
    ·unfold W7 S9
     have M:oA `qi X6 `aES=`Yr:=`Io
     rw[M];show `oD `aEC (if `aET<sizeLine then `a (D.non,([`as,`ap,P,`agu,.ow (`o (`Cu++[`vr])),`ds,`qE,`vv,`k']:Ds)) else `b)=_;rw[`In];unfold pS;rw[`aW];rfl
  ·rw[e]
   dsimp only;rw[e2] at hl;refine u5 (δ':=`sC) ?_ rfl;rw[Z3 (by unfold N6;rw[hl];rfl)];rfl
inductive Rch (ps qs:`Y) (p0:`F):`F->Prop
 | top:Rch ps qs p0 p0
 | go {q x:`F}:`aEU->x∈`Yw->`qG
structure Pi(ps qs:`Y)(p0:`F)(s:Cs):Prop where
 len:`Yx
 nd:`sD
 inr:∀x∈s.1,`ki
 way:∀x∈s.1,∃w,Wy s x w/\`nz<s.1.length
 hds:∀x∈s.1,`It
 rc:∀x∈s.1,`qG
theorem Pi.few(hp:`Q)(hq:`ad){s:Cs}(h:`kj):`h8<=3600 :=
 Fa.Xw0 (n:=60) `d0 λx hx=>by
  have:=`aEV;have:=`Yy;have:=hq.len.2;omega
theorem vp0(hp:`Q)(hq:`ad)(h1:`Yz)(h2:`YA){v:`aN}(hv:`yF):`sE/\`sF :=
 ⟨(Z6 hp h1).2.lv _ `ab5,(Z6 hq h2).2.lv _ (L5 hv).2⟩
theorem qt0(hp:`Q)(hq:`ad){s:Cs}(h:`kj)(hm:`yG)(k:Nat){v:`aN}(hv:`yF)(hn:`f2) :
  Pi ps qs p0 `yB/\(∀x∈s.1,`aEW)/\∀x,`sG->`aEW:=by
 obtain⟨i1,i2⟩:=`Iu;obtain⟨l1,l2⟩:=`Iv;unfold ex1;unfold prt at hn;cases e:`eR with
 | none=>exact⟨h,`YB,λx hx=>nomatch hx⟩
 | some x =>
  rw[e] at hn;dsimp only at hn ⊢
  by_cases hx:`oG
  ·rw[`YC]
   exact⟨h,λy hy=>hy,λy hy=>by cases hy;exact hx⟩
  ·rw[`YD]
   have J:`ki:=by
    rcases `iK with⟨i,j,hi,hj,_,_,e2⟩|⟨e2,_⟩
    ·rw[`d2,e] at e2
     cases e2;exact⟨hi,hj⟩
    ·rw[`d2,e] at e2
     cases e2
   have mem:∀y,y∈`sA↔y∈s.1∨y=x:=`aC1
   refine⟨⟨`aEX,fp0.mpr ⟨`d0,hx⟩,`g8,`g8,`g8,`g8⟩,λy hy=>(mem y).mpr (`k hy),λy hy=>by cases hy;exact(mem x).mpr `Fq⟩
   ·rcases `Iw with hy|rfl
    ·exact `aEY
    ·exact J
   ·rw[`ai,`c']
    rcases `Iw with hy|rfl
    ·obtain⟨w,w1,w2⟩:=h.way y hy
     exact⟨w,`aEZ,`p⟩
    ·obtain⟨w,w1,w2⟩:=`aE_
     refine⟨`Cv,.go ?_ (`aEZ),`agm⟩;unfold lk;rw[`aW,`aW];refine V90 (by rw[`M,`M,`dt]) λz=>hx ?_
     obtain⟨y',F,e2⟩:=`yA;exact y80 e2▸F
   ·rcases `Iw with hy|rfl
    ·exact `aE0
    ·exact `yH hn
   ·rcases `Iw with hy|rfl
    ·exact h.rc y hy
    ·exact .go `aE1 `aE2
theorem wc0(hp:`Q)(hq:`ad):∀(z:`ca) (k:Nat) (s:Cs),`kj->`yG->(∀v∈z,`yF/\`f2) ->
  Pi ps qs p0 (`vx)/\(∀x∈s.1,`aE3)/\∀x∈gl z,`aE3
 | [],k,s,h,hm,_=>⟨h,`YB,λx hx=>by cases hx⟩
 | `fo,k,s,h,hm,hz=>by
  obtain⟨h1,h2⟩:=hz v B0;obtain⟨a1,a2,a3⟩:=qt0 hp hq h hm k h1 h2;obtain⟨b1,b2,b3⟩:=wc0 hp hq z `bS `yB a1 (a2 q hm) `aE4
  refine⟨b1,λx hx=>b2 x (a2 x hx),`f3⟩;obtain⟨u,hu,e⟩:=`rq hx;rcases `Fp with rfl|hu
  ·exact b2 x (a3 x e)
  ·exact b3 x (`nC `aia)
noncomputable def itm:Nat->`ca->`n
 | _,[]=>[]
 | k,`fo=>`aE5
theorem ce0:∀(z:`ca) (k i:Nat),(itm k z)[i]?=z[i]?.map λv=>`m [nI (k+i),`OW]
 | [],k,i=>by simp[itm]
 | `fo,k,0=>rfl
 | `fo,k,i+1=>by
  unfold itm;rw[`YE,`YE,ce0 z `bS i,show k+1+i=k+`bM by omega]
theorem Y60(ds es:`n):`HA=itm 0 (`A'):=by
 refine `ay_
 rw[ce0,`bT]
 by_cases h:i<(`A').length
 ·have h':=h
  rw[`dM] at h';have h1:`Gm:=`p
  have h2:`WO:=`p
  rw[ji0 h1 h2,show `azG from `azH];rfl
 ·rw[`ue (Bm0 h),`ue (by unfold ur0 Y6;simp at h ⊢;omega)]
  rfl
theorem ak0(hp:`Q)(hq:`ad)(P:Sl)(n:Nat):∀(z:`ca) (k:Nat) (s:Cs) (b c:Sl),(∀v∈z,`yF)->`kj->`yG ->
  (∃b' c',`aE6=`a (.nx (pS ps qs P (`vx) n `gS b' c'))/\∀v∈z,`f2) ∨
  (∃j v w,`Ix/\`aE7/\`fn/\Wy `aE8 q w/\`aE6=`a (.rt (`m [cm `aE8,`o ((w++[k+j]).map nI)])))
 | [],k,s,b,c,_,h,hm=>`k ⟨b,c,rfl,λv hv=>by cases hv⟩
 | `fo,k,s,b,c,hz,h,hm=>by
  have hv:=hz v B0;obtain⟨i1,i2⟩:=`Iu;obtain⟨l1,l2⟩:=`Iv;obtain⟨w,w1,w2⟩:=`aE_;have few:=`aE9;obtain⟨t1,t2⟩:=Q90 hp hq P n w1 `g `g k l1 l2;have un:Y4 `qF PB (`aE') (`OX)=(match PB (pS ps qs P s n `gS `nA `aE!) with|`a?=>`aE?|`ha=>`aE?|`hb=>`a?|r=>r):=by
   rw[show `aE'=`aE5 from rfl]
   conv=>lhs;unfold Y4
   rfl
  rw[un]
  by_cases hc:`fn
  ·refine `h ⟨0,v,w,rfl,(λu hu=>`y hu `S),hc,w1,?_⟩
   rw[t1 hc];rfl
  ·rw[t2 hc]
   obtain⟨a1,a2,a3⟩:=qt0 hp hq h hm k hv hc;rcases ak0 hp hq P n z `bS `yB `nA `aE! (`aE4) a1 (a2 q hm) with⟨b',c',e,f⟩|⟨j,u,w',e1,e2,e3,e4,e5⟩
   ·refine `k ⟨b',c',e,`sr⟩
    rcases `Fp with rfl|hu
    ·exact hc
    ·exact f u hu
   ·refine `h ⟨j+1,u,w',e1,`g8,e3,e4,?_⟩
    ·rw[`rR] at hy
     rcases `c_ hy with rfl|hy
     ·exact hc
     ·exact e2 y hy
    ·rw[show k+`gW=k+1+j by omega]
     exact e5
inductive Run (ps qs:`Y):Nat->Cs->Cs->`iJ->Prop
 | fin {n:Nat} {s:Cs}:`h8=n->Run ps qs n s s `b
 | go {n:Nat} {s s':Cs} {r:`iJ} {q:`F}:`oH->`YF->Run ps qs `gT (`aFa) s' r->`oI
 | prt {n:Nat} {s:Cs} {q:`F} {j:Nat} {v:`aN}:`oH->`aFb->(∀u∈`O0 j,`OZ)->`fn->Run ps qs n s (exs q 0 `yI s) (`Iy)
noncomputable def PT:DL.GB:=`az?
noncomputable def PW:GS:=(u6 `aAa
 (u6 `aAb
 (u6 (M8 `aAc `qF
 PB)
 p7)))
theorem Qk0(ps qs:`Y)(P:Sl)(s:Cs)(n:Nat)(a b c:Sl):PT `O3=`a (`G (`Iz)):=by
 unfold PT ob;rw[o4 (x:=`k_) (y:=`d (`h8:Int)) rfl (by
  show `a (`aQ (`aET:Int))=_;rw[`M])]
 show `a (`G (`b7<(`h8:Int)))=_;congr 1;rw[`oC];omega
theorem Xt0(hp:`Q)(hq:`ad)(P:Sl){s:Cs}(e:`oH)(i1:`Yz)(i2:`YA)(a b c:Sl){r:`py}(hr:Y4 `qF PB `aFc (`YG)=r) :
  PW `O3=r:=by
 have hn:`Iz:=`v7;obtain⟨a1,a2⟩:=`C';obtain⟨b1,b2⟩:=`C!;refine u5 (δ':=`OX) (j6 (d:=pN q) ?_) (u5 (δ':=`YG) ?_ ?_)
 ·refine gy0 ?_ rfl
  show o2 `cj `c7 ixD [`as,`ap,zu0 P,`h7,`Yv,`ds,zu0 a,zu0 b,zu0 c]=_;rw[o4 (x:=`nB) (y:=`k_) rfl rfl];show atI (`Cu) `b7=_;rw[`yf,`aA,`bI,`a_,e];rfl
 ·rfl
 ·have hz:te0 `aeS (`YG)=`a `aFc:=by
   unfold te0;rw[`v (d:=`Qg) (ds:=[`Qh]) (by
    rw[`aFd];exact m60 _ a2.f) (`v (by
    rw[`aFe];exact m60 _ b2.f) rfl)]
   show `a (ur0 _ _)=_;rw[Y60];rfl
  unfold u6;rw[T8 hz hr];rcases r with _|r
  ·rfl
  ·cases r<;>rfl
theorem Zx0(hp:`Q)(hq:`ad)(P:Sl):∀(f n:Nat) (s:Cs) (a b c:Sl),`kj->n<=`h8->3600 - n<f ->
  ∃s' r,`oI/\Pi ps qs p0 s'/\((`wR/\∃n' a' b' c',`aFf=`a (.nx (pS ps qs P s' n' a' b' c'))) ∨
   ∃q j w,r=`Iy/\Wy s' q w/\`aFf=`a (.rt (`m [cm s',`aFg]))):=by
 intro f
 induction f with
 | zero=>intro n s a b c _ _ h;omega
 | succ f ih =>
  intro n s a b c h hn hf;have few:=`aE9;unfold V2;rw[Qk0]
  by_cases h0:`Iz
  ·rw[`HU]
   dsimp only;obtain⟨q,e⟩:∃q,`oH:=⟨_,B6 h0⟩;have hm:`yG:=`lc;obtain⟨i1,i2⟩:=`Iu;rcases ak0 hp hq P `gT `cl 0 s b c (λv hv=>hv) h hm with⟨b',c',e1,e2⟩|⟨j,v,w,e1,e2,e3,e4,e5⟩
   ·obtain⟨p1,p2,_⟩:=wc0 hp hq `cl 0 s h hm λv hv=>⟨hv,e2 v hv⟩
    have hl:`h8<=(`aFa).1.length:=D10 `d0 p2;obtain⟨s',r,R,Q,k⟩:=ih `gT _ `gS b' c' p1 `g `g;rw[Xt0 hp hq P e i1 i2 a b c e1];exact⟨s',r,.go e e2 R,Q,k⟩
   ·rw[`bT] at e5
    rw[Xt0 hp hq P e i1 i2 a b c e5];obtain⟨p1,_,_⟩:=wc0 hp hq `yI 0 s h hm λv hv=>⟨l9 hv,e2 v hv⟩
    exact⟨_,_,.prt e e1 e2 e3,p1,`h ⟨q,j,w,rfl,e4,rfl⟩⟩
  ·rw[`HV]
   exact⟨s,`b,.fin `g,h,`k ⟨rfl,n,a,b,c,rfl⟩⟩
theorem mn0(hp:`Q)(hq:`ad)(h1:p0.1<ps.length)(h2:p0.2<qs.length) :
  (`agy≠`agz/\`YH=`a (`m [cm `la,`t2])) ∨
  (`aFh/\∃s r,Run ps qs 0 `la s r/\`kj/\((`wR/\`YH=`ahM) ∨
   ∃q j w,r=`Iy/\`sB/\`YH=`a (`m [`en,`aFg]))):=by
 have zs:`Iq:=`O
 obtain⟨t1,t2⟩:=fj0 (o70 hp hq (x:=p0) h1 h2 (g1:=`aeM) (g2:=`aeN) (δ:=`aFi) rfl rfl);have F:T5 3 `aeL (W9 xq0 `O4)=`a (.nx `aFi):=rfl
 by_cases hh:`aFh
 ·refine `h ⟨hh,?_⟩
  have M:`aFj:=by
   have one:∀x,x∈[p0]->x=p0:=`IA
   refine⟨rfl,`C9,λx hx=>by rw[`lb];exact`Dk,`f3,`ahR,`ahS⟩;rw[`lb];refine`YI;show (if k2 p0=k2 p0 then `aFk else _)=_;rw[`aB]
  obtain⟨s,r,R,Q,k⟩:=Zx0 hp hq (`O5) 100000 0 `la .un .un .un M `S `s;have J:∀rest:GS,u6 `az9 (u6 (ifD `az' (u6 `az! p7) p7) (u6 (T5 4 (Z7 `c6)) (u6 (m8 `fi `bG) `a1))) (W9 xq0 `O4)=`a1 (pS ps qs (`O5) `la 0 .un .un .un):=λrest =>
   u5 F (u5 (by rw[Z3 (t2 λz=>z hh)];rfl) (u5 `k8 (u5 `k8 rfl)))
  refine⟨s,r,R,Q,?_⟩;rcases k with⟨rfl,n',a',b',c',e⟩|⟨q,j,w,rfl,hw,e⟩
  ·refine `k ⟨rfl,j4 rfl (`aFl (u5 e `cz))⟩
   exact `BX
  ·exact `h ⟨q,j,w,rfl,hw,j4 rfl (`aFl (o8 e))⟩
 ·refine `k ⟨hh,j4 rfl (u5 F `eg)⟩
  rw[U4 (t1 hh)];refine `BR;exact `aFm
universe La
variable{s':La.Cs}
namespace La
open Wa
open DL W K22 Ta Fa
noncomputable def okp(ps qs:`Y)(q:`F):Prop:=`cJ (`vz)=`cJ (`OK)/\∀v∈`k!,nl v
theorem w40(q:`F):∀(z:`ca) (k:Nat) (s:Cs),∃A B,`vx=`yC
 | [],k,s=>⟨[],[],by simp[exs]⟩
 | `fo,k,s=>by
  obtain⟨A,B,e⟩:=w40 q z `bS `yB;unfold exs;rw[e];unfold ex1;cases `eR with
  | none=>exact`aFn
  | some x =>
   dsimp only;split
   ·exact`aFn
   ·exact⟨x::A,`vp::B,`aS⟩
theorem Ql0{v:`aN}(l1:Lv n v.1)(l2:Lv m v.2)(h:`f2):nl v:=by
 unfold prt at h;rcases `iK with⟨i,j,_,_,e1,e2,e⟩|⟨e,_⟩
 ·exact `k ⟨by rw[e1];rfl,by rw[e2];rfl⟩
 ·rw[`d2] at e
  rw[e] at h;exact `h (`yH h)
theorem X50(hp:`Q)(hq:`ad){s:Cs}{r:`iJ}(R:`oI):`wR->`kj->(∀i q,i<n->`vW=`eH->`YF/\∀x∈`Yw,`oG) ->
  (∀x∈s.1,x∈`iL)/\∀q∈`iL,`YF/\∀x∈`Yw,x∈`iL:=by
 induction R with
 | @fin n s hl =>
  intro _ h hc;refine⟨`YB,`A6⟩;obtain⟨i,hi,e⟩:=`du hq;exact hc i q `g (by rw[`PX,e])
 | @go n s s' r q e hn R ih =>
  intro hr h hc;have hm:=`lc;obtain⟨p1,p2,p3⟩:=wc0 hp hq `cl 0 s h hm `O6
  have F:=`v7;obtain⟨A,B,ee⟩:=`aFo;obtain⟨i1,i2⟩:=ih hr p1 λi q' hi e'=>by
   by_cases hin:i=n
   ·subst hin
    rw[ee,`eB F,e] at e';cases e';exact⟨hn,p3⟩
   ·have J:i<n:=`p
    rw[ee,`aFp] at e';obtain⟨c1,c2⟩:=hc i q' J e';exact⟨c1,λx hx=>p2 x (c2 x hx)⟩
  exact⟨λx hx=>i1 x (p2 x hx),i2⟩
 | prt=>intro hr;cases hr
theorem Wh0(hp:`Q)(hq:`ad){s:Cs}(R:Run ps qs 0 `la s `b)(h0:`aFj)(h:`kj):(∀x,`oG↔`qG)/\∀x,`qG->`Cy:=by
 obtain⟨c1,c2⟩:=X50 hp hq R rfl h0 λi q hi=>`p
 have all:∀x,`qG->`oG:=λx hx=>by
  induction hx with
  | top=>exact c1 _ `S
  | go _ hg ih=>exact(c2 _ ih).2 _ hg
 refine⟨λx=>⟨h.rc x,all x⟩,λx hx=>⟨h.hds x `YJ,`oB⟩⟩;obtain⟨i1,i2⟩:=`Cw x `YJ;obtain⟨l1,l2⟩:=`Iv;exact Ql0 l1 l2 ((c2 x `YJ).1 v hv)
theorem T10(hp:`Q)(hq:`ad)(hr:`aEU)(i1:`Yz)(i2:`YA){v:`aN}(hv:`yF)(h:`fn):`aFq:=by
 obtain⟨l1,l2⟩:=`Iv;unfold prt at h;rcases `iK with⟨i,j,_,_,e1,e2,e⟩|⟨e,e2⟩
 ·rw[`d2] at e
  rw[e] at h;exact⟨`f1,.go hr `aE2,λz=>h z.1⟩
 ·rw[`d2] at e
  rw[e] at h;refine⟨q,hr,`dX⟩;rcases z.2 v hv with⟨a,b⟩|z
  ·rw[a,b] at e2
   cases e2
  ·exact h z
theorem V30(hp:`Q)(hq:`ad){s:Cs}{r:`iJ}(R:`oI):r≠`b->`kj->`aFq:=by
 induction R with
 | fin=>intro hr;exact `y rfl hr
 | @go n s s' r q e hn R ih =>
  intro hr h;obtain⟨p1,_,_⟩:=`aFr
  exact ih hr p1
 | @prt n s q j v e e1 e2 e3 =>
  intro _ h;have hm:=`lc;obtain⟨i1,i2⟩:=`Iu;exact T10 hp hq `aE1 i1 i2 `nR e3
universe La
namespace Ua
open Wa
open DL
noncomputable def m70:GS:=K22.m70
noncomputable def ng0:`u:=K22.ng0
noncomputable def w50:`J:=K22.w50
noncomputable def qk0:GS:=K22.qk0
noncomputable def q80:`u:=K22.q80
noncomputable def v70:`J:=K22.v70
noncomputable def Ru0:GS:=(u6 (yl0 (oA (z9 `I (z9 `aC (z9 `GP v7))) v70))
 p7)
noncomputable def Qv0:`u:=["web", "k"]
noncomputable def d20:`J:=mkN 2 Qv0 Ru0
noncomputable def y30:GS:=Pn.y30
noncomputable def y50:`u:=Pn.y50
noncomputable def K7:`J:=Pn.K7
noncomputable def s60:GS:=K22.s60
noncomputable def sj0:`u:=K22.sj0
noncomputable def wh0:`J:=K22.wh0
noncomputable def Ve0:GS:=(u6 (m8 `eN (Y50 (oA `qN d20)))
 (u6 (T5 3 `GP)
 (u6 (M8 (qx0 `c6) (Q7 4 5)
 (u6 (V3 `aFs (`uB 3 `c7))
 p7))
 (u6 (Z0 (xu0 (oA (z9 (V5 1 [0,3] (ye0 `bQ) `bb noT (oA `W9 wh0)) v7) R3)))
 p7))))
noncomputable def Vh0:`u:=["web", "k", `sm, "numbers", `WW, `uT]
noncomputable def Vx0:`J:=mkF 2 Vh0 Ve0
universe Ua
namespace Ua
open Wa
open DL W K22
open Ta (pa Z6)
noncomputable def dr(ps:`Y)(r:`e):`Y:=`lL λk=>rel `yJ (pa ps k)
structure Met(ps:`Y)(r:`e):Prop where
 ex:∃c,Dfs `vf [] c [] [0] r/\`XW
 nd:`ym
 lt:∀y∈r,`XX
 cl:∀i∈r,∀j∈`yq,`nu
 hd:∃s,r=0::s
theorem ci0(h:`Q):∃r,`dA:=by
 obtain⟨c,r,h1,h2,h3,h4,h5,_,h7⟩:=walk h [] `IB;exact⟨r,⟨c,h1,h2⟩,h3,λy hy=>(h4 y hy).1,λi hi j hj=>(h5 i hi j hj).resolve_right `S,h7 `S⟩
theorem Met.zero(m:`dA):0∈r:=by obtain⟨s,rfl⟩:=m.hd;exact B0
theorem tl0(h:`Q)(hi:`ss):`yq=tgs `YK:=by
 rw[`yv hi];unfold pa;simp[hi]
theorem Vz0{adj:`oy}{S:`e}{o T:`e}(h:`yj):`aDl:=by
 induction h with
 | nil o=>exact`aDn
 | skip _ _ ih=>exact ih
 | @visit c o T r x _ _ _ _ ih =>
  obtain⟨s,e⟩:=ih;exact`aDq
theorem V40{adj adj':`oy}(f:`cq){o T:`e}(h:Dfs adj [] c o T r):`aFt->(∀i∈r,adj' (f i)=(`yl).map f)->Dfs adj' [] c (o.map f) (T.map f) (`lL f):=by
 induction h with
 | nil o=>intro _ _;exact `L _
 | @skip c o T r x hx hd ih =>
  intro hi ha;exact .skip (`k (D20 (`aFu))) (ih hi ha)
 | @visit c o T r x hx hS hz hd ih =>
  intro hi ha;obtain⟨s,e⟩:=Vz0 hd;have F:x∈r:=`abj
  have J:∀y∈o,y∈r:=λy hy=>by rw[e];simp[hy]
  have k:=ih hi ha;refine .visit (`dX) `S ?_ ?_
  ·obtain⟨y,hy,e2⟩:=`yA
   exact hx (hi y (J y hy) x F e2▸hy)
  ·rw[ha x F]
   simp only[`ai,`M] at hz ⊢;exact hz
  ·rw[ha x F]
   rw[`aW,`aW] at k;exact k
theorem fo0(f:`cq):∀{vs:`n},`aCU->tgs (`E4 `ns)=(`iH).map f
 | [],_=>rfl
 | `r4,h=>by
  have ih:=fo0 f (vs:=vs) `XK
  rw[`Z];rcases `zL with rfl|⟨z,rfl⟩|⟨j,rfl,hj⟩
  ·rw[`aFv,show lkv f D.non=`w from rfl,`aFv,ih]
  ·rw[`aFw,show lkv f (`aQ z)=`BM from rfl,`aFw,ih]
  ·rw[show `aFx from `aFy,ol0,ol0,ih]
   rfl
theorem sw0(f:`cq)(p:Pt):`aCZ:=`XO
theorem u20:∀(a:`u) (b:`n),`YL->`aFz `bv=a
 | [],_,_=>`aS
 | `cB,[],h=>`dW
 | a::as,b::bs,h=>by simp at h;simp[u20 as bs h]
theorem U90(p:Pt)(vs us:`n)(h:`oA):`jy (`vb) us=`jy p us:=by
 cases p with
 | text w=>rfl
 | row us=>rfl
 | table ps =>
  show `BG _=`BG _;rw[`IC]
 | rcd c ps =>
  show `BH _ _=`BH _ _;rw[`IC]
theorem Sy0(p:Pt)(vs:`n)(h:`oA):`cJ (`vb)=`Cf:=by
 cases p with
 | text w=>rfl
 | row us=>show `fE [_,`d `BW]=_;rw[h];rfl
 | table ps =>
  show `fE [_,`aFA]=_;rw[`IC];rfl
 | rcd c ps =>
  show `fE [_,_,`aFA]=_;rw[`IC];rfl
theorem bk0(f:`cq)(p:Pt):`cJ `ys=`Cf:=Sy0 p _ `B9
theorem y20(f:`cq)(j:Nat):`aFx:=`aFy
theorem U00{p:Pt}(h:`dz)(f g:`cq):rel g `ys=rel (λj=>g (f j)) p:=by
 unfold rel;rw[`XO,U90 _ _ _ `B9,`b3];congr 1;refine P3 `oB
 rcases `yr with rfl|⟨z,rfl⟩|⟨j,rfl,hj⟩
 ·rfl
 ·rfl
 ·show lkv g (lkv f _)=_
  rw[y20,y20,y20]
theorem lc0{p:Pt}(h:`dz){f g:`cq}(e:∀j∈`su,f j=g j):`k5=rel g p:=by
 unfold rel;congr 1;refine P3 `oB
 rcases `yr with rfl|⟨z,rfl⟩|⟨j,rfl,hj⟩
 ·rfl
 ·rfl
 ·rw[y20,y20,e j `XN]
theorem Xh0{f:`cq}:∀{r:`e},`aFt->`ym->(`lL f).Nodup
 | [],_,_=>G0
 | a::r,hi,h=>by
  rw[`l5] at h;rw[`Z,`l5];refine⟨`dX,Xh0 (λx hx y hy=>hi x (A8 _ hx) y (A8 _ hy)) h.2⟩;obtain⟨b,hb,e⟩:=`yA;exact h.1 (hi b (`wG) a B0 e▸hb)
structure Iso(ps qs:`Y)(r:`e)(f:`cq):Prop where
 img:∀i∈r,f i<qs.length/\`aFB=`aFC
 inj:∀a∈r,∀b∈r,`O7
 zero:f 0=0
theorem idx_map(f:`cq):∀(r:`e) (j:Nat),`nu->(∀a∈r,f a=f j->a=j)->(`lL f).idxOf (f j)=`vA
 | [],_,h,_=>by cases h
 | a::r,j,h,hi=>by
  rw[`Z,`X_,`X_]
  by_cases e:a=j
  ·subst e;simp
  ·have ne:f a≠f j:=λz=>e (hi a B0 z)
   rw[`X0 e,`X0 ne];show _+1=_+1;rw[idx_map f r j `aDs λb hb=>hi b (`wG)]
theorem Vk0{f:`cq}(hp:`Q)(hq:`ad)(m:`dA)(I:Iso ps qs r f):Met qs (`lL f)/\dr qs (`lL f)=`vD:=by
 have adj:∀i∈r,y00 `vl (f i)=(`yq).map f:=λi hi=>by
  rw[tl0 hq (`ID).1,`agE,(`ID).2,sw0];exact fo0 f (`agD).2.lv
 refine⟨⟨?_,Xh0 I.inj m.nd,`g8,λy hy j hj=>?_,?_⟩,?_⟩
 ·obtain⟨c,h1,h2⟩:=m.ex
  refine⟨c,?_,h2⟩;have:=V40 (adj':=y00 `vl) f h1 I.inj adj;rw[`fW,`Z,`fW,I.zero] at this;exact `x
 ·obtain⟨i,hi,rfl⟩:=`fX hy
  exact(`ID).1
 ·obtain⟨i,hi,rfl⟩:=`fX hy
  rw[adj i hi] at hj;obtain⟨k,hk,rfl⟩:=`fX hj;exact D20 (m.cl i hi k hk)
 ·obtain⟨s,rfl⟩:=m.hd
  exact⟨s.map f,by rw[`Z,I.zero]⟩
 ·unfold dr
  rw[`b3];refine P3 `sq
  show rel _ (`aFB)=_;rw[(`ID).2,U00 `YM];refine lc0 `YM `Um
  have F:`nu:=`aFD;exact idx_map f r j F λa ha e=>I.inj a ha j F e
theorem oa0(hp:`Q)(m:`dA):Web (`vD)/\`aFE:=by
 have hl:`aFF:=by
  have:=`aFG
  rwa [Ai0] at this
 have e:`aFE:=by unfold dr;rw[`M]
 refine⟨⟨?_,λp F=>?_⟩,e⟩
 ·rw[e]
  have:=`Yy;exact⟨List.length_pos_of_mem m.zero,`p⟩
 ·rw[e]
  obtain⟨i,hi,rfl⟩:=`fX F;refine cu0 `YM _ `Um
  exact Al0 (`aFD)
universe Ua
namespace Ua
open Wa
open DL W K22
open Ta (pa Z6 J6)
theorem t00{p:Pt}(h:`dz)(f:`cq)(D':D)(hd:∀j∈`su,`XM):`aCW:=K22.t00 h f D' hd
theorem su0{p:Pt}(h:`dz):`HY:=`aDX
theorem qd0(p:Pt)(h:`e_)(vs:`n)(hl:`oA):`XC:=`aEa
theorem sa0(h:`Q)(m:`dA):v70 `aFH=`H2:=by
 obtain⟨c,h1,h2⟩:=m.ex;exact K22.sa0 h [] `s `IB h1 h2
theorem Sk0(h:`Q)(m:`dA):d20 `YN=`H2 :=
 K1 rfl (O7 (yv0 (by rw[o7 (ds:=`aFH) rfl];exact sa0 h m)))
theorem Xj0(W:D)(o T':`e)(x:Nat)(s3 s4:Sl):V3 (uy0 2) `bP `aFI=`a (.nx `YO):=by
 unfold V3 uy0;rw[show owL 2 `aFI=`a (nd (T'++[x])) from rfl,`j,vc0,show nd [x]=[`aQ `k4] from rfl,`aC9,`aC'];rfl
theorem Xx0(W:D)(o T':`e)(x:Nat)(s4:Sl):yp0 `afx `YO=`a (`G (x∉o)):=by
 show ob `afw [`nt,.sh (`Ot),.sh (`o (nd T')),`h4,zu0 s4]=_;refine `Is;rw[o4 (x:=`k6) (y:=`Ot) rfl rfl];simp only[vy0];rw[`H ⟨rfl,ik0 o⟩,Tl0,`r8];congr 2
 by_cases q:`B2
 ·rw[`yK,`cE (λz=>z q)];rfl
 ·rw[`IE,`yK];rfl
theorem Qa0(W:D)(o T':`e)(x:Nat)(s4:Sl)(h:`ve<=15000):W7 `W7 `YO=`a (.nx (`h9 W `gQ T' `fm s4)):=by
 have zs:`H1:=`O
 rw[`aDf,show nd o++[`aQ `k4]=nd `gQ from `X?];rfl
theorem Ry0(h:`Q){o T:`e}(d:Dfs `vf [] c o T r):(∀x∈T,`XV)->`aC?->∀(f:Nat) (s3 s4:Sl),c<f->∃s3' s4',V2 Ta.OT Ta.OB f (`h9 `ck o `jz s3 s4)=`a (.nx (`h9 `ck r [] s3' s4')):=by
 have zs:`H1:=`O
 induction d with
 | nil o =>
  intro _ _ f s3 s4 hf;obtain⟨g,rfl⟩:∃g,`yD:=`Im;refine⟨s3,s4,?_⟩;unfold V2;rw[Ta.d70];rfl
 | @skip c o T r x hx hd ih =>
  intro hT hl f s3 s4 hf;obtain⟨g,rfl⟩:∃g,`yD:=`Im;rw[`bo] at hl;obtain⟨s3',s4',e⟩:=ih (`XG) `g g `fm s4 `g;refine`aFJ;have q:`B2:=`aFu;have eb:`aFK=`a (.nx (`aFL)):=by
   rw[`oa];exact u5 `aFM (u5 (δ':=`aFL) (by rw[Z3 (`aFN (by rw[`cE (λz=>z q)]))];rfl) rfl)
  unfold V2;rw[Ta.d70,`H0];dsimp only;rw[eb];exact e
 | @visit c o T r x hx hS hz hd ih =>
  intro hT hl f s3 s4 hf;obtain⟨g,rfl⟩:∃g,`yD:=`Im;have F:=`XH;obtain⟨e1,_,pw⟩:=`qv F;have O:=pw.few;have M:=m00 `CA;have ea:`aFO=tgs `CA:=`yv F;rw[`bo] at hl;obtain⟨s',ef⟩:=Ta.k50 (n:=`am) `ck `gQ `fm `aFP `jz s4 (λv hv=>`ny v (List.mem_reverse.mp hv)) (by rw[`ke,`ke];omega);rw[Ta.Vb0] at ef;have J:`aCC+(`aFO++T).length<=10001:=by
   rw[`ai] at hz ⊢;rw[`ai,`c'];omega
  obtain⟨s3',s4',e⟩:=ih (λy hy=>by
   rcases `kg with z|z
   ·rw[ea] at z;exact tn0 `ny y z
   ·exact `aCE) J g `fm s' `g
  refine`aFJ;rw[`XU,ea] at e;have p3:nz0 (z9 (oA `afy Wa.j5) v7) (`h9 `ck `gQ `jz `fm s4)=`a `aFP:=by
   unfold nz0;rw[`v (d:=`o `CA) (ds:=[]) (by
    rw[o7 (ds:=[ps[x].d]) (`v (by rw[o4 (x:=`br) (y:=`k6) rfl rfl];exact e1) rfl)];exact Ta.su0 pw) rfl]
   rfl
  have eb:`aFK=`a (.nx (`aFQ)):=by
   rw[`oa];exact u5 `aFM (u5 (δ':=`aFQ) (by
    rw[U4 (`aFN (by rw[`bR hx]))];exact u5 (Qa0 _ o `jz x s4 `g) (u5 (T8 p3 ef) rfl)) rfl)
  unfold V2;rw[Ta.d70,`H0];dsimp only;rw[eb];exact e
theorem Yn0(h:`Q)(m:`dA):wa0 `CE=`H2:=by
 obtain⟨c,h1,h2⟩:=m.ex;obtain⟨s3,s4,e⟩:=Ry0 h h1 (λx hx=>by rw[`r1];exact `IB) `S 100000 .un .un `g;exact K1 rfl (u5 (δ':=[`as,`jw,.un,.un,.un]) rfl (u5 (δ':=`h9 `ck [] [0] .un .un) rfl (u5 e `HQ)))
noncomputable def nums(r:`e)(i:Nat):D:=`aP (`k (kd (`vE i))) (nd (`eQ 0 i))
theorem fn0(hn:`ym)(hj:`IF):zc0 (`qI) `YP=kd (`vE `gW)/\zk0 (`qI) (`YQ) `YP `nl=nd (`eQ 0 `gW):=by
 have F:r[j]∉`CB:=λz=>by
  have q:(`CB++`Lx j).Nodup:=by rw[`aFR];exact hn
  exact(List.nodup_append.mp q).2.2 _ z _ (by rw[`ui hj];exact B0) rfl
 have hk:Q5 (`qI) `YP=`q:=`aDc
 have tk:`vE `gW=`CB++[r[j]]:=by rw[`aFS,`Do];rfl
 constructor
 ·unfold zc0;rw[hk,`eZ,tk,b80];rfl
 ·unfold zk0;rw[hk,`eZ,List.range'_concat,vc0,`aEy,`bT];rfl
theorem f70(hj:`nu):yy0 (`O!) `nl=`a (`d ((`vA:Nat):Int)):=by
 show R5 (kd (`vE `a')) (nd (`eQ 0 `a')) `XZ=_;rw[`Ya,fl0 r 0 j hj,`bT]
theorem b30{vs:`n}{k:Nat}{v:D}{g:GE}{gx:GE}(h1:`cv=`a (.ow (`aP (`mT) vs)))(h2:`hL=`aL)(h3:`ay=`aEe)(h4:`sH) :
  V3 (V7 gx) `awE δ=`a (.nx (`bw i (.ow (`aP (`k (zc0 ks (`k `bq))) (zk0 ks vs (`k `bq) v))))):=by
 have e:`Gx=`a (ks,vs):=by unfold m20;rw[h1]
 unfold V3 V7;rw[h2,`cC,`j];unfold DL.putAt;rw[e,`j,h3,`j];simp only[R7,`j];rw[`H h4];rfl
theorem fr0(h:`Q)(m:`dA){mf:`J}(hm:∀i∈r,mf `aFT=`a (rel `yJ `vC).d) :
  V1 `bb noT (oA `W9 mf) [.un,`as,`IG] `Cc=`a `agH:=by
 rw[zb0 (λd=>match d with|`aj=>(rel `yJ (pa ps `eb)).d|_=>`w) (λd hd=>by
  obtain⟨i,hi,rfl⟩:=`d1;refine⟨[`Pf,`as,`IG],rfl,rfl,?_⟩;rw[o7 (ds:=`aFT) (`v (by rw[`aFU];exact(`Pa).1) rfl),hm i hi];rfl)]
 unfold nd dr;rw[`b3,`b3];rfl
theorem Met.len(h:`Q)(m:`dA):`aFF/\`a'<=60:=by
 have:=`aFG
 rw[`kU] at this;exact⟨`x,C1 `x `H_⟩
theorem Met.tg(h:`Q)(m:`dA)(hi:i∈r)(hj:j∈tgs `YK):`nu:=m.cl i hi j (by rw[tl0 h `Cz];exact hj)
theorem jy0(r:`e):(`yL).length=`a':=by unfold Y6;rw[`M,`kU,M4]
theorem X90{d:D}(h:(`yL)[j]?=`ar):∃hj:`IF,d=`m [`fZ,`CC]:=by
 have F:`IF:=by
  have:=`x1
  rwa [jy0] at this
 refine⟨F,?_⟩;unfold Y6 at h;rw[`a_,`r' (by rw[M4];exact F)] at h;have e:(nd r).getD j `w=`CC:=`aD3
 rw[← e];exact`V5
theorem Wr0{gA:GA}(δ:Ds)(r:`e)(h:`cg=`a [`vg]):qx0 gA δ=`a (`yL):=by
 unfold qx0;rw[h];rfl
noncomputable def NB:GS:=(u6 (V3 `aFs (DL.putAt 3 `c7)) p7)
theorem sb0(h:`Q)(m:`dA):Vx0 `YN=`aFV:=by
 have zs:`kh:=`O
 obtain⟨_,J⟩:=m.len h;obtain⟨δ',l1,s4,s5,rfl⟩:=zz0 (f:=Q7 4 5) (G:=NB) (λi δ=>∃s4 s5:Sl,δ=[`as,`vF,`ld,.ow (nums r i),s4,s5]) (`yL) 0 `aFW (by
  rintro j d δ hj ⟨s4,s5,rfl⟩;rw[`bT];obtain⟨F,rfl⟩:=X90 hj;obtain⟨e1,e2⟩:=`aFX;refine⟨[`as,`vF,`ld,.ow (nums r j),`h0,`IH],_,rfl,u5 (b30 (ks:=`qI) (vs:=`YQ) (k:=r[j]) (v:=`fZ) rfl rfl rfl (`YR)) rfl,`h0,`IH,?_⟩;rw[e1,e2];rfl) ⟨.un,.un,rfl⟩
 rw[`bT,jy0] at l1;refine j4 rfl (u5 (j6 (d:=`vg) (Um0 ?_ (ik0 r))) (u5 (δ':=`aFW) rfl (u5 (T8 (items:=`yL) ?_ l1) `cz)))
 ·show oA `qN d20 [`as,`vF,.un,.un,.un,.un]=_
  rw[o7 (ds:=`YN) rfl];exact Sk0 h m
 ·exact Wr0 _ r rfl
 ·show oA _ R3 [`as,`vF,`ld,`IG,zu0 s4,zu0 s5]=_
  rw[o7 (ds:=`aFY) (`v (U3 (items:=nd r) rfl `qw (fr0 h m λi hi=>t00 `YS _ _ λj hj=>`aFZ)) rfl)];rfl
noncomputable def EB:GS:=(u6 (ifD `Px
 (u6 `aAK
 p7)
 p7)
 (u6 (W7 `W3)
 p7))
theorem or1{d:D}(h:`iG=`ar):`Hx=`ar:=by unfold orE;rw[h]
theorem or2{d:D}(h:`iG=`b)(h2:`ot=`ar):`Hx=`ar:=by unfold orE;rw[h];exact h2
theorem be0{p:Pt}(h:`dz)(f:`cq)(D':D)(hd:∀j∈`su,`aF_=`af3∨(`aF_=`b/\`XM)):ze0 `af4=`a (`k5).d:=by
 have zs:`HO:=`O
 obtain⟨δ',l1,l2⟩:=zz0 (f:=gN 3) (G:=EB) (λi δ=>∃s3:Sl,δ=[`h',`gU,.ow (`o ((`Pb i).map `ns)),s3]) `fj 0 `YT (by
  rintro j v δ hj ⟨s3,rfl⟩;have hv:=A4 hj;have F:=`aF0;have hf:=`k?;rw[`bT];have app:∀w:D,W7 `W3 [`h',`gU,`YU,.sh w]=`a (.nx [`h',`gU,.ow (`o (`CD++[w])),.sh w]):=λw=>`Ow (l:=`CD) (d:=w) rfl rfl (`aF1)
  have tk:(`Pb `gW).map `ns=`aF2:=by rw[`aFS,hj,`aW];rfl
  refine⟨[`h',`gU,`YU,.sh v],[`h',`gU,.ow (`o (`aF2)),`YV],rfl,?_,`YV,by rw[tk]⟩;refine u5 (δ':=[`h',`gU,`YU,`YV]) ?_ (u5 (app _) rfl);rcases `yr with rfl|⟨z,rfl⟩|⟨i,rfl,hi⟩
  ·rw[`d3];rfl
  ·rw[`d3];rfl
  ·rw[`iI]
   refine u5 (j6 (d:=`m [`gM,`aF3]) (b8 (`v rfl (`v (d:=`aF3) ?_ rfl)) `vs)) rfl;rcases hd i `XN with q|⟨q1,q2⟩
   ·refine or1 ?_
    rw[`YW];exact q
   ·refine or2 ?_ ?_
    ·rw[`YW]
     exact q1
    ·rw[`YW]
     exact q2) `aq
 obtain⟨s3,rfl⟩:=l2;rw[`bT,`Ya] at l1;refine j4 rfl (u5 (δ':=`YT) rfl (u5 (T8 (items:=`fj) (by
  show `f6 (oA `eL j5 `YT) n70=_;rw[`XL,su0 h];rfl) l1) `cz))
 show oA `BC V9 `XA=_;rw[`aCX];exact qd0 p h.f _ `B9
noncomputable def RB:GS:=(u6 (V3 `aAT (DL.putAt 2 `aF)) p7)
theorem gz0(h:`Q)(m:`dA):V0 `CE=`aFV:=by
 have zs:`kh:=`O
 obtain⟨_,J⟩:=m.len h;obtain⟨δ',l1,s3,rfl⟩:=zz0 (f:=gN 3) (G:=RB) (λi δ=>∃s3:Sl,δ=[`as,`ld,.ow (nums r i),s3]) `Cc 0 `aF4 (by
  rintro j d δ hj ⟨s3,rfl⟩;rw[`bT];have F:`IF:=by
   have:=`aF0
   rwa [M4] at this
  have ed:d=`CC:=by
   unfold nd at hj;rw[`a_,`sI] at hj;exact(A2 hj).symm
  subst ed;obtain⟨e1,e2⟩:=`aFX;refine⟨[`as,`ld,.ow (nums r j),`IH],_,rfl,u5 (b30 (ks:=`qI) (vs:=`YQ) (k:=r[j]) (v:=`fZ) rfl ?_ rfl (`YR)) rfl,`IH,?_⟩
  ·show `a (`aQ ((`aF5:Nat):Int))=_
   rw[show `aF5=j from `YR]
  ·rw[e1,e2]
   rfl) ⟨.un,rfl⟩
 rw[`bT,M4] at l1;refine j4 rfl (u5 (j6 (d:=`vg) ?_) (u5 (δ':=`aF4) rfl (u5 (T8 (items:=nd r) rfl l1) `cz)))
 ·rw[`aF6]
  exact Yn0 h m
 ·show oA _ R3 [`as,`ld,`IG,zu0 s3]=_
  rw[o7 (ds:=`aFY) (`v (U3 (items:=nd r) rfl `qw (fr0 h m λi hi=>be0 `YS _ _ λj hj=>`h ⟨rfl,`aFZ⟩)) rfl)];rfl
universe Ua
namespace Ua
open Wa
open DL W K22 SoT
open Ta (pa Z6 J6 pN zz nn2 ih0 prg up okv)
theorem V20{p:Pt}(h:`dz):`vG p.d=`c:=by
 have v:∀x∈`fj,`aF7:=λx hx=>(Ta.Pj0 `aDJ).nb
 have F:∀ps:`eu,(∀x∈`hU,`aF7)->`vG (`k2)=`c:=λps hv=>`vH λd hd=>by
  obtain⟨q,hq,rfl⟩:=`d1;refine `yM
  rcases `sJ with rfl|he
  ·exact `oJ
  ·rw[`yN]
   exact hv _ `agd
 cases p with
 | text w=>refine `yM;rcases `sJ with rfl|he;exact `oJ;rw[`yN];exact `oJ
 | row vs=>refine `yM;rcases `sJ with rfl|he;exact `oJ;rw[`yN];exact `vH v
 | table ps=>refine `yM;rcases `sJ with rfl|he;exact `oJ;rw[`yN];exact F ps v
 | rcd c ps =>
  refine `yM
  rcases `sJ with rfl|he
  ·exact `oJ
  ·rcases `sJ with rfl|he
   ·exact `oJ
   ·rw[`yN];exact F ps v
theorem i40(h:`Q):`yw `ck:=⟨Wz0 h 45,`vH λd hd=>by
 obtain⟨p,hp,rfl⟩:=`d1;exact V20 (`X2)⟩
noncomputable def Eqw(ps qs:`Y)(r s:`e):Prop:=`O?=`aF8
theorem Ua0{a b:`Y}(ha:Web a)(hb:Web b):J6 (wd a=wd b) (W5 (wd a) (wd b)) :=
 ⟨λe=>by rw[e];exact `II (i40 hb).le,λe=>Pn.Yp0 (i40 ha) (i40 hb) e⟩
section
variable{s:`e}
noncomputable def SL(L:`aG):`aG:=(srt (`h! zz)).map nn2
theorem nd0(L:`aG):(SL L).Perm L:=by
 have h:=(Yv0 (`h! zz)).map nn2;have e:(`h! zz).map nn2=L:=by
  rw[`b3];exact(P3 λp _=>by show ((`H4).toNat,(`H5).toNat)=p;rw[`aA,`aA]).trans (List.map_id L)
 rw[e] at h;exact h
theorem Zq0{p q:Pt}(hp:`dz)(hq:Pw m q){f g:`cq}(e:(`k5).d=(`IJ).d)(hf:`aF9)(hg:(`IJ).few):`X7/\`B8=q.vals.map (lkv g):=by
 constructor
 ·have h1:=Pn.mv0 `ys hf
  rw[e,Pn.mv0 (`IJ) hg] at h1;have:=`m6;rw[bk0,bk0] at this;exact `st
 ·have h1:=`HZ `ys hf
  rw[e,`HZ (`IJ) hg] at h1;have:=`m6;injection this with this
  rw[sw0,sw0] at this;exact `st
theorem fc0{p:Pt}(h:`dz)(f:`cq):`aF9:=by
 have z:`aCR:=`O
 have:(`k5).vals.length<=12:=by rw[sw0,`M];exact `k?
 exact C1 `x z
theorem Q50{f g:`cq}{v w:D}(hv:`dQ)(hw:`H6)(e:`Pc=lkv g w)(hL:∀a b:Nat,v=`agi->w=`m [`gM,`d `u9]->f a=g b->`eq∈L):`X6:=by
 rcases hv with rfl|⟨z,rfl⟩|⟨a,rfl,ha⟩<;>rcases hw with rfl|⟨y,rfl⟩|⟨b,rfl,hb⟩
 ·exact rfl
 ·exact e
 ·rw[y20] at e;cases e
 ·exact e
 ·exact e
 ·rw[y20] at e;cases e
 ·rw[y20] at e;cases e
 ·rw[y20] at e;cases e
 ·rw[y20,y20] at e
  have e2:(f a:Int)=(g b:Int):=by injection e with e;injection e with _ e;injection e with e _;injection e
  show (`ad5,(b:Int).toNat)∈L;rw[`aA,`aA];exact hL a b rfl rfl `g
theorem Un0{s:`e}{a b:Nat}(ha:a∈r)(hb:b∈s)(e:`sK=`IK b):`eq∈`Pd:=by
 have h1:`sK<r.length:=Al0 ha;have h2:`IK b<s.length:=Al0 hb;have h3:`sK<(`Pd).length:=`aic
 have:`CF[`sK]=`eq:=by
  rw[`sL];have q1:r[`sK]=a:=D30 h1;have q2:s[`sK]'`g=b:=by
   have:=D30 h2;simp only[e];exact `x
  rw[q1,q2]
 rw[← `x];exact C0 h3
theorem du0(hp:`Q)(hq:`ad)(mp:`dA)(mq:`IL)(E:`IM):`a'=`Xv/\prg ps qs (`IN):=by
 have E':`agG=(dr qs s).map `dP:=by unfold Eqw wd at E;injection E
 have hl:`a'=`Xv:=by
  have:=C5 `B1 E';rw[`M,`M,(oa0 hp mp).2,(oa0 hq mq).2] at this;exact `x
 have pm:=nd0 `CF;refine⟨hl,?_,?_,?_,?_⟩
 ·refine `aF' ?_
  obtain⟨r',rfl⟩:=mp.hd;obtain⟨s',rfl⟩:=mq.hd;exact B0
 ·refine(pm.map `bv).nodup_iff.mpr ?_
  rw[`ay2 `g];exact mp.nd
 ·refine(pm.map `b_).nodup_iff.mpr ?_
  rw[List.map_snd_zip `g];exact mq.nd
 ·intro p Z
  obtain⟨i,hi,e⟩:=`du (`aF! Z);rw[`sL] at e;rw[`dM] at hi;have J:i<r.length:=`p
  have M:i<s.length:=`p
  subst e;have ei:(rel `yJ (`YX)).d=(rel (λj=>`IK j) (`YY)).d:=by
   have:=C5 (λl=>`Az) E';unfold dr at this;simp only[`a_,`c3 J,`c3 M,`cC] at this;exact `vL
  have wr:=(Z6 hp (mp.lt _ (C0 J))).2;have ws:=(Z6 hq (mq.lt _ (C0 M))).2;obtain⟨e1,e2⟩:=Zq0 wr ws ei (fc0 wr _) (fc0 ws _);refine⟨e1,λq Y=>?_⟩;obtain⟨k,hk,e3⟩:=`du Y;rw[`dM] at hk;rw[`sL] at e3;subst e3;have O:k<(`YX).vals.length:=`aF?
  have F:k<(`YY).vals.length:=`aF?
  have e4:lkv `yJ (`YX).vals[k]=lkv (λj=>`IK j) (`YY).vals[k]:=by
   have:=C5 (λl=>l[k]?) e2;simp only[`a_,`c3 O,`sI,`cC] at this;exact `vL
  refine Q50 (wr.lv _ (C0 O)) (ws.lv _ `P0) e4 λa b ea eb ef=>?_
  refine `aF' (Un0 ?_ ?_ ef)
  ·exact mp.tg hp (C0 J) (tt0 (ea▸C0 O))
  ·exact mq.tg hq (C0 M) (tt0 (eb▸C0 F))
universe zz
universe Ua
namespace Ua
open Wa
open DL W K22 SoT
open Ta (pa Z6 o40 getD_mem tf0 kd0 e90 gw0 zr0 Xr0 b40 cq0 j10 LTt ls Xn0 Xl0 Xf0)
theorem f80:∀(L:`e) (t:Nat),`X9->(`qz::`Ch).Perm L
 | [],_,h=>`dW
 | a::L,0,_=>`aS
 | a::L,t+1,h=>by
  have ih:=f80 L t `ol;have e1:(a::L).getD (t+1) 0=`qz:=`aS
  rw[e1,`aon];exact(List.Perm.swap a _ _).trans (ih.cons a)
theorem Us0(m:Sl)(n:Nat):∀(f:Nat) (c:Int) (L P:`e),`h6<f->`j3+`h6<=1000->(∀x∈P++L,x<n)->(P++L).Nodup->(`aGa)->∃c' P',V2 LTt Ta.LB f `oE=`a (.nx (ls c' m [] P'))/\P'.length=`j3+`h6/\(∀x∈P',x<n)/\P'.Nodup/\∃s,P'=0::s:=by
 intro f
 induction f with
 | zero=>intro c L P h;omega
 | succ f ih =>
  intro c L P h h1 hL hn hz;unfold V2;rw[Xn0]
  by_cases h0:`H'
  ·rw[`HU]
   obtain⟨c',t,ht,e⟩:=Xl0 c m L P h0 `g;have F:`agf=`h6 - 1:=by rw[List.length_eraseIdx,`H ht]
   have pm:(P++[`qz]++`Ch).Perm (P++L):=by
    rw[`eP];exact(f80 L t ht).append_left P
   obtain⟨s,hs⟩:=hz;obtain⟨c2,P',e2,e3,e4⟩:=ih c' `qA `H! `g `Ig (λx hx=>hL x (`aF! hx)) (pm.nodup_iff.mpr hn) ⟨s++[`qz],by rw[hs];rfl⟩;refine⟨c2,P',?_,by rw[e3,`ai,`c'];omega,e4⟩;dsimp only;rw[e];exact e2
  ·rw[`HV]
   have:L=[]:=T0.mp `g;subst this;rw[`fu] at hL hn;exact⟨c,P,rfl,rfl,hL,hn,hz⟩
theorem cf0(c:Int)(m:Nat)(hm:`aDz):∃P,xp0 [`hZ,`np]=`a `vJ/\`j3=m/\(∀x∈P,x<m)/\`rv/\`aGa:=by
 have e1:T9 1 `fP=nd (`yO):=by
  unfold T9 nd;rw[show (`fP - 1).toNat=m - 1 from `p,`b3];exact P3 λk _=>by show `aQ (1+`bq)=`aQ (((k+1:Nat):Nat):Int);congr 1;omega
 obtain⟨c',P,e,e2,e3⟩:=Us0 `IO m 100000 c (`yO) [0] (`azc) `n7 (λx hx=>by
  rcases `Gz with hx|hx
  ·rw[`r1];exact hm.1
  ·obtain⟨k,hk,rfl⟩:=`r2
   have:=`G0;omega) (by
  show (0::`yO).Nodup;rw[`l5];exact⟨λz=>by obtain⟨k,_,q⟩:=`yA;omega,Ta.ih0 (λa b q=>`p) n5⟩) ⟨[],rfl⟩
 refine⟨P,K1 rfl (u5 (δ':=[`yc,`nq,.ow (`o (nd (`yO))),.un]) ?_ (u5 (δ':=ls c `IO (`yO) [0]) ?_ (u5 e `HQ))),by rw[e2,`M,`kU,`c'];omega,e3⟩
 ·unfold T5
  rw[o7 (ds:=[`eK,`np]) rfl,Xf0 `s `g,e1];rfl
 ·rfl
noncomputable def R1:GS:=(u6 `aAX
 p7)
noncomputable def R2:GS:=(u6 `aAY
 p7)
noncomputable def rs(ps:`Y)(x:Int)(mo:Nat)(P:`e)(qs:`Y)(s:Sl):Ds:=[`as,`a6,`wk,`Dx,.ow (`o (`k7)),s]
theorem ah0{a b:Nat}{v:Pt}(h:`IP):pa (`qC a v) b=if a=b then v else `P1:=by
 unfold pa
 by_cases e:a=b
 ·subst e;rw[`aB];simp[h]
 ·rw[`gk,`bI,`bI,`gt e]
structure Rn(N:Nat)(ps:`Y)(P:`e)(i:Nat)(qs:`Y):Prop where
 len:`em=N
 pw:∀q∈qs,Pw N q
 at_:∀k,k<i->pa qs (`Pg)=rel (`CI) (pa ps k)
theorem mq0{P:`e}(hn:`rv){a b:Nat}(ha:`aGb)(hb:`aGc)(h:a≠b):`jC a 0≠`jC b 0:=λe=>by
 rw[show `jC a 0=P[a] from by simp[ha],show `jC b 0=P[b] from by simp[hb]] at e;have q:∀{a b:Nat} (ha:`aGb) (hb:`aGc),a<b->P[a]≠P[b]:=λ{a b} ha hb F=>List.pairwise_iff_getElem.mp hn a b ha hb F
 rcases Nat.lt_or_gt_of_ne h with z|z
 ·exact q ha hb z e
 ·exact q hb ha z `OQ
theorem Qt0(h:`Q)(x:Int)(mo:Nat){P:`e}{N:Nat}(hP:`am<=`j3)(hPN:∀y∈P,y<N)(hn:`rv)(i:Nat)(hi:`ss)(R:Rn N ps P i qs) :
  ∃qs',Rn N ps P `bM qs'/\R1 `YZ=`Y_:=by
 have F:=R.len;obtain⟨e1,_,pw⟩:=`yp;have ep:`h5=ps[i]:=`aDS
 have O:=hPN _ (`vK (show i<P.length by omega));have e2:ze0 `aGd=`a (`Y0).d:=be0 pw _ _ λj hj=>`k (o40 P `aGe)
 refine⟨`qC (`jC i 0) (`Y0),⟨by rw[`jD];exact F,λq M=>?_,`HS⟩,?_⟩
 ·rcases L8 M with z|rfl
  ·exact R.pw q z
  ·exact cu0 pw _ λj hj=>hPN _ (`vK `aGe)
 ·have J:`aGf:=by rw[F];exact `aGg
  rw[ah0 J]
  by_cases e:k=i
  ·subst e;rw[`aB,ep]
  ·rw[`P (mq0 hn `g `g `Oy)]
   exact R.at_ k `g
 ·refine `sy
  rw[tf0 (ds:=`k7) (j:=`jC i 0) (v:=(`Y0).d) rfl (by
   rw[o4 (x:=`vj) (y:=`dN) rfl rfl];exact `aGh) `fl (by
   rw[o7 (ds:=`aGd) (`v (d:=`CH) (by
    rw[`aFU];exact e1) rfl)]
   exact e2),kd0]
  rfl
theorem Rk0(ps:`Y)(x:Int)(mo:Nat){P:`e}{N:Nat}(hP:`j3=`qJ)(hPN:∀y∈P,y<N)(hn:`rv)(hN:0<N)(i:Nat)(hi:i<mo)(hmo:mo<=100)(R:Rn N ps P `am qs) :
  ∃qs',Rn N ps P `am qs'/\R2 `YZ=`Y_:=by
 have hq:=R.len;have M:=hPN _ (`vK (show `am+i<P.length by omega));have b1:0<=`IQ:=`l4;have b2:`IQ<N:=`oz;obtain⟨a,ha⟩:∃a:Nat,`IQ=`fR:=⟨(`IQ).toNat,`p⟩;refine⟨`qC (`aGi) (e90 a),⟨`aEm,λq J=>?_,`HS⟩,?_⟩
 ·rcases L8 J with z|rfl
  ·exact R.pw q z
  ·exact gw0 `g
 ·have F:`aGf:=by rw[hq];exact `aGg
  rw[ah0 F,`P (mq0 hn `g `g `g)];exact R.at_ k hk
 ·have z2:`Oi:=`O
  refine `sy;rw[tf0 (ds:=`k7) (j:=`aGi) (v:=(e90 a).d) rfl (by
   rw[o4 (x:=`vj) (y:=`d ((`am+i:Nat):Int)) rfl (by
    rw[o4 (x:=`CJ) (y:=`dN) `CK rfl];rfl)]
   exact `aGh) `fl (by
   refine b8 (ds:=[`Bs,`m `aD6]) (`v rfl (`v (b8 (`v (b8 (`v rfl (`v (d:=`k0) ?_ rfl)) ?_) `no) z2) rfl)) ?_
   ·rw[o4 (x:=`d (x/`Ph)) (y:=`d (N:Int)) (by
     rw[o4 (x:=`ek) (y:=`d `Ph) rfl (by rw[o4 (x:=`dN) (y:=`kZ) rfl rfl];rfl)];exact Gw.v90 _ _ `g) (by
     show `a (`aQ (((`k7).length:Nat):Int))=_;rw[`M,hq]),`oF,ha]
   ·exact `aGj
   ·exact `aGj),kd0]
  rfl
theorem bm0{x:Int}{mo:Nat}{P:`e}{N:Nat}(n:Nat)(g:`cq)(hG:∀i,i<n->∀qs:`Y,Rn N ps P `rt qs->∃qs':`Y,Rn N ps P (g `bM) qs'/\G `YZ=`Y_)
  (qs:`Y) (s:Sl) (hq:Rn N ps P (g 0) qs):∃qs' s',Rn N ps P (g n) qs'/\Y4 `fi G (`ya) `aGk=`a (.nx (`aGl)):=by
 obtain⟨δ',l1,qs',s',h1,rfl⟩:=zz0 (f:=gN 5) (G:=G) (λi δ=>∃(qs':`Y) (s':Sl),Rn N ps P `rt qs'/\δ=`aGl) (`ya) 0 `aGk (by
  rintro j d δ hj ⟨q1,s1,h1,rfl⟩;obtain⟨F,rfl⟩:=`yb;rw[`bT] at h1 ⊢;obtain⟨q2,k1,k3⟩:=hG j `g q1 h1;exact⟨_,_,rfl,k3,q2,_,k1,rfl⟩) ⟨qs,s,hq,rfl⟩
 rw[`bT,wz0,`aA] at h1;exact⟨qs',s',h1,l1⟩
theorem md0(h:`Q)(x:Int)(mo:Nat)(hl:`Y1) :
  ∃qs P,`aGm/\`ad/\`j3=`am/\∀r,`dA->Iso ps qs r `CI:=by
 have zs:`kh:=`O
 have a0:=`IB;obtain⟨P,e,Z,J,F,s0,Y⟩:=cf0 x (`qJ) `w!;have h0:Rn (`qJ) ps P 0 (`IR):=⟨`SK,λq hq=>by
  rw[List.eq_of_mem_replicate hq];exact⟨by show 0<=12;decide,λv hv=>`y hv (by show v∉[];simp)⟩,λk hk=>`p⟩
 obtain⟨q1,s1,a1,a3⟩:=bm0 (G:=R1) (ps:=ps) (x:=x) (mo:=mo) (P:=P) `am id (λi hi qs k1=>Qt0 h x mo `g J F i hi k1) (`IR) .un h0;obtain⟨q2,s2,b1,b3⟩:=bm0 (G:=R2) (ps:=ps) (x:=x) (mo:=mo) (P:=P) mo (λ_=>`am) (λi hi qs k1=>Rk0 ps x mo Z J F `g i hi `g k1) q1 s1 a1;have O:=b1.len;have tk:∀k,`aCt->`aGn k 0=`Pg:=λk hk=>by
  rw[`bI,`bI,`SJ hk]
 refine⟨q2,`Pi,j4 rfl (u5 (δ':=[`as,`a6,`wk,`Dx,.un,.un]) (j6 ?_) (u5 (δ':=rs ps x mo P (`IR) .un) ?_ (u5 (T8 (yb0 (n:=`OA) (`v `CK rfl) `g `g) a3) (u5 (T8 (yb0 (n:=`Pe) rfl `g `g) b3) `cz)))),⟨`p,by rw[O];exact b1.pw⟩,`ye,λr m=>?_⟩
 ·rw[o7 (ds:=[`ek,`Y2]) (`v rfl (`v (by
   rw[`aGo];rfl) rfl))]
  exact e
 ·unfold T5
  rw[o4 (x:=`aGp) (y:=`Y2) (z40 (`v (b8 rfl `c9) rfl) `f7) (by
   rw[`aGo];rfl)]
  have em:mulL (`aGp) (`Y2)=`a (`o ((`IR).map `dP)):=by
   rw[cq0 `S `g rfl,`aA];rw[j10,List.map_replicate];rfl
  rw[em];rfl
 ·show m7 _ `XA=_
  refine b8 (ds:=[wd q2,`aGq]) (`v (d:=wd q2) ?_ (`v (d:=`aGq) ?_ rfl)) `c9
  ·rfl
  ·rw[Xr0 (xs:=nd P) (n:=`am) rfl `CK]
   unfold nd;rw[`sw]
 ·have cg:∀i∈r,rel (`CI) `vC=rel (λj=>`aGn j 0) `vC:=λi hi=>lc0 `YS λj hj=>(tk j (tn0 (`Pa).2.lv j hj)).symm
  refine⟨`sq,`aGr,?_⟩
  ·have M:=`agC
   rw[tk i M,b1.at_ i M,cg i hi];exact⟨by rw[O];exact J _ (`vK `g),rfl⟩
  ·have h1:=m.lt a ha
   have h2:=m.lt b hb;rw[tk a h1,tk b h2] at e
   by_cases z:a=b
   ·exact z
   ·exact `y e (mq0 F `g `g z)
  ·rw[tk 0 a0,Y]
   rfl
universe Ua
namespace HL
open PySem.SeqAt PyProof.Rows
open PySem.AutoSeq1 (wpAny_loadPart')
open PySem.MeetsSeq PySem.MeetsSeq2 PySem.MeetsSeq3
theorem aa0(A:`bf)(s:`r)(a:Int)(t:Tok)(c:Int)(u:Tok)(prog:`ag)(w:`N)(E:`X)(Q:`X)(h:`amR) :
  `amS :=
 `amT
theorem b20(l b p q:`f)(i j:Int)(t u:Tok)(n n2:Nat)(dd dd2:`cT)(sl sl2:`g9)(e v:`V) :
  `r6 (Builtin.«tuple.__lt__» `axI)
   (λA R s=>`aGs/\`o9=`a { cls:=`d5,dict:=dd2,data:=`bu #[`Lc,`nE] n2,slots:=sl2 } /\
    EqAt `bF s `ch (`nE) e/\(∀prog w E Q,Q (`cd v) s->`l `ao `bF (`tE .Lt `ch (`nE)) Q E s) /\
    R (.ok (`dC (`cd (if i=j then (!e&&v) else `Le)))) s) :=
 `GW λprog w A R s h=>by
  obtain⟨hp,g,d,tk,os⟩:=s;obtain⟨hl,hb,he,hv,h⟩:=h;have f2:=AutoSeq1.sub_tuple_tuple
  wp_walk using `hg,`or,r0 _ (λrest b s'=>b.1=`b/\s'=`qe/\((`a1=[(`oW,`Lc),`aGt])∨(i=j/\`a1=[`aGt])∨(i=j/\e=`c/\`a1=[])))
  case turn =>
   rintro⟨y,x⟩ rest b s' ⟨Y,rfl,hz⟩;rcases hz with hz|⟨F,hz⟩|⟨_,_,hz⟩
   ·injection hz with hyx hrest
    injection hyx with hy hx
    subst hy hx hrest;obtain⟨e1,M,J⟩:=HT.je0 `bF `qe i t j u;refine A0 (M `dE w _ _ ?_);cases e1 with
    | true =>
     wp_walk
     exact⟨rfl,rfl,`h (`k ⟨J.mp rfl,rfl⟩)⟩
    | false =>
     rw[`P (λq=>`y (J.mpr q) A6)] at h;have O:=aa0 `bF `qe i t j u `dE w
     wp_walk using O
     exact`aGu
   ·injection hz with hyx hrest
    injection hyx with hy hx
    subst hy hx hrest;refine `axD;cases e with
    | true =>
     wp_walk
     exact⟨rfl,rfl,`h (`h ⟨F,rfl,rfl⟩)⟩
    | false =>
     rw[`H F,`VP,`IS] at h;have O:=hv `dE w
     wp_walk using O
     exact`aGu
   ·cases hz
  case fin =>
   rintro⟨b1,b2⟩ s' ⟨Y,rfl,hz⟩;simp only at Y;subst Y;rcases hz with hz|⟨_,hz⟩|⟨F,M,_⟩
   ·cases hz
   ·cases hz
   ·rw[`H F,M,`D',`Sb] at h
    wp_walk
    exact⟨_,rfl,by simpa [Builtin.Tuple.tupleCompareSizes] using h⟩
  case h =>
   exact⟨rfl,rfl,`a3⟩
section
variable{w:`N}{T S:`f}{a b vb:`A}{lt:`V}
noncomputable def Kp(h0 h:`R):Prop:=∀c o,`Pj c=`_->`mc c=`_
noncomputable def rest(s:`r):=(`n1,`wK,s.os)
noncomputable def best(vs:`bh)(c:Nat):Obj:={ cls:=`dg,dict:=`b,data:=`bu vs c,slots:=#[] }
theorem gx0(hh:`Hv)(hTI:T≠I)(hSI:S≠I)(hST:S≠T)(nI:`Y3)(nS:`Y4)(s:`r)(c:Nat)(st:`Y5 I T 2/\`Y6)(k:`Y7)(hS:`cO S=`aGv)
  (hR:∀h' tk,`CM->R (.ok (`dC vb)) `hT):`Y8:=by
 have W:=`Y9;apply P7 An0;rw[`Y'];show `Y!;apply A0;apply `Y?;show `Za;apply A0;apply o3;refine W.done s _ _ st λh' tk kk=>?_
 have J:`fJ S=`aGv:=`Zb;show `l _ `bF (`VX S `VW>>=_) _ _ _;apply A0;refine k6 J rfl (`Hp);refine hR _ tk `Zc
 have hx:x≠S:=λz=>by rw[z,nS] at e;cases e
 have F:x≠I:=λz=>by rw[z,nI] at e;cases e
 exact(L6 _ _ (B4 hx)).trans (kk x o (by simpa using F) (k x o e))
theorem U10(hh:`Hv)(hTI:T≠I)(hSI:S≠I)(hST:S≠T)(nI:`Y3)(nS:`Y4)(s:`r)(c:Nat)(st:`Y5 I T 1/\`Y6)(k:`Y7)(hS:`cO S=`aGw)
  (cmp:`aGx)
  (hR:`aGy):`Y8:=by
 have nm:`Zd := `O
 have W:=`Y9;apply P7 An0;rw[`Y'];show `Y!;apply A0;apply `Y?;show `Za;apply A0;apply o3;refine W.item 1 s _ _ (H0 1) st λv h' tk hP Y kk=>?_
 have hv:v=b:=by
  have:`ed=`aL:=hP;exact`aGz
 subst hv;have J:`fJ S=`aGw:=`Zb;have k':`CM:=λx o e=>kk x o (by
  have:x≠I:=λz=>by rw[z,nI] at e;cases e
  simpa using `x) (k x o e)
 show `l _ `bF (`agK (`mr [v,v] (`tE .Lt v a>>=_)) _>>=_) _ _ _;apply A0;apply o3;apply C2;apply A0;refine cmp `hT k' rfl _ _ ?_;refine A0 (C2 (Q1 ?_));refine `Hp;cases lt with
 | true =>
  simp only[`es] at hR ⊢;apply A0;refine k6 J rfl (`aGA);rw[nm];refine A1 ⟨`IT,gx0 (vb:=v) hh hTI hSI hST nI nS _ _ (`G3 2 _ _ Y `aGB) (`Zc) (S4 _ J rfl) `aGC⟩
  ·refine`aGD
   rintro rfl;simp at hx;exact `aGE
  ·exact`aGF
 | false =>
  simp only[`ih,`cA] at hR ⊢;refine `aGA;rw[nm];exact A1 ⟨`IT,gx0 (vb:=a) hh hTI hSI hST nI nS _ _ Y k' J `aGC⟩
theorem ch0(hh:`Hv)(hTI:T≠I)(hSI:S≠I)(hST:S≠T)(nI:`Y3)(nS:`Y4)(s:`r)(c:Nat)(st:`Y5 I T 0/\`Y6)(k:`Y7)(hS:`cO S=`aGG)
  (cmp:`aGx)
  (hR:`aGy):`Y8:=by
 have nm:`Zd := `O
 have W:=`Y9;apply P7 An0;rw[`Y'];show `Y!;apply A0;apply `Y?;show `Za;apply A0;apply o3;refine W.item 0 s _ _ (Nat.succ_pos 1) st λv h' tk hP M kk=>?_
 have hv:v=a:=by
  have:`kA=`aL:=hP;exact`aGz
 subst hv;have F:`fJ S=`aGG:=`Zb;have k':`CM:=λx o e=>kk x o (by
  have:x≠I:=λz=>by rw[z,nI] at e;cases e
  simpa using `x) (k x o e)
 show `l _ `bF (`VX S (λ_=>#[v,v])>>=_) _ _ _;apply A0;refine k6 F rfl ?_;rw[nm];refine A1 ⟨`IT,U10 hh hTI hSI hST nI nS _ _ (`G3 1 _ _ M `aGB) (`Zc) (S4 _ F rfl) cmp λY J O=>hR Y J O⟩
 ·refine`aGD
  rintro rfl;simp at hx;exact `aGE
 ·exact`aGF
universe zz
theorem Ya0{prog:`ag}{w:`N}{E:`X}{s:`r}{a b:`A}{lt:`V}{Q:`X}(hh:`j1)
  (cmp:∀s':`r,Kp `aa `hz->`agL)
  (h:∀h' tk,(∀c o,`ad8)->Q `agM `hT) :
  `l `ao A (`e? `EY `hy) Q E s:=by
 have nm:`Zd := `O
 apply call_function_tree F.kind_min F.plain_min F.entry_min (F.args_min2 a b);have bp:`aGH=`bg [`b,`b]:=rfl;show `l _ `bF (`aGH>>=_) _ E s;refine A0 (`ayV bp ?_);show `l _ `bF (`WA `hy>>=_) _ E s;refine A0 (E6 ?x1);obtain⟨h1,e1⟩:∃h1,h1=`dG { cls:=`d5,data:=`bu `CL }:=`aq;have J:`aGI=`i4:=by rw[e1];exact k8 ..
 have O:h1.IsTuple `an `CL:=by rw[e1];exact⟨_,`df,rfl,0,rfl⟩
 have k1:∀c o,`uC->`Rf c=`_:=λc o e=>by rw[e1];exact `iZ
 rw[← e1];refine A0 (`alt O ?x2);refine A0 (E6 ?x3);rw[nm];have M:(h1.push { cls:=`bl "tuple_iterator",data:=`iS #[`d!,`d 0 0] }).objs.size=`aGI+1:=k8 ..;have old:∀c,`an<=c->`cO c=`b:=λc hc=>by
  cases e:`cO c with
  | none=>rfl
  | some o=>exact `y hc (Nat.not_le_of_lt `iX)
 refine A1 ⟨`IT,ch0 (A:=A) (T:=`an) (h0:=`aa) hh (by rw[J];exact B9 `Hk) ?_ ?_ (old _ (by rw[J];exact D9 _)) (old _ ?_) _ 0 ⟨⟨_,B3 _ (`df),rfl,rfl⟩,(O.push _).push _⟩ (λc o e=>B3 _ (B3 _ (k1 c o e))) (`df) cmp λh' tk k=>?_⟩
 ·rw[M];exact D8 `Hk
 ·rw[M,J];exact D8 (C7 `Hk `kf)
 ·rw[M,J];exact C1 `kf `kf
 ·exact h h' tk k
universe HL
namespace DL
open Spec PyProof.Rows L2
noncomputable def ou0:`J
 | [`aGJ,`aGK]=>(K6 xs).bind λns=>(K6 ys).map λms=>if `CN then `aGK else `aGJ
 | _=>`b
theorem dh0(hc:`bz)(hu:`VQ):`dl X `EY (λxs H Q=>∃(B:BS) (i j:Int) (ns ms:`au) (x y:V),xs=`tx/\`aGL/\Rp X.K H B `aGM y/\`aGN):=by
 intro pins s σ H xs us Q I r h;obtain⟨B,i,j,ns,ms,x,y,rfl,hx,hy,q⟩:=h;obtain⟨u,v,rfl,rx,ry⟩:=`Sw;have two:∀{i:Int} {ns:`au} {x:V} {v:`A},`aGL->`gc->∃(l p:`f) (t:Tok) (n:Nat) (dd:`cT) (sl:`g9),v=`hD/\`aGs/\Rp X.K H B `u0 `ch:=by
  intro i ns x v hx rx;rw[W4] at hx;obtain⟨a,xs,rfl,hs,hr⟩:=hx;rw[o9] at hr;obtain⟨x1,r,rfl,h1,hr⟩:=hr;rw[o9] at hr;obtain⟨x2,r,rfl,h2,hr⟩:=hr;rw[m9] at hr;subst hr;rw[n8] at h1;subst h1;have a5:=h2;rw[X7] at a5;obtain⟨p,ys,rfl,_,_⟩:=a5;cases rx;obtain⟨its,rv,⟨⟨cls,dd,data,sl⟩,ho,hc,n,hd⟩,_⟩:=`e6 hs.to;simp only at hc hd;subst hc hd;cases rv with
  | cons r1 rv =>
   cases rv with
   | cons r2 rv =>
    cases rv;obtain⟨t,rfl⟩:=r1;cases r2;exact⟨a,p,t,n,dd,sl,rfl,ho,h2⟩
 have d1:=hx;have d2:=hy;obtain⟨l,p,t,n,dd,sl,rfl,ho,hp⟩:=two hx rx;obtain⟨b,q',t2,n2,c0,b2,rfl,a3,hq⟩:=two hy ry;have b3:X.A.in1.in1.units+50<cLine:=by rw[`M5,`M5];omega
 have Y:=hp;have a0:=hq;rw[X7] at Y a0;obtain⟨a1,us,e1,s1,r1⟩:=Y;obtain⟨a2,ws,e2,s2,r2⟩:=a0;cases e1;cases e2;have:=wr0 r1;subst this;have:=wr0 r2;subst this;obtain⟨its,v1,⟨⟨cls,b1,data,b4⟩,nl,a6,a4,c3,a7⟩,_⟩:=`dk s1.to;obtain⟨M,v2,⟨⟨c2,b0,data2,a8⟩,b5,Z,O,c1,J⟩,_⟩:=`dk s2.to;simp only at a4 a7 O J;subst a4 a7 O J;have i1:`pq its.toArray.toList ns:=`aGO v1;have i2:`pq M.toArray.toList ms:=`aGO v2;obtain⟨lt,elt⟩:∃lt:`V,lt=`agO:=`aq;refine HL.Ya0 (lt:=lt) `eX (λs' k rs Q E hQ=>?_) `Sx
 ·have es:s'={ s with heap:=`hz,toks:=s'.toks }:=by
   obtain⟨Y,g',d',c5,c4⟩:=s';unfold HL.rest at rs;simp only[Prod.mk.injEq] at rs;obtain⟨r1,r2,r3⟩:=rs;rw[← r1,← r2,← r3]
  have I':`GD:=by rw[es];exact `pg k
  have he:=ku0 I' 50 50 (`Pk) `u0 `Ze `ch `Ze `ch `aGP b3 (xz0 ms 49) (xz0 ns 49) hq hp rfl rfl;have b6:∀prog w E Q,Q (`cd (`vM)) s'->`l `ao `aGP (`tE .Lt `Ze `ch) Q E s':=λprog w E Q hQ =>
   D40 (op:=.Lt) ⟨_,k _ _ Z,rfl⟩ ⟨_,k _ _ a6,rfl⟩ PySem.F.slot_list_lt PySem.F.entry_list_lt (PySem.F.args_list_lt_2 _ _) (HL.Vt0 q' p M.toArray `be b5 nl b0 b1 a8 b4 ms ns i2 i1)
    ⟨k _ _ Z,k _ _ a6,show `pu (`vM)≠`VB/\_ from `aGQ⟩ `g
  have ee:(if j=i then (!`Zf&&`vM) else `zI)=lt:=by
   rw[elt]
   by_cases hij:i=j
   ·rw[`H hij,`H hij.symm]
    cases hd:`Zf with
    | false=>rw[`VP,`IS]
    | true =>
     rw[deq] at hd;rw[if0 ms ns hd,o10];rfl
   ·rw[`P hij,`P (B4 hij)]
  refine D40 (op:=.Lt) ⟨_,k _ _ a3,rfl⟩ ⟨_,k _ _ ho,rfl⟩ PySem.F.slot_tuple_lt PySem.F.entry_tuple_lt (PySem.F.args_tuple_lt_2 _ _) (HL.b20 b l q' p j i t2 t n2 n c0 dd b2 sl (`Zf) (`vM))
   ⟨k _ _ a3,k _ _ ho,he,b6,?_⟩ (`GY)
  rw[ee];exact show `pu lt≠`VB/\_ from `aGQ
 ·rw[← elt]
  cases lt with
  | true=>rw[`aB,`aB];exact ry
  | false=>rw[`eZ,`eZ];exact rx
theorem Z30:FnR K (λxs H Q=>∃(B:BS) (i j:Int) (ns ms:`au) (x y:V),xs=`tx/\Rp K H B `agP x/\Rp K H B `aGM y/\`aGN) ou0:=by
 intro H B xs ds d Q hb r h k;unfold ou0 at h;split at h
 ·rename_i i xs' j ys'
  cases e1:K6 xs' with
  | none=>rw[e1] at h;cases h
  | some ns =>
   cases e2:K6 ys' with
   | none=>rw[e1,e2] at h;cases h
   | some ms =>
    rw[e1,e2] at h;have h:=`kO;rw[o9] at r;obtain⟨x,r,rfl,rx,r2⟩:=r;rw[o9] at r2;obtain⟨y,r,rfl,ry,r3⟩:=r2;rw[m9] at r3;subst r3;have J:=rx;have F:=ry;rw[pv0 e1] at J;rw[pv0 e2] at F;refine⟨B,i,j,ns,ms,x,y,rfl,J,F,`um⟩;rw[← h];show Rp K H B (if `CN then _ else _) _
    by_cases hc:`CN
    ·rw[`xi,`xi];exact ry
    ·rw[`lM,`lM];exact rx
 ·cases h
noncomputable def tV(K:`D)(B:BS)(δ:Ds)(g:GE):TE:=fun σ H Q=>∃d,`bc/\`ix/\∀v H',`aT->Rp K H' `Zg d v->`mp
structure PDV(X:Cx)(e:`z)(g:GE):Prop where
 mk::go:∀B δ,PE X e (tV X.K B δ g)
noncomputable def yi0(g:GE):GE:=fun δ=>`db `ass
noncomputable def ja0:`cD
 | `ct=>`na ds
 | _=>`q
noncomputable def p80(n:Nat)(caps:`e)(gi:GA)(f:`aJ)(ge:GE):GE:=fun δ=>(V5 n `cr gi f noT ge δ).bind λd=>match d with
 | `uy=>if es.all ja0=`c then `Zh else `b
 | _=>`b
section
variable{a:`z}{g ga gb:GE}
theorem Zi0(h:`bU):PDV X e (yi0 g):=.mk λB δ=>`aGR fun σ H Q ⟨d,en,e1,k⟩=>by
 unfold yi0 at e1;cases e2:`ay with
 | none=>rw[e2] at e1;cases e1
 | some d' =>
  rw[e2,`j] at e1;split at e1
  ·rename_i hf
   cases e1;exact⟨_,en,e2,λv H' s r=>k v H' s `auo⟩
  ·cases e1
theorem dc0{T:`cL}{r:`e!}{f:`J}(hc:`SN)(hf:`Uh)(hm:`lA)(hv:`SO)(ha:PDV X e g)(hg:`dU:=by rfl)
  (hn:`iT := by decide) (hdb:`bt:=by decide) (he:`iC:=by rfl) (hpl:`hd:=by rfl) :
  PDV X `av8 (oA `x2 f):=.mk λB δ=>(rr0 hc hg hm hv (K5 `oK xj0 he) hn hdb he hpl).imp fun σ H Q ⟨d,en,e1,k⟩=>by
 unfold oA z9 at e1;cases e2:`ay with
 | none=>rw[e2] at e1;cases e1
 | some d' =>
  rw[e2] at e1;have e1:f [d']=`ar:=e1;refine⟨d',en,e2,`Gt⟩;refine hf H1 `Zg [v] [d'] d Q (`aGS) ?_ e1 λv' H2 s2 r2=>k v' H2 `kM r2
  rw[o9];exact⟨v,[],rfl,r1,`jg⟩
theorem Zr0{x1}(ha:PDV X e g)(hs:`iC:=by rfl):PDV X (`kS [e] x1 pos) (m7 `x2):=.mk λB δ=>(dy0 (K5 `oK xj0 hs)).imp fun σ H Q ⟨d,en,e1,k⟩=>by
 unfold m7 z9 at e1;cases e2:`ay with
 | none=>rw[e2] at e1;cases e1
 | some d' =>
  rw[e2] at e1;have e1:(if [d'].length<=`W then `a (`fE [d']) else `b)=`ar:=e1;rw[`H (by show 1<=`W;decide)] at e1;cases e1;refine⟨d',en,e2,λv H1 s1 r1=>⟨by show `aDG;decide,λq hq=>k _ _ (`mY (X3 hq)) ?_⟩⟩;rw[W4];refine⟨q,[v],rfl,⟨λz=>(`Pl).ne hq,j8⟩,?_⟩;rw[o9];exact⟨v,[],rfl,`AE (X3 hq),`jg⟩
theorem V70(ha:PDV X a ga)(hb:PDV X b gb):PDV X `avY (o2 ga gb d9):=.mk λB δ=>(df0 `avZ `oK `agW).imp fun σ H Q ⟨d,en,e1,k⟩=>by
 unfold o2 at e1;cases e2:`eD with
 | none=>rw[e2] at e1;cases e1
 | some x =>
  cases e3:`eE with
  | none=>rw[e2,e3] at e1;cases e1
  | some y =>
   rw[e2,e3] at e1;have e1:d9 x y=`ar:=e1;refine⟨x,en,e2,λv1 H1 s1 r1=>⟨y,`fU,e3,`Mg⟩⟩;exact i00 H2 `Zg v1 v2 x y d Q (λa z=>(`Pl).same s2) `F! (`Wt (`eI `aGS)) e1 `aqR
universe zz
theorem Wf0{d:D}{q:`f}(h:ja0 d=`c)(r:RpO K H B d q)(nb:¬B' q)(st:∀o,H q=`_->H' q=`_):Rp K H' B' d (`nE):=by
 cases d<;>try cases h
 obtain⟨xs,e,rr⟩:=r;rw[X7];exact⟨q,xs,rfl,`k ⟨nb,`k (st _ e)⟩,lp0 h rr⟩
theorem eu0{K:`D}{B:BS}{δ:Ds}{σ:St}{H:Hp}{Q:VK}{caps:`e}{gi:`da}{f:`aJ}{ge:`bA}(hidx:∀j∈idx,j<n)
  (h:tV K B δ `aGT σ H Q) :
  k30 n `cr (tDI K B δ gi) `arw (fun σ H Q=>∃B δ,tDT K B δ noT σ H Q) (fun σ H Q=>∃B δ,tDF K B δ ge σ H Q) σ H Q:=by
 obtain⟨d,en,h,k⟩:=h;unfold p80 V5 at h;cases e1:`pA with
 | none=>rw[e1] at h;cases h
 | some items =>
 rw[e1] at h;simp only[`j] at h
 by_cases hsz:`xo
 rotate_left
 ·rw[`P hsz] at h;cases h
 rw[`H hsz] at h;cases e2:V1 f noT ge `hG `aK with
 | none=>rw[e2] at h;cases h
 | some out =>
 rw[e2,`cC,`j] at h;dsimp only at h;split at h
 rotate_left
 ·cases h
 rename_i hall;cases h;refine`arx;have a1:=`fU;have a7:H L=`b:=`kL hL;obtain⟨Bp,a5⟩:∃Bp:BS,`ary:=`aq
 have a0:`arz:=λa z=>by rw[a5] at z;exact z
 obtain⟨Bn,F⟩:∃Bn:BS,Bn=λa=>`gG∨a=L:=`aq
 have b4:Bn L:=by rw[F];exact `b1
 have gr:`arA:=λ{H2} s2 b o nb hb=>⟨(λz=>by
  rcases a0 b z with q|q
  ·exact nb q
  ·subst q;rw[hL] at hb;cases hb),s2 b o hb⟩
 refine⟨λi m ys H2=>m=`gE - i/\`Ur/\`arB/\`AH/\`Uy/\∃pre rest,`arC/\Rps K H2 Bn pre ys/\V1 f noT ge `hG (`pM i)=`a `a1,
  `arD,?_⟩
 rintro i m ys H2 ⟨rfl,b5,hD,s2,b6,pre,rest,ho,rp,ec⟩;have Y:`arE:=by
  refine⟨`Uv (gr s2) `arF (a1.comp n `cr).all,`fd,`Uu⟩;rcases a0 a z with q|q
  ·exact(a1.same s2).bad a q
  ·subst q;rw[hD];exact .of rfl `rT λ_ z=>nomatch z
 by_cases hlt:`xA
 ·refine `arG
  obtain⟨sm,dx,Z,rx⟩:=`arH;have b2:`arI:=rx Bp `arJ Y.bad;have b0:=Y.same sm;have s3:=`Mp;have O:=sm _ _ hD;have b1:=rp.same sm;have M:`arK:=by
   rw[`Us];congr 1;rw[`Ut] at Z;exact A2 Z
  rw[M] at ec;unfold V1 at ec;cases e3:`arL with
  | none=>rw[e3] at ec;cases ec
  | some δ' =>
  rw[e3] at ec;dsimp only at ec;refine⟨Bp,dx,`LY,δ',b2,b0,e3,fun σ4 w en4=>⟨`arM,Bp,δ',`c,en4,rfl,`Uz⟩⟩
  ·by_cases hj:j∈idx
   ·rw[i30 (`ka j hj)] at z;cases z
   ·rw[(w.oth j hj).1];exact z
  show `IU
  rw[`aB];rw[show noT δ'=`dv from rfl] at ec;dsimp only at ec;cases e5:`t' with
  | none=>rw[e5] at ec;cases ec
  | some yd =>
  rw[e5] at ec;dsimp only at ec;cases e6:V1 f noT ge `hG (`uj) with
  | none=>rw[e6] at ec;cases ec
  | some rest' =>
  rw[e6] at ec;have ec:=(A2 ec).symm;subst ec;have b3:ja0 yd=`c:=by
   rw[ho,List.all_append,`bs,`n?,`bs] at hall;exact hall.2.1
  refine⟨Bp,δ',yd,`arN,e5,λq H6 hq s6 r6=>?_⟩;have a3:`arO:=s6 _ _ (s5 _ _ O);have a4:q≠L:=λz=>by rw[z] at hq;rw[s5 _ _ O] at hq;cases hq
  have a2:H q=`b:=`kL (s3.free (s5.free hq));have g6:Gr H6 (upd H6 L (`o (ys++[`nE]))) Bn Bn:=λb o nb hb=>⟨nb,by
   rw[d8 (λz=>nb (by rw[z];exact b4))];exact hb⟩
  refine⟨a3,`p,`Gk,`p,rfl,hlt,j8,`arP,`mB,pre++[yd],rest',`arQ,?_,e6⟩
  ·have a8:b≠L:=λz=>by rw[z,hL] at hb;cases hb
   rw[d8 a8];exact s6 _ _ (s5 _ _ (s3 _ _ hb))
  ·by_cases z:b=L
   ·rw[z,j8] at hb;cases hb
   ·rw[d8 z] at hb
    exact s3.nf _ _ _ `arR
  ·refine(`m' ((b1.same s5).same s6) (Wf0 (H':=H6) b3 r6 (`dX) `Mt)).mono g6
   rw[F] at z;exact `gI (λz=>z.ne a2) a4
 ·have e:i=`gE:=`p
  subst e;refine `arS;rw[`Gl] at ec;have a6:`arT:=A2 ec;subst a6;rw[`fu] at ho;subst ho;refine k (`ab L) H2 `kM ?_;rw[X7];exact⟨L,ys,rfl,`k ⟨λz=>z.ne a7,`k hD⟩,rp.mono (`eI λa z=>by rw[F];exact `jf)⟩
section
variable{tg:`z}
theorem Z50{sc scope:`c!}{elt iter:`z}{N N':`u}{n:Nat}{caps:`e}{gi:`da}{idx:`e}{f:`aJ}{ge:`bA}
  (ok:`xK) (hidx:∀j∈idx,j<n) (hi:`lW)
  (hg:`om) (he:∀cl s H ex,PDF `mP elt ge)
  (hc:`bz:=by rfl) (hsc:`iw:=by rfl) (hN:X.N=N:=by rfl) (hs:`g6:=by intro _;rfl) :
  PDV X (`LN elt [⟨tg,`i_,[],0⟩] `cG pos) `aGT:=.mk λB δ =>
 (gr0 hc hsc `Gv `Gi (g:=`Gh) (tt:=fun σ H Q=>∃B δ,tDT X.K B δ noT σ H Q) (te:=fun σ H Q=>∃B δ,tDF X.K B δ ge σ H Q)
  `UB
  (λcl s H ex pins s' σ H Q I ⟨B,δ,h⟩=>zl0 B δ `i s' σ H Q I h)
  `UC hs).imp fun σ H Q h=>eu0 `ka h
universe zz
theorem Env.unset{σ:St}(e:`bc)(i:Nat)(o:`dh):Env K H B (`th i o) (`agQ):=by
 refine⟨`oh `pY i `fS,`hR,`MU⟩;rcases `iE with⟨_,z,_⟩|⟨n1,h1⟩
 ·cases z
 rcases `kd with⟨_,z,_⟩|⟨n2,h2⟩
 ·cases z
 rw[`op] at h3;rw[`xU] at h4;exact `F6
noncomputable def d10:`cD
 | `T8=>(match es.getLast? with
  | `aGU=>`G (ls.length<sizeLine)
  | _=>`q)
 | _=>`q
noncomputable def o30(i jk:Nat)(f:`J)(gA:GA)(g1 g2 g3:GB)(gK gz gR:GE):GS:=fun δ=>`g? λds=>if `Hm/\`xT then (f ds).bind λd =>
 (g1 `gV).bind λb1=>if b1=`c then `aGV else
 (g2 `gV).bind λb2=>if b2=`c then `aGV else
 (`Zi).bind λb3=>if b3=`c then
  (gK `gV).bind λkd=>if `aGW then (`aGX).bind λdz=>if `aGY then (gR (`Zj)).map .rt else `b else `b
 else `aGZ else `b
section
variable{t1 t2 t3 eK eb ez eR r1 r2 r5:`z}{gA:GA}{g1 g2 g3:GB}{gK gz gR gb:GE}{y z:Str}{py' pz q1 q2 q3 q4 q5 q6 q7 q8 kpos app cp xp:Pos}
theorem Yc0(i jk:Nat){k:Nat}{ps:`u}{f:`J}(nd:`eV)(hij:i≠jk)(C:`asr)(hr:`xJ)(hk:k<=m)(ha:`oj)(h1:PTD X t1 g1)(h2:PTD X t2 g2)(h3:PTD X t3 g3)(hK:PDV X eK gK)(hb:PD X eb gb)(hz:PD X ez gz)(hR:PD X eR gR)
  (hr1:PD X r1 `yP) (hr2:PD X r2 `yP) (hr5:PD X r5 `B5)
  (hi:`rL:=by rfl) (hy:`oc:=by first|exact `bE|exact `eF) (hvy:`aG_:=by first|exact `bE|exact `gh|exact `gi) (hdy:`T0:=by decide) (hcdy:`aG0:=by decide)
  (hfy:`od:=by first|exact `a3|exact `b1|assumption)
  (hjk:X.N[jk]?=`a z:=by rfl) (hzl:`ayp:=by first|exact `bE|exact `eF) (hfz:`ayq:=by first|exact `a3|exact `b1|assumption)
  (hg:`dU:=by rfl) (hdb:`bt:=by decide) (he:`dV:=by rfl) (hpl:`aog:=by rfl)
  (hsw:`mu `aG1 `LR apos.line `B=`iY:=by rfl) (hsk:`mu eK (`a (`aG2)) kpos.line `B=`iY:=by rfl)
  (hgb:∀δ,`eE=`a (`XD):=by intro _;rfl) (hix:t80 eb:=by exact `lU)
  (hbase:`mK `Pn `A2 `B (`aG3)=`aG3:=by rfl)
  (hfew:((`ey cp (`aG4)).all `AO&&(`acm cp `acn).all `aco
  &&`G (([ez]:`b2).length+`ur+`us<30))=`c:=by rfl)
  (hline:(app.endLine==cp.line)=`c:=by rfl) (hse:`aG4=(`q,`bZ ez `B)::`hK:=by rfl) (hplain:(`ey cp `AM).any `bv=`q:=by rfl)
  (hsx:`mu `aG5 `b xp.line `B=`iY:=by rfl) :
  `je X [`mx [`px] `aG1 `mL,.If t1 [`pd (`a r1) q1] [] q2,.If t2 [`pd (`a r2) q3] [] q4,
   .If t3 [`mx [`aG2] eK kpos,.Expr `aG5 xp,`pd (`a eR) q5] [] q6,`pd (`a r5) q7] (o30 i jk f gA g1 g2 g3 gK gz gR):=.mk λH₀ B₀ δ pins s σ H De I ⟨r,en,e1,kk⟩=>by
 obtain⟨B,b1,b2,env⟩:=`bW;obtain⟨fa,fd,F,hm,kp,d2⟩:=C;unfold o30 at e1;cases eA:`cg with
 | none=>rw[eA] at e1;cases e1
 | some ds =>
 rw[eA,`j] at e1;split at e1
 rotate_left
 ·cases e1
 rename_i htr;cases eF:f ds with
 | none=>rw[eF] at e1;cases e1
 | some d =>
 rw[eF,`j] at e1;obtain⟨δ1,eδ1⟩:∃δ1,δ1=`LX:=`aq;rw[← eδ1] at e1;have w90:∀{b:`V} {σ':St} {H':Hp} {δ':Ds} {Z:`ly},Z.rt=De.rt->r=.rt `pc->`aT->Env X.K H' B σ' δ'->Tb0 (Tz0 (tD X.K B δ' (gc `pc))) Xu0 Z σ' H':=λ{b σ' H' δ' Z} f5 e3 sh c5=>by
  refine⟨`ce,c5,rfl,λv b0 e2 b3=>?_⟩;show Z.rt v b0;rw[f5];rw[e3] at kk;exact kk v b0 ((`ut sh).trans e2) (by rw[W6] at b3 ⊢;exact b3)
 obtain⟨kd,f4⟩:∃kd:D,∀k',gK δ1=`a k'->kd=k':=by
  cases q:gK δ1 with
  | none=>exact⟨`w,λ_ z=>nomatch z⟩
  | some k'=>exact⟨k',λ_ z=>`aaU⟩
 obtain⟨δ5,eδ5⟩:∃δ5,δ5=δ1.set jk `Pm:=`aq;obtain⟨δ7,eδ7⟩:∃δ7,δ7=`Zj:=`aq;refine T6 (im0 nd hi hy (qy0 (E:=E0) F `Gu hg hm kp d2 `L kc0 `oK hdb he hpl) hsw hfy)
  (T6 (oq0 (h1.go B δ1) (T6 (v80 (hr1.go B δ1)) yw0) yw0)
  (T6 (oq0 (h2.go B δ1) (T6 (v80 (hr2.go B δ1)) yw0) yw0)
  (T6 (oq0 (h3.go B δ1) (T6 (im0 nd hjk hzl (hK.go B δ1) hsk hfz)
   (T6 (f60 (om0 Y3 A90 Aa0 uo0 (ed0 g00 (y70 (i:=i) hi hvy hdy hcdy) (hb.go B δ5) hix) (K5 (hz.go B δ5) xj0 hse) `j7 hfew `j8 hse `rG) hsx)
   (T6 (v80 (hR.go B δ7)) yw0))) yw0)
  (T6 (v80 (hr5.go B δ1)) yw0)))) `i s σ H De I ?_
 refine⟨ds,env,eA,λvs H1 s1 ra=>?_⟩;show spD X.K f `Ui H1 _ E0;rw[`fu];refine⟨λa=>B a∨isLs H1 a,ds,d,λa z=>`gI (`aG6 a) isLs.nb,pz0 (λa z=>z.imp id isLs.nt) _ _ htr.1 ra,eF,λv H2 s2 a7=>?_⟩;have Y:=`kE;have rv:Rp X.K H2 B d v:=a7.mono (`eI `Ux);have a0:Env X.K H2 B `pa δ1:=by rw[eδ1];exact(`mZ Y).set i rv
 cases eg1:g1 δ1 with
 | none=>rw[eg1] at e1;cases e1
 | some c1 =>
 rw[eg1,`j] at e1;refine⟨c1,a0,eg1,`av1⟩;have b6:=Y.trans s3;have O:=a0.same s3;cases c1 with
 | true =>
  rw[`aB] at e1;show `IU;rw[`aB];exact w90 rfl `IV b6 O
 | false =>
 rw[`cV] at e1;show `Zk;rw[`cV]
 cases eg2:g2 δ1 with
 | none=>rw[eg2] at e1;cases e1
 | some c2 =>
 rw[eg2,`j] at e1;refine⟨c2,O,eg2,λH4 s4=>?_⟩;have b4:=b6.trans s4;have M:=O.same s4;cases c2 with
 | true =>
  rw[`aB] at e1;show `IU;rw[`aB];exact w90 rfl `IV b4 M
 | false =>
 rw[`cV] at e1;show `Zk;rw[`cV]
 cases eg3:g3 δ1 with
 | none=>rw[eg3] at e1;cases e1
 | some c3 =>
 rw[eg3,`j] at e1;refine⟨c3,M,eg3,`Uz⟩;have a8:=b4.trans s5;have J:=M.same s5;cases c3 with
 | false =>
  rw[`cV] at e1;show `Zk;rw[`cV];exact w90 rfl `IV a8 J
 | true =>
 rw[`aB] at e1;show `IU;rw[`aB]
 cases eK':gK δ1 with
 | none=>rw[eK'] at e1;cases e1
 | some kd' =>
 have:=f4 _ eK';subst this;rw[eK',`j] at e1;split at e1
 rotate_left
 ·cases e1
 rename_i hlast;rw[← eδ5,← eδ7] at e1;cases ez':gz δ5 with
 | none=>rw[ez'] at e1;cases e1
 | some dz =>
 rw[ez',`j] at e1;split at e1
 rotate_left
 ·cases e1
 rename_i hfz';cases eR':gR δ7 with
 | none=>rw[eR'] at e1;cases e1
 | some dr =>
 rw[eR'] at e1;cases e1;refine⟨kd,J,eK',λv6 H6 s6 r6=>?_⟩;have f9:=a8.trans s6;have a1:Env X.K H6 B ((`abl).set jk `agS) δ5:=by rw[eδ5];exact(J.same s6).set jk (r6.mono (`eI λa z=>J.bad a z))
 unfold d10 at hlast;split at hlast
 rotate_left
 ·cases hlast
 rename_i ws;split at hlast
 rotate_left
 ·cases hlast
 rename_i ls hls;have a3:ws[`n9 - 1]?=`aGU:=by rw[← `auB];exact hls
 rw[W4] at a7;obtain⟨t,xs,rfl,e8,b5⟩:=a7;have f8:=b5.length;obtain⟨u,hu,ru⟩:=b5.get a3;rw[X7] at ru;obtain⟨l,zs,rfl,a4,f1⟩:=ru;obtain⟨hq,f6⟩:=isLs.new s2 a4 λw=>`h w
 have a6:H2 l=`a (`o zs):=hq.resolve_right `aG7
 have e4:H1 l=`b:=f6.resolve_right `aG7
 have f3:=(`aG8).trans s6;have hσi:`aG9[i]?=`a `agR:=by
  have c4:`aka:=by rw[env.len];exact htr.2
  rw[`gt (B4 hij),`zv c4]
 have f2:L2.atI xs (-1)=`a `pm:=by
  have f7:`n9 - 1<ws.length:=(`b5 a3).1;rw[jh0];unfold DL.atI ixN;rw[`Ib,`yx,`j,show (`Om+`S_).toNat=`n9 - 1 by omega];exact hu
 refine⟨`zR,hσi,`XD,a1,hgb _,λvb H7 s7 rb=>?_⟩;rw[n8] at rb;subst rb;have a5:=f3.trans s7;refine⟨t,xs,-1,`hD,rfl,rfl,`k (`k (a5 _ _ e8.2)),f2,`k ⟨rfl,zs,`k (`k (a5 _ _ a6))⟩,dz,a1.same s7,ez',λv8 H8 s8 r8=>?_⟩;have a2:=a5.trans s8;have e9:=a2 _ _ a6;refine⟨l,zs,v8,rfl,rfl,e9,by rw[f1.length];exact W1 hlast,?_⟩;have e7:`po:=`kL e4;have sH:`c0 H `aG':=⟨λb o w=>by
  rw[d8 (Y7 w e7)];exact a2 _ _ (Y _ _ w),λb o ys w=>by
  by_cases q:b=l
  ·rw[q,j8] at w;cases w
  ·rw[d8 q] at w
   exact(Y.trans a2).nf _ _ _ w⟩
 have c0:Env X.K `aG' B `aG9 δ7:=by
  rw[eδ7];refine((`mZ sH).unset i _).set jk ?_;refine((r6.same s7).same s8).mono λb o nb w=>⟨λq=>nb (J.bad b q),?_⟩
  rw[d8 (λq=>nb ?_)]
  ·exact w
  ·rw[q]
   exact .of ((`aG8) _ _ a6) `rT λ_ z=>nomatch z
 refine⟨dr,c0,eR',λf0 e5 d1 e6=>?_⟩;exact kk f0 e5 ((`ut sH).trans d1) (e6.mono (`eI b1))
universe zz
universe DL
namespace L2
open Spec PyProof.Rows
noncomputable def SubO.ho:`cN->HO
 | `cQ=>`cQ
 | `tS=>`tS
 | `mW=>`mW
theorem SubO.no_own(o:`cN)(x:`f):o.ho≠`hm x:=by cases o<;>exact λz=>nomatch z
theorem SubO.no_tup(o:`cN)(xs:`K):o.ho≠`d7:=by cases o<;>exact λz=>nomatch z
theorem SubO.no_frz(o:`cN)(ob:Obj)(u:HO):o.ho≠`KJ:=by cases o<;>exact λz=>nomatch z
theorem SubO.no_tbl(o:`cN)(ps:`bh):o.ho≠`KL:=by cases o<;>exact λz=>nomatch z
theorem yk0:∀{l:`lv} {k:`f} {v:`cN},l.lookup k=`aL->(k,v)∈l
 | [],_,_,h=>by cases h
 | (k',v')::l,k,v,h=>by
  rw[`gg] at h;cases q:k==k' with
  | true =>
   rw[q] at h;cases h;rw[eq_of_beq q];exact B0
  | false =>
   rw[q] at h;exact A8 _ (yk0 h)
noncomputable def opened(H:Hp)(sub:`lv):Hp:=λb=>match `kk with
 | `_=>`a o.ho
 | `b=>H b
noncomputable def closed(H:Hp)(a:`f)(sub:`lv):Hp:=λb=>if b=a then `yQ else match `kk with
 | `a _=>`mg
 | `b=>H b
section
variable{P:`ag}{w:`N}{h:`R}{sub:`lv}
theorem HOk.opened(x:`eU)(ha:H a=`yQ)(hin:`IW)(hdx:`aG!):HOk P w (L2.opened H sub) h:=λb u e=>by
 obtain⟨_,all⟩:(`Eh)/\∀p∈sub,`ajw:=x a _ ha;unfold L2.opened at e;cases l:`kk with
 | some o =>
  rw[l] at e;have e:=`fT;subst e;have m:=yk0 l;obtain⟨_,q⟩:=all _ m;cases o with
  | lst xs=>exact q
  | dK kvs=>exact q
  | ins C dx fs =>
   obtain⟨rfl,d,z,ne,e,r⟩:=q;refine⟨?_,z,ne,e,r⟩;unfold L2.opened;rw[hdx _ C dx fs m];exact d
 | none =>
  rw[l] at e;have F:`p0:=λz=>by rw[z] at l;rw[l] at hin;cases hin
  refine`Rl (`o?) (λc q=>?_) (λc xs q=>?_) λc ob u' q=>?_
  ·unfold L2.opened
   cases lc:`oL with
   | none=>exact q
   | some o =>
    rcases `Zl with z|z
    ·have z:c=a:=z
     rw[z,ha] at q;cases q
    ·have z:`Zm:=z
     rw[z] at q;cases q;exact `y rfl F
  ·unfold L2.opened
   cases lc:`oL with
   | none=>exact q
   | some o =>
    rcases `Zl with z|z
    ·have z:c=a:=z
     rw[z,ha] at q;cases q
    ·have z:`Zm:=z
     rw[z] at q;cases q
  ·unfold L2.opened
   cases lc:`oL with
   | none=>exact q
   | some o =>
    rcases `Zl with z|z
    ·have z:c=a:=z
     rw[z,ha] at q;cases q
    ·have z:`Zm:=z
     rw[z] at q;cases q
theorem SubO.there{b:`f}(o:`cN)(x:`cb P w H h b o.ho):∃ob,`mj=`El:=by
 cases o with
 | lst xs=>obtain⟨_,_,_,_,e⟩:=x;exact`lH
 | dK kvs=>obtain⟨_,_,_,_,_,_,_,e,_⟩:=x;exact`lH
 | ins C dx fs=>obtain⟨_,_,_,e,_⟩:=x;exact`lH
theorem HOk.closed(x:`eU)(ha:`IW)(hs:∀p∈sub,`aG?)(hi:∀p∈sub,`aHa):HOk P w (`CO H a sub) h:=λb u e=>by
 have F:∀{c:`f} {o:`cN},`oL=`_->H c=`a o.ho:=λl=>hs _ `Zn
 have own:∀c y,H c=`Rp->`Zo=`Rp:=λc y q=>by
  unfold L2.closed;have hc:c≠a:=λz=>by
   cases l:`vO with
   | none=>rw[l] at ha;cases ha
   | some o=>rw[z,F l] at q;exact `aHb o y `sM
  rw[`lM];cases l:`oL with
  | none=>exact q
  | some o=>rw[F l] at q;exact `y `sM (`aHb o y)
 have tup:∀c xs,H c=`iR->`Zo=`iR:=λc xs q=>by
  unfold L2.closed;have hc:c≠a:=λz=>by
   cases l:`vO with
   | none=>rw[l] at ha;cases ha
   | some o=>rw[z,F l] at q;exact `aHc o xs `sM
  rw[`lM];cases l:`oL with
  | none=>exact q
  | some o=>rw[F l] at q;exact `y `sM (`aHc o xs)
 have frz:∀c ob u',H c=`Rr->`Zo=`Rr:=λc ob u' q=>by
  unfold L2.closed;have hc:c≠a:=λz=>by
   cases l:`vO with
   | none=>rw[l] at ha;cases ha
   | some o=>rw[z,F l] at q;exact `aHd o ob u' `sM
  rw[`lM];cases l:`oL with
  | none=>exact q
  | some o=>rw[F l] at q;exact `y `sM (`aHd o ob u')
 by_cases hb:b=a
 ·subst hb
  have e:`CO H b sub b=`a2:=e;unfold L2.closed at e;rw[`aB] at e;have e:=`fT;subst e;refine⟨?_,λp hp=>`FK⟩
  ·cases l:`kk with
   | none=>rw[l] at ha;cases ha
   | some o=>exact `aHe
  ·by_cases z:p.1=b
   ·exact `jf
   ·refine `h ?_
    unfold L2.closed;rw[`P z];cases l:`vN p.1 with
    | none =>
     exact `y l (by
      intro l;rw[List.lookup_eq_none_iff] at l;have:=l p hp;simp at this)
    | some o=>rfl
  ·have q:=x p.1 _ (hs p hp)
   obtain⟨pa,po⟩:=p;cases po with
   | lst xs=>exact q
   | dK kvs=>exact q
   | ins C dx fs =>
    have J:pa=b:=hi _ hp C dx fs rfl;subst J;obtain⟨d,z,ne,e,r⟩:=q;exact⟨rfl,own _ _ d,z,ne,e,r⟩
 ·have e:`aHf=`a2:=e
  unfold L2.closed at e;rw[`lJ] at e;cases l:`kk with
  | some o =>
   rw[l] at e;have e:=`fT;subst e;exact `aHe
  | none =>
   rw[l] at e;exact`Rl (`o?) (λc q=>own c b q) (λc xs q=>tup c xs q) λc ob u' q=>frz c ob u' q
universe zz
section
variable{σ:St}{s:`r}
theorem Inv.view(I:`C)(no:∀b,`aj_)(tp:`rh)(fz:`Rs)(tb:∀b ps,H b=`KM->`gp=`KM)
  (hok:HOk `a9 X.w H' `aa):Inv X `i σ H' s :=
 ⟨I.ok,`lw,`g5,⟨`KQ,`KR,λb o e n hx=>no b `Ev,`abh,λb xs e=>tp b xs (`KW b xs e),λb o u e=>fz b o u (`KX b o u e),λb ps e=>let ⟨m,q⟩:=`aj2;⟨m,tb _ _ q⟩⟩,
  `e4,`iW,no _ `f?,λx c e=>no _ `Es,λp hp=>let ⟨e,n,r⟩:=`wJ;⟨e,no _ n,r⟩,hok,`e5⟩
universe zz
structure OpenOk(H:Hp)(a:`f)(sub:`lv):Prop where
 at':H a=`yQ
 root:`IW
 dx:`aG!
structure CloseOk(H:Hp)(a:`f)(sub:`lv):Prop where
 root:`IW
 at':∀p∈sub,`aG?
 ins:∀p∈sub,`aHa
section
variable{σ:St}{s:`r}{sub:`lv}
theorem Inv.opened(I:`C)(o:`IX H a sub):Inv X `i σ (`nG H sub) s:=by
 obtain⟨_,all⟩:(∃o,`RM)/\∀p∈sub,`aa5/\`zn `a9 X.w H `aa a p.1 p.2:=`cc a _ o.at';have no:∀{b:`f} {so:`cN},`kk=`CR->H b=`yQ∨`zo:=λ{b so} l=>by
  rcases (all _ `Zn).1 with z|z
  ·have z:b=a:=z
   rw[z];exact `k o.at'
  ·exact `h z
 have F:∀b u,H b=u->u≠`yQ->u≠`mg->L2.opened H sub b=u:=λb u q n1 n2=>by
  unfold L2.opened;cases l:`kk with
  | none=>exact q
  | some so =>
   rcases no l with z|z
   ·exact `y (`Bo z) n1
   ·exact `y (`Bo z) n2
 exact I.view (λb q=>`IY) (λb xs q=>`IY) (λb o u q=>`IY) (λb ps q=>`IY) (I.hok.opened o.at' o.root o.dx)
theorem Inv.closed(I:`C)(c:`aHg):Inv X `i σ (`l7 H a sub) s:=by
 have F:∀b u,H b=u->(∀so:`cN,u≠`Zp)->`aHf=u:=λb u q n=>by
  have nl:∀so,`kk≠`CR:=λso l=>n so (`Bo (c.at' _ `Zn))
  unfold L2.closed;have hb:`p0:=λz=>by
   cases l:`vO with
   | none=>have:=c.root;rw[l] at this;cases `x
   | some so=>exact nl so (z▸l)
  rw[`lJ];cases l:`kk with
  | none=>exact q
  | some so=>exact `y l (nl so)
 exact I.view (λb q=>F b _ q λso z=>nomatch z) (λb xs q=>F b _ q λso z=>so.no_tup xs `Zq) (λb o u q=>F b _ q λso z=>so.no_frz o u `Zq) (λb ps q=>F b _ q λso z=>so.no_tbl ps `Zq) (I.hok.closed c.root c.at' c.ins)
universe zz
section
variable{st:`er}{t:TS}
theorem kx0(h:`gb):PE X e (fun σ H Q=>∃a sub,`aHg/\te σ (`l7 H a sub) λv H'=>∃sub',`IX H' a sub'/\Q v (`nG H' sub')):=λpins s σ H Q I ⟨a,sub,c,q⟩ =>
 thn (h `i s σ _ _ (I.closed c) q) λu s' ⟨v,H',I',r,sub',o,k⟩=>`aHh
universe zz
universe L2
namespace DL
open Spec PyProof.Rows L2
noncomputable def O5(p:`f)(b:D):D:=`m [`d (p:Int),b]
theorem q00{p:`f}{b:D}:RpL K H B (O5 p b) a↔a=p/\RpG K H B b a:=by
 constructor
 ·rintro (⟨d',e,h⟩|⟨ks,vs,e,_⟩|⟨x,ns,e,_⟩)
  ·cases e
   exact⟨rfl,h⟩
  ·cases e
  ·cases e
 ·rintro⟨rfl,h⟩
  exact `k ⟨b,rfl,h⟩
theorem RpG.less{d:D}(l:`rP)(h:`lT):RpG K H B' d a:=RpG.mono (λ_ e=>e) (`eI l) h
inductive ResB where
 | nx (δ:Ds)|rt (d:D) (δ:Ds)
abbrev GSB:=Ds->`Zr
noncomputable def Rv0(K:`D)(H₀:Hp)(B₀:BS)(D:`ly):ResB->Prop
 | `LW=>`aq2
 | .rt d δ=>∀v σ H,`GR->D.rt v H
noncomputable def tDB(K:`D)(H₀:Hp)(B₀:BS)(δ:Ds)(G:GSB):TS:=λD σ H=>∃r,`c2/\`aq3/\Rv0 K `aw `ak D r
structure PSB(X:Cx)(st:`fI)(G:GSB):Prop where
 mk::go:∀H₀ B₀ δ,PS X st `aHi
structure PSsB(X:Cx)(st:`er)(G:GSB):Prop where
 mk::go:∀H₀ B₀ δ,PSs X st `aHi
noncomputable def uk0(G:GS):GSB:=fun δ=>match G δ with
 | `a?=>`a?
 | _=>`b
noncomputable def nilB:GSB:=`apG
noncomputable def zp0(G1 G2:GSB):GSB:=fun δ=>match `kz with
 | `a?=>`xm
 | r=>r
noncomputable def w90(gx:GX):GSB:=fun δ=>`asv λr=>.rt r.1 r.2
noncomputable def ifB(gt:GB)(Ga Gb:GSB):GSB:=`apH
section
variable{c:`z}{as bs rest:`er}{G1 G2 Ga Gb:GSB}{gt:GB}
theorem h50(h:`Ul):PSB X st (uk0 G):=.mk λH₀ B₀ δ pins s σ H D I ⟨r,en,e,k⟩=>by
 unfold uk0 at e;split at e
 ·rename_i δ' e1
  cases e;exact h.go `aw `ak δ `i s σ H D I `Mk
 ·cases e
theorem xx0:PSsB X [] `hh:=.mk λH₀ B₀ δ pins s σ H D I ⟨r,en,e,k⟩=>by
 cases e;exact `aq9
theorem J8(h1:PSB X st G1)(h2:PSsB X `a1 G2):PSsB X (st::`a1) (zp0 G1 G2):=.mk λH₀ B₀ δ pins s σ H D I ⟨r,en,e,k⟩=>by
 unfold zp0 at e;cases e1:`kz with
 | none=>rw[e1] at e;cases e
 | some r1 =>
  rw[e1] at e;cases r1 with
  | nx δ'=>exact T6 `aHj (h2.go `aw `ak δ') `i s σ H D I `aq'
  | rt d δ'=>cases e;exact T6 `aHj vd0 `i s σ H D I `Mk
theorem qz0(h:`xV):PSB X `rn (w90 gx):=.mk λH₀ B₀ δ pins s σ H D I ⟨r,en,e1,k⟩=>by
 unfold w90 at e1;cases e2:`hL with
 | none=>rw[e2] at e1;cases e1
 | some q =>
  rw[e2] at e1;cases e1;exact v80 (h.go `aw `ak δ) `i s σ H D I ⟨q,en,e2,λv H' ev=>k v σ H' ev⟩
theorem ko0(hc:`Gf)(ha:PSsB X as Ga)(hb:PSsB X bs Gb):PSB X `arc (ifB gt Ga Gb):=.mk λH₀ B₀ δ pins s σ H D I ⟨r,en,e1,k⟩=>by
 unfold ifB at e1;obtain⟨B,b1,b2,env⟩:=`bW;cases e2:`i? with
 | none=>rw[e2] at e1;cases e1
 | some t =>
  rw[e2] at e1;refine oq0 (hc B δ) (ha.go `aw `ak δ) (hb.go `aw `ak δ) `i s σ H D I `ard;cases t with
  | true=>exact`Gg
  | false=>exact`Gg
universe zz
noncomputable def spB(K:`D)(j:Nat)(f:`sN):Sp:=λvs H Q _=>∃(B:BS) (ds:`n) (us:`K) (p:`f) (b b' r:D),`xv/\B p/\vs=`aHk/\`yR/\Rps K H B ds us/\RpG K H B b p/\`aHl /\
 ∀v H',`Hr->RpG K H' B b' p->Rp K H' B r v->`mp
structure FnB(P:`ag)(w:`N)(K:`D)(mg:`bX)(base:`R)(x:Str)(k:Nat)(ps:`u)(j:Nat)(f:`sN):Prop where
 ex:∃fa fd,`af P w K mg `t CX0 k fa fd ps `aHm/\`UH
@[simp] noncomputable def yc0(N:`u)(j:Nat)(p:`f)(b:D)(ds:`n):Ds:=`aHn .sh++`Zs::(`aHo .sh++`a! (`w9 - (`CQ)) .un)
theorem q50{p:`f}{b:D}{d:D}(hj:`yR)(h:`vP[i]?=`pX):i=j/\d=O5 p b:=by
 unfold yc0 at h;have hl:(`aHn Sl.sh).length=j:=`aF1
 have F:∀(l:`n) (i:Nat),(`dJ Sl.sh)[i]?≠`pX:=λl i z=>by
  rw[`a_] at z;cases q:`Az with
  | none=>rw[q] at z;cases z
  | some x=>rw[q] at z;cases z
 by_cases hi:i<j
 ·rw[`eB (by rw[hl];exact hi)] at h
  exact `aHp
 ·rw[`i5 `azR,hl] at h
  cases q:i - j with
  | zero=>rw[q] at h;cases h;exact⟨`p,rfl⟩
  | succ n =>
   rw[q,`YE] at h
   by_cases hn:n<(`aHo Sl.sh).length
   ·rw[`eB hn] at h
    exact `aHp
   ·rw[`i5 `g,`rx] at h
    split at h<;>cases h
noncomputable def EndB(G:GSB)(δ:Ds)(j:Nat)(p:`f)(r b':D):Prop:=(∃δ',G δ=`a (.rt r δ')/\`aHq)∨(r=`w/\∃δ',`aHr/\`aHq)
section
variable{P:`ag}{w:`N}
theorem okB{ps:`u}{k j:Nat}{f:`sN}{G:GSB}(F:`UD)(S:`FD)
  (body:∀(cdv:`A) (A:`bf) (outer:`adc) (s:`r) (H:Hp) (E:XK),`add->PSsB `ade `tY G)
  (hf:∀b ds r b',`aHl->`CQ=`am/\`Zt) :
  `af P w K mg `t CX0 `bS fa fd ps `aHm:=by
 refine F.ok S (λvs H Q E ⟨B,ds,us,p,b,b',r,_,_,hv,_,hr,_,h,_⟩=>?_) (λcdv A outer s H vs Q E hr ⟨B,ds,us,p,b,b',r,hb,hp,hv,hj,rs,ro,h,q⟩=>?_)
 ·rw[hv,`ai,`bo,`b9,`fC,hr.length]
  have:=(`aHs).1;omega
 ·subst hv
  refine⟨_,(`gy cdv A `cF s H E hr).go `IZ `aHt `vP,?_⟩;have sm:`c0 `IZ H:=⟨λb o e=>by
   by_cases z:b=p
   ·simp only[z,`es] at e;cases e
   ·simp only[z,`cA] at e;exact e,λb o xs e=>by
   by_cases z:b=p
   ·exfalso
    rw[z] at e;exact `adB o xs e
   ·simp only[z,`cA];exact e⟩
  have sb:∀{H':Hp},`c0 `IZ H'->`Hr:=λs'=>⟨λb o z e=>s' b o (by simp only[z,`cA];exact e),λb o xs z e=>by have:=s'.nf b o xs e;simpa only [z,`cA] using `x⟩
  have O:(`CP j).length=j:=by rw[`b9,`uh];omega
  have en:`dq K `IZ `aHt H (`Ms N (`aHk)) `vP:=by
   refine⟨sm,⟨B,λ_ z=>z.1,`fd,⟨?_,hb,λi j a Y es h1 h2 _ _=>?_⟩⟩,λi Y a h1 h2=>?_,`fd⟩
   ·by_cases q:a=p
    ·exact `h (by simp only[q,`es])
    ·exact `Vj
   ·unfold L2.start yc0
    rw[`aW,`Z,`eP,`c?,`ai,`bo,`b9,`fC,`uh];refine `pO (vh0 (N:=N) (rs.take j)) (`ah ⟨p,rfl,hp,q00.mpr ⟨rfl,ro⟩⟩ (`pO (vh0 (N:=N) (rs.drop j)) ?_));rw[show min j `bN+(`bN - j+1)=`CQ by omega];exact qb0 _
   ·rw[(q50 hj h1).1,(q50 hj h2).1]
   ·obtain⟨rfl,_⟩:=q50 hj h1
    have:(`Ms N (`CP i++`e9::`Po i))[i]?=`a `MS:=by
     unfold L2.start;rw[`aW,`eP,`i5 `fl,`M,O,`nP];rfl
    rw[`x] at h2;cases h2;simp only[`es]
   ·simp only[z.2,`cA]
    exact hb a z.1
  rcases (`aHs).2 p with⟨δ',e,e'⟩|⟨rn,δ',e,e'⟩
  ·refine⟨_,en,e,λv σ' H' ev=>?_⟩
   obtain⟨B',c1,c2,J,rv⟩:=ev.ex;obtain⟨a,h1,hB,rl⟩:=J.at e';obtain⟨rfl,M⟩:=q00.mp rl;have less:`aHu:=λx z=>by
    by_cases q:x=a
    ·rw[q];exact hB
    ·exact `aHv
   exact q v H' (sb ev.same) (M.less less) (rv.mono (`eI less))
  ·refine⟨_,en,e,fun σ' H' en'=>?_⟩
   obtain⟨B',c1,c2,J⟩:=en'.ex;obtain⟨a,h1,hB,rl⟩:=J.at e';obtain⟨rfl,M⟩:=q00.mp rl;have less:`aHu:=λx z=>by
    by_cases q:x=a
    ·rw[q];exact hB
    ·exact `aHv
   exact q `w H' (sb en'.same) (M.less less) (by rw[rn,U8])
universe zz
noncomputable def mkB(n:Nat)(N:`u)(j:Nat)(G:GSB)(b:D)(ds:`n):`aD (`aN):=by
 classical exact if h:`I_/\`aHw then `a (Classical.choose h.2) else none
theorem bc0{G:GSB}{b:D}{r:D}(h:`Zu=`Pp):`I_/\`Zt:=by
 unfold mkB at h;split at h
 ·rename_i hh
  have e:=`kO;have:=D50 hh.2;rw[e] at this;exact⟨hh.1,`x⟩
 ·cases h
theorem EndB.one{G:GSB}{p:`f}{r b r':D}(h:EndB G δ j p r b)(h':EndB G δ j p r' b'):r=r'/\b=b':=by
 have lb:∀{δ1:Ds},δ1[j]?=`a (`Zs)->δ1[j]?=`agT->b=b':=λe1 e2=>by
  rw[e1] at e2;have e8:=A2 e2;injection e8 with e9
  unfold O5 at e9;injection e9 with e10
  exact(`aHx (`aHx e10).2).1
 rcases h with⟨δ1,e1,e2⟩|⟨rn,δ1,e1,e2⟩<;>rcases h' with⟨δ2,e3,e4⟩|⟨F,δ2,e3,e4⟩<;>rw[e1] at e3
 ·have e5:=A2 e3
  injection e5 with e6 e7
  subst e7;exact⟨e6,lb e2 e4⟩
 ·cases e3
 ·cases e3
 ·have e5:=A2 e3
  injection e5 with e7
  subst e7;exact⟨rn.trans F.symm,lb e2 e4⟩
theorem ot0{G:GSB}{b:D}{r:D}(hl:`I_)(h:`Zt):`Zu=`Pp:=by
 have hh:`I_/\`aHw:=⟨hl,(r,b'),h⟩;unfold mkB;rw[dif_pos hh];obtain⟨e1,e2⟩:=(D50 hh.2 0).one (h 0);exact C5 `a (N4 e1 e2)
noncomputable def rm0:`FN->`aD (D×(D->D))
 | `a (.ow (`aHy))=>`a (`aHy,`I0)
 | `a (.ow `ql)=>`a (`hY,`I0)
 | `a (.ow (`Zv))=>`a (`Zv,`I0)
 | `a (.ow (`m [`HP,b]))=>`a (b,λd=>`m [`HP,d])
 | _=>`b
theorem nn0{s:`FN}{bm:D×(D->D)}(h:rm0 s=`a bm):∃d0,s=`adA/\∀(K:`D) (H:Hp) (B:BS) (a:`f),RpL K H B d0 a->RpG K H B bm.1 a/\∀(H':Hp) (B':BS) (b':D),RpG K H' B' b' a->RpL K H' B' (bm.2 b') a:=by
 unfold rm0 at h;split at h
 ·cases h
  exact`aHz
 ·cases h
  exact`aHz
 ·rename_i x ns
  cases h;refine⟨_,rfl,λK H B a r=>⟨?_,`agU⟩⟩;rcases r with⟨d',e,h⟩|⟨ks,vs,e,_⟩|h
  ·cases e
  ·cases e
  ·exact h
 ·rename_i p b
  cases h;refine⟨_,rfl,λK H B a r=>?_⟩;rcases r with⟨d',e,h⟩|⟨ks,vs,e,_⟩|⟨x,ns,e,_⟩
  ·cases e
   exact⟨h,λH' B' b' r'=>`k ⟨b',rfl,r'⟩⟩
  ·cases e
  ·cases e
 ·cases h
noncomputable def p20(i:Nat)(gA:GA)(f:`sN):GX:=fun δ=>`aHA λb=>`g? λds=>(f b.1 ds).map λr=>(r.1,`bw i (.ow (b.2 r.2)))
structure PAB(X:Cx)(i j:Nat)(es:`b2)(gA:GA):Prop where
 mk::go:∀B δ,PA X es (fun σ H Q=>∃ds a,`adk/\`lQ/\`hJ/\∀vs H',`aT->Rps X.K H' B ds vs->`yR->Q `aHB H')
section
variable{g:GE}{gA:GA}{y:Str}
theorem pab(i:Nat)(ha:`xy)(hN:`rL:=by rfl)(hv:`aG_:=by first|exact `bE|exact `gh|exact `gi)(hd:`T0:=by decide)(hcd:`aG0:=by decide)
  (hs:`di (`Zw::es) `B=(`q,`bZ (`Zw) `B)::`tk:=by rfl):PAB X i 0 (`Zw::es) gA:=.mk λB δ=>(K5 `kN `bV hs).imp fun σ H Q ⟨ds,a,en,h,hi,k⟩=>by
 exact⟨_,hi,ds,en,h,λvs H' s r=>k vs H' s r `FG⟩
theorem jj0(ha:`bU)(hr:PAB X i j es gA)(hs:`dV:=by rfl):PAB X i `gW `e8 (z9 g gA) :=
 .mk λB δ=>(K5 `bV (hr.go B δ) hs).imp fun σ H Q ⟨ds,a,en,h,hi,k⟩=>by
  unfold z9 at h;cases e1:`ay with
  | none=>rw[e1] at h;cases h
  | some d =>
   cases e2:`cg with
   | none=>rw[e1,e2] at h;cases h
   | some es' =>
    rw[e1,e2] at h;cases h;refine⟨d,en,e1,λv H1 s1 r1=>⟨es',a,`fU,rfl,hi,λvs H2 s2 r2 hj=>?_⟩⟩;have:=k (`r4) H2 `kM (by rw[o9];exact`aqW) (Bk0 hj);exact `x
theorem Z60(i:Nat){k:Nat}{ps:`u}{f:`sN}(C:FnB `a9 X.w X.K `cW `e3 x k ps j f)(hj:∀b ds q,f b ds=`eH->`yR)(hr:`xJ)(hk:k<=m)(ha:PAB X i j `e8 gA)
  (hg:`dU:=by rfl) (hdb:`bt:=by decide) (he:`dV:=by rfl) (hpl:`ir:=by rfl) :
  PX X `tB (p20 i gA f):=.mk λH₀ B₀ δ pins s σ H Q I ⟨r,en,e1,kk⟩=>by
 unfold p20 at e1;obtain⟨B,b1,b2,env⟩:=`bW;obtain⟨fa,fd,F,hm,Z,hb⟩:=C.ex;cases eb:`vQ with
 | none=>rw[eb] at e1;cases e1
 | some bm =>
 rw[eb,`j] at e1;obtain⟨d0,hi,Y⟩:=nn0 eb;cases e2:`cg with
 | none=>rw[e2] at e1;cases e1
 | some ds =>
 rw[e2,`j] at e1;cases e3:f bm.1 ds with
 | none=>rw[e3] at e1;cases e1
 | some q =>
 rw[e3] at e1;cases e1;obtain⟨a,M,hB,ro⟩:=`l1;obtain⟨h1,h2⟩:=Y _ _ _ _ ro;refine(qy0 (E:=E0) F `Gu hg hm Z hb `L kc0 `oK hdb he hpl) `i s σ H Q I ⟨ds,a,env,e2,M,λvs H1 s1 r1 _=>?_⟩;show spB X.K j f (`aHB++[]) H1 _ _;rw[`fu];refine⟨B,ds,vs,a,bm.1,q.2,q.1,`aG6,hB,rfl,hj _ _ _ e3,r1,h1.same s1,e3,λv H' hh a0 rv=>?_⟩;have O:`Wx:=⟨λb o n e=>hh b o n (s1 b o e),λb o xs n e=>s1.nf b o xs (hh.nf b o xs n e)⟩;have J:Env X.K H' B σ (`bw i (.ow (bm.2 q.2))):=env.mutB hi M O (h2 H' B q.2 a0);exact kk v H' (`l0 (en.mutB b1 b2 hi M O J) b1 b2 J rv)
universe zz
theorem Tp0{G:GSB}{b:D}{q:`aN}(hn:j+1<=n)(h:`Zu=`eH):`yR:=by
 have:=(bc0 (r:=q.1) (b':=q.2) h).1;omega
universe DL
namespace L2
open Spec PyProof.Rows
section
variable{t:TS}
theorem ut0(h:`gb):PE X e (fun σ H Q=>te σ H λv H'=>∃a sub,`IX H' a sub/\Q v (`nG H' sub)):=λpins s σ H Q I q =>
 thn `aHC λu s' ⟨v,H',I',r,a,sub,o,k⟩=>`aHh
theorem vs0(h:`gb):PE X e (fun σ H Q=>te σ H λv H'=>∃a sub,`nF H' a sub/\Q v (`l7 H' a sub)):=λpins s σ H Q I q =>
 thn `aHC λu s' ⟨v,H',I',r,a,sub,o,k⟩=>⟨v,_,I'.closed o,r,k⟩
universe zz
universe L2
namespace DL
open Spec PyProof.Rows L2
noncomputable def zw0(k:Nat):D:=`m `aHD
theorem od0(k:Nat):yx0 `aHD=`ec:=by
 show (if ("@" : Str) = "@" then `a (k:Int).toNat else `b)=_;rw[`aB];rfl
mutual
noncomputable def nrf:`cD
 | `bO=>(`ja).isNone&&`I1
 | _=>`c
noncomputable def qj0:`Gy
 | []=>`c
 | `av=>nrf d&&`I1
end
section
theorem s90:`mU K H B as [] xs=(`n0):=by unfold RpNs;rfl
theorem ul0{d:D}:`mU K H B as `FS xs=`aqm:=by conv=>lhs;unfold RpNs
theorem wu0{v:V}:RpN K H B as `t9 v=(`aql):=by conv=>lhs;unfold RpN
theorem ws0:∀{ds:`n} {xs:`K},`gF↔`bp (RpN K H B as) ds xs
 | [],xs=>by
  rw[s90];constructor
  ·rintro rfl;exact `L
  ·intro h;cases h;rfl
 | `av,xs=>by
  rw[ul0];constructor
  ·rintro⟨x,r,rfl,h1,h2⟩;exact `ah h1 (ws0.mp h2)
  ·intro h;cases h with
   | cons h1 h2=>exact⟨_,_,rfl,h1,`Zx h2⟩
mutual
theorem i20:∀{d:D} {v:V},`Zy->`lS->`cp
 | `w,_,_,h=>`I2
 | `bD,_,_,h=>`I2
 | `b!,_,_,h=>`I2
 | `bj,_,_,h=>`I2
 | `bO,_,n,h=>by
  unfold nrf at n;rw[`bs] at n;rw[wu0] at h;rw[W4];rcases h with⟨k,a,e,_⟩|⟨_,a,xs,e,q,r⟩
  ·rw[e] at n;cases n.1
  ·exact⟨a,xs,e,q,jz0 n.2 r⟩
 | `ct,_,_,h=>`Zz
 | `j',_,_,h=>`Zz
 | `rQ,_,_,h=>`Zz
theorem jz0:∀{ds:`n} {xs:`K},`I1=`c->`gF->`a4
 | [],_,_,h=>by rw[s90] at h;rw[m9];exact h
 | `av,_,n,h=>by
  unfold qj0 at n;rw[`bs] at n;rw[ul0] at h;obtain⟨x,r,e,h1,h2⟩:=h;rw[o9];exact⟨x,r,e,i20 n.1 h1,jz0 n.2 h2⟩
end
mutual
theorem an0:∀{d:D} {v:V},`Zy->`cp->`lS
 | `w,_,_,h=>`I3
 | `bD,_,_,h=>`I3
 | `b!,_,_,h=>`I3
 | `bj,_,_,h=>`I3
 | `bO,_,n,h=>by
  unfold nrf at n;rw[`bs] at n;rw[W4] at h;rw[wu0];obtain⟨a,xs,e,q,r⟩:=h;refine `h ⟨?_,a,xs,e,q,sf0 n.2 r⟩;cases z:`ja with
  | none=>rfl
  | some k=>rw[z] at n;cases n.1
 | `ct,_,_,h=>`ZA
 | `j',_,_,h=>`ZA
 | `rQ,_,_,h=>`ZA
theorem sf0:∀{ds:`n} {xs:`K},`I1=`c->`a4->`gF
 | [],_,_,h=>by rw[m9] at h;rw[s90];exact h
 | `av,_,n,h=>by
  unfold qj0 at n;rw[`bs] at n;rw[o9] at h;obtain⟨x,r,e,h1,h2⟩:=h;rw[ul0];exact⟨x,r,e,an0 n.1 h1,sf0 n.2 h2⟩
end
theorem RpN.same{d:D}{v:V}(s:`aT)(h:`lS):`aHE:=RpN.mono `pG (`L8) h
theorem RpNs.same(s:`aT)(h:`gF):`mU K H' B as ds xs:=`T3 `pG (`L8) h
theorem RpNs.atI{i:Int}{d:D}(r:`gF)(h:DL.atI ds i=`ar):∃v,`UG=`aL/\`lS:=by
 have p:=ws0.mp r;rw[jh0];unfold DL.atI at h ⊢;rw[← Pd.len p];cases e:ixN `bN i with
 | none=>rw[e] at h;cases h
 | some j =>
  rw[e,`j] at h;rw[`j];exact `GJ p h
universe zz
theorem tg0:∀{as:`b6} {sos:`rS} {k:Nat} {c:`f} {so:`cN},`xr->`l8->`oM->`aHF
 | [],_,_,_,_,_,h,_=>`dW
 | `cB,[],_,_,_,_,_,h=>`dW
 | x::as,y::sos,0,c,so,_,h1,h2=>by
  simp at h1 h2;subst h1 h2;rw[`et,`gg,`avT]
 | x::as,y::sos,k+1,c,so,nd,h1,h2=>by
  rw[`l5] at nd;have h1':`l8:=`kn
  have F:`aHG:=`pU λz=>nd.1 (z▸A4 h1')
  rw[`et,`gg,F];exact tg0 nd.2 h1' `q?
theorem ub0:∀{as:`b6} {sos:`rS} {c:`f},c∉as->(`fQ).lookup c=`b
 | [],_,_,_=>`aS
 | `cB,[],_,_=>`aS
 | x::as,y::sos,c,h=>by
  rw[`aX] at h;have hne:`aHG:=`pU `aHH
  rw[`et,`gg,hne];exact ub0 `aHI
theorem nu0(hl:`F1){c:`f}(h:c∈as)(nd:`xr):∃so,`aHF:=by
 obtain⟨k,hk,e⟩:=`du h;exact⟨sos[k],tg0 nd (by rw[`c3 hk,e]) (B6 `g)⟩
theorem RpW.in0(h:`iy):a∈as:=A4 h.hd
theorem RpW.openOk(h:`iy):`IX H a `hH:=by
 refine⟨`xs,?_,λb C dx fs hm=>ub0 ?_⟩
 ·obtain⟨so,e⟩:=nu0 `dt h.in0 `d0
  rw[e];rfl
 ·obtain⟨k,hk,e⟩:=`du hm
  rw[`sL] at e;have F:`aHJ:=by rw[`dM] at hk;omega
  have e2:`acZ:=by rw[`sI];exact C5 `a (Prod.mk.inj e).2
  obtain⟨n,_,hn⟩:=`ud h.all e2;unfold NodeOk at hn;split at hn
  ·obtain⟨xs,z,_⟩:=hn;cases z
  ·obtain⟨xs,z,_⟩:=hn;cases z
  ·obtain⟨C',M,J,xs,z,_,_,_,q,_⟩:=hn
   injection z with z1 z2 z3
   rw[z2];exact q
  ·exact hn.elim
theorem RpW.opAt(h:`iy){k:Nat}{c:`f}(h1:`l8)(h2:`oM):`nG H `hH c=`Zp:=by
 unfold opened;rw[tg0 `d0 h1 h2]
theorem g70{b:`f}(h:b∉as):`nG H `hH b=H b:=by
 unfold opened;rw[ub0 h]
theorem mw0{Ho:Hp}(off:∀b,b∉as->Ho b=H b)(own:∀b∈as,`KH)(hl:`F1)(nd:`xr)(ha:a∈as):`l7 Ho a `hH=upd H a `aqs:=by
 funext b
 unfold closed upd
 by_cases hb:b=a
 ·rw[`xg,`xg]
 ·rw[`lJ,`lJ]
  by_cases hm:b∈as
  ·obtain⟨so,e⟩:=nu0 hl hm nd
   rw[e];rcases own b hm with z|z
   ·exact `y z hb
   ·exact `hF
  ·rw[ub0 hm]
   exact off b hm
theorem nj0{Ho:Hp}(hd:`aqr)(nd:`xr)(hl:`F1)(at':∀(k:Nat) c so,`l8->`oM->Ho c=`Zp)(ins:`T7):`nF Ho a `hH:=by
 have ge:∀p∈`fQ,∃k,`Ax=`a p.1/\`L9=`zq:=λp hp=>by
  obtain⟨k,hk,e⟩:=`du hp;have F:=hk;rw[`dM] at F;rw[`sL] at e;exact⟨k,`aHK,`aHK⟩
 refine⟨?_,`lx,λp hp C dx fs e=>?_⟩
 ·obtain⟨so,e⟩:=nu0 hl (A4 hd) nd
  rw[e];rfl
 ·obtain⟨k,e1,e2⟩:=ge p hp
  exact at' k _ _ e1 e2
 ·obtain⟨k,e1,e2⟩:=ge p hp
  rw[e] at e2;rw[ins k _ _ _ e2,hd] at e1;exact`IV
theorem RpW.back(h:`iy):`nF `Ps a `hH/\`l7 `Ps a `hH=H:=by
 refine⟨nj0 h.hd `d0 `dt (λk c so e1 e2=>h.opAt e1 e2) h.ins,?_⟩;rw[mw0 (H:=H) (λb hb=>g70 hb) `aHL `dt `d0 h.in0]
 funext b
 unfold upd
 by_cases hb:b=a
 ·rw[`xg,hb,`xs]
 ·rw[`lJ]
theorem RpW.same(s:`aT)(h:`iy):RpW K H' B ns a as sos:=⟨h.hd,`d0,s _ _ `xs,λb hb=>`Pr id λz=>⟨z.1,s _ _ z.2⟩,`dt,vo0 (λ_ _ r=>`cu `pG) h.all,h.ins⟩
theorem RpW.put(h:`iy)(hB:B a){k:Nat}{c:`f}{so':`cN}(h1:`l8)(h2:`oM)(r:`kB K H B as n' so')(hi:`aHM) :
  `nF `aHN a `Pt/\`l7 `aHN a `Pt=`aHO /\
   RpW K (`aHO) B (ns.set k n') a as (`CS):=by
 have hl:`acX=(`CS).length:=by rw[`jD];exact `dt
 have hk:`aHJ:=`ZB;have ins:∀(j:Nat) C dx fs,(`CS)[j]?=`acY->j=0:=λj C dx fs e=>by
  rcases `ef e with⟨rfl,e,_⟩|⟨_,e⟩
  ·exact hi C dx fs e
  ·exact h.ins j C dx fs e
 refine⟨nj0 h.hd `d0 hl (λj d s e1 e2=>?_) ins,mw0 (`fA) `aHL hl `d0 h.in0,h.hd,`d0,j8,`fA,hl,?_,ins⟩
 ·rcases `GL with⟨rfl,e,_⟩|⟨n,e⟩
  ·rw[h1] at e1
   cases e1;rw[j8,e]
  ·have:d≠c:=λz=>by
    obtain⟨g1,g2⟩:=`P6;obtain⟨g3,g4⟩:=`t6;exact n ((P8 `d0).mp (g2.trans (z▸g4.symm)))
   rw[`Vc];exact h.opAt e1 e
 ·have:b≠c:=λz=>hb (z▸A4 h1)
  rw[`Vc];exact g70 hb
 ·rcases `ac_ with z|z
  ·exact `jf
  ·by_cases q:b=a
   ·exact `kt
   ·exact `h ⟨z.1,by rw[d8 q];exact z.2⟩
 ·exact `oh (`aHP) k (vo0 (λ_ _ r=>`aHP) h.all)
noncomputable def dpN(i:Nat)(δ:Ds):`ky:=`aHA λb=>match b.1 with
 | `m (`bj::ns)=>`CT
 | _=>`b
noncomputable def setN(i k:Nat)(n:D)(δ:Ds):Ds:=match `vQ with
 | `a (`Zv,mk)=>`bw i (.ow (mk (`m (`bY::ns.set k n))))
 | _=>δ
structure AtN(K:`D)(H:Hp)(B:BS)(σ:St)(δ:Ds)(i:Nat)(a:`f)(ns:`n)(as:`b6)(sos:`rS):Prop where
 sl:`hJ
 bad:B a
 dp:`ZC
 w:`iy
section
variable{σ:St}
theorem Env.atN(e:`bc)(h:`ZC):∃a as sos,`yS:=by
 have h0:=h;unfold dpN at h;cases eb:`vQ with
 | none=>rw[eb] at h;cases h
 | some bm =>
  rw[eb,`j] at h;obtain⟨d0,hi,F⟩:=nn0 eb;obtain⟨a,J,hB,ro⟩:=`GK;obtain⟨h1,_⟩:=F _ _ _ _ ro;split at h
  ·rename_i x ns' hbm
   cases h;rw[hbm] at h1;obtain⟨y,ms,e1,as,sos,w⟩:=h1;cases e1;exact⟨a,as,sos,J,hB,h0,w⟩
  ·cases h
theorem AtN.same(s:`aT)(h:`yS):AtN K H' B σ δ i a ns as sos:=⟨h.sl,h.bad,h.dp,h.w.same s⟩
theorem Env.setN(e:`bc)(h:`yS){k:Nat}{o:HO}{sos':`rS}(w:RpW K `hP B (ns.set k n') a as' sos') :
  ∃d0 d,`xS/\`aHQ=`adm/\`atU:=by
 have dp:=h.dp;unfold dpN at dp;cases eb:`vQ with
 | none=>rw[eb] at dp;cases dp
 | some bm =>
  rw[eb,`j] at dp;obtain⟨d0,hi,M⟩:=nn0 eb;obtain⟨a',J,hB,ro⟩:=`GK;obtain⟨_,h2⟩:=M _ _ _ _ ro;split at dp
  ·rename_i x ns' F
   have dp:=A2 dp;subst dp;rw[h.sl] at J;cases J;obtain⟨bd,mk⟩:=bm;have F:bd=`m (`bY::ns'):=F;subst F;refine⟨d0,mk (`m (`bY::ns'.set k n')),hi,?_,e.mut hi h.sl (h2 _ _ _ ⟨x,_,rfl,as',sos',w⟩)⟩;unfold DL.setN;rw[eb]
  ·cases dp
universe zz
universe DL
namespace DL
open Spec PyProof.Rows L2
noncomputable def tN(K:`D)(B:BS)(δ:Ds)(i:Nat)(g:GE):TE:=fun σ H Q=>∃d a ns as sos,`bc/\`ix/\`yS/\∀v H',`aT->`aHE->`mp
structure PN(X:Cx)(i:Nat)(e:`z)(g:GE):Prop where
 mk::go:∀B δ,PE X e (tN X.K B δ i g)
noncomputable def kh0(ns:`n):`LV
 | `bO=>`aHR `aHS
 | _=>`b
noncomputable def di0(ns:`n)(d y:D):`cs:=match d,y with
 | `bO,`BM=>(match `ja with
  | `ec=>(match `vR with
   | `Zh=>atI es z
   | _=>`b)
  | `b=>atI ds z)
 | _,_=>`b
noncomputable def O4(i:Nat)(ga gb:GE):GE:=fun δ=>`TM λd=>`TN λy=>`ZD λns=>`aHT
noncomputable def mj0(i:Nat)(ga gb:GE):GE:=fun δ=>`TM λd=>`TN λy=>`ZD λns=>match kh0 ns d with
 | `VT=>(R7 y).bind λq=>`lY
 | _=>`b
noncomputable def z50(i:Nat):GE:=fun δ=>(`nH).map λ_=>zw0 0
noncomputable def plN(g:GE):GE:=fun δ=>`db λd=>if `Zy then `ar else `b
section
variable{σ:St}
theorem RpW.node(w:`iy){d n:D}{v:V}(r:`lS)(h:kh0 ns d=`tU):∃(k:Nat) (c:`f) (so:`cN),v=`Ef/\`l8/\`oM/\`vR=`tU/\`T5:=by
 unfold kh0 at h;split at h
 ·rename_i ds
  cases e:`ja with
  | none=>rw[e] at h;cases h
  | some k =>
   rw[e,`j] at h;rw[wu0] at r;rcases r with⟨k',c,e1,e2,e3⟩|⟨e1,_⟩
   ·rw[e] at e1
    cases e1;obtain⟨so,hs,hn⟩:=`GJ w.all h;exact⟨k,c,so,e3,e2,hs,h,hn⟩
   ·rw[e] at e1;cases e1
 ·cases h
theorem Yh0{es:`n}(h:`kB K H B as (`uy) so):∃xs,so=`cQ/\`mU K H B as es xs:=h
theorem gd0{ks:`de}(h:`kB K H B as `p6 so):`aqp:=h
universe zz
theorem vz0:∀{ks:`dK} {ds:`n} {xs:`K} {q:U6},`gF->(∀d,`lY=`ar->∃v,`Nc=`aL/\`lS)/\`awz
 | [],ds,xs,q,r=>⟨`aHU,`rI⟩
 | `gj,[],xs,q,r=>by
  rw[s90] at r;subst r;exact⟨`aHU,λh=>`dW⟩
 | `gj,`av,xs,q,r=>by
  rw[ul0] at r;obtain⟨x,r',rfl,h1,h2⟩:=r;obtain⟨i1,i2⟩:=vz0 (ks:=ks) (q:=q) h2;rw[`et];have hv:O3 ((k,x)::`At r') q=if k=q then `bd else O3 (`At r') q:=by
   unfold O3;rw[`AR]
   by_cases e:k=q
   ·rw[`iD,`bR e];rfl
   ·rw[`gk,`D?]
  constructor
  ·intro d' h
   unfold R5 at h;rw[hv]
   by_cases e:k=q
   ·rw[`iD] at h ⊢
    cases h;exact`FX
   ·rw[`gk] at h ⊢
    exact i1 d' h
  ·intro hl
   rw[hv];unfold Q5;rw[`j5]
   by_cases e:k=q
   ·rw[`iD,`bR e];rfl
   ·rw[`gk,`D?,`atc]
    exact i2 `AC
section
variable{a:`z}{g ga gb:GE}
theorem j80(i:Nat)(hN:`cn:=by rfl)(hv:`fz:=by first|exact `bE|exact `gh|exact `gi)(hd:`bt:=by decide)(hcd:`ga:=by decide) :
  PN X i `mq (z50 i):=.mk λB δ=>`aqQ fun σ H Q ⟨d,a,ns,as,sos,en,h,at',k⟩=>by
 unfold z50 at h;rw[at'.dp] at h;cases h;refine⟨_,at'.sl,`um⟩;unfold zw0;rw[wu0];exact `k ⟨0,a,od0 0,at'.w.hd,rfl⟩
theorem Qp0(h:PN X i e g)(hdp:∀δ d,`ix->`aHV):PD X e (plN g):=.mk λB δ=>`aGR fun σ H Q ⟨d,en,e1,k⟩=>by
 unfold plN at e1;cases e2:`ay with
 | none=>rw[e2] at e1;cases e1
 | some d' =>
  rw[e2,`j] at e1;split at e1
  ·rename_i hn
   cases e1;have:=hdp δ _ e2;cases e3:`nH with
   | none=>rw[e3] at this;cases `x
   | some ns =>
    obtain⟨a,as,sos,at'⟩:=en.atN e3;exact⟨d,a,ns,as,sos,en,e2,at',λv H' s r=>k v H' s (i20 hn r)⟩
  ·cases e1
theorem Sg0{d:D}(h:`aHW=`ar):`aHV:=by
 unfold O4 at h;cases e1:`eD with
 | none=>rw[e1] at h;cases h
 | some x =>
  rw[e1,`j] at h;cases e2:`eE with
  | none=>rw[e2] at h;cases h
  | some y =>
   rw[e2,`j] at h;cases e:`nH with
   | none=>rw[e] at h;cases h
   | some ns=>rfl
theorem ka0(ha:`aHX)(hb:`dy)(hs:t80 b:=by exact `lU):PN X i `rD (O4 i ga gb):=.mk λB δ =>
 (vs0 (ed0 (fv0.or g00) `oK `aHY hs)).imp fun σ H Q ⟨d,ad,ns,as,sos,en,h,at',k⟩=>by
  unfold O4 at h;cases e1:`eD with
  | none=>rw[e1] at h;cases h
  | some dx =>
  rw[e1,`j] at h;cases e2:`eE with
  | none=>rw[e2] at h;cases h
  | some y =>
  rw[e2,`j,at'.dp,`j] at h;refine`aHZ;have F:=`aH_;obtain⟨c1,c2⟩:=F.w.back;refine`aH0;have J:=`mX;have M:=`kE;unfold di0 at h;split at h
  ·rename_i ds z
   rw[n8] at r2;subst r2;cases e3:`ja with
   | some kk =>
    rw[e3] at h;dsimp only at h;split at h
    ·rename_i es hes
     have hn:kh0 ns `t9=`Zh:=by show `aHR (`aHS)=_;rw[e3];exact hes
     obtain⟨k',c,so,rfl,f1,f2,f3,f4⟩:=F.w.node J hn;obtain⟨xs,rfl,rx⟩:=Yh0 f4;obtain⟨w,w1,w2⟩:=rx.atI h;refine `k ⟨c,xs,z,w,rfl,rfl,`k (`k `aH1),w1,ad,`fQ,c1,?_⟩;rw[c2];exact `aH2
    ·cases h
   | none =>
    rw[e3] at h;dsimp only at h;rw[wu0] at J;rcases J with⟨k',c,f,_⟩|⟨_,c,xs,rfl,q,rx⟩
    ·rw[e3] at f;cases f
    ·obtain⟨w,w1,w2⟩:=rx.atI h
     have hc:c∉as:=λz=>by
      rcases F.w.own c z with z|z
      ·exact(`hI M).bad c (z▸at'.bad) |>.nt xs q.2
      ·rw[q.2] at z;cases z.2
     refine `h ⟨c,xs,z,w,rfl,rfl,`k (`k (by rw[g70 hc];exact q.2)),w1,ad,`fQ,c1,?_⟩;rw[c2];exact `aH2
  ·cases h
theorem Sd0(hu:`l_)(ha:`aHX)(hb:`dy)(hs:ec0 b:=by exact `lU):PN X i `rD (mj0 i ga gb):=.mk λB δ =>
 (vs0 (gq0 hu `oK `aHY hs)).imp fun σ H Q ⟨d,ad,ns,as,sos,en,h,at',k⟩=>by
  unfold mj0 at h;cases e1:`eD with
  | none=>rw[e1] at h;cases h
  | some dx =>
  rw[e1,`j] at h;cases e2:`eE with
  | none=>rw[e2] at h;cases h
  | some y =>
  rw[e2,`j,at'.dp,`j] at h;refine`aHZ;have F:=`aH_;obtain⟨c1,c2⟩:=F.w.back;refine`aH0;split at h
  rotate_left
  ·cases h
  rename_i ks ds hn;cases e3:R7 y with
  | none=>rw[e3] at h;cases h
  | some q =>
  rw[e3,`j] at h;obtain⟨k',c,so,rfl,f1,f2,f3,f4⟩:=F.w.node `F! hn;obtain⟨xs,rfl,hl,rx⟩:=gd0 f4;obtain⟨v,J,rv⟩:=(vz0 rx).1 d h;have:=si0 e3 r2;subst this;refine⟨c,v,rfl,by rw[← J];exact DGet.k `aH1,ad,`fQ,c1,?_⟩;rw[c2];exact `V3
universe zz
universe DL
namespace DL
open Spec PyProof.Rows L2
section
variable{σ σ':St}
theorem EnvS.takeL(en:`c2)(b1:`j!)(b2:`j?)(e:`bc)(i:Nat){d:D}{p:`f}(hp:`cH)(s:`aT)
  (r:RpL K H' `pN d p):`at8:=by
 have g:`Vd:=`Ve
 have F:`Uk:=`Vf;have live:`at9:=λ{j d' b} h1 h2=>by
  obtain⟨a,q1,q2,q3⟩:=e.at h1;rw[h2] at q1;cases q1;exact `at'
 refine`at!
 ·rcases z with z|rfl
  ·exact b2 a z
  ·exact `h F
 ·refine `oh ⟨p,rfl,`b1,r⟩ i `at?
  cases sl with
  | un=>trivial
  | ex c n=>obtain⟨v,e,r⟩:=h;exact`xC
  | sh d=>obtain⟨v,e,r⟩:=h;exact`xC
  | ow d=>obtain⟨b,e,J,r⟩:=h;exact`aua
 ·rcases z with z|rfl
  ·exact`Vg
  ·exact `og
 ·rcases `iE with⟨rfl,_,_⟩|⟨n1,h1⟩
  ·rcases `kd with⟨rfl,_,_⟩|⟨n2,h2⟩
   ·rfl
   ·rcases `ef h3 with⟨_,e3,_⟩|⟨n3,_⟩
    ·cases e3
     rw[`xU] at h4;exact `aub
    ·exact `GN
  ·rcases `kd with⟨rfl,_,_⟩|⟨n2,h2⟩
   ·rcases `ef h4 with⟨_,e4,_⟩|⟨n4,_⟩
    ·cases e4
     rw[`op] at h3;exact `auc
    ·exact `aud
   ·rw[`op] at h3
    rw[`xU] at h4;exact `F6
 ·rcases `iE with⟨rfl,_,_⟩|⟨n1,h1⟩
  ·rcases `kd with⟨_,e3,_⟩|⟨n3,_⟩
   ·cases e3;exact F
   ·exact `GN
  ·rw[`op] at h2
   exact `Vh
universe zz
noncomputable def rw0:D->`xa
 | `bO=>`ja
 | _=>`b
noncomputable def yf0(i:Nat)(go gk gv:GE):GX:=fun δ=>(go δ).bind λd=>`Wr λdk=>(`uK).bind λdv=>`ZD λns=>(rw0 d).bind λk=>match `vR with
 | `VT=>(R7 dk).bind λq=>if `yT/\`sH then (if `UM then (`lY).bind λr=>if `ZE then `ZF else `b else `a (dv,setN i k `I4 δ)) else `b
 | _=>`b
section
variable{σ:St}
theorem RpW.nodeK(w:`iy){d n:D}{v:V}{k:Nat}(r:`lS)(h:rw0 d=`ec)(hn:`vR=`tU):∃(c:`f) (so:`cN),v=`Ef/\`l8/\`oM/\`T5:=by
 unfold rw0 at h;split at h
 ·rename_i ds
  rw[wu0] at r;rcases r with⟨k',c,e1,e2,e3⟩|⟨e1,_⟩
  ·rw[h] at e1
   cases e1;obtain⟨so,hs,hn⟩:=`GJ w.all hn;exact⟨c,so,e3,e2,hs,hn⟩
  ·rw[h] at e1;cases e1
 ·cases h
theorem EnvS.setN(en:`c2)(b1:`j!)(b2:`j?)(env:`bc)(s:`aT)(h:`yS){k:Nat}{c:`f}{so':`cN}{n':D}(h1:`l8)(h2:`oM)
  (r:`kB K H' B as n' so') (hi:`aHM) {d:D} {v:V} (rv:`Ma) :
  ∃sub',`nF `aH3 a sub'/\EnvV K `aw `ak (`l7 `aH3 a sub') σ (`aHQ) d v:=by
 have h':=`F3 s;obtain⟨p1,p2,p3⟩:=h'.w.put h.bad h1 h2 r hi;refine⟨_,p1,?_⟩;rw[p2];obtain⟨d0,d',J,e1,F⟩:=(`mZ s).setN h' p3;rw[e1];exact `l0 (`MY s b1 b2 J h.sl F) b1 b2 F (rv.mono (`pZ h.bad))
universe zz
theorem cl0{k:Key}{v:V}(h:`Hs):`AS=`as?:=by
 unfold putK;rw[`P];rw[`yo];rintro⟨q,hq,e⟩;unfold O3 at h;have h':`aH4=`b:=by
  cases z:`aH4 with
  | none=>rfl
  | some p=>rw[z] at h;cases h
 exact `y e (D70.mp h' q hq)
section
variable{f:`z}{go:GE}
theorem fh0(ho:PN X i o go)(h0:PD X e g0)(h1:PD X f g1)
  (hbase:`mK o `Nx `B `tT=`tq:=by rfl)
  (hfew:(`atO
  &&`atP)=`c:=by rfl)
  (hline:`j6:=by rfl) (htrees:`atQ:=by rfl) :
  PX X `ayA (yf0 i go g0 g1):=.mk λH₀ B₀ δ pins s σ H Q I ⟨r,en,e1,k⟩=>by
 unfold yf0 at e1;obtain⟨B,b1,b2,env⟩:=`bW;cases e2:go δ with
 | none=>rw[e2] at e1;cases e1
 | some d =>
 rw[e2,`j] at e1;cases e3:g0 δ with
 | none=>rw[e3] at e1;cases e1
 | some dk =>
 rw[e3,`j] at e1;cases e4:`iG with
 | none=>rw[e4] at e1;cases e1
 | some dv =>
 rw[e4,`j] at e1;cases e5:`nH with
 | none=>rw[e5] at e1;cases e1
 | some ns =>
 rw[e5,`j] at e1;cases e6:rw0 d with
 | none=>rw[e6] at e1;cases e1
 | some kk =>
 rw[e6,`j] at e1;split at e1
 rotate_left
 ·cases e1
 rename_i ks ds hnode;cases e7:R7 dk with
 | none=>rw[e7] at e1;cases e1
 | some q =>
 rw[e7,`j] at e1;split at e1
 rotate_left
 ·cases e1
 rename_i hz;obtain⟨a,as,sos,at'⟩:=env.atN e5;refine vs0 (Uw0 (ut0 (ho.go B δ)) (kx0 (h0.go B δ)) (kx0 (h1.go B δ)) ⟨`j7,hfew,`j8,htrees⟩) `i s σ H Q I ⟨d,a,ns,as,sos,env,e2,at',λv1 H1 s1 r1=>?_⟩;have M:=`CU s1;obtain⟨c,so,rfl,f1,f2,f4⟩:=M.w.nodeK r1 e6 hnode;obtain⟨xs,rfl,hl,rx⟩:=gd0 f4;refine⟨a,`fQ,M.w.openOk,c,rfl,`k ⟨_,`k (M.w.opAt f1 f2)⟩,?_⟩;obtain⟨c1,c2⟩:=M.w.back;refine⟨a,`fQ,c1,?_⟩;rw[c2];refine⟨dk,`uv,e3,`Mg⟩;have Y:=`kE;have Z:=`CU Y;obtain⟨a4,a3⟩:=Z.w.back;refine⟨_,Z.w.openOk,a,`fQ,a4,?_⟩;rw[a3];refine⟨dv,`mZ Y,e4,λv3 H3 s3 r3=>?_⟩;have F:=Y.trans s3;have O:=`CU F;have:=si0 e7 r2;subst this;have J:=(rx.same s2).same s3;refine⟨_,O.w.openOk,`t?,q,O.w.opAt f1 f2,rfl,by rw[`dM,← hl,`p9];exact hz.2,`oB,λhn=>?_⟩
 ·split at e1
  ·rename_i hk
   cases e8:`lY with
   | none=>rw[e8] at e1;cases e1
   | some r8 =>
    rw[e8,`j] at e1;split at e1
    ·rename_i hnr
     cases e1;obtain⟨w,w1,w2⟩:=(vz0 J).1 r8 e8;rw[w1] at hv;have hv:=A2 hv;subst hv;obtain⟨a1,a0⟩:=O.w.back;refine⟨a,`fQ,a1,?_⟩;rw[a0];exact k _ H3 (`l0 (en.grow F) b1 b2 (`mZ F) (i20 hnr w2))
    ·cases e1
  ·rename_i hk
   have:=`aH5;rw[hv] at this;exact `y `st hk
 ·split at e1
  ·rename_i hk
   have:=`aH5;rw[hn,hk] at this;cases `x
  ·cases e1
   rw[cl0 hn];have nk:`kB X.K H3 B as `I4 (.dK (`t?++[(q,v3)])):=by
    refine⟨xs++[v3],?_,by rw[`ai,`ai,hl];rfl,`Zx (`pO (ws0.mp J) (`ah (an0 hz.1 r3) `L))⟩;rw[`Qb hl];rfl
   obtain⟨a2,q1,q2⟩:=en.setN b1 b2 env F at' f1 f2 nk (λ_ _ _ z=>nomatch z) r3;exact⟨a,a2,q1,k v3 _ q2⟩
universe zz
noncomputable def wq0(i:Nat)(g1 g2:GE):GS:=fun δ=>(`iG).bind λd1=>(`ot).bind λd2=>match d1,d2 with
 | `aH6,`aH7=>if qj0 l1=`c/\qj0 l2=`c then `a (.nx (`bw i (.ow (`m [`uX,`I5,`aH6,`aH7])))) else `b
 | _,_=>`b
theorem Env.freshS{σ:St}{p:`f}(e:`bc)(hp:`cH)(s:`aT)(nb:NB (H' p)):Env K H' `pN σ δ:=by
 have g:`Vd:=`Ve
 refine⟨`kG (λv sl h=>?_) `fS,`fd,`kC⟩
 ·cases sl with
  | un=>trivial
  | ex c n=>obtain⟨u,q,r⟩:=h;exact`aH8
  | sh d=>obtain⟨u,q,r⟩:=h;exact`aH8
  | ow d=>obtain⟨a,q,hb,r⟩:=h;exact⟨a,q,`xk,`cu (λo ho=>s _ _ ho) g⟩
 ·rcases z with z|z
  ·exact`Vg
  ·rw[z];exact nb
section
variable{f:`z}{lpos:Pos}{y:Str}
theorem h80(i:Nat)(nd:`eV)(h1:PDF X e g1)(h2:PDF X f g2)(hi:`rL:=by rfl)(hy:`oc:=by first|exact `bE|exact `eF)
  (hs:`aze:=by rfl) (hs2:`NF=`adz::`hK:=by rfl)
  (hsw:`mu `aH9 `LR `tp `B=`iY:=by rfl)
  (hf:`od:=by first|exact `a3|exact `b1|assumption) :
  PSD X (`mx [`px] `aH9 pos) (wq0 i g1 g2):=.mk λH₀ B₀ δ pins s σ H D I ⟨r,en,e1,kk⟩=>by
 unfold wq0 at e1;obtain⟨B,b1,b2,env⟩:=`bW;cases e2:`iG with
 | none=>rw[e2] at e1;cases e1
 | some d1 =>
 rw[e2,`j] at e1;cases e3:`ot with
 | none=>rw[e3] at e1;cases e1
 | some d2 =>
 rw[e3,`j] at e1;split at e1
 rotate_left
 ·cases e1
 rename_i k1 l1 k2 l2;split at e1
 rotate_left
 ·cases e1
 rename_i hn;cases e1;have e4:PE X f (fun σ H Q=>∃B,tDF X.K B δ g2 σ H Q):=λpins s σ H Q I ⟨B,h⟩=>h2.go B δ `i s σ H Q I h
 refine im0 nd hi hy (vs0 (iw0 (K5 (h1.go B δ) (K5 e4 xj0 hs2) hs))) hsw hf `i s σ H D I ⟨_,env,e2,λp1 H1 q1 s1 r1=>?_⟩;obtain⟨J,o1,z1,c0⟩:=r1;have z1:k1.length=`M7:=z1;have o1:H1 p1=`ZG:=o1;refine⟨_,_,env.freshS q1 s1 (.of o1 `rT λ_ z=>nomatch z),e3,λp2 H2 q2 s2 r2=>⟨`Nl,λl ql=>?_⟩⟩;obtain⟨M,o2,z2,c2⟩:=r2;have z2:k2.length=`M6:=z2;have o2:H2 p2=`ZH:=o2;have a8:=s2 _ _ o1;have c3:p1≠p2:=Y7 o1 q2;have a0:p1≠l:=Y7 a8 ql;have a1:p2≠l:=Y7 o2 ql;have Z:[l,p1,p2].Nodup:=by
  simp only[`l5,`aX,`a7,`a8,not_false_eq_true,List.nodup_nil,and_true];exact⟨λz=>`gI (λz=>a0 `hF) (λz=>a1 `hF),c3⟩
 obtain⟨Hl,Y⟩:∃Hl,Hl=upd H2 l (`ZI):=`aq;obtain⟨sos,F⟩:∃sos:`rS,sos=[`ZI,.dK (k1.zip J),.dK (k2.zip M)]:=`aq;have hl:Hl l=`a (`ZI):=by rw[Y,j8]
 have c4:Hl p1=`ZG:=by rw[Y,d8 a0];exact a8
 have b5:Hl p2=`ZH:=by rw[Y,d8 a1];exact o2
 have ins:`T7:=λk C dx fs e=>by
  rw[F] at e
  match k with
  | 0=>rfl
  | 1=>cases e
  | 2=>cases e
  | k+3=>simp at e
 have cl:`nF Hl l `ZJ:=nj0 rfl Z (`I6) (λk c so f1 f2=>by
  rw[F] at f2
  match k with
  | 0=>cases f1;cases f2;exact hl
  | 1=>cases f1;cases f2;exact c4
  | 2=>cases f1;cases f2;exact b5
  | k+3=>simp at f1) ins
 rw[← Y];refine⟨l,_,cl,kk _ _ ?_⟩;have a4:=`kE;have b3:`po:=a4.free ql;have a5:H p1=`b:=q1;have a3:H p2=`b:=`kL q2;obtain⟨Hc,O⟩:∃Hc,Hc=`l7 Hl l `ZJ:=`aq;have b4:Hc l=`a (`pF `ZJ):=by rw[O];unfold closed;rw[`aB]
 have c1:`aH' p1=`ZG:=tg0 Z (k:=1) rfl (`I6);have e5:`aH' p2=`ZH:=tg0 Z (k:=2) rfl (`I6);have a6:Hc p1=`aH!:=by rw[O];unfold closed;rw[`P a0,c1]
 have b0:Hc p2=`aH!:=by rw[O];unfold closed;rw[`P a1,e5]
 have a2:∀b,b≠l->b≠p1->b≠p2->Hc b=H2 b:=λb x1 x2 x3=>by
  rw[O];unfold closed;rw[`P x1,ub0 (by simp only[`aX,`a7,`a8];exact λz=>`gI x1 λz=>`gI x2 x3),Y,d8 x1]
 have sm:`c0 H Hc:=⟨λb o z=>by
  rw[a2 b (Y7 z b3) (Y7 z a5) (Y7 z a3)];exact a4 b o z,λb o xs z=>by
  by_cases x1:b=l
  ·rw[x1,b4] at z;cases z
  by_cases x2:b=p1
  ·rw[x2,a6] at z;cases z
  by_cases x3:b=p2
  ·rw[x3,b0] at z;cases z
  rw[a2 b x1 x2 x3] at z;exact a4.nf b o xs z⟩
 rw[← O];refine en.takeL b1 b2 env i b3 sm (`h (`h ⟨_,_,rfl,`ZK,sos,rfl,Z,b4,`fA,`I6,?_,ins⟩))
 ·simp only[`aX,`a7,`a8] at hb
  rcases hb with rfl|rfl|rfl
  ·exact `a3
  ·exact `h ⟨λz=>`gI (λz=>env.bad _ z a5) a0,a6⟩
  ·exact `h ⟨λz=>`gI (λz=>env.bad _ z a3) a1,b0⟩
 ·have c5:Gr H1 Hc (λa=>`aH?) `ZL:=λb o n z=>by
   have a7:H2 b=`_:=s2 _ _ z;have x1:b≠l:=Y7 a7 ql;exact⟨λq=>q.elim (λq=>n `ry) x1,by rw[a2 b x1 (λq=>n `yk) (Y7 z q2)];exact a7⟩
  have b6:Gr H2 Hc (λa=>(`aH?)∨a=p2) `ZL:=λb o n z=>by
   have x1:b≠l:=Y7 z ql;exact⟨λq=>q.elim (λq=>n (`k `ry)) x1,by rw[a2 b x1 (λq=>n (`k `yk)) (λq=>n `yk)];exact z⟩
  have rf:∀{k:Nat} {c:`f},`ZK[k]?=`d9->RpN X.K Hc `ZL `ZK (zw0 k) (`Ef):=λ{k c} h=>by
   unfold zw0;rw[wu0];exact `k ⟨k,c,od0 k,h,rfl⟩
  rw[F];refine `ah ⟨_,rfl,`Zx (`ah (rf rfl) (`ah (rf rfl) `L))⟩ (`ah ⟨J,rfl,z1,?_⟩ (`ah ⟨M,rfl,z2,?_⟩ `L))
  ·exact sf0 hn.1 (c0.mono c5)
  ·exact sf0 hn.2 (c2.mono b6)
universe zz
noncomputable def xn0(gk gv:GE):GE:=fun δ=>`Wr λa=>(R7 a).bind λk=>`ax4 λb=>`aP (`k [k]) [b]
section
variable{ke ve:`z}{gk gv:`bA}
theorem oo0(hk:`ax7)(hv:`ax8):PDF X `ax9 (xn0 gk gv):=.mk λB δ pins s σ H Q I ⟨d,en,h,k⟩=>by
 unfold xn0 at h;cases e1:`Bj with
 | none=>rw[e1] at h;cases h
 | some a =>
  rw[e1] at h;simp only[`j] at h;cases e2:R7 a with
  | none=>rw[e2] at h;cases h
  | some key =>
   rw[e2] at h;simp only[`j] at h;cases e3:`uK with
   | none=>rw[e3] at h;cases h
   | some b =>
    rw[e3] at h;cases h;have hb:`U1:=`ax';have hp:`Tf:=`pj;have I1:Inv X `i σ `ZM `ax!:=`gf (a:=`an) (o:=`vS) (t':=`aZ) `Fu `bn (jr0 `aa hb);have F:Env X.K `ZM `qb σ δ:=`ax?;have pp:=`aya;rw[`ayb,`ayc,`ayd];refine `TJ;unfold subDict;refine `aye;refine `Nk;rw[`ayf];refine A0 (thn (pp `i _ σ _ (λps H2=>∃v1 v2,`ayg/\`ayh/\`ayi/\`c0 `ZM H2) I1
     `ayj) λvs s2 ⟨ps,H2,I2,rel,v1,v2,M,r1,r2,sm⟩=>?_)
    subst M;cases rel with
    | @cons _ q _ _ rh rt =>
     cases rt;obtain⟨q1,q2⟩:=q;have ek:=si0 e2 r1;obtain⟨J,O⟩:=rh;rw[ek] at J;refine `kR;refine `dn;simp only[`lK,`sg];refine A0 (A0 (bh0 I2 `ayk `s J O λh' tk I3 _=>`cZ));refine `ayl;refine `aym
     ·have:=`Wt (`pZ (H:=H2) (B:=`Nw) (a:=`an) (o:=.dK `ayn) `Fq)
      rw[o9];exact`ayo
universe zz
universe DL
namespace Wa
open DL W
section
noncomputable def vn0:GS:=(u6 `W4
 (u6 `W5
 (u6 `aIa
 (u6 (ifD `aIb
 (u6 `sn
 p7)
 p7)
 (u6 `aIc
 (u6 `aId
 (u6 (ifD (N6 `aIe `aIf)
 (u6 (V3 (V7 (m7 (z9 `nh `N7))) `W6)
 (u6 (m8 `bb (o2 `I (m7 `vc) d9))
 p7))
 (u6 (V3 (V7 (m7 (z9 `nh (z9 (o2 `dr (o2 (o2 `aC (gc (`d 480)) Y9) (oA `aeU b7) Z4) ixD) v7)))) `W6)
 p7))
 (u6 `aAP
 p7))))))))
noncomputable def K9:`u:=[`g2, `gL, `c8, `jt, `WY, `ng, "_law_alike"]
noncomputable def J1:`J:=mkF 2 K9 vn0
noncomputable def rg0:GS:=(u6 (ifD `aIg
 (u6 `aIh
 p7)
 p7)
 (u6 (Z0 (o2 `bQ `aF Q8))
 p7))
noncomputable def rh0:`u:=`I7
noncomputable def xr0:`J:=mkF 4 rh0 rg0
noncomputable def wn0:GSB:=(zp0 (ifB (ob (oA (z9 `I (z9 `aC (z9 `cj `vc))) xr0))
 (zp0 (w90 (V7 (m7 (z9 `Pz `gP))))
 `hh)
 `hh)
 (zp0 (ifB (J3 `W8)
 (zp0 `ZN
 `hh)
 `hh)
 (zp0 (uk0 (V3 (yf0 2 `qL `nJ `Qd) `hW))
 (zp0 (uk0 (V3 (yf0 2 `Dg `vU `Qf) `uY))
 (zp0 (ifB `aIi
 (zp0 `ZN
 `hh)
 `hh)
 (zp0 `aIj
 (zp0 `aIk
 `hh)))))))
noncomputable def td0:`u:=[`qK, `nI, `QL, `q9, `CX, `CY, "_law_by_one", "_law_by_other", "_law_ahead"]
noncomputable def W2:`sN:=mkB 6 td0 2 wn0
noncomputable def qp0:GS:=(u6 (ifD `aIl
 (u6 `aIm
 p7)
 p7)
 (u6 (wq0 2 `sO `sO)
 (u6 `aIn
 (u6 (V2 `aIo
 (u6 `HI
 (u6 (M8 (ye0 `aF) `Ds
 (u6 `ZO
 (u6 `ZP
 (u6 (M8 `aIp `wc
 (u6 `ZQ
 (u6 `ZR
 (u6 (ifD `aIq
 (u6 (Z0 (gv 12))
 p7)
 p7)
 (u6 (ifD (N6 `aIr (ob (o2 (`aIs) `C0 W5)))
 (u6 `aIt
 p7)
 p7)
 p7)))))
 p7))))
 (u6 `aIu
 p7))) 100000)
 (u6 `HH
 p7)))))
noncomputable def M6:`u:=[`qK, `nI, `QL, "_law_level", "_law_fresh", `q9, `c8, `QK, `CX, `CY, "_law_place", `DT, "_law_told"]
noncomputable def z20:`J:=mkF 2 M6 qp0
noncomputable def sx0:GS:=(u6 (ifD (J3 (ob (U7 Xk0 `I)))
 (u6 (Z0 `yP)
 p7)
 p7)
 (u6 (Z0 (o2 (oA (z9 (V5 1 [] (ye0 `I) `bb `Qq `I) v7) b7) `bG eqD))
 p7))
noncomputable def vi0:`u:=`l9
noncomputable def xo0:`J:=mkF 1 vi0 sx0
noncomputable def tq0:GS:=(u6 (ifD (ob (o2 `I `fY nc0))
 (u6 (Z0 `B5)
 p7)
 p7)
 (u6 (ifD (J5 (J3 `B7) (J5 (J3 (ob (U7 isStr `gJ))) (ob (o2 `gO (o2 `gN (oA (z9 (o2 `gJ `Py eqD) v7) `NZ) d9) neD))))
 (u6 (Z0 `yP)
 p7)
 p7)
 (u6 (Z0 (oA (z9 (V5 1 [] (tupI (U5 `I `aIv V8)) `bb noT (oA `eL xo0)) v7) Zg0))
 p7)))
noncomputable def wo0:`u:=`l9
noncomputable def G3:`J:=mkF 1 wo0 tq0
noncomputable def qe0:GS:=(u6 (m8 `eN (oA `qN z20))
 (o30 3 4 W3 `qN (J5 (J3 (ob `ZS)) `aIw)
 (J5 `aIx `aIy)
 `HG
 (o2 (m7 (z9 (yi0 `uV) v7)) (oA (z9 (p80 1 [] (tupI (U5 `aF `aIv V8)) `bb (oA `eL qh0)) v7) R3) d9) `bG (o2 `aIz `cj W5)))
noncomputable def wd0:`u:=[`qK, `nI, "_law_due", `qM, "_law_kept"]
noncomputable def yr0:`J:=mkF 2 wd0 qe0
noncomputable def Xs0:GS:=(u6 (m8 (gN 1) (oA (z9 `I (z9 `ni v7)) G7))
 (u6 (m8 `eN (oA (z9 `I `afp) Y0))
 (u6 (m8 `bP (oA (z9 (o2 `bQ `qO Z4) (z9 (o2 `ni `afh eg0) v7)) X40))
 (u6 (V3 `aIA (Q7 4 5))
 (u6 (ifD (J3 (ob `aIB))
 (u6 (Z0 `yP)
 p7)
 p7)
 (u6 (M8 (Q6 (z9 (o2 (o2 `bQ `qO Y9) `nf Z4) v7)) `hW
 (u6 `aIC
 (u6 (ifD `aID
 (u6 `aIE
 p7)
 (u6 `aIF
 p7))
 p7)))
 (u6 (Z0 `aIB)
 p7)))))))
noncomputable def W10:`u:=[`kY, `g2, `DH, `DT, `nI, `WX, `QK, `gL]
noncomputable def p00:`J:=mkF 1 W10 Xs0
universe zz
universe Wa
namespace Ea
open Wa
open DL W K22
open Ta (pa Z6 J6 gl gl1 nl pN k2 y80)
open La
structure Pg(ps qs:`Y)(p0:`F)(n:Nat)(k:Nat)(s:Cs):Prop where
 len:`Yx
 top:s.1[0]?=`a p0/\s.2[0]?=`dw
 ptr:∀i b,0<i->`I8->∃j q c v,b=`vV/\j<i/\`ZT/\`aIG/\`eR=`vW/\(j<n∨j=n/\c<k)
 up:∀(i i':Nat) (q:`F) (c:Nat) (q':`F) (c' j j':Nat),0<i->i<i'->`aIH->s.2[i']?=`a (`a (q',c'))->`ZT->s.1[j']?=`a q'->j<j'∨j=j'/\c<c'
theorem yg0{s:`aG}(h:s.Nodup){x:`F}(hi:s[i]?=`bd)(hj:s[j]?=`bd):i=j:=by
 obtain⟨h1,e1⟩:=`KV;obtain⟨h2,e2⟩:=`b5 hj;exact(P8 h).mp (`ON e2.symm)
theorem Pg.ex1{k:Nat}{s:Cs}(hnd:`sD)(h:`yU)(hq:`oH){v:`aN}(hv:`aII):Pg ps qs p0 n `bS (`ZU):=by
 have weak:Pg ps qs p0 n `bS s:=⟨`dt,h.top,λi b hi hb=>by
  obtain⟨j,q',c,v',e1,e2,e3,e4,e5,e6⟩:=`aIJ;exact⟨j,q',c,v',e1,e2,e3,e4,e5,e6.imp id λz=>⟨z.1,`p⟩⟩,h.up⟩
 unfold La.ex1;cases e:`eR with
 | none=>exact weak
 | some x =>
  dsimp only
  by_cases hx:`oG
  ·rw[`YC];exact weak
  ·rw[`YD]
   have M:`Iz:=(`b5 hq).1;have a1:∀{i:Nat} {y:`F},`vW=`bm->(`sA)[i]?=`bm:=λ{i y} hy=>by rw[`eB `aIK];exact hy
   have b1:∀{i:Nat} {b:Bk},(`OV)[i]?=`ed->(`I8)∨(i=`vw/\b=`vp):=λ{i b} hb=>by
    rcases Ao0 i `vw with z|z
    ·rw[`eB z] at hb;exact `xk
    ·rw[`i5 z] at hb
     have:i - `vw=0:=by
      have:=`ZV;simp at this;exact `x
     rw[`x] at hb;simp at hb;exact `h ⟨`p,hb.symm⟩
   have a2:∀{j:Nat} {y:`F},(`sA)[j]?=`bm->y∈s.1->`C1=`bm:=λ{j y} hy hm=>by
    rcases Ao0 j `h8 with z|z
    ·rw[`eB z] at hy;exact hy
    ·rw[`i5 z] at hy
     have:j - `h8=0:=by
      have:=`aIK;simp at this;exact `x
     rw[`x] at hy;simp at hy;exact `y (hy▸hm) hx
   have Z:`yG:=A4 hq;refine⟨`aEX,⟨a1 h.top.1,?_⟩,λi b hi hb=>?_,λi i' q1 c1 q2 c2 j j' hi Y h1 h2 h3 h4=>?_⟩
   ·rw[`eB (`b5 h.top.2).1];exact h.top.2
   ·rcases b1 hb with hb|⟨rfl,rfl⟩
    ·obtain⟨j,q',c,v',e1,e2,e3,e4,e5,e6⟩:=weak.ptr i b hi hb
     have J:i<s.1.length:=by rw[`dt];exact`ZV
     exact⟨j,q',c,v',e1,e2,a1 e3,e4,by rw[e5,`eB J],e6⟩
    ·refine⟨n,q,k,v,rfl,by rw[← `dt];exact M,a1 hq,hv,?_,`h ⟨rfl,H0 _⟩⟩
     rw[e,← `dt,`v6,`nP];rfl
   ·rcases b1 h1 with h1|⟨e1,e2⟩
    ·obtain⟨j1,a0,d1,v1,g1,g2,g3,g4,g5,g6⟩:=h.ptr i _ hi h1
     cases g1;have hj:`C1=`a q1:=a2 h3 (A4 g3);have ej:=yg0 hnd hj g3;rcases b1 h2 with h2|⟨e1,e2⟩
     ·obtain⟨j2,a3,d2,v2,k1,_,k3,_⟩:=h.ptr i' _ `g h2
      cases k1;exact h.up i i' q1 c1 q2 c2 j j' hi Y h1 h2 hj (a2 h4 (A4 k3))
     ·cases e2
      have O:=yg0 hnd (a2 h4 Z) hq;rw[ej,O];exact g6
    ·have F:=b1 h2
     rcases F with F|⟨e3,_⟩
     ·have:=(`b5 F).1
      omega
     ·omega
theorem q20(hp:`Q)(hq:`ad):∀(z:`ca) (k:Nat) (s:Cs),`aIL->`yU->`oH->(∀i v,`aIM->`cl[k+i]?=`aL)->`aIN->Pg ps qs p0 n (k+`dm) (`vx)
 | [],k,s,_,g,_,_,_=>g
 | `fo,k,s,h,g,e,hz,hn=>by
  have hv:`aII:=`aIO;obtain⟨a1,a2,_⟩:=qt0 hp hq h (`lc) k (A4 hv) (hn v B0);have e':(`ZU).1[n]?=`eH:=by
   unfold La.ex1;cases `eR with
   | none=>exact e
   | some x =>
    dsimp only;split
    ·exact e
    ·rw[`eB `v7];exact e
  have:=q20 hp hq z `bS (`ZU) a1 (g.ex1 `d0 e hv) e' (λi u hu=>by have:=`aIP;rwa [show k+`bM=k+1+i by omega] at this) λu hu=>hn u (A8 _ hu)
  rw[`bo,show k+(`dm+1)=k+1+`dm by omega];exact `x
theorem Pg.next{k:Nat}{s:Cs}(h:`yU):Pg ps qs p0 `gT 0 s:=⟨`dt,h.top,λi b hi hb=>by
 obtain⟨j,q',c,v',e1,e2,e3,e4,e5,e6⟩:=`aIJ;exact⟨j,q',c,v',e1,e2,e3,e4,e5,`I9⟩,h.up⟩
theorem j40(hp:`Q)(hq:`ad){s:Cs}{r:`iJ}(R:`oI):`aIL->Pg ps qs p0 n 0 s->∃n' k',Pg ps qs p0 n' k' s'/\∀q j,r=`Iy->∃v,`aFb/\`fn/\q∈`iL:=by
 induction R with
 | fin _=>intro _ g;exact⟨_,_,g,λq j h=>nomatch h⟩
 | @go n s s' r q e hn R ih =>
  intro h g;obtain⟨p1,_,_⟩:=`aFr
  exact ih p1 (q20 hp hq `cl 0 s h g e `aIQ hn).next
 | @prt n s q j v e e1 e2 e3 =>
  intro h g;have hm:=`lc;obtain⟨_,p2,_⟩:=wc0 hp hq `yI 0 s h hm λu hu=>⟨l9 hu,e2 u hu⟩
  refine⟨_,_,q20 hp hq `yI 0 s h g e (`aIR) e2,λq' j' he=>?_⟩
  ·rw[`bT]
   rw[List.getElem?_take] at hu;split at hu
   ·exact hu
   ·cases hu
  ·cases he
   exact⟨v,e1,e3,p2 q hm⟩
theorem pg0:Pg ps qs p0 0 0 `la:=⟨rfl,`eA,λi b hi hb=>by
 have:=`ZV;simp at this;omega,λi i' q c q' c' j j' hi F h1 h2=>by
 have:=`ZB;simp at this;omega⟩
theorem Qf0{s:Cs}(hl:`Yx)(hnd:`sD){x:`F}{b:Bk}(h1:`sP)(h2:`I8):lk s x b:=by
 unfold La.lk;obtain⟨A,B⟩:=s;dsimp only at *;clear hl
 induction A generalizing B i with
 | nil=>simp at h1
 | cons a A ih =>
  cases B with
  | nil=>simp at h2
  | cons c B =>
   rw[`Z,`Z];unfold R5;cases i with
   | zero =>
    simp at h1 h2;subst h1 h2;rw[`aB]
   | succ i =>
    rw[`l5] at hnd;have F:`vY:=`kn
    rw[`P (λz=>hnd.1 (by have z':a=x:=y80 z;rw[z'];exact A4 F))];exact ih B hnd.2 F `q?
theorem Sa0{a b:Bk}(h:cD a=cD b):a=b:=by
 cases a with
 | none=>cases b with
  | none=>rfl
  | some q=>obtain⟨p,c⟩:=q;cases h
 | some p =>
  obtain⟨p,c⟩:=p;cases b with
  | none=>cases h
  | some q =>
   obtain⟨q,d⟩:=q;unfold cD at h;injection h with h
   injection h with h1 h
   injection h with h2 _
   injection h2 with h2
   have e:p=q:=by
    unfold pN at h1;injection h1 with h1
    injection h1 with h3 h1
    injection h1 with h4 _
    injection h3 with h3
    injection h4 with h4
    exact `aDL
   rw[e,show c=d by omega]
inductive Wi' (s:Cs):Nat->`XE
 | top:Wi' s 0 []
 | go {i j:Nat} {q:`F} {c:Nat} {w:`e}:0<i->`aIH->`ZT->j<i->Wi' s j w->Wi' s i `lg
theorem yn0{k:Nat}{s:Cs}(hnd:`sD)(g:`yU):∀{x:`F} {w:`e},Wy s x w->∀i,`sP->`sQ:=by
 have one:∀{x:`F} {i:Nat} {b:Bk},`sP->lk s x b->`I8:=λ{x i b} hi hb=>by
  have F:i<s.2.length:=by rw[← g.len];exact`rj
  have e:=Qf0 g.len hnd hi (B6 F);rw[`sI];congr 1;exact Sa0 (A2 (e.symm.trans hb))
 intro x w h
 induction h with
 | @top q hb =>
  intro i hi;rcases D80 i with rfl|z
  ·exact `jE
  ·obtain⟨_,_,_,_,e,_⟩:=g.ptr i `b z (one hi hb)
   cases e
 | @go q p c w hb hw ih =>
  intro i hi;have e2:=one hi hb;rcases D80 i with rfl|z
  ·rw[g.top.2] at e2
   cases e2
  ·obtain⟨j,q',c',v,e,hj,e3,_⟩:=g.ptr i _ z e2
   cases e;exact .go z e2 e3 hj (ih j e3)
noncomputable def wlt(a b:`e):Prop:=`nD<b.length∨(`YL/\`aIS=`c)
theorem fd0:∀(a b:`au) (x y:Int),`YL->`aIT->`hS `I' (b++[y])=`c
 | [],[],_,_,_,h=>by rw[HT.vk0] at h;cases h
 | [],`cB,_,_,hl,_=>by cases hl
 | `cB,[],_,_,hl,_=>by cases hl
 | a::as,b::bs,x,y,hl,h=>by
  rw[`os] at h;rw[`c?,`c?,`os]
  by_cases e:a=b
  ·rw[`iD] at h ⊢
   exact fd0 as bs x y `AC h
  ·rw[`gk] at h ⊢
   exact h
theorem km0:∀(a:`au) (x y:Int),x<y->`hS `I' (a++[y])=`c
 | [],x,y,h=>by
  show `hS [x] [y]=`c;rw[`os,`Ib,`yi]
 | a::as,x,y,h=>by
  rw[`c?,`c?,`os,`aB];exact km0 as x y h
theorem fe0{a b:`e}(h:`yV)(x y:Nat):wlt `I' (b++[y]):=by
 unfold wlt at *;rw[`ai,`ai,`c',`c'];rcases h with h|⟨h1,h2⟩
 ·exact `I9
 ·refine `h ⟨`p,?_⟩
  rw[`aW,`aW];exact fd0 _ _ _ _ (by rw[`M,`M,h1]) h2
theorem kv0(a:`e){x y:Nat}(h:x<y):wlt `I' (a++[y]):=by
 unfold wlt;refine `h ⟨by rw[`ai,`ai];rfl,?_⟩;rw[`aW,`aW];exact km0 _ _ _ (Int.ofNat_lt.mpr h)
theorem vf0{s:Cs}:∀{i:Nat} {w w':`e},`sD->`sQ->Wi' s i w'->w=w':=by
 intro i w w' F h
 induction h generalizing w' with
 | top=>intro h';cases h' with
  | top=>rfl
  | go z=>omega
 | go z e1 e2 e3 hw ih =>
  intro h';cases h' with
  | top=>omega
  | go z' f1 f2 f3 hw' =>
   rw[e1] at f1;cases f1;have:=yg0 F e2 f2;subst this;rw[ih hw']
theorem t70{k:Nat}{s:Cs}(hnd:`sD)(g:`yU):∀(i':Nat) (i:Nat) (w w':`e),i<i'->`sQ->Wi' s i' w'->wlt w w':=by
 intro i'
 induction i' using Nat.strongRecOn with
 | ind i' ih =>
  intro i w w' F h h';cases h' with
  | top=>omega
  | @go _ j' q' c' v' z' f1 f2 f3 hw' =>
   cases h with
   | top =>
    unfold wlt;exact `aIU
   | @go _ j q c v z e1 e2 e3 hw =>
    rcases g.up i i' q c q' c' j j' z F e1 f1 e2 f2 with hj|⟨hj,hc⟩
    ·exact fe0 (ih j' f3 j v v' hj hw hw') c c'
    ·subst hj
     rw[vf0 hnd hw hw'];exact kv0 _ hc
noncomputable def lnk(j:Nat):D:=`k3
noncomputable def stp(ps:`Y)(v:D)(k:Nat):`cs:=match v with
 | `yn=>(pa ps `nv).vals[k]?
 | _=>`b
noncomputable def vat(ps:`Y)(v:D):`e->`cs
 | []=>`aL
 | k::w=>`aIV λu=>vat ps u w
theorem p90(ps:`Y)(j k:Nat):stp ps (lnk j) k=(pa ps j).vals[k]?:=by
 unfold stp lnk;simp only[`aA]
theorem s00(ps:`Y):∀(w:`e) (v:D) (k:Nat),vat ps v (`Cv)=(vat ps v w).bind λu=>stp ps u k
 | [],v,k=>by
  show `aIV (λu=>`a2)=_;unfold vat;rw[`j];cases `ahw<;>rfl
 | x::w,v,k=>by
  rw[`c?];unfold vat;cases stp ps v x with
  | none=>rfl
  | some u =>
   rw[`j,`j];exact s00 ps w u k
theorem rz0(hp:`Q)(hq:`ad){k:Nat}{s:Cs}(P:`I!)(g:Pg ps qs `cm n k s):∀{i:Nat} {w:`e},`sQ->∀x,`sP->`aIW=`ZW/\`aIX=`aIY:=by
 intro i w h
 induction h with
 | top =>
  intro x hx;rw[g.top.1] at hx;cases hx;exact`eA
 | @go i j q c w z e1 e2 e3 hw ih =>
  intro x hx;obtain⟨i1,i2⟩:=ih q e2;obtain⟨j',q',c',v,f1,_,f3,f4,f5,_⟩:=g.ptr i _ z e1;cases f1;rw[hx] at f5;obtain⟨z1,z2⟩:=P5.mp f4;obtain⟨r1,r2⟩:=P.inr q (A4 e2);obtain⟨l1,l2⟩:=vp0 hp hq r1 r2 (A4 f4);rcases `iK with⟨a,b,_,_,h1,h2,h3⟩|⟨h3,_⟩
  ·rw[`d2,f5] at h3
   cases h3;rw[h1] at z1;rw[h2] at z2;exact⟨by rw[s00,i1,`j,p90,z1];rfl,by rw[s00,i2,`j,p90,z2];rfl⟩
  ·rw[`d2,f5] at h3
   cases h3
noncomputable def crs(x y:`F):Prop:=`PF∨`PG
noncomputable def FI:GS:=(u6 (ifD `aAi
 (u6 `aAj
 p7)
 p7)
 p7)
noncomputable def FO:GS:=(u6 (M8 (ye0 `x9) `bP
 FI)
 p7)
theorem kf0(O N:Sl)(x y:`F):(`jF->`ZX=`ZY)/\(`vZ->`ZX=`a (.nx `qT)):=by
 have zs:`ZZ:=`O
 have t1:ob `ae1 `qT=`a (`PH):=by
  show `a (`G (`Dm=(y.1:Int)))=_;congr 1;rw[`oC];omega
 have t2:ob `ae2 `qT=`a (`ahx):=by
  show `a (`G (`Dn=(y.2:Int)))=_;congr 1;rw[`oC];omega
 have t:J5 `ae3 `ae4 `qT=`a `Z_:=by
  unfold J5;rw[t1,t2,`j];cases `PH<;>rfl
 refine`Z0
 ·have e:`Z_=`c:=by
   rcases h with h|h<;>simp[h]
  rw[e] at t;refine o8 ?_;rw[U4 t];exact `yh
 ·have e:`Z_=`q:=by
   have h1:¬`PF:=`aHH
   have h2:¬`PG:=`aHI
   simp[h1,h2]
  rw[e] at t;refine u5 (δ':=`qT) ?_ rfl;rw[Z3 t];rfl
theorem mb0(O N:Sl)(y:`F):∀(L:`aG) (s3:Sl),(∃x∈L,`jF/\`aIZ=`ZY)∨((∀x∈L,`vZ)/\∃t3,`aIZ=`a (.nx [O,N,`C4,t3]))
 | [],s3=>`h ⟨(λx hx=>`y hx `S),s3,rfl⟩
 | x::L,s3=>by
  obtain⟨f1,f2⟩:=kf0 O N x y;have un:Y4 `bP FI ((x::L).map pN) `ahy=(match `ZX with|`a?=>`aI_|`ha=>`aI_|`hb=>`a?|r=>r):=by
   rw[`Z]
   conv=>lhs;unfold Y4
   rfl
  rw[un]
  by_cases hc:`jF
  ·rw[f1 hc]
   exact `k ⟨x,B0,hc,rfl⟩
  ·rw[f2 hc]
   rcases mb0 O N y L (`qS) with⟨z,hz,h1,h2⟩|⟨h1,t3,h2⟩
   ·exact `k ⟨z,A8 _ hz,h1,h2⟩
   ·refine `h ⟨λz hz=>?_,t3,h2⟩
    rcases `c_ hz with rfl|hz
    ·exact hc
    ·exact h1 z hz
theorem fy0(A:`aG):∀(d m:Nat) (s1 s2 s3:Sl),m+d=`Yn ->
  (∃(i n:Nat) (x y:`F),i<n/\`vY/\`PJ/\`jF/\`aI0=`ZY) ∨
  ((∀(i n:Nat) (x y:`F),m<=n->`aI1)/\∃t1 t2 t3,`aI0=`a (.nx [`h?,t1,t2,t3]))
 | 0,m,s1,s2,s3,h=>by
  refine `h ⟨λi n x y hm hi h1 h2=>?_,s1,s2,s3,?_⟩
  ·have:=`ZB
   omega
  ·rw[`Cj (by unfold Y6;rw[`M,`kU,`M];omega)]
   rfl
 | d+1,m,s1,s2,s3,h=>by
  have hm:m<A.length:=`p
  have F:`nK m=`aI2:=by
   have hl:m<(`jG).length:=by unfold Y6;rw[`M,`kU,`M];exact hm
   rw[`I?];congr 1;have e:(`jG)[m]?=`a (`ahz):=by
    unfold Y6;rw[`a_,`r' (by rw[`M];exact hm),`cC,`bI,`a_,`c3 hm];rfl
   rw[`Z1] at e;exact `fT
  have un:Y4 `qU FO (`aI2) `PI=(match `Z2 with|`a?=>`aI3|`ha=>`aI3|`hb=>`a?|r=>r):=by
   conv=>lhs;unfold Y4
   rfl
  rw[F,un];have sl:ye0 `x9 `ahB=`a ((`yW).map pN):=by
   show `a (`hO `vX `b (`a `fP))=_;rw[`Ja,`sw]
  rcases mb0 (`h?) `IO A[m] (`yW) s3 with⟨x,hx,h1,h2⟩|⟨h1,t3,h2⟩
  ·rw[show `Z2=`a (.rt (`m [`qR,`PK])) from o8 `ahC]
   obtain⟨i,hi,e⟩:=`Z3;rw[`b9] at hi;rw[`sR] at e;exact `k ⟨i,m,x,A[m],`p,`aI4,B6 hm,h1,rfl⟩
  ·rw[show `Z2=`a (.nx [`h?,`nq,`PL,t3]) from `aI5]
   rcases fy0 A d `v_ `IO (`PL) t3 `g with⟨i,n,x,y,g1,g2,g3,g4,g5⟩|⟨g1,u1,u2,u3,g2⟩
   ·exact `k ⟨i,n,x,y,g1,g2,g3,g4,g5⟩
   ·refine `h ⟨λi n x y J hi e1 e2=>?_,u1,u2,u3,g2⟩
    by_cases hn:n=m
    ·subst hn
     rw[`c3 hm] at e2;cases e2;refine h1 x (C3.mpr ⟨i,`ye,?_⟩);rw[`sR];exact`Z4
    ·exact g1 i n x y `g hi e1 e2
theorem t20(A:`aG):(∃(i n:Nat) (x y:`F),i<n/\`vY/\`PJ/\`jF/\`PM=`ahN) ∨
  ((∀(i n:Nat) (x y:`F),`aI1)/\`aI6):=by
 rcases fy0 A `Yn 0 .un .un .un (`bT _) with⟨i,n,x,y,g1,g2,g3,g4,g5⟩|⟨g1,u1,u2,u3,g2⟩
 ·rw[`yy] at g5
  exact `k ⟨i,n,x,y,g1,g2,g3,g4,j4 rfl (o8 (T8 (items:=`jG) rfl g5))⟩
 ·rw[`yy] at g2
  exact `h ⟨λi n x y hi=>g1 i n x y `FG hi,j4 rfl (u5 (T8 (items:=`jG) rfl g2) (`lf))⟩
universe Ea
namespace Ea
open Wa
open DL W K22
open Ta (pa Z6 J6 gl gl1 nl pN k2 y80 up okv)
open La
open Ua (Met dr Eqw SL nd0)
noncomputable def TV(ps qs:`Y)(w:`e):Prop:=∃u v,`aIW=`a2/\`aIX=`aL/\prt ps qs (u,v)
noncomputable def TS(ps qs:`Y)(a b:`e):Prop:=∃x y:`F,x≠y/\`jF/\`yV/\(vat ps `qQ a=`ZW/\vat qs `qQ a=`aIY)/\(vat ps `qQ b=`a (lnk y.1)/\vat qs `qQ b=`a (lnk y.2)) /\
 (y.1<ps.length/\y.2<qs.length)/\`cJ (pa ps y.1)=`cJ (pa qs y.2)/\`nL/\`aI7
theorem mf0(s:Cs):ta0 [`en]=`a (`nB):=by
 show `a (`gR ((`OH).map ktD))=_;rw[`b3];rfl
theorem cg0(hp:`Q)(hq:`ad) :
  (`PT/\∃A:`aG,(`aI8)/\(`Z5)/\∀x∈A,∀y∈A,`Jb) ∨
  (∃w:`e,`PQ/\TV ps qs w/\∃x,`nL/\¬`Cy) ∨
  ∃a b:`e,`PW/\TS ps qs a b:=by
 have zs:`Iq:=`O
 have p1:=`Jc;have p2:=`Jd;have ca:`aI9:=λd δ e=>by
  rw[`aI'];exact e
 have cc:`aI!:=λs r d s3 e=>by
  rw[`aI?];exact e
 have M:`aJa:=λs w e1 e2=>by
  refine `aJb
  ·change `aJc=_
   rw[`d3];rfl
  ·rw[`iI]
   exact `yh
 have Y:`aJd:=λs e1 e2=>by
  refine `aJe
  ·change `aJf=_
   rw[`d3];rfl
  ·rw[`d3];rfl
 have Z:`aJg:=λs r x y a b e1 e2 ha hb la lb=>by
  refine `aJh
  change `aJi=_
  rw[`iI];refine `aJj
  ·rw[`aJk];exact tc0 ha la
  ·rw[`aJl];exact tc0 hb lb
 rcases `aJm with⟨hh,e⟩|⟨hh,s,r,R,Q,k⟩
 ·refine `h (`k ⟨[],M _ [] e ?_,⟨lnk 0,lnk 0,rfl,rfl,?_⟩,`cm,`jE,λz=>hh z.1⟩)
  ·rcases t20 [`cm] with⟨i,n,x,y,h1,_,h3,_⟩|⟨_,h⟩
   ·have:=(`b5 h3).1
    simp at this;omega
   ·exact h
  ·unfold prt
   exact hh
 ·have J:`aJn:=by
   have one:`Z6:=`IA
   refine`aJo;rw[`lb];refine`YI;show (if k2 `cm=k2 `cm then `aFk else _)=_;rw[`aB]
  obtain⟨n',k',g,O⟩:=j40 hp hq R J pg0;have few:=`aJp;have a0:`PP->(∀i n x y,i<n->`sP->`O_=`bm->`vZ)->∀x∈s.1,∀y∈s.1,`Jb:=λ_ h x hx y hy F=>by
   obtain⟨i,hi,e1⟩:=`Z3;obtain⟨j,hj,e2⟩:=`du hy;have f1:`sP:=`aJq
   have f2:`C1=`bm:=by rw[`Do,e2]
   rcases Da0 i j with z|z|z
   ·exact h i j x y z f1 f2
   ·subst z
    rw[e1] at e2;exact `y e2 F
   ·intro c
    exact h j i y x z f2 f1 (c.imp U2 U2)
  rcases t20 s.1 with⟨i,n,x,y,a3,hx,hy,hc,ec⟩|⟨a4,ec⟩
  ·have mx:=A4 hx
   have my:=A4 hy;obtain⟨a,ha,la⟩:=`yX x mx;obtain⟨b,hb,lb⟩:=`yX y my;have wa:=yn0 `d4 g ha i hx;have wb:=yn0 `d4 g hb n hy;have F:x≠y:=λz=>by
    subst z;have:=yg0 `d4 hx hy;omega
   obtain⟨rd,er⟩:∃rd,`aJr:=by
    rcases k with⟨_,e⟩|⟨q,j,w,_,_,e⟩
    ·exact`lH
    ·exact`lH
   exact `h (`h ⟨a,b,Z s rd x y a b er ec ha hb `g `g,x,y,F,hc,t70 `d4 g n i a b a3 wa wb,rz0 hp hq Q g wa x hx,rz0 hp hq Q g wb y hy,Q.inr y my,Q.hds y my,Q.rc x mx,Q.rc y my⟩)
  ·rcases k with⟨rfl,e⟩|⟨q,j,w,rfl,hw,e⟩
   ·obtain⟨a1,a2⟩:=Wh0 hp hq R J Q
    exact `k ⟨Y s e ec,s.1,a1,a2,a0 ec a4⟩
   ·obtain⟨v,hv,a5,a6⟩:=O q j rfl
    obtain⟨i,hi,e1⟩:=`du a6;have f1:`vW=`eH:=`aJq
    obtain⟨l1,l2⟩:=rz0 hp hq Q g (yn0 `d4 g hw i f1) q f1;obtain⟨z1,z2⟩:=P5.mp hv;refine `h (`k ⟨w++[j],M s _ e ec,⟨v.1,v.2,?_,?_,a5⟩,V30 hp hq R `dF J⟩)
    ·rw[s00,l1,`j,p90];exact z1
    ·rw[s00,l2,`j,p90];exact z2
theorem kn0(hp:`Q)(hq:`ad){s:`e}(mp:`dA)(mq:`IL)(E:`IM):(`Z5)/\∀x y,`nL->`aI7->`Jb:=by
 obtain⟨_,h0,h1,h2,F⟩:=Ua.du0 hp hq mp mq E;have inr:∀x∈`IN,`ki:=λx hx=>by
  have:=L5 ((nd0 `CF).mem_iff.mp hx);exact⟨mp.lt _ this.1,mq.lt _ this.2⟩
 have key:∀x,`nL->x∈`IN:=λx hx=>by
  induction hx with
  | top=>exact h0
  | @go q y hr hg ih =>
   obtain⟨i1,i2⟩:=inr q ih;exact((`aJs (F q ih).2).2) y hg
 refine⟨`f3,λx y hx hy J hc=>?_⟩
 ·obtain⟨i1,i2⟩:=inr x (`Je)
  exact⟨(F x (`Je)).1,(`aJs (F x (`Je)).2).1⟩
 ·have m1:=`Je
  have m2:=key y hy;have inj:∀(f:`F->Nat),((`IN).map f).Nodup->f x=f y->x=y:=λf hn e=>by
   obtain⟨i,hi,e1⟩:=`du m1;obtain⟨j,hj,e2⟩:=`du m2;have:i=j:=by
    refine(P8 (i:=i) (j:=j) (h₀:=by rw[`M];exact hi) (h₁:=by rw[`M];exact hj) hn).mp ?_;rw[`aJt,`aJt,e1,e2,e]
   subst this;rw[← e1,← e2]
  rcases hc with hc|hc
  ·exact J (inj `bv h1 hc)
  ·exact J (inj `b_ h2 hc)
theorem Sz0{p q:Pt}(h:`X7):`jy p q.vals=q:=by
 have key:∀qs:`eu,∀ns:`u,`gA `ox=(`OC `bv).map `ox->ns.zip (`OC `b_)=qs:=λqs=>by
  induction qs with
  | nil=>intro ns _;simp
  | cons a qs ih =>
   intro ns hn;cases ns with
   | nil=>simp at hn
   | cons n ns =>
    rw[`Z,`Z,`Z] at hn;injection hn with h1 h2
    injection h1 with h1
    rw[`Z,`et,ih ns h2,h1]
 cases p<;>cases q<;>unfold Pn.hd at h<;>injection h with h<;>first
  | (injection h with h1 _;injection h1 with h1;exact `y h1 `s)
  | skip
 ·injection h with _ h;injection h with h _;injection h with h;rw[h];rfl
 ·rfl
 ·rename_i a b
  injection h with _ h;injection h with h _;injection h with h
  show `BG `aJu=_;rw[key b _ h]
 ·rename_i c a c' b
  injection h with _ h;injection h with h1 h;injection h with h _;injection h with h;injection h1 with h1
  show `BH c `aJu=_;rw[key b _ h,h1]
theorem Zp0(hp:`Q)(hq:`ad){s:`e}(mp:`dA)(mq:`IL){A:`aG}(hA:`aI8)(hok:`Z5)(hno:∀x∈A,∀y∈A,`Jb):`IM:=by
 have inr:∀x,`nL->`ki:=λx hx=>by
  induction hx with
  | top=>exact⟨`Jc,`Jd⟩
  | @go q y hr hg ih =>
   obtain⟨v,hv,e⟩:=`rq hg;obtain⟨l1,l2⟩:=vp0 hp hq ih.1 ih.2 hv;rcases `iK with⟨a,b,ha,hb,_,_,h3⟩|⟨h3,_⟩
   ·rw[`d2,e] at h3
    cases h3;exact`sS
   ·rw[`d2,e] at h3
    cases h3
 have one:∀i j j',`Jf->Rch ps qs `cm (i,j')->j=j':=λi j j' h1 h2=>by
  by_cases e:j=j'
  ·exact e
  ·exact `y `gq (hno _ (`yY h1) _ (`yY h2) λz=>e `aJv)
 let f:`cq:=λi=>`aJw
 have hf:∀i j,`Jf->f i=j:=λi j h=>by
  show `aJw=j;cases e:`ahT with
  | none =>
   have:=D70.mp e `f1 (`yY h);simp at this
  | some y =>
   have h1:=List.find?_some e;have h2:=List.mem_of_find?_eq_some e;have h1:y.1=i:=`kn
   have h3:=(hA y).mp h2;rw[show y=(i,y.2) from by rw[← h1]] at h3;exact one i y.2 j h3 h
 have img:∀i j,`Jf->`nN=`aFC:=λi j h=>by
  obtain⟨i1,i2⟩:=inr _ h;obtain⟨o1,o2⟩:=hok _ h;have w1:=`PY;have w2:=`PZ;dsimp only at o1 w1 w2;have hl:(`h5).vals.length=`aJx:=Ta.pq0 o1;have ev:`yZ=(`h5).vals.map `ns:=by
   refine Af0 λk=>?_
   rw[`a_]
   by_cases hk:k<(`h5).vals.length
   ·have F:`aJy:=`p
    rw[`c3 hk,`sI,`cC];congr 1;have hz:(`YK[k],`yZ[k])∈zp ps qs `f1:=by
     unfold zp;have:=C0 (show k<((`h5).vals.zip `yZ).length by rw[`dM];omega)
     rwa [Db0] at this
    have l1:=`aJz;have l2:=`aJA;rcases `iK with⟨a,b,_,_,h1,h2,h3⟩|⟨h3,h4⟩
    ·have:=hf a b (.go h (`nC ⟨_,hz,h3⟩))
     rw[h1,h2,Ua.y20,`x]
    ·rcases o2 _ hz with⟨t1,t2⟩|e
     ·dsimp only at t1 t2
      rw[t1,t2] at h4;cases h4
     ·dsimp only at e
      rw[← e];rcases l1 with e1|⟨z,e1⟩|⟨a,e1,_⟩
      ·rw[e1];rfl
      ·rw[e1];rfl
      ·exfalso
       rw[← e,e1] at h4;cases h4
   ·rw[`aJB,`aJB]
    rfl
  have:=Sz0 o1;rw[ev] at this;exact `st
 have reach:∀i∈r,∃j,`Jf:=by
  obtain⟨c,d,_⟩:=mp.ex;have J:∀{c:Nat} {o T t:`e},Dfs `vf [] c o T t->(∀y∈o,`Z7)->(∀y∈T,`Z7)->∀y∈t,`Z7:=by
   intro c o T t d
   induction d with
   | nil o=>intro h1 _;exact h1
   | skip _ _ ih=>intro h1 h2;exact ih h1 λy hy=>`aJC
   | @visit c o T t x _ _ _ _ ih =>
    intro h1 h2;obtain⟨j,hj⟩:=h2 x B0;refine ih (`g8) `g8
    ·rcases `kg with hy|hy
     ·exact h1 y hy
     ·rw[`jB];exact⟨j,hj⟩
    ·rcases `kg with hy|hy
     ·obtain⟨i1,i2⟩:=inr _ hj
      rw[Ua.tl0 hp i1] at hy;obtain⟨v,hv,e⟩:=`rq hy;obtain⟨k,hk,ek⟩:=`du hv;have w1:=`PY;have w2:=`PZ;have o:=hok _ hj;have hl:(`Jg).vals.length=`aJx:=Ta.pq0 o.1;have hk:k<(`Jg).vals.length:=hk;have F:`aJy:=`p
      have hz:((`Jg).vals[k],`yZ[k])∈zp ps qs (x,j):=by
       unfold zp;have:=C0 (show k<((`Jg).vals.zip `yZ).length by rw[`dM];omega)
       rwa [Db0] at this
      rcases O6 (`aJz) (`aJA) with⟨a,b,_,_,g1,g2,g3⟩|⟨g3,g4⟩
      ·rw[ek] at g1
       rw[g1] at e;simp at e;subst e;exact⟨b,.go hj (`nC ⟨_,hz,g3⟩)⟩
      ·exfalso
       have O:`qy=`c:=by
        rcases w1.lv v hv with rfl|⟨z,rfl⟩|⟨a,rfl,_⟩
        ·cases e
        ·cases e
        ·rfl
       rcases o.2 _ hz with⟨t1,t2⟩|e2
       ·dsimp only at t1 t2
        rw[t1,t2] at g4;cases g4
       ·dsimp only at e2
        rw[← e2,ek,O] at g4;cases g4
     ·exact `aJC
  exact J d `aDr λy hy=>by rw[`jB];exact⟨0,`jE⟩
 have I:Ua.Iso ps qs r f:=by
  refine⟨`sq,`aGr,hf 0 0 `jE⟩
  ·obtain⟨j,hj⟩:=reach i hi
   rw[hf i j hj];exact⟨(inr _ hj).2,img i j hj⟩
  ·obtain⟨j,hj⟩:=reach a ha
   obtain⟨j',M⟩:=reach b hb;rw[hf a j hj,hf b j' M] at e
   by_cases hab:a=b
   ·exact hab
   ·exact `y (`h e) (hno _ (`yY hj) _ (`yY M) λz=>hab `aJv)
 obtain⟨m2,e2⟩:=Ua.Vk0 hp hq mp I;have d1:=Ua.sb0 hq m2;rw[Ua.sb0 hq mq] at d1;have d1:=A2 d1;unfold Eqw;rw[d1,e2]
universe Ea
namespace Ea
open Wa
open DL W K22
open Ta (pa Z6 J6 gl gl1 nl pN)
open La
open Ua (Met dr Eqw SL)
theorem pc0(hp:`Q)(hq:`ad){a b:Nat}(ha:`Z8)(hb:`IP)(e1:`iG=ixD `ck (`k0))(e2:`ot=ixD `vl (`d `u9)) :
  J6 (`Z9≠`Z') (o2 (oA `aEE m5) (oA `aEF m5) Q8 δ):=by
 obtain⟨a1,a2⟩:=Z6 hp ha;obtain⟨b1,b2⟩:=Z6 hq hb;rw[o4 (x:=`Z9) (y:=`Z') (by rw[o7 (ds:=[(pa ps a).d]) `aEG];exact `Jh a2) (by rw[o7 (ds:=[(`P1).d]) `aEH];exact `Jh b2)];exact`aEI
theorem qv0(w:`e):`qD=(`aJD).map `aQ:=by rw[`b3];rfl
universe Ea
namespace Wa
open DL W K22
open Ta (pa Z6 J6 gl gl1 nl pN k2 y80)
open La (Cs Bk Run ex1 exs prt zp nI cm O6 w40 wc0 qt0 vp0)
open Ea (Wi' Pg crs wlt vf0 t70 yg0 q20)
abbrev AW:=`aG×`T (`e)
inductive Out where
 | non|val (w:`e)|shr (a b:`e)
variable{S:Wa.AW}
noncomputable def Cf(A:`aG):Prop:=∀x∈A,∀y∈A,`jF->x=y
structure Lw(w:`e)(c:Nat)(S:AW):Prop where
 len:`kl
 cf:`oN
 up:∀(i j:Nat) (a b:`e),i<j->`sT->`y_->`yV
 lt:∀(i:Nat) (a:`e),`sT->wlt a `lg
inductive Go (ps qs:`Y) (w:`e):Nat->`ca->AW->`iM->Prop
 | nil {c:Nat} {S:AW}:Go ps qs w c [] S (`k S)
 | val {c:Nat} {S:AW} {v:`aN} {z:`ca}:`fn->Go ps qs w c `vy S (`h (`lh `lg))
 | flat {c:Nat} {S:AW} {v:`aN} {z:`ca} {r:`iM}:`f2->`Z!->`aJE
 | old {c:Nat} {S:AW} {v:`aN} {z:`ca} {r:`iM} {x:`F}:`f2->`sG->x∈S.1->`sU->`aJE
 | new {c:Nat} {S:AW} {v:`aN} {z:`ca} {r:`iM} {x:`F}:`f2->`sG->`aJF->`sU->Go ps qs w `f0 z `y0 r->`P4
 | crs {c:Nat} {S:AW} {v:`aN} {z:`ca} {x y:`F} {i:Nat} {a:`e}:`f2->`sG->`Z?->`y1->`f4->(∀i' y',`ah?)->`sT->`sU->Go ps qs w c `vy S (`h `_a)
inductive All (ps qs:`Y):Nat->AW->`_b
 | fin {n:Nat} {S:AW}:`eo=n->All ps qs n S `w
 | go {n:Nat} {S S':AW} {q:`F} {w:`e} {o:Out}:`Ji->`Jj->Go ps qs w 0 `cl S (`Jk)->All ps qs `gT S' o->`y2
 | out {n:Nat} {S:AW} {q:`F} {w:`e} {o:Out}:`Ji->`Jj->Go ps qs w 0 `cl S (`y3)->`y2
structure Sim(s:Cs)(S:AW):Prop where
 eq:S.1=s.1
 len:`kl
 way:∀i w,`l'->`sQ
 cf:Cf s.1
theorem ya0{l:`a5}{x:α}(A:`a5)(h:`Az=`bd):(l++A)[i]?=`bd:=by
 rw[`eB `x1];exact h
theorem u80{s:Cs}(A:`aG)(B:`Ii){w:`e}(h:`sQ):Wi' `yC i w:=by
 induction h with
 | top=>exact `jE
 | go z e1 e2 e3 _ ih=>exact .go z (ya0 B e1) (ya0 A e2) e3 ih
theorem d50{s:Cs}{w:`e}(P:`I!)(g:`aJG)(I:`_c)(ew:`Jj):`sU:=by
 refine⟨`e5,by rw[`gX];exact I.cf,λi j a b F ha hb=>t70 P.nd g j i a b F (`aJH) (`nO j b hb),λi a ha=>?_⟩;have hw:=`aJI;cases `aJH with
 | top=>unfold Ea.wlt;exact `aIU
 | @go _ j q c' w' hi e1 e2 e3 hw' =>
  obtain⟨j',q',J,v,f1,_,f3,_,_,f6⟩:=g.ptr i _ hi e1;cases f1;have:=yg0 P.nd e2 f3;subst this;rcases f6 with h|⟨rfl,h⟩
  ·exact Ea.fe0 (t70 P.nd g n j w' w h hw' hw) c' c
  ·rw[vf0 P.nd hw' hw]
   exact Ea.kv0 _ h
theorem bu0(A:`aG)(x:`F)(h:∃y∈A,`f4):∃(i:Nat) (y:`F),A[i]?=`bm/\`f4/\`aJJ:=by
 induction A with
 | nil=>obtain⟨y,hy,_⟩:=h;cases hy
 | cons b A ih =>
  by_cases hb:crs b x
  ·exact⟨0,b,rfl,hb,λi' y' hi=>`p⟩
  ·obtain⟨y,hy,hc⟩:=h
   rcases `c_ hy with rfl|hy
   ·exact `y hc hb
   ·obtain⟨i,y,h1,h2,h3⟩:=ih ⟨y,hy,hc⟩
    refine⟨i+1,y,`kn,h2,λi' y' hi e=>?_⟩;cases i' with
    | zero=>simp at e;subst e;exact hb
    | succ i'=>exact h3 i' y' `g `lu
theorem R70{v:`aN}{s:Cs}{p:`F}(h:`O_=`a p):`aJK=`a p:=by
 unfold La.ex1;cases `eR with
 | none=>exact h
 | some x =>
  dsimp only;split
  ·exact h
  ·exact ya0 _ h
noncomputable def Ev(ps qs:`Y)(q:`F)(n:Nat)(w:`e)(z:`ca)(c:Nat)(s:Cs)(S:AW):Prop :=
  (∃S',Go ps qs w c z S (`Jk)/\`aIN/\Sim (`aJL) S') ∨
  (∃(j:Nat) (v:`aN) (S':AW),`Ix/\`aE7/\`fn/\Go ps qs w c z S (`h (`lh `aJM))/\Sim (`P7) S') ∨
  (∃(j:Nat) (v:`aN) (x y:`F) (i:Nat) (a:`e) (s1:Cs),`Ix/\(∀u∈z.take `gW,`OZ)/\s1=`P7/\ex1 q (c+j) v s1=(`P8,s1.2++[`a (q,c+j)])/\Cf `qY/\`Jl=s1.2.length/\`aJN/\`aJO/\`f4/\(`aJP)/\`aJQ/\`aJR/\Go ps qs w c z S (`h (.shr a `aJM)))
theorem jn0(hp:`Q)(hq:`ad){w:`e}:∀(z:`ca) (c:Nat) (s:Cs) (S:AW),`I!->`aJG->`_c->`oH->`Jj->(∀i v,`aIM->`cl[c+i]?=`aL) ->
  Ev ps qs q n w z c s S
 | [],c,s,S,P,g,I,e,ew,hz=>`k ⟨S,`L,`aBW,I⟩
 | `fo,c,s,S,P,g,I,e,ew,hz=>by
  have hm:=`lc;have hv:`aIG:=`aIO;have M:∀i u,z[i]?=`a2->`cl[c+1+i]?=`a2:=λi u hu=>by have:=`aIP;rwa [show c+`bM=c+1+i by omega] at this
  by_cases hc:`fn
  ·exact `h (`k ⟨0,v,S,rfl,(λu hu=>by simp at hu),hc,`lh hc,I⟩)
  ·obtain⟨P1,_,_⟩:=qt0 hp hq P hm c (A4 hv) hc
   have g1:=g.ex1 P.nd e hv;have e':`aJK=`eH:=R70 e;have rest:∀(S1:AW),Sim (`qX) S1->S1.2[n]?=`Dd->(∀r,Go ps qs w `f0 z S1 r->`P4)->Ev ps qs q n w `vy c s S:=λS1 I1 Y up=>by
    rcases jn0 hp hq z `f0 (`qX) S1 P1 g1 I1 e' Y M with⟨S',h1,h2,h3⟩|⟨j,u,S',h1,h2,h3,h4,h5⟩|⟨j,u,x,y,i,a,s1,h1,h2,h3,h4,h5,h6,h7,h8,h9,a1,Z,O,a0⟩
    ·exact `Md ⟨S',up _ h1,λu hu=>by
      rcases `Fp with rfl|hu
      ·exact hc
      ·exact h2 u hu,h3⟩
    ·refine `pJ (`Md ⟨j+1,u,S',h1,`aJS,h3,?_,h5⟩)
     ·rw[`rR] at ht
      rcases `c_ ht with rfl|ht
      ·exact hc
      ·exact h2 t ht
     ·rw[`Jm]
      exact up _ h4
    ·refine `pJ (`pJ ⟨j+1,u,x,y,i,a,s1,h1,`aJS,h3,?_,h5,h6,h7,h8,h9,a1,Z,O,?_⟩)
     ·rw[`rR] at ht
      rcases `c_ ht with rfl|ht
      ·exact hc
      ·exact h2 t ht
     ·rw[`Jm]
      exact h4
     ·rw[`Jm]
      exact up _ a0
   cases eg:`eR with
   | none =>
    have ee:`qX=s:=by unfold La.ex1;rw[eg]
    exact `a1 S `aJT ew λr h=>.flat hc eg h
   | some x =>
    by_cases hx:`oG
    ·have ee:`qX=s:=by unfold La.ex1;rw[eg];dsimp only;rw[`YC]
     exact `a1 S `aJT ew λr h=>.old hc eg `aJU `_d h
    ·have ee:`qX=(`sA,s.2++[`vV]):=by unfold La.ex1;rw[eg];dsimp only;rw[`YD]
     by_cases hcr:∃y∈s.1,`f4
     ·obtain⟨i,y,h1,h2,h3⟩:=bu0 s.1 x hcr
      have J:i<S.2.length:=by rw[`e5,`gX];exact`_e
      have hw:=B6 J;refine `h (`h ⟨0,v,x,y,i,S.2[i],s,rfl,`sr,rfl,ee,I.cf,P.len,e,h1,h2,h3,`nO _ _ hw,`nO _ _ ew,.crs hc eg `aJU (by rw[`gX];exact h1) h2 (by rw[`gX];exact h3) hw `_d⟩);simp at hu;rw[hu];exact hc
     ·have no:∀y∈s.1,`C?:=λy hy z=>hcr ⟨y,hy,z⟩
      have a2:`Jn:=(`b5 ew).1;refine `a1 `y0 ⟨?_,?_,`aIR,?_⟩ (ya0 _ ew) λr h=>.new hc eg (by rw[`gX];exact no) `_d h
      ·rw[ee,`gX]
      ·rw[`ai,`ai,`e5];rfl
      ·rw[ee]
       rcases Ao0 i `P2 with hi|hi
       ·have hu:`aJV:=hu
        rw[`eB hi] at hu;exact u80 _ _ (`nO i u hu)
       ·have hu:`aJV:=hu
        rw[`i5 hi] at hu;have h0:i - `P2=0:=by
         have:=`aJW
         simpa using `x
        rw[h0] at hu;simp at hu;subst hu;have J:i=`vw:=by rw[← P.len,← `gX,← `e5];omega
        have hn:n<s.2.length:=by rw[← P.len];exact`v7
        refine .go (j:=n) (q:=q) `g ?_ (ya0 _ e) `g (u80 _ _ (`aJI));rw[J,`v6,`nP];rfl
      ·rw[ee]
       intro a ha b hb F;rcases `d' ha with ha|ha<;>rcases `d' hb with hb|hb
       ·exact I.cf a ha b hb F
       ·rw[`ee hb] at F ⊢
        exact `y F (no a ha)
       ·rw[`ee ha] at F ⊢
        exact `y (F.imp U2 U2) (no b hb)
       ·rw[`ee ha,`ee hb]
theorem qn0(q:`F):∀(z:`ca) (c j:Nat) (s:Cs) (v:`aN),`Ix->∃A B,`aJL=((`aJX).1++A,(`aJX).2++B)
 | [],c,j,s,v,h=>`dW
 | u::z,c,0,s,v,h=>by
  simp at h;subst h;show ∃A B,exs q `f0 z `_f=_;exact w40 q z `f0 `_f
 | u::z,c,j+1,s,v,h=>by
  obtain⟨A,B,e⟩:=qn0 q z `f0 j `_f v `ol;refine⟨A,B,?_⟩;rw[`rR,`Jm];exact e
theorem Vf0{s:Cs}{r:`iJ}(R:`oI):∃A B,s'=`yC:=by
 induction R with
 | fin _=>exact`aJY
 | @go n s s' r q e hn R ih =>
  obtain⟨A,B,e1⟩:=ih;obtain⟨A',B',e2⟩:=`aFo;rw[e2] at e1;exact⟨A'++A,B'++B,by rw[e1];simp⟩
 | prt=>exact w40 _ _ _ _
noncomputable def T40(s':Cs)(r:`iJ):`_b
 | `w=>`wR/\Cf `iL
 | `Dt=>Cf `iL/\∃q c w0 i,r=`vV/\w=`_g/\`iL[i]?=`eH/\Wi' s' i w0
 | `Du=>∃(i m:Nat) (x y:`F),i<m/\`iL[i]?=`bm/\`iL[m]?=`bd/\`f4/\(∀(i':Nat) (y':`F),i'<i->`iL[i']?=`v5->`Dc)/\Cf (s'.1.take m)/\Wi' s' i a/\Wi' s' m b
theorem e00{s1:Cs}{r:`iJ}{x:`F}{a w:`e}{A:`aG}{B:`Ii}(e:s'=(`_h,(`_i)++B))(cf:Cf `qY)(hl:`Jl=s1.2.length)(hn:`aJN)(hi:`aJO)(hc:`f4)(hf:`aJP)
  (wa:`aJQ) (ww:`aJR):T40 s' r `_a:=by
 have F:=`rj;have J:=(`b5 hn).1;subst e;refine⟨i,`Jl,x,y,F,ya0 _ (ya0 _ hi),ya0 _ (`aJZ),hc,λi' y' h e=>?_,?_,u80 _ _ (u80 (s:=s1) _ _ wa),?_⟩
 ·refine hf i' y' h ?_
  have e:(`_h)[i']?=`v5:=e;rw[`eP,`aFp] at e;exact e
 ·show Cf ((`_h).take `Jl)
  rw[`eP,List.take_left' rfl];exact cf
 ·refine u80 (s:=(`P8,`_i)) _ _ (.go (j:=n) (q:=q) `g ?_ (ya0 _ hn) J (u80 (s:=s1) _ _ ww))
  show (`_i)[s1.1.length]?=_;rw[hl,`v6,`nP];rfl
theorem S90(hp:`Q)(hq:`ad){s:Cs}{r:`iJ}(R:`oI):∀S,`I!->Pg ps qs `cm n 0 s->`_c->∃o,`y2/\T40 s' r o:=by
 induction R with
 | @fin n s hl=>exact λS P g I=>⟨`w,.fin (by rw[`gX];exact hl),rfl,I.cf⟩
 | @go n s s' r q e hn R ih =>
  intro S P g I;have F:`Jn:=`aJ_
  have ew:=B6 F;have eS:`Ji:=`aJ0
  rcases `aJ1 with⟨S',h1,h2,h3⟩|⟨j,v,S',h1,_,h3,_⟩|⟨j,v,x,y,i,a,s1,h1,h2,h3,h4,h5,h6,h7,h8,h9,h10,h11,h12,h13⟩
  ·obtain⟨P1,_,_⟩:=wc0 hp hq `cl 0 s P (`lc) `O6
   have g1:=(q20 hp hq `cl 0 s P g e `aIQ hn).next;obtain⟨o,ho,hr⟩:=ih S' P1 g1 h3;exact⟨o,.go eS ew h1 ho,hr⟩
  ·exact `y h3 (hn v `ib)
  ·obtain⟨A,B,e1⟩:=qn0 q `cl 0 j s v h1
   obtain⟨A',B',e2⟩:=Vf0 R;rw[e1,← h3,h4] at e2;rw[`bT] at e2 h13;exact⟨_,`aJ2,e00 (A:=A++A') (B:=B++B') (by rw[e2];simp) h5 h6 h7 h8 h9 h10 h11 h12⟩
 | @prt n s q j v e e1 e2 e3 =>
  intro S P g I;have F:`Jn:=`aJ_
  have ew:=B6 F;have eS:`Ji:=`aJ0
  have jl:=`FJ;rcases `aJ1 with⟨S',h1,h2,h3⟩|⟨j',v',S',h1,h2,h3,h4,h5⟩|⟨j',v',x,y,i,a,s1,h1,h2,h3,h4,h5,h6,h7,h8,h9,h10,h11,h12,h13⟩
  ·exact `y e3 (h2 v `nR)
  ·have hj:j'=j:=by
    have J:=`_e;rcases Da0 j' j with z|z|z
    ·exact `y h3 (e2 v' (by rw[`_j];exact⟨j',`p,(`P6).2⟩))
    ·exact z
    ·exact `y e3 (h2 v (by rw[`_j];exact⟨j,`p,`Z4⟩))
   subst hj;rw[`bT] at h4;refine⟨_,.out eS ew h4,h5.cf,q,j',S.2[n],n,rfl,rfl,?_,?_⟩
   ·obtain⟨A,B,e4⟩:=`aJ3
    rw[e4];exact ya0 _ e
   ·obtain⟨A,B,e4⟩:=`aJ3
    rw[e4];exact u80 _ _ (`nO n _ ew)
  ·have hj:j'<j:=by
    by_cases z:j'<j
    ·exact z
    ·exact `y e3 (h2 v (by rw[`_j];exact⟨j,by have:=`_e;omega,`Z4⟩))
   obtain⟨A,B,e4⟩:=qn0 q `yI 0 j' s v' (by rw[`SJ hj];exact h1);rw[`aJ4,`Ic (i7 hj),← h3,h4] at e4;rw[`bT] at e4 h13;exact⟨_,`aJ2,e00 e4 h5 h6 h7 h8 h9 h10 h11 h12⟩
universe Wa
variable{S:Wa.AW}
namespace Wa
open DL W K22
open Ta (pa Z6 J6 gl gl1 nl pN k2 y80)
open La (Cs Bk Run ex1 exs prt zp nI cm mn0 tc0 Wy)
open Ea (Wi' Pg crs wlt vf0 t70 yg0 j40 pg0 yn0 mf0 kf0 FI FO)
noncomputable def oD:Out->D
 | `w=>`w
 | `Dt=>`ahD
 | `Du=>`ahE
noncomputable def small:`_b
 | `w=>`fw
 | `Dt=>`yE
 | `Du=>`ahO/\`PV
theorem ky0(O N:Sl)(x y:`F)(hc:`f4)(L2:`aG):∀(L1:`aG) (s3:Sl),(∀z∈L1,¬crs z x)->Y4 `bP FI `ahV [O,N,`qS,s3]=`_k
 | [],s3,_=>by
  have f1:=(kf0 O N y x).1 hc;rw[`ie,`Z];unfold Y4;show (match FI [O,N,`qS,`C4] with|`a?=>`aJ5|`ha=>`aJ5|`hb=>`a?|r=>r)=_;rw[f1]
 | z::L1,s3,h=>by
  have f2:=(kf0 O N z x).2 (h z B0);rw[`c?,`Z];unfold Y4;show (match FI [O,N,`qS,.sh (pN z)] with|`a?=>`aJ6|`ha=>`aJ6|`hb=>`a?|r=>r)=_;rw[f2];exact ky0 O N x y hc L2 L1 _ `XK
theorem gk0{A:`aG}{x:`F}(nd:`Ym)(him:i<m)(hi:A[i]?=`bm)(hm:A[m]?=`bd)(hc:`f4)(hf:`aJJ)(cf:Cf (`yW)):`PM=`a `ahU:=by
 have O:=(`b5 hm).1;have key:∀(d k:Nat) (s1 s2 s3:Sl),k+d=m->Y4 `qU FO (`nK k) `PI=`_k:=by
  intro d
  induction d with
  | zero =>
   intro k s1 s2 s3 hk;have hk:k=m:=`p
   subst hk;have M:`nK k=`aJ7::`P9:=by
    have hl:`aJ8:=by unfold Y6;rw[`M,`kU,`M];exact O
    rw[`I?];congr 1;have e:(`jG)[k]?=`a (`aJ7):=by
     unfold Y6;rw[`a_,`r' (by rw[`M];exact O),`cC,`bI,`a_,hm];rfl
    rw[`Z1] at e;exact `fT
   have sl:ye0 `x9 `_l=`aJ9:=by
    show `aJ';rw[`Ja,`sw]
   have a0:=`rj;have Y:`jI=`v0 i++y::(`jI).drop `bM:=by
    have h1:(`jI).take i=`v0 i:=by rw[`aJ4,`Ic `g]
    have h2:i<(`jI).length:=`ye
    have h3:(`jI)[i]=y:=by rw[`sR];exact(`KV).2
    rw[← h1];have:=`aFR i (`jI);rw[`ui h2,h3] at this;exact `st
   have lo:=ky0 (`h?) (`bk) x y hc ((`jI).drop `bM) (`v0 i) s3 λz hz=>by
    obtain⟨i',J,e⟩:=`du hz;rw[`b9] at J;rw[`sR] at e;exact hf i' z `g (`aI4)
   rw[← Y] at lo;rw[M];unfold Y4;show (match FO `_l with|`a?=>`Jo|`ha=>`Jo|`hb=>`a?|r=>r)=_;rw[show FO `_l=`_k from o8 (T8 sl lo)]
  | succ d ih =>
   intro k s1 s2 s3 hk;have Z:k<m:=`p
   have F:k<A.length:=`p
   have M:`nK k=`aJ!::`P9:=by
    have hl:`aJ8:=by unfold Y6;rw[`M,`kU,`M];exact F
    rw[`I?];congr 1;have e:(`jG)[k]?=`a (`aJ!):=by
     unfold Y6;rw[`a_,`r' `aEt,`cC,`bI,`a_,`sI];rfl
    rw[`Z1] at e;exact `fT
   have sl:ye0 `x9 `_m=`aJ9:=by
    show `aJ';rw[`Ja,`sw]
   rcases Ea.mb0 (`h?) (`bk) A[k] (`jI) s3 with⟨z,hz,h1,_⟩|⟨_,t3,h2⟩
   ·exfalso
    obtain⟨i',J,e⟩:=`du hz;rw[`b9] at J;rw[`sR] at e;have mz:z∈`yW:=Dc0.mpr ⟨i',`p,e⟩;have mk:A[k]∈`yW:=Dc0.mpr ⟨k,`p,rfl⟩;have:=cf z mz _ mk h1;rw[← e] at this;have:=(P8 nd).mp `x;omega
   ·rw[M]
    unfold Y4;show (match FO `_m with|`a?=>`Jo|`ha=>`Jo|`hb=>`a?|r=>r)=_;rw[show FO `_m=`a (.nx [`h?,`bk,`ahX,t3]) from `aI5];exact ih `bS _ _ _ `g
 have:=key m 0 .un .un .un (`bT _);rw[`yy] at this;exact j4 rfl (o8 (T8 (items:=`jG) rfl `x))
theorem sg0{A:`aG}(nd:`Ym)(cf:Cf A):`aI6:=by
 rcases Ea.t20 A with⟨i,n,x,y,h1,h2,h3,h4,_⟩|⟨_,h⟩
 ·have:=cf x `_n y (A4 h3) h4
  subst this;have:=yg0 nd h2 h3;omega
 ·exact h
theorem Uv0:Sim `ahP `li:=by
 refine⟨rfl,rfl,λi w h=>?_,λx hx y hy _=>by rw[`r1,`jB]⟩;have:=`x1;have hi:i=0:=by simpa using `x
 subst hi;simp at h;subst h;exact `jE
theorem qg0(hp:`Q)(hq:`ad):(`_o/\`v1=`aJ?) ∨
  (`aKa/\∃o,`aKb/\`_p/\`_q):=by
 have zs:`Iq:=`O
 have p1:=`Jc;have p2:=`Jd;have ca:`aI9:=λd δ e=>by
  rw[`aI'];exact e
 have cc:`aI!:=λs r d s3 e=>by
  rw[`aI?];exact e
 have J:`aJa:=λs w e1 e2=>by
  refine `aJb
  ·change `aJc=_
   rw[`d3];rfl
  ·rw[`iI]
   exact `yh
 have O:`aJd:=λs e1 e2=>by
  refine `aJe
  ·change `aJf=_
   rw[`d3];rfl
  ·rw[`d3];rfl
 have Y:`aJg:=λs r x y a b e1 e2 ha hb la lb=>by
  refine `aJh
  change `aJi=_
  rw[`iI];refine `aJj
  ·rw[`aJk];exact tc0 ha la
  ·rw[`aJl];exact tc0 hb lb
 rcases `aJm with⟨hh,e⟩|⟨hh,s,r,R,Q,k⟩
 ·refine `k ⟨hh,J _ [] e (sg0 (`C9) Uv0.cf)⟩
 ·have M:`aJn:=by
   have one:`Z6:=`IA
   refine`aJo;rw[`lb];refine`YI;show (if k2 `cm=k2 `cm then `a (La.cD `b) else _)=_;rw[`aB]
  obtain⟨n',k',g,_⟩:=j40 hp hq R M pg0;have few:=`aJp;obtain⟨o,ho,hr⟩:=S90 hp hq R _ M pg0 Uv0;refine `h ⟨hh,o,ho,?_⟩;cases o with
  | non =>
   obtain⟨F,cf⟩:=hr;rcases k with⟨_,e⟩|⟨q,j,w,z,_⟩
   ·exact⟨O s e (sg0 `d4 cf),`pY⟩
   ·rw[F] at z;cases z
  | val w =>
   obtain⟨cf,q,c,w0,i,F,rfl,h1,h2⟩:=hr;rcases k with⟨z,_⟩|⟨q',j,w',z,hw,e⟩
   ·rw[F] at z;cases z
   ·rw[F] at z
    cases z;have:=vf0 `d4 h2 (yn0 `d4 g hw i h1);subst this;obtain⟨w2,Z,l2⟩:=`yX q `ib;have:=vf0 `d4 h2 (yn0 `d4 g Z i h1);subst this;refine⟨J s _ e (sg0 `d4 cf),?_⟩;show (`_g).length<=4000;rw[`ai,`c'];omega
  | shr a b =>
   obtain⟨i,m,x,y,a0,h1,h2,h3,h4,h5,h6,h7⟩:=hr;obtain⟨a',ha,la⟩:=`yX y `ib;obtain⟨b',hb,lb⟩:=`yX x `_n;have:=vf0 `d4 h6 (yn0 `d4 g ha i h1);subst this;have:=vf0 `d4 h7 (yn0 `d4 g hb m h2);subst this;obtain⟨rd,er⟩:∃rd,`aJr:=by
    rcases k with⟨_,e⟩|⟨q,j,w,_,_,e⟩
    ·exact`lH
    ·exact`lH
   exact⟨Y s rd y x a b er (gk0 `d4 a0 h1 h2 h3 h4 h5) ha hb `g `g,`p,`p⟩
universe Wa
namespace Wa
open DL W K22
open Ta (pa Z6 J6 gl gl1 nl pN k2 y80)
open La (prt zp nI O6)
open Ea (crs wlt pc0)
section
variable{G1 G2 Ga Gb:GSB}{gt:GB}{d:D}{r:`Zr}
theorem s80(h1:`TX)(h2:`xm=r):`aKc=r:=by unfold zp0;rw[h1];exact h2
theorem s30(h1:`kz=`_r):`aKc=`_r:=by unfold zp0;rw[h1]
theorem Xb0(h:`i?=`dv):`aKd=Ga δ:=by unfold ifB;rw[h,`j,`aB]
theorem dk0(h:`i?=`bH):`aKd=Gb δ:=by unfold ifB;rw[h,`j,`cV]
theorem ek0(h:`aHr):uk0 G δ=`a?:=by unfold uk0;rw[h]
theorem W00(h:`hL=`a (d,δ')):w90 gx δ=`_r:=by unfold w90;rw[h];rfl
universe zz
noncomputable def n6(w:`e):D:=`nM
noncomputable def kk0(A:`aG):`dK:=`vn λx=>`go `Dm
noncomputable def kk1(A:`aG):`dK:=`vn λx=>`go `Dn
noncomputable def dd0(S:AW):`n:=`aKe λp=>`m [n6 p.2,nI p.1.2]
noncomputable def dd1(S:AW):`n:=`aKe λp=>`m [n6 p.2,nI p.1.1]
noncomputable def dkN(n0 n1:D):D:=`m [`uX,`I5,n0,n1]
noncomputable def dk(S:AW):D:=dkN (`Qc) (`Qe)
theorem q10(hp:`Q)(hq:`ad){v:`aN}(l1:`sE)(l2:`sF):J6 (`fn) (xr0 `ah0):=by
 unfold La.prt;rcases `iK with⟨i,j,hi,hj,h1,h2,e⟩|⟨e,e3⟩
 ·rw[`d2] at e
  rw[e,h1,h2];have:=pc0 hp hq hi hj (g1:=`ag!) (g2:=`Bx) (δ:=[`as,`ap,.sh (Ea.lnk i),.sh (Ea.lnk j)]) rfl rfl;refine`Z0
  ·refine `so
   rw[`iI];exact o8 (Z2 (this.1 h))
  ·refine `so
   rw[`iI];exact o8 (Z2 (this.2 h))
 ·rw[`d2] at e
  rw[e];have st:ifD `aIg (u6 `aIh p7) p7 `aKf=`a (.nx `aKf):=by
   rw[Z3]
   ·rfl
   ·show ((`_s).bind λt=>if `pz then `a (`cI v.2) else `bH)=_
    rw[`j];cases h1:`v! with
    | false=>rfl
    | true =>
     rw[h1,`IS] at e3;rw[`aB,e3]
  refine`Z0
  ·refine `aKg
   rw[`aKh];exact `OO (La.p10 l1) (La.p10 l2) h
  ·refine `aKg
   rw[`aKh,`OP h];exact `vt (La.p10 l2).le
theorem nw0[`he]:∀{ks:`hf} {ds:`n} {k:κ} {d:D} {i:Nat},ks[i]?=`ec->`aqh->(∀i',i'<i->ks[i']?≠`ec)->`MA=`ar
 | [],_,_,_,_,h,_,_=>`dW
 | `cB,[],_,_,_,_,h,_=>`dW
 | q::ks,x::ds,k,d,0,h1,h2,_=>by
  simp at h1 h2;subst h1 h2;unfold R5;rw[`aB]
 | q::ks,x::ds,k,d,i+1,h1,h2,h3=>by
  unfold R5;rw[`P (λe=>h3 0 `g (`alG))];exact nw0 `ws `q? λi' hi e=>h3 (i'+1) `g `lu
theorem sh0[`he]{ks:`hf}{k:κ}:`aDM:=by
 unfold Q5;rw[`yo];constructor
 ·rintro⟨q,hq,e⟩;rw[← `aDN];exact hq
 ·intro h;exact`aDO
section
variable{p:`f}{n0 n1:D}
theorem p50(h:`y4):dpN 2 δ=`a [`I5,n0,n1]:=by
 unfold dpN;rw[h];rfl
theorem Uz0(h:`y4):O4 2 `vT `bG δ=`a (zw0 1):=by
 unfold O4 z50;rw[`sV];rfl
theorem St0(h:`y4):O4 2 `vT `aM δ=`a (zw0 2):=by
 unfold O4 z50;rw[`sV];rfl
theorem set_0(h:`y4)(n:D):setN 2 1 n δ=`bw 2 (.ow (O5 p (dkN n n1))):=by
 unfold setN;rw[h];rfl
theorem set_1(h:`y4)(n:D):setN 2 2 n δ=`bw 2 (.ow (O5 p (dkN n0 n))):=by
 unfold setN;rw[h];rfl
theorem Xe0{gk gv:GE}{q:U6}{r:D}(h:`aKi)(hk:`Jp)(hv:`Jq)(ha:`Jr)(nv:`yT)(hz:`sH)(hh:q∈ks)(hg:`lY=`fV)(nr:`ZE) :
  `aKj=`ZF:=by
 unfold yf0;rw[Uz0 h,`j,hk,`j,hv,`j,`sV,`j,`aKk,`j];show `Js;rw[ha,`j,`Jt,`aKl,hg,`j,`H nr]
theorem Z00{gk gv:GE}{q:U6}(h:`aKi)(hk:`Jp)(hv:`Jq)(ha:`Jr)(nv:`yT)(hz:`sH)(hh:q∉ks) :
  `aKj=`a (dv,`bw 2 (.ow (O5 p (dkN `I4 n1)))):=by
 unfold yf0;rw[Uz0 h,`j,hk,`j,hv,`j,`sV,`j,`aKk,`j];show `Js;rw[ha,`j,`Jt,`aKm,set_0 h]
theorem Zd0{gk gv:GE}{q:U6}{r:D}(h:`aKn)(hk:`Jp)(hv:`Jq)(ha:`Jr)(nv:`yT)(hz:`sH)(hh:q∈ks)(hg:`lY=`fV)(nr:`ZE) :
  `aKo=`ZF:=by
 unfold yf0;rw[St0 h,`j,hk,`j,hv,`j,`sV,`j,`aKp,`j];show `Js;rw[ha,`j,`Jt,`aKl,hg,`j,`H nr]
theorem Zb0{gk gv:GE}{q:U6}(h:`aKn)(hk:`Jp)(hv:`Jq)(ha:`Jr)(nv:`yT)(hz:`sH)(hh:q∉ks) :
  `aKo=`a (dv,`bw 2 (.ow (O5 p (dkN n0 `I4)))):=by
 unfold yf0;rw[St0 h,`j,hk,`j,hv,`j,`sV,`j,`aKp,`j];show `Js;rw[ha,`j,`Jt,`aKm,set_1 h]
universe zz
universe Wa
namespace Wa
open DL W K22
open Ta (pa Z6 J6 gl gl1 nl pN k2 y80)
open La (prt zp nI O6)
open Ea (crs wlt pc0 lnk)
abbrev dT(ps qs:`Y)(p:`f)(b:D)(m:`e)(v:`aN)(s6 s7 s8:Sl):Ds:=[`as,`ap,`Zs,.sh (`f5),.sh v.1,.sh v.2,s6,s7,s8]
theorem Zj0(hp:`Q)(hq:`ad){v:`aN}(l1:`sE)(l2:`sF)(m:`e)(b:D)(h:`fn):`aKq=`a (`m [`BA,`f5],b):=by
 have zs:`ZZ:=`O
 refine `aKr
 refine s30 ?_;rw[Xb0 (`cK (b:=`c) (by rw[`aKs];exact(`aKt).1 h))];refine `aKu;show `aKv;rw[`BX];rfl
theorem bi0(hp:`Q)(hq:`ad){v:`aN}(l1:`sE)(l2:`sF)(m:`e)(b:D)(h:`f2)(hg:`Z!):`aKq=`a (`w,b)/\`v!=`q:=by
 have ht:`v!=`q:=by
  rcases `iK with⟨i,j,_,_,h1,h2,e⟩|⟨e,e3⟩
  ·rw[`d2,hg] at e;cases e
  ·have h':=h
   unfold La.prt at h';rw[hg] at h';have:=`yH h';rw[← `x] at e3;cases q:`v! with
   | false=>rfl
   | true=>rw[q] at e3;cases e3
 refine⟨`aKr,ht⟩;refine s80 (δ':=`ah_) ?_ (s30 ?_)
 ·rw[dk0 (`cK (b:=`q) (by rw[`aKs];exact(`aKt).2 h))]
  rfl
 ·rw[Xb0]
  ·exact s30 rfl
  ·show `oD (λt=>!t) (`_s)=_
   rw[ht];rfl
noncomputable def ux0(a b:`e):`V:=if `_t then `aIS else `G (`P!<(`vB:Int))
theorem sk0{a b:`e}:ux0 a b=`c↔`yV:=by
 unfold ux0 Ea.wlt
 by_cases h:`_t
 ·rw[`lX]
  constructor
  ·intro q;exact `h ⟨`p,q⟩
  ·rintro (q|⟨_,q⟩)
   ·omega
   ·exact q
 ·rw[`wx,`o_]
  constructor
  ·intro q;exact `I9
  ·rintro (q|⟨q,_⟩)
   ·omega
   ·omega
theorem V10{a:`e}(h:wlt a a):`bB:=by
 rcases h with h|⟨_,h⟩
 ·omega
 ·rw[o10] at h;cases h
theorem jo0:∀a b:`au,`aIT->`hS b a=`q
 | [],[],h=>by rw[HT.vk0] at h;cases h
 | [],`cB,_=>HT.wk0 ..
 | `cB,[],h=>by rw[HT.wk0] at h;cases h
 | x::a,y::b,h=>by
  rw[`os] at h ⊢
  by_cases e:x=y
  ·rw[`iD] at h
   rw[`H `OQ];exact jo0 a b h
  ·rw[`gk] at h
   rw[`P `Oy];have:=W1 h;exact `xb
theorem kp0{a b:`e}(h:`yV):¬wlt b a:=λh'=>by
 rcases h with h|⟨h,h1⟩<;>rcases h' with h'|⟨h',h2⟩
 ·omega
 ·omega
 ·omega
 ·rw[jo0 _ _ h1] at h2;cases h2
theorem Y20(a b:`e):ou0 [`aKw,`aKx]=`a (if ux0 b a=`c then `aKx else `aKw):=by
 have e:∀w:`e,K6 `k9=`a (`aJD):=λw=>by rw[`y5,b50]
 show ((K6 `C5).bind λns=>(K6 `C6).map λms=>_)=_;rw[e a,`j,e b,`cC];unfold ux0
 by_cases h:`_t
 ·rw[`lX,`H `Ju];rfl
 ·rw[`wx,`P (B4 h)];rfl
theorem vg0(hp:`Q)(hq:`ad){a b:Nat}(ha:`Z8)(hb:`IP)(m:`e)(k0 k1 k2':D)(w1 w2:`e)(b1 a1:Nat)(h:¬prt ps qs `ia)
  (h1:∀p,yf0 2 `qL `nJ `Qd (`Jv)=`a (`ah2,dT ps qs p k1 m `ia .un .un .un))
  (h2:∀p,yf0 2 `Dg `vU `Qf (`aKy)=`a (`ah3,dT ps qs p k2' m `ia `Dh .un .un)) :
  W2 k0 [`br,`b',`f5,`q0,`q1]=`a (if `aKz then `w else `m `aKA,k2'):=by
 have zs:`ZZ:=`O
 have l1:Lv `am (`q0):=`h (`h ⟨a,rfl,ha⟩);have l2:Lv `em (`q1):=`h (`h ⟨b,rfl,hb⟩);have pre:∀(p:`f) (r:`Zr),(zp0 (ifB `aIi
   (zp0 `ZN `hh) `hh)
   (zp0 `aIj
   (zp0 `aIk `hh))) `Jw=r ->
   wn0 (`Jv)=r:=λp r hr=>by
  refine s80 (δ':=`Jv) ?_ (s80 (δ':=`Jv) ?_ (s80 (δ':=`aKy) (ek0 ?_) (s80 (δ':=`Di) (ek0 ?_) hr)))
  ·rw[dk0 (`cK (b:=`q) (by rw[o7 (ds:=[`br,`b',`q0,`q1]) rfl];exact(q10 hp hq (v:=`ia) l1 l2).2 h))]
   rfl
  ·rw[dk0 `k8];rfl
  ·unfold V3
   rw[h1 p];rfl
  ·unfold V3
   rw[h2 p];rfl
 have e1:∀(p:`f),ob `ahb `Jw=`a (`_u):=λp=>by
  show `a ((b1:Int)==`u9)=_;congr 1
  by_cases q:b1=b
  ·rw[`yK,q];exact Dd0 _
  ·rw[`IE];exact `pU `g
 have e2:∀(p:`f),ob `ahc `Jw=`a (`aKB):=λp=>by
  show `a ((a1:Int)==`fR)=_;congr 1
  by_cases q:a1=a
  ·rw[`yK,q];exact Dd0 _
  ·rw[`IE];exact `pU `g
 have et:∀(p:`f),N6 `ahd `ahe `Jw=`a (`_u&&`aKB):=λp=>by
  unfold N6;rw[e1 p,e2 p,`j];cases `_u<;>rfl
 by_cases hc:`aKz
 ·rw[`xi]
  refine ot0 rfl λp=>`k ⟨`Di,pre p _ (s30 ?_),rfl⟩
  rw[Xb0 (by rw[et p,`bR hc.1,`bR hc.2];rfl)];exact s30 rfl
 ·rw[`lM]
  refine ot0 rfl λp=>`k ⟨`aKC,pre p _ (s80 (δ':=`Di) ?_ (s80 (δ':=`aKC) (ek0 (j6 (d:=`ah7) ?_)) (`aKu))),rfl⟩
  ·rw[dk0]
   ·rfl
   ·rw[et p]
    congr 1
    by_cases q:b1=b
    ·rw[`yK,`IS,`cE λz=>hc ⟨q,z⟩]
    ·rw[`IE,`Sb]
  ·rw[o7 (ds:=[`ah6,`ah5]) (`v (b8 (`v (by rw[o7 (ds:=[n6 w1]) `ei];show `a (`aQ _)=_;rw[`M]) `ei) `c9) (`v (b8 (`v (by rw[o7 (ds:=[n6 w2]) `ei];show `a (`aQ _)=_;rw[`M]) `ei) `c9) rfl))]
   exact Y20 w1 w2
  ·show `aKv
   rw[b8 (ds:=`aKA) (`v rfl (`v ?_ `ei)) `v3]
   ·rfl
   ·by_cases q:`P?
    ·rw[`xN,`xN];rfl
    ·rw[`xO,`xO];rfl
theorem To0{x:`F}{w:`e}(h1:`sW)(h2:`l'):(`qZ)[i]?=`aKD:=by
 unfold dd0;rw[`a_,`aKE];rfl
theorem Tf0{x:`F}{w:`e}(h1:`sW)(h2:`l'):(`q_)[i]?=`aKF:=by
 unfold dd1;rw[`a_,`aKE];rfl
theorem f40{A:`aG}{a:Nat}:(`go `fR:U6)∈kk0 A↔∃x∈A,x.1=a:=by
 unfold kk0;rw[`Ip];constructor
 ·rintro⟨x,hx,e⟩;exact`aKG
 ·rintro⟨x,hx,e⟩;exact`aKH
theorem fu0{A:`aG}{b:Nat}:(`go `u9:U6)∈kk1 A↔∃x∈A,x.2=b:=by
 unfold kk1;rw[`Ip];constructor
 ·rintro⟨x,hx,e⟩;exact`aKG
 ·rintro⟨x,hx,e⟩;exact`aKH
theorem Rd0(nd:`l!)(cf:`oN){x:`F}{w:`e}(h1:`sW)(h2:`l'):R5 (`v9) (`qZ) (`Jx)=`aKD:=by
 refine nw0 (i:=i) (by unfold kk0;rw[`a_,h1];rfl) (To0 h1 h2) `aKI
 unfold kk0 at e;rw[`a_] at e;cases e1:`Db with
 | none=>rw[e1] at e;cases e
 | some y =>
  rw[e1,`cC] at e;have e:=`fT;injection e with e
  have:=cf y `nR x `ib (`I9);subst this;have:=`aKJ;omega
theorem Pa0(nd:`l!)(cf:`oN){x:`F}{w:`e}(h1:`sW)(h2:`l'):R5 (`v') (`q_) (`Jy)=`aKF:=by
 refine nw0 (i:=i) (by unfold kk1;rw[`a_,h1];rfl) (Tf0 h1 h2) `aKI
 unfold kk1 at e;rw[`a_] at e;cases e1:`Db with
 | none=>rw[e1] at e;cases e
 | some y =>
  rw[e1,`cC] at e;have e:=`fT;injection e with e
  have:=cf y `nR x `ib (`h `g);subst this;have:=`aKJ;omega
theorem Yl0(hl:`kl)(x:`F)(m:`e):dd0 `Jz=`aKK:=by
 unfold dd0;rw[`JA,`aW];rfl
theorem Zm0(hl:`kl)(x:`F)(m:`e):dd1 `Jz=`aKL:=by
 unfold dd1;rw[`JA,`aW];rfl
section
variable{x:`F}{m:`e}
theorem tupS(ps qs:`Y)(p:`f)(k:D)(m:`e)(a b:Nat)(s6:Sl):m7 `ag? `aKM=`a (`m [`f5,nI b]):=`Ys
theorem Xi0(ps qs:`Y)(p:`f)(k:D)(m:`e)(a b:Nat)(s6:Sl):m7 `aha `aKM=`a (`m [`f5,nI a]):=`Ys
theorem iv0(hz:`oO)(nd:`l!)(cf:`oN){w:`e}(h1:`y1)(h2:`l')(e:y.1=x.1)(n1:D)(p:`f) :
  `aKN=`a (`m [`nQ,nI y.2],`ah'):=by
 have zs:`JB:=`O
 refine Xe0 (p:=p) (n1:=n1) (ks:=`v9) (ds:=`qZ) (q:=`Jx) rfl rfl (tupS ..) rfl rfl `aKO (f40.mpr `aKP) ?_ rfl;rw[← e];exact Rd0 nd cf h1 h2
theorem ab0(hz:`oO)(h:∀y∈S.1,y.1≠x.1)(n1:D)(p:`f) :
  `aKN=`a (`ah8,dT ps qs p (dkN (`aP (`k (`v9++[`Jx])) (`aKK)) n1) m `v? .un .un .un):=by
 have zs:`JB:=`O
 exact Z00 (p:=p) (n1:=n1) (ks:=`v9) (ds:=`qZ) (q:=`Jx) rfl rfl (tupS ..) rfl rfl `aKO (λz=>by obtain⟨y,hy,e⟩:=f40.mp z;exact h y hy e)
theorem il0(hz:`oO)(nd:`l!)(cf:`oN){w:`e}(h1:`y1)(h2:`l')(e:y.2=x.2)(n0:D)(p:`f)(s6:Sl) :
  `aKQ=`a (`m [`nQ,nI y.1],`ah!):=by
 have zs:`JB:=`O
 refine Zd0 (p:=p) (n0:=n0) (ks:=`v') (ds:=`q_) (q:=`Jy) rfl rfl (Xi0 ..) rfl rfl `aKR (fu0.mpr `aKP) ?_ rfl;rw[← e];exact Pa0 nd cf h1 h2
theorem a80(hz:`oO)(h:∀y∈S.1,y.2≠x.2)(n0:D)(p:`f)(s6:Sl) :
  `aKQ=`a (`ah9,dT ps qs p (dkN n0 (`aP (`k (`v'++[`Jy])) (`aKL))) m `v? s6 .un .un):=by
 have zs:`JB:=`O
 exact Zb0 (p:=p) (n0:=n0) (ks:=`v') (ds:=`q_) (q:=`Jy) rfl rfl (Xi0 ..) rfl rfl `aKR (λz=>by obtain⟨y,hy,e⟩:=fu0.mp z;exact h y hy e)
theorem Xc0(hp:`Q)(hq:`ad)(hx:`ki)(h:`_v)(hz:`oO)(nd:`l!)(cf:`oN){w:`e}(h1:`sW)(h2:`l'):`_w=`a (`w,dk S):=by
 have:=vg0 hp hq hx.1 hx.2 m `ep `ep `ep w w x.2 x.1 h (λp=>iv0 hz nd cf h1 h2 rfl _ p) (λp=>il0 hz nd cf h1 h2 rfl _ p _);rw[`aKS] at this;exact `x
theorem Zh0(hp:`Q)(hq:`ad)(hx:`ki)(h:`_v)(hz:`oO)(hl:`kl)(hn:∀y∈S.1,`C?):`_w=`a (`w,dk `Jz):=by
 have:=vg0 hp hq hx.1 hx.2 m `ep _ _ m m x.2 x.1 h (λp=>ab0 hz (λy hy e=>hn y hy `AX) _ p) (λp=>a80 hz (λy hy e=>hn y hy (`h e)) _ p _);rw[`aKS] at this;rw[`x];unfold dk;rw[Yl0 hl,Zm0 hl];unfold kk0 kk1;rw[`aW,`aW];rfl
theorem Y00(hp:`Q)(hq:`ad)(hx:`ki)(h:`_v)(hz:`oO)(nd:`l!){w0:`e}(L:Lw w0 c S)(hm:m=`_g)(hxn:`Z?){a:`e}(h1:`y1)(hc:`f4)(hf:`aKT)(h2:`sT) :
  ∃b',`_w=`a (`m [`uW,n6 a,`f5],b'):=by
 have cf:=L.cf;have way:∀{j:Nat} {u:`F},`sX->∃b,`y_:=λ{j u} hu=>by
  have hj:=`aJW;exact⟨_,B6 (by rw[L.len];exact hj)⟩
 have M:∀{j:Nat} {b:`e},`y_->wlt b m:=λ{j b} hb=>by rw[hm];exact L.lt j b hb
 have O:(∃(j:Nat) (u:`F) (b:`e),`sX/\u.1=x.1/\`y_)∨∀u∈S.1,u.1≠x.1:=by
  by_cases q:∃u∈S.1,u.1=x.1
  ·obtain⟨u,hu,e⟩:=q
   obtain⟨j,hj,ej⟩:=`du hu;have:`sX:=`aKU
   obtain⟨b,hb⟩:=way `x;exact `aKV
  ·exact `aKW
 have ex1:(∃(j:Nat) (u:`F) (b:`e),`sX/\u.2=x.2/\`y_)∨∀u∈S.1,u.2≠x.2:=by
  by_cases q:∃u∈S.1,u.2=x.2
  ·obtain⟨u,hu,e⟩:=q
   obtain⟨j,hj,ej⟩:=`du hu;have:`sX:=`aKU
   obtain⟨b,hb⟩:=way `x;exact `aKV
  ·exact `aKW
 have le:∀{j:Nat} {u:`F},`sX->crs u x->i<=j:=λ{j u} hu Y=>by
  by_cases q:i<=j
  ·exact q
  ·exact `y Y (hf j u `g hu)
 rcases O with⟨j0,u0,b0,f1,f2,f3⟩|F
 ·have g0:u0.2≠x.2:=λz=>hxn (by rw[show x=u0 from N4 f2.symm `hF];exact A4 f1)
  have i0:=le f1 (`k f2);rcases ex1 with⟨j1,u1,b1,e1,e2,e3⟩|J
  ·have i1:=le e1 (`h e2)
   have hj:j0≠j1:=λz=>by
    subst z;rw[f1] at e1;cases e1;exact g0 e2
   have:=vg0 hp hq hx.1 hx.2 m `ep `ep `ep b0 b1 u0.2 u1.1 h `aKX `aKY;rw[`aKZ] at this;have hi:i=j0∨i=j1:=by
    rcases hc with hc|hc
    ·have:=`aK_
     subst this;exact `k (`aK0)
    ·have:=`aK1
     subst this;exact `h (`aK2)
   rcases hi with rfl|rfl
   ·rw[h2] at f3
    cases f3;have an:=kp0 (L.up i j1 a b1 `g h2 e3);rw[`aK3] at this;exact`JC
   ·rw[h2] at e3
    cases e3;rw[`H (sk0.mpr (L.up i j0 a b0 `g h2 f3))] at this;exact`JC
  ·have:=vg0 hp hq hx.1 hx.2 m `ep `ep _ b0 m u0.2 x.1 h `aKX (λp=>a80 hz J _ p _)
   rw[`aKZ] at this;have hi:i=j0:=by
    rcases hc with hc|hc
    ·have:=`aK_
     subst this;exact `aK0
    ·exact `aK4
   subst hi;rw[h2] at f3;cases f3;have an:=kp0 (M h2);rw[`aK3] at this;exact`JC
 ·rcases ex1 with⟨j1,u1,b1,e1,e2,e3⟩|J
  ·have g1:u1.1≠x.1:=F u1 `nR
   have:=vg0 hp hq hx.1 hx.2 m `ep _ _ m b1 x.2 u1.1 h (λp=>ab0 hz F _ p) `aKY;rw[`P (λz=>g1 z.2)] at this;have hi:i=j1:=by
    rcases hc with hc|hc
    ·exact `aK5
    ·have:=`aK1
     subst this;exact `aK2
   subst hi;rw[h2] at e3;cases e3;rw[`H (sk0.mpr (M h2))] at this;exact`JC
  ·rcases hc with hc|hc
   ·exact `aK5
   ·exact `aK4
universe zz
universe Wa
namespace Wa
open DL W K22
open Ta (pa Z6 J6 gl gl1 nl pN k2 y80)
open La (prt zp nI O6 vp0 m60)
open Ea (crs wlt pc0 lnk)
noncomputable def ent(p:`s5×`e):D:=`m [n6 p.2,nI p.1.1,nI p.1.2]
noncomputable def ents(S:AW)(h:Nat):`n:=((`v8).drop h).map ent
structure Ok(ps qs:`Y)(S:AW):Prop where
 len:`kl
 nd:`l!
 inr:∀x∈S.1,`ki
 wl:∀w∈S.2,`nz<S.1.length
 hds:∀x∈S.1,`It
theorem Ok.few(hp:`Q)(hq:`ad)(h:`oP):`eo<=3600:=Fa.Xw0 (n:=60) `d0 λx hx=>by
 have:=`aEV;have:=`Yy;have:=hq.len.2;omega
theorem Ok.new(h:`oP){x:`F}{w:`e}(hw:`JD)(hx:`ki)(hn:∀y∈S.1,`C?)(he:`It):Ok ps qs `y0:=by
 refine⟨?_,Ta.fp0.mpr ⟨`d0,λz=>hn x z `gq⟩,`g8,`sr,`g8⟩
 ·rw[`ai,`ai,`dt];rfl
 ·rcases `kg with hy|hy
  ·exact `aEY
  ·rw[`jB];exact hx
 ·rw[`ai,`c']
  rcases `d' hu with hu|hu
  ·have:=h.wl u hu;omega
  ·rw[`ee hu,`ai,`c']
   have:=h.wl w hw;omega
 ·rcases `kg with hy|hy
  ·exact `aE0
  ·rw[`jB];exact he
theorem bp0(hl:`kl){h:Nat}(hh:`JE)(x:`F)(m:`e):`fq `Jz h=`Qk++[`m [`f5,`Dl,`Dj]]:=by
 unfold ents;rw[`JA,List.drop_append_of_le_length `JF,`aW];rfl
theorem ti0(w:`e):`yw (`nQ):=by
 refine`FK
 ·unfold n6
  rw[`y5];exact xz0 _ 49
 ·unfold n6 Pn.nb
  refine Pn.dp0 `vo
  obtain⟨k,_,rfl⟩:=`d1;rfl
theorem Z40{a b:`e}(h:n6 a=n6 b):a=b:=by
 unfold n6 at h;injection h with h
 have:∀(a b:`e),`uN nI=`PN->a=b:=by
  intro a
  induction a with
  | nil=>intro b h;cases b with
   | nil=>rfl
   | cons=>cases h
  | cons x a ih=>intro b h;cases b with
   | nil=>cases h
   | cons y b =>
    rw[`Z,`Z] at h;injection h with h1 h2
    unfold La.nI at h1;injection h1 with h1
    rw[ih b h2,show x=y by omega]
 exact `x a b h
abbrev fS(ps qs:`Y)(S:AW)(l:Sl)(fr:`n)(w:`e)(q:`F)(a b c:Sl):Ds :=
 [`as,`ap,`_x,l,`_y,`wd,`we,`wf,`JG,`_z,a,b,c]
noncomputable def KR:GE:=`aIs
noncomputable def FB:GS:=(u6 `ZQ
 (u6 `ZR
 (u6 (ifD `aIq
 (u6 (Z0 (gv 12))
 p7)
 p7)
 (u6 (ifD (N6 `aIr (ob (o2 KR `C0 W5)))
 (u6 `aIt
 p7)
 p7)
 p7))))
theorem wb0{u:D}(h:l[c]?=`a2):ixD (`o l) (`q2)=`a2:=by
 have hc:=`x1;show atI l `BS=_;rw[`HW,`aA,`bI,h];rfl
theorem Sw0{ga gb:GE}{d y:D}(h1:`eD=`ar)(h2:`eE=`bm)(h3:`ZC):`aHW=`aHT:=by
 unfold O4;rw[h1,`j,h2,`j,h3,`j]
section
variable{S'd:D}{S':AW}{l:Sl}{fr:`n}{w:`e}{v:`aN}{r:D}
theorem rn0(hw:`nz<4000)(h1:`_A)(h2:`_B)(ht:W2 `ep [`br,`b',`jJ,v.1,v.2]=`a (r,S'd))(s11 s12:Sl){R:`py}{rest:GS}
  (hr:`a1 [`as,`ap,.ow S'd,l,`_y,`wd,`we,`wf,`JG,`_z,`aid,.sh (`jJ),.sh r]=R) :
  (u6 `ZQ (u6 `ZR `a1)) (fS ps qs S l fr w q `ic s11 s12)=R:=by
 have zs:`l6:=`O
 refine u5 (δ':=`aie) (j6 (d:=`jJ) ?_) (u5 ?_ hr)
 ·rw[o4 (x:=`nQ) (y:=`o [`q2]) rfl (z40 `ei `f7)]
  show (if `aEP then `a (`gR (`qD++[`q2])) else `b)=_;rw[`M,`yx];unfold n6;rw[`aW];rfl
 ·unfold V3 p20
  show `f6 (`f6 (`a (dk S,`I0)) _) _=_;rw[`j];rw[`v (d:=`br) (ds:=[`b',`jJ,v.1,v.2]) rfl (`v rfl (`v rfl (`v `_C (`v `aK6 rfl))))];rw[`j];show `f6 ((W2 `ep _).map _) _=_;rw[ht];rfl
theorem W70{x:`F}{a:`e}{fr:`n}{s12:Sl}(nd:`l!)(cf:`oN)(e1:`sW)(e2:`sT)(h1:`O1[c]?=`ZW):KR `y6=`a (n6 a):=by
 have dp:dpN 2 `y6=`a [`I5,`Qc,`Qe]:=rfl;have ix:O4 2 `vT `bG `y6=`a (zw0 1):=rfl;have ky:o2 `C_ `aM ixD `y6=`a (`Dl):=by
  rw[o4 (x:=`C3) (y:=`eK) `_C rfl];rfl
 have kn:mj0 2 `qL `PB `y6=`a (`m [n6 a,`Dj]):=by
  unfold mj0;rw[ix,`j,ky,`j,dp,`j];exact Rd0 nd cf e1 e2
 unfold KR plN;rw[Sw0 kn rfl dp];rfl
universe zz
theorem ow0(hp:`Q)(hq:`ad){l:Sl}{h:Nat}{w:`e}{v:`aN}(O:`oP)(hw:`JD)(hh:`JE)(hq':`_D)(h1:`_A)(h2:`_B)(s11 s12:Sl) :
  (`fn->`wb=`a (.rt (oD (`lh `lg)))) /\
  (`f2->(`Z!->`aK7) /\
   ∀x,`sG->`sU ->
    (x∈S.1->`aK7) /\
    (`aJF->∃t11 t12,`wb=`a (.nx (fS ps qs `y0 l (`fq `y0 h) w q `ic t11 t12))) /\
    (`Z?->∀(i:Nat) (y:`F) (a:`e),`y1->`f4->(`aKT)->`sT->`wb=`a (.rt (oD `_a)))):=by
 have zs:`l6:=`O
 have few:=`aK8;have Y:=O.wl w hw;obtain⟨i1,i2⟩:=`aK9;have l1:`sE:=`aK' _ `ib;have l2:`sF:=`aK! _ `_n;refine⟨λhc=>?_,λhc=>⟨λhg=>?_,λx hg L=>?_⟩⟩
 ·refine rn0 `g h1 h2 (Zj0 hp hq l1 l2 _ _ hc) s11 s12 `eg
  rw[`iI];exact `lf
 ·obtain⟨t1,t2⟩:=bi0 hp hq l1 l2 `lg `ep hc hg
  refine⟨_,_,rn0 `g h1 h2 t1 s11 s12 `aK?⟩
  ·change `aLa=_
   rw[`d3];rfl
  ·rw[Z3]
   ·rfl
   ·have e:ob `PA (`Dp)=`_s:=by
     show `aLb;rw[`Qi,`Qj];rfl
    unfold N6;rw[e,`j,t2];rfl
 ·obtain⟨a,b,ha,hb,v1,v2,e⟩:∃a b,`Z8/\`IP/\v.1=`q0/\v.2=`q1/\x=`eq:=by
   rcases `iK with⟨a,b,ha,hb,h1,h2,e⟩|⟨e,_⟩
   ·rw[`d2,hg] at e
    exact⟨a,b,ha,hb,h1,h2,`fT⟩
   ·rw[`d2,hg] at e;cases e
  subst e;have hv:v=`ia:=N4 v1 v2;subst hv;have e1:∀(S':AW) (fr:`n) (s12:Sl),ob `PA (fS ps qs S' l fr w q `ic `wa s12)=`dv:=λS' fr s12=>by
   show `aLb;rw[`Qi,`Qj];rfl
  refine⟨λhx=>?_,λhn=>?_,λhx i y u f1 f2 f3 f4=>?_⟩
  ·obtain⟨i,hi,ei⟩:=`Z3
   have J:`P5=`a `eq:=by rw[`PX,ei]
   have ew:`P3=`a `aLc:=B6 _;refine⟨_,_,rn0 `g h1 h2 (Xc0 hp hq (x:=`eq) `sS hc `g O.nd L.cf J ew) s11 s12 `aK?⟩
   ·change `aLa=_
    rw[`d3];rfl
   ·rw[Z3]
    ·rfl
    ·unfold N6
     rw[e1,`j,`aB];refine `Is;rw[o4 (x:=n6 `aLc) (y:=`jJ) (W70 (x:=`eq) O.nd L.cf J ew h1) rfl];refine Pn.Yp0 (ti0 _) (ti0 _) `dX
     have:=L.lt i _ ew;rw[Z40 z] at this;exact V10 `x
  ·have M:Cf (`Ql):=λx hx y hy F=>by
    rcases `Gz with hx|hx<;>rcases `kg with hy|hy
    ·exact L.cf x hx y hy F
    ·rw[`jB] at F ⊢
     exact `y F (hn x hx)
    ·rw[`r1] at F ⊢
     exact `y (F.imp U2 U2) (hn y hy)
    ·rw[`r1,`jB]
   have he:`Z9=`Z':=by
    unfold La.prt at hc;rw[hg] at hc;exact `yH hc
   have O':=O.new (c:=c) hw (x:=`eq) `sS hn he;have g1:(`Ql)[S.1.length]?=`a `eq:=`aJZ
   have g2:(`v4)[S.1.length]?=`a `lg:=by rw[← `lk,`v6,`nP];rfl
   have Z:(`Qk).length<=3600:=by
    unfold ents;rw[`M,`fC,`dM];omega
   refine⟨_,_,rn0 `g h1 h2 (Zh0 hp hq (x:=`eq) `sS hc `g `lk hn) s11 s12 (u5 (δ':=`aLd) ?_ (u5 (δ':=fS ps qs `Dq l (`fq `Dq h) w q `ic `wa (`qW)) ?_ rfl))⟩
   ·change ifD _ _ _ (`aLd)=_
    rw[`d3];rfl
   ·rw[U4]
    ·refine `sy
     unfold W7 S9;show `oD _ (`f6 (`a `lj) _)=_;rw[`j,b8 (ds:=[`jJ,nI a,nI b]) (`v rfl (`v (by
      rw[o4 (x:=`q0) (y:=`eK) `_C rfl];rfl) (`v (by
      rw[o4 (x:=`q1) (y:=`eK) `aK6 rfl];rfl) rfl))) `v3,`j,`yx,bp0 `lk hh]
     rfl
    ·unfold N6
     rw[e1,`j,`aB];refine `Is;rw[o4 (x:=`jJ) (y:=`jJ) (W70 (S:=`Dq) (x:=`eq) O'.nd M g1 g2 h1) rfl];exact `II (ti0 _).le
  ·obtain⟨b',ht⟩:=Y00 (m:=`C2) hp hq (x:=`eq) `sS hc `g O.nd L rfl hx f1 f2 f3 f4
   refine rn0 `g h1 h2 ht s11 s12 `eg;rw[`iI];exact `lf
theorem Sv0{v:`aN}{x:`F}(l1:Lv n v.1)(l2:Lv m v.2)(hg:`sG):x.1<n/\x.2<m:=by
 rcases `iK with⟨a,b,ha,hb,_,_,e⟩|⟨e,_⟩
 ·rw[`d2,hg] at e
  cases e;exact`sS
 ·rw[`d2,hg] at e;cases e
theorem lu0{l:`a5}{v:α}{z:`a5}(h:`fo=l.drop c):l[c]?=`aL/\z=l.drop `f0:=by
 have hc:`aLe:=by
  by_cases q:`aLe
  ·exact q
  ·rw[`aD9] at h;cases h
 rw[`ui hc] at h;injection h with h1 h2
 exact⟨by rw[`c3 hc,h1],h2⟩
theorem Ut0(hp:`Q)(hq:`ad){l:Sl}{h:Nat}{w:`e}{z:`ca}{r:`iM}(G:`aLf):`oP->`JD->`_D->`JE->z=`_E c->∀s10 s11 s12:Sl,
  (∀S',r=`Jk->`_F/\(∃A B,S'=`_G)/\∃t10 t11 t12,`aLg=`a (.nx (fS ps qs S' l `aLh w q t10 t11 t12))) /\
  (∀o,r=`y3->`aLg=`y7):=by
 have step:∀{c:Nat} {v:`aN} {z:`ca} {S:AW} {s10 s11 s12:Sl} {R:`y8},`wb=R->Y4 `wc FB ((`eQ c (`fo).length).map nI) `Dr=(match R with|`a?=>`aLi|`ha=>`aLi|`hb=>`a?|r=>r):=λ{c v z S s10 s11 s12 R} hR=>by
  rw[`bo,`WE,`Z]
  conv=>lhs;unfold Y4
  rw[← hR];rfl
 have two:∀{c:Nat} {v:`aN} {z:`ca},`fo=`_E c->`_A/\`_B/\z=`_E `f0:=λ{c v z} e=>by
  obtain⟨e1,e2⟩:=lu0 e;obtain⟨f1,f2⟩:=P5.mp e1;exact⟨f1,f2,e2⟩
 induction G with
 | nil=>exact λO hw F hh hz s10 s11 s12=>⟨λS' e=>by cases e;exact⟨O,`aJY,s10,s11,s12,rfl⟩,λo e=>by cases e⟩
 | @val c S v z hc =>
  intro O hw F hh hz s10 s11 s12;obtain⟨f1,f2,f3⟩:=`y9;refine`aLj;cases e;rw[`j0 ((`aih).1 hc)]
 | @flat c S v z r hc hg G ih =>
  intro O hw F hh hz s10 s11 s12;obtain⟨f1,f2,f3⟩:=`y9;obtain⟨t11,t12,e⟩:=(`aii).1 hg;rw[`j0 e];exact `aLk
 | @old c S v z r x hc hg hx L G ih =>
  intro O hw F hh hz s10 s11 s12;obtain⟨f1,f2,f3⟩:=`y9;obtain⟨t11,t12,e⟩:=(`_H).1 hx;rw[`j0 e];exact `aLk
 | @new c S v z r x hc hg hn L G ih =>
  intro O hw F hh hz s10 s11 s12;obtain⟨f1,f2,f3⟩:=`y9;obtain⟨i1,i2⟩:=O.inr q F;have l1:`sE:=`aK' _ (A4 f1);have l2:`sF:=`aK! _ (A4 f2);have he:`It:=by
   have J:=hc;unfold La.prt at J;rw[hg] at J;exact `yH J
  have O':=O.new (c:=c) hw (Sv0 l1 l2 hg) hn he;obtain⟨t11,t12,e⟩:=(`_H).2.1 hn;rw[`j0 e];obtain⟨k1,k2⟩:=ih O' (N1 _ hw) (N1 _ F) (by show h<=(`Da).length;rw[`ai];omega) f3 `ic t11 t12;refine⟨λS' e'=>?_,λo e'=>k2 o e'⟩;obtain⟨m1,⟨A,B,m2⟩,m3⟩:=k1 S' e';exact⟨m1,⟨[x]++A,[`C2]++B,by rw[m2];simp⟩,m3⟩
 | @crs c S v z x y i a hc hg hx g1 g2 g3 g4 L =>
  intro O hw F hh hz s10 s11 s12;obtain⟨f1,f2,f3⟩:=`y9;refine`aLj;cases e;rw[`j0 ((`_H).2.2 hx i y a g1 g2 g3 g4)]
noncomputable def LB:GS:=(u6 `ZO
 (u6 `ZP
 (u6 (M8 `aIp `wc
 FB)
 p7)))
abbrev lS(ps qs:`Y)(S:AW)(l:Sl)(fr:`n)(a b c d e f g h:Sl):Ds:=[`as,`ap,`_x,l,`_y,a,b,c,d,e,f,g,h]
theorem dz0(hp:`Q)(hq:`ad){l:Sl}{h:Nat}{w:`e}{r:`iM}(G:Go ps qs w 0 `cl S r)(O:`oP)(hw:`JD)(hq':`_D)(hh:`JE)(s8 s9 s10 s11 s12:Sl) :
  (∀S',r=`Jk->`_F/\(∃A B,S'=`_G)/\∃t5 t6 t7 t8 t9 t10 t11 t12,`aLl=`a (.nx (lS ps qs S' l `aLh t5 t6 t7 t8 t9 t10 t11 t12))) /\
  (∀o,r=`y3->`aLl=`y7):=by
 obtain⟨i1,i2⟩:=`aK9;obtain⟨a1,a2⟩:=`C';obtain⟨b1,b2⟩:=`C!;have hl:(`k!).length=`JH:=by
  unfold La.zp;rw[`dM,← Ta.pq0 (O.hds q hq'),`p9]
 have F:`JH<=12:=a2.few;obtain⟨k1,k2⟩:=Ut0 hp hq (l:=l) (h:=h) G O hw hq' hh (by rw[`yy]) s10 s11 s12;rw[hl] at k1 k2;have pre:∀(R:`y8) (rest:GS),`a1 `Dr=R->u6 `ZO (u6 `ZP `a1) `aij=R:=λR rest hR=>by
  refine u5 (δ':=lS ps qs S l `lj (`wd) (`we) (`wf) (`JG) s9 s10 s11 s12) (j6 (by
   rw[`aFd];exact `vi _ a2.f)) (u5 (δ':=`aif) (j6 (by
   rw[`aFe];exact `vi _ b2.f)) hR)
 have rn:Q6 `ahm `Dr=`a ((`eQ 0 `JH).map nI):=by
  rw[yb0 (n:=(`JH:Int)) (`v (R30 rfl) rfl) `g `g,Ta.i10];rfl
 refine⟨λS' e=>?_,`aig⟩
 ·obtain⟨m1,m2,t10,t11,t12,m3⟩:=k1 S' e
  exact⟨m1,m2,`wd,`we,`wf,`JG,`_z,t10,t11,t12,pre _ _ (u5 (T8 rn m3) rfl)⟩
 ·exact pre _ _ (o8 (T8 rn (k2 o e)))
noncomputable def lvl(S:AW)(hi n:Nat):`n:=(((`v8).take hi).drop n).map ent
theorem Uf0{hi:Nat}(hl:`kl)(hh:hi<=`eo)(A:`aG)(B:`T (`e))(n:Nat):lvl `_G hi n=`Qm:=by
 unfold lvl;rw[`JA,List.take_append_of_le_length `JF]
theorem lh0(hp:`Q)(hq:`ad){l:Sl}{hi:Nat}:∀(d n:Nat) (S:AW) (o:Out),n+d=hi->`y2->`oP->hi<=`eo->∀s5 s6 s7 s8 s9 s10 s11 s12:Sl,
  (∃S' t5 t6 t7 t8 t9 t10 t11 t12,`_I=`a (.nx (lS ps qs S' l (`fq S' hi) t5 t6 t7 t8 t9 t10 t11 t12))/\All ps qs hi S' o/\`_F/\hi<=S'.1.length) ∨
  (o≠`w/\`_I=`y7)
 | 0,n,S,o,hd,hA,O,hh,s5,s6,s7,s8,s9,s10,s11,s12=>by
  have:n=hi:=`p
  subst this;refine `k ⟨S,s5,s6,s7,s8,s9,s10,s11,s12,?_,hA,O,hh⟩;unfold lvl;rw[`Cj (`ye)];rfl
 | d+1,n,S,o,hd,hA,O,hh,s5,s6,s7,s8,s9,s10,s11,s12=>by
  have hn:n<S.1.length:=`p
  have Z:`Jn:=by rw[`lk];exact hn
  have M:`Qm=ent (S.1[n],S.2[n])::`Qn:=by
   unfold lvl;have hl:n<((`v8).take hi).length:=by rw[`b9,`dM];omega
   rw[`I?,`Z,`sR,`sL]
  have step:∀{R:`y8},LB (lS ps qs S l `aik (.sh (n6 S.2[n])) (.sh (nI S.1[n].1)) (.sh (nI S.1[n].2)) s8 s9 s10 s11 s12)=R->`_I=(match R with|`a?=>`aLm|`ha=>`aLm|`hb=>`a?|r=>r):=λ{R} hR=>by
   rw[M]
   conv=>lhs;unfold Y4
   rw[← hR];rfl
  cases hA with
  | fin z=>omega
  | @go _ _ S' q w _ e1 e2 G hA =>
   obtain⟨_,F⟩:=`t6;obtain⟨_,J⟩:=`b5 e2;obtain⟨m1,⟨A,B,m2⟩,t5,t6,t7,t8,t9,t10,t11,t12,m3⟩:=(`aLn).1 S' rfl;rw[← F,← J] at m3;rw[`j0 m3];have Y:`Qn=lvl S' hi `gT:=by rw[m2,Uf0 `lk hh]
   rw[Y];exact lh0 hp hq d `gT S' o `g hA m1 (by rw[m2];show hi<=(S.1++A).length;rw[`ai];omega) t5 t6 t7 t8 t9 t10 t11 t12
  | @out _ _ q w _ e1 e2 G =>
   obtain⟨_,F⟩:=`t6;obtain⟨_,J⟩:=`b5 e2;have m3:=(`aLn).2 o rfl;rw[← F,← J] at m3;refine `h ⟨`dX,by rw[`j0 m3]⟩;subst z;have:∀{c:Nat} {zz:`ca} {S:AW} {r:`iM},Go ps qs w c zz S r->r≠`h `w:=by
    intro c zz S r G
    induction G with
    | nil=>exact λz=>nomatch z
    | val=>exact λz=>nomatch z
    | flat _ _ _ ih=>exact ih
    | old _ _ _ _ _ ih=>exact ih
    | new _ _ _ _ _ ih=>exact ih
    | crs=>exact λz=>nomatch z
   exact `x G rfl
noncomputable def WT:GB:=`aIo
noncomputable def WB:GS:=(u6 `HI
 (u6 (M8 (ye0 `aF) `Ds
 LB)
 (u6 `aIu
 p7)))
abbrev wS(ps qs:`Y)(S:AW)(lv:`n)(s4 a b c d e f g h:Sl):Ds:=[`as,`ap,`_x,.sh (`o lv),s4,a,b,c,d,e,f,g,h]
theorem Yr0(hl:`kl)(lo:Nat):lvl S `eo lo=`q3:=by
 unfold lvl ents;rw[`HN `JF]
theorem la0(hp:`Q)(hq:`ad):∀(f lo:Nat) (S:AW) (o:Out),All ps qs lo S o->`oP->lo<=`eo->3601 - lo<f->∀s4 s5 s6 s7 s8 s9 s10 s11 s12:Sl,
  (`y'->∃δ',`aLo=`a?) /\
  (o≠`w->`aLo=`y7)
 | 0,lo,S,o,hA,O,hh,hf,s4,s5,s6,s7,s8,s9,s10,s11,s12=>`p
 | f+1,lo,S,o,hA,O,hh,hf,s4,s5,s6,s7,s8,s9,s10,s11,s12=>by
  have few:=`aK8;have zs:`l6:=`O
  have el:`aLp=`_J:=by unfold ents;rw[`M,`fC,`dM,`lk,`p9]
  have ht:WT `wg=`a (`G (`aLq)):=by
   unfold WT ob;rw[o4 (x:=`d (`aLp:Int)) (y:=`c5) rfl rfl,el];show `a (`G (`h2<((`_J:Nat):Int)))=_;congr 1;rw[`oC];omega
  unfold V2;rw[ht]
  by_cases hlt:`aLq
  ·rw[`bR hlt]
   dsimp only;have e0:`fq S `eo=[]:=by
    unfold ents;rw[`Cj `JF];rfl
   have lv:=lh0 hp hq (l:=.sh (`o (`q3))) (hi:=`eo) (`_J) lo S o `g hA O `bn s5 s6 s7 s8 s9 s10 s11 s12;rw[Yr0 `lk,e0] at lv;have st:T5 4 `fh `wg=`a (.nx (lS ps qs S (.sh (`o (`q3))) [] s5 s6 s7 s8 s9 s10 s11 s12)):=rfl;rcases lv with⟨S',t5,t6,t7,t8,t9,M,a0,Y,e,J,O',F⟩|⟨Z,e⟩
   ·have fin:WB `wg=`a (.nx (wS ps qs S' (`fq S' `eo) (.sh (`o (`fq S' `eo))) t5 t6 t7 t8 t9 M a0 Y)):=by
     refine u5 st (u5 `aLr (`sy));rfl
    rw[fin];dsimp only;exact la0 hp hq f `eo S' o J O' F `g _ _ _ _ _ _ _ _ _
   ·have fin:WB `wg=`y7:=u5 st (o8 `aLr)
    rw[fin];exact⟨λz=>`y z Z,`rI⟩
  ·rw[`cE hlt]
   have ho:`y':=by
    cases hA with
    | fin _=>rfl
    | go e1=>have:=`FJ;omega
    | out e1=>have:=`FJ;omega
   exact⟨λ_=>`aq,λz=>`y ho z⟩
theorem se0(hp:`Q)(hq:`ad):(`_o->z20 `jH=`aJ?) /\
  (`aKa->∀o,`aKb->z20 `jH=`Df):=by
 have zs:`l6:=`O
 have p1:=`Jc;have p2:=`Jd;have hh:J6 (`_o) (o2 `ahi `ahj Q8 `JI):=pc0 hp hq p1 p2 (g1:=`aeF) (g2:=`ahh) (δ:=`Qo) rfl rfl;refine⟨λh=>`so,λh o hA=>?_⟩
 ·rw[U4 (`cK (hh.1 h))]
  exact o8 (Z2 (`aFm))
 ·have one:`Z6:=`IA
  have O:Ok ps qs `li:=⟨rfl,`C9,`ahQ,λw hw=>by rw[`ee hw];exact Nat.zero_lt_one,λx hx=>by rw[`lb];exact h⟩;obtain⟨k1,k2⟩:=la0 hp hq 100000 0 `li o hA O `S `g .un .un .un .un .un .un .un .un .un;have F:wq0 2 `sO `sO `JI=`a (.nx [`as,`ap,.ow (dk `li),.un,.un,.un,.un,.un,.un,.un,.un,.un,.un]):=by
   have e:xn0 `bG `ahk `JI=`a (`aP (`k [`k 0]) [`m `aLs]):=by
    unfold xn0;rw[b8 (ds:=`aLs) (`v `Cm `ei) `c9];rfl
   unfold wq0;rw[e,`j,`j];rfl
  have pre:∀{R:`y8} {rest:GS},`a1 (wS ps qs `li (`fq `li 0) .un .un .un .un .un .un .un .un .un)=R->(u6 (ifD `aIl (u6 `aIm p7) p7)
    (u6 (wq0 2 `sO `sO)
    (u6 `aIn `a1))) `JI=R:=λ{R rest} hr=>by
   refine u5 (δ':=`Qo) ?_ (u5 F (u5 (j6 (d:=`o (`fq `li 0)) ?_) hr))
   ·rw[Z3 (`cK (hh.2 `XR))];rfl
   ·exact z40 (`v (b8 (`v `Cm `no) `v3) rfl) `f7
  by_cases ho:`y'
  ·obtain⟨δ',e⟩:=k1 ho
   rw[ho];exact j4 rfl (pre (u5 e (`lf)))
  ·exact j4 rfl (pre (o8 (k2 ho)))
universe Wa
namespace Wa
open DL W K22
open Ta (pa Z6 J6 gl gl1 nl pN k2 y80)
open La (prt zp nI O6 vp0)
open Ea (crs wlt pc0 lnk)
open Ua (Met dr Eqw)
noncomputable def sw(A:`aG):`aG:=`vn `wh
theorem oi0{x:`F}:crs `nS `JJ↔`jF:=by
 unfold Ea.crs;exact Or.comm
noncomputable def lkI:D->`xa
 | `HD=>`Ly
 | _=>`b
theorem dn0(v:`aN):`eR=(lkI v.1).bind λi=>(lkI v.2).map `_K:=by
 obtain⟨a,b⟩:=v;show gl1 `eq=(lkI a).bind λi=>(lkI b).map `_K
 by_cases h:∃x i y j,a=`WQ/\b=`m [y,`cY]
 ·obtain⟨x,i,y,j,rfl,rfl⟩:=h
  rfl
 ·have e1:gl1 `eq=`b:=by
   unfold Ta.gl1;split
   ·rename_i x i y j q
    injection q with q1 q2
    exact `y ⟨_,_,_,_,q1,q2⟩ h
   ·rfl
  rw[e1];cases ea:lkI a with
  | none=>rfl
  | some i =>
   cases eb:lkI b with
   | none=>rfl
   | some j =>
    exfalso;have f:∀{d:D} {k:Nat},lkI d=`ec->∃x i,d=`WQ:=λ{d k} e=>by
     unfold lkI at e;split at e
     ·exact`aBz
     ·cases e
    obtain⟨x,i,rfl⟩:=f ea;obtain⟨y,j,rfl⟩:=f eb;exact h ⟨x,i,y,j,rfl,rfl⟩
theorem rv0(v:`aN):gl1 v.swap=(`eR).map `wh:=by
 rw[dn0,dn0];obtain⟨a,b⟩:=v;show (lkI b).bind (λi=>(lkI a).map `_K)=_;cases lkI a<;>cases lkI b<;>rfl
theorem q70{v:`aN}:prt qs ps v.swap↔`fn:=by
 unfold La.prt;rw[rv0];cases `eR with
 | none=>exact ne_comm
 | some x=>exact ne_comm
theorem W90(ps qs:`Y)(q:`F):zp qs ps q.swap=(`k!).map `wh:=by
 unfold La.zp;have:∀(a b:`n),b.zip a=`aFz `wh:=by
  intro a
  induction a with
  | nil=>intro b;cases b<;>rfl
  | cons x a ih=>intro b;cases b with
   | nil=>rfl
   | cons y b=>rw[`et,`et,`Z,ih b];rfl
 exact `x _ _
theorem q60{A:`aG}{x:`F}:`nS∈sw A↔x∈A:=by
 unfold sw;rw[`Ip];constructor
 ·rintro⟨y,hy,e⟩
  have:y=x:=by rw[← `gZ y,e,`gZ]
  rw[← `x];exact hy
 ·intro h;exact⟨x,h,rfl⟩
theorem oe0{A:`aG}{x:`F}:(sw A)[i]?=`a `nS↔`vY:=by
 unfold sw;rw[`a_];cases A[i]? with
 | none=>simp
 | some y =>
  simp only[`cC,`aCP];constructor
  ·intro e
   rw[← `gZ y,e,`gZ]
  ·intro e;rw[e]
theorem Qh0{A:`aG}(h:Cf A):Cf (sw A):=λx hx y hy e=>by
 have F:`nS∈A:=`Qp (by rw[`gZ];exact hx);have J:`JJ∈A:=`aLt;have:=h _ F _ J (oi0.mpr e);rw[← `gZ x,`x,`gZ]
noncomputable def swR:`iM->`iM
 | `k S=>`k `JK
 | `y3=>`y3
theorem eb0{w:`e}(L:`sU):Lw w c `JK:=⟨by rw[L.len];unfold sw;rw[`M],Qh0 L.cf,L.up,L.lt⟩
theorem Xp0{w:`e}{z:`ca}{r:`iM}(G:`aLf):Go qs ps w c `aLu `JK (swR r):=by
 induction G with
 | nil=>exact `L
 | val h=>exact `lh (q70.mpr h)
 | flat h g _ ih=>exact .flat `JL `JM ih
 | old h g hx L _ ih=>exact .old `JL `JM (q60.mpr hx) `_L ih
 | @new c S v z r x h g hn L _ ih =>
  refine .new (x:=`nS) `JL `JM (λy hy hc=>?_) `_L ?_
  ·have F:`JJ∈S.1:=`aLt
   refine hn _ F ?_;rw[← oi0,`gZ];exact hc
  ·have e:`aLv=sw (`Da):=by unfold sw;rw[`aW];rfl
   show Go qs ps w `f0 `aLu (`aLv,`v4) _;rw[e];exact ih
 | @crs c S v z x y i a h g hx h1 h2 h3 h4 L =>
  refine .crs (x:=`nS) (y:=`JJ) (i:=i) `JL `JM (λz=>hx (`Qp z)) (oe0.mpr h1) (oi0.mpr h2) (λi' y' hi e hc=>?_) h4 `_L;have e':`Db=`a y'.swap:=oe0.mp (by rw[`gZ];exact e);refine h3 i' _ hi e' ?_;rw[← oi0,`gZ];exact hc
theorem R60{o:Out}(h:`y2):All qs ps n `JK o:=by
 induction h with
 | fin e=>exact .fin (by show (sw _).length=_;unfold sw;rw[`M];exact e)
 | go e1 e2 G _ ih =>
  refine .go (oe0.mpr e1) e2 ?_ ih;rw[W90];exact Xp0 G
 | out e1 e2 G =>
  refine .out (oe0.mpr e1) e2 ?_;rw[W90];exact Xp0 G
theorem Yt0(hp:`Q)(hq:`ad):∃o,`_q/\`_p/\W3 `aLw=`Df/\z20 `jH=`Df:=by
 rcases qg0 hp hq with⟨h,e⟩|⟨h,o,hA,e,sm⟩
 ·refine⟨`lh [],`hE,e,?_,(se0 hp hq).1 h⟩
  rcases qg0 hq hp with⟨_,e'⟩|⟨h',_⟩
  ·exact e'
  ·exact `y h'.symm h
 ·refine⟨o,sm,e,?_,(se0 hp hq).2 h o hA⟩
  rcases qg0 hq hp with⟨h',_⟩|⟨h',o',F,e',_⟩
  ·exact `y `Ju h'
  ·have f1:=`aLx `Ju o' F
   have f2:=`aLx `Ju o (R60 hA);rw[f1] at f2;rw[e',Option.some.inj f2]
theorem ez0(o:Out):`yw `De:=by
 have st:∀x:Str,`vG `jU=`c:=λx=>Pn.zq0 x
 cases o with
 | non=>exact`eA
 | val w =>
  refine`aLy
  ·rcases `oQ with rfl|hd
   ·rfl
   ·rw[`sY];rw[`y5];exact `_M
  ·rcases `oQ with rfl|hd
   ·exact st _
   ·rw[`sY];exact(ti0 w).nb
 | shr a b =>
  refine`aLy
  ·rcases `oQ with rfl|hd
   ·rfl
   ·rcases `oQ with rfl|hd
    ·rw[`y5];exact `_M
    ·rw[`sY];rw[`y5];exact `_M
  ·rcases `oQ with rfl|hd
   ·exact st _
   ·rcases `oQ with rfl|hd
    ·exact(ti0 a).nb
    ·rw[`sY];exact(ti0 b).nb
theorem ie0(w:`e)(h:`yE):xo0 `oR=`jM:=by
 have zs:`l6:=`O
 have key:∀w:`e,V1 `bb `Qq `I (R8 1 [] `JN) `k9=`jK/\∀δ:Ds,`aLz:=by
  intro w;have:∀(w:`e) (δ:Ds),`aLz:=by
   intro w δ
   induction w with
   | nil=>rfl
   | cons k w ih =>
    rw[`Z];unfold V1;exact ih
  exact⟨`x w _,`x w⟩
 refine j4 rfl (u5 (δ':=`JN) ?_ `cz)
 ·change ifD _ _ _ `JN=_
  rw[`d3];rfl
 ·change o2 _ _ _ `JN=_
  rw[o4 (x:=`c5) (y:=`c5) (by
   rw[o7 (ds:=[`t2]) (`v (U3 (items:=`qD) rfl `fl (key w).1) rfl)];rfl) rfl]
  rfl
theorem m80{ge:GE}:∀items:`n,(∀d∈`aK,`aLA=`jM)->V1 `bb noT ge `Qr `aK=`a (items.map `aC_)
 | [],_=>rfl
 | `av,h=>by
  unfold V1;show (match `aLA with|`b=>`b|`bm=>(V1 `bb noT ge `Qr ds).map (`TR))=_;rw[`HL,m80 ds `afH];rfl
theorem Uo0(o:Out)(h:`_q):G3 [`gY]=`jM:=by
 have zs:`l6:=`O
 cases o with
 | non=>rfl
 | val w =>
  refine j4 rfl (u5 (δ':=`_N) ?_ (u5 (δ':=`_N) ?_ `cz))
  ·change ifD _ _ _ `_N=_
   rw[`d3];rfl
  ·rw[`d3];rfl
  ·rw[o7 (ds:=[`o [`i7]]) (`v (U3 (items:=`oR) (out:=[`i7]) rfl `f7 ?_) rfl)]
   ·rfl
   ·refine `aLB
    rw[`sY,o7 (ds:=`oR) rfl,ie0 w h]
 | shr a b =>
  refine j4 rfl (u5 (δ':=`_O) ?_ (u5 (δ':=`_O) ?_ `cz))
  ·change ifD _ _ _ `_O=_
   rw[`d3];rfl
  ·rw[`d3];rfl
  ·rw[o7 (ds:=[`o `aLC]) (`v (U3 (items:=`y!) (out:=`aLC) rfl `c9 ?_) rfl)]
   ·rfl
   ·refine `aLB
    rcases `oQ with rfl|hd
    ·rw[o7 (ds:=[`C7]) rfl,ie0 a h.1]
    ·rw[`sY,o7 (ds:=[`C8]) rfl,ie0 b h.2]
universe Wa
namespace Wa
open DL W K22
open Ta (pa Z6 J6)
open La (nI)
open Ua (Met dr Eqw)
open Ea (lnk)
noncomputable def ay0:Out->`V
 | `w=>`c
 | _=>`q
section
variable{jk:Nat}{f:`J}{gA:GA}{g1 g2 g3:GB}{gK gz gR:GE}{d kd dz r:D}
theorem Wx0(hA:`lQ)(ht:`Hm)(hi:`xT)(hf:`oi)(h1:`aLD)(h2:`aLE)(h3:`Zi=`bH):`aLF=`aGZ:=by
 unfold o30;rw[hA,`j,`H ⟨ht,hi⟩,hf,`j,h1,`j,`cV,h2,`j,`cV,h3,`j,`cV]
theorem j00(hA:`lQ)(ht:`Hm)(hi:`xT)(hf:`oi)(h1:`aLD)(h2:`aLE)(h3:`Zi=`dv)(hK:gK `gV=`a kd)(hl:`aGW)(hz:`aGX=`a dz)(hfl:`aGY)(hR:gR (`Zj)=`fV):`aLF=`a (.rt r):=by
 unfold o30;rw[hA,`j,`H ⟨ht,hi⟩,hf,`j,h1,`j,`cV,h2,`j,`cV,h3,`j,`aB,hK,`j,`lV,hz,`j,`H hfl,hR];rfl
universe zz
theorem ga0(h:`Q):`jj `ck=`c:=by
 unfold wd;exact Fa.zx0 λd hd=>by
  obtain⟨p,hp,rfl⟩:=`d1;exact Fa.Wm0 p λv hv=>Fa.gv0 ((`X2).lv v hv)
theorem X70(hp:`Q)(hq:`ad){s:`e}(mp:`dA)(mq:`IL){o:Out}(e:`_p):`y'↔`IM:=by
 rcases Ea.cg0 hp hq with⟨e',A,hA,hok,J⟩|⟨w,e',hw,hx⟩|⟨a,b,e',F⟩
 ·have e':`PT:=e'
  rw[e] at e';have e':=A2 e';have ho:`y':=by cases o with
   | non=>rfl
   | val w=>cases e'
   | shr a b=>cases e'
  exact⟨λ_=>Ea.Zp0 hp hq mp mq hA hok J,λ_=>ho⟩
 ·have e':`PQ:=e'
  rw[e] at e';have e':=A2 e';refine`aLG;obtain⟨n1,n2⟩:=`aLH;obtain⟨x,hx,hb⟩:=hx;exact `y (n1 x hx) hb
 ·have e':`PW:=e'
  rw[e] at e';have e':=A2 e';refine`aLG;obtain⟨n1,n2⟩:=`aLH;obtain⟨x,y,M,hc,_,_,_,_,_,rx,ry⟩:=F;exact `y hc (n2 x y rx ry M)
theorem ij0(hp:`Q)(hq:`ad):yr0 `jH=`jM:=by
 have zs:`l6:=`O
 obtain⟨o,sm,e1,e2,e3⟩:=Yt0 hp hq;obtain⟨r,mp⟩:=Ua.ci0 hp;obtain⟨s,mq⟩:=Ua.ci0 hq;have hE:=X70 hp hq mp mq e1;have t:=Ua.Ua0 (Ua.oa0 hp mp).1 (Ua.oa0 hq mq).1;obtain⟨δ1,hδ1⟩:∃δ1:Ds,δ1=[`as,`ap,`JO,`JO,.un]:=`aq;have root:o2 `aho `ahp W5 δ1=`aLI:=by
  rw[hδ1,o4 (x:=`O?) (y:=`aF8) (by rw[`aF6];exact Ua.gz0 hp mp) (by rw[o7 (ds:=[`b']) rfl];exact Ua.gz0 hq mq)];cases o with
  | non=>exact t.1 (hE.mp rfl)
  | val w=>exact t.2 λw=>nomatch hE.mpr w
  | shr a b=>exact t.2 λw=>nomatch hE.mpr w
 have F:o2 `aF `fY nc0 δ1=`aLI:=by
  rw[hδ1,o4 (x:=`gY) (y:=`w) rfl rfl];cases o<;>rfl
 have g1:J5 (J3 (ob `ZS)) `aIw δ1=`bH:=by
  have k:ob `ZS δ1=`dv:=`cK (by rw[hδ1,o7 (ds:=[`gY]) rfl];exact Uo0 o sm);have q:ob `ahq δ1=`bH:=`cK (by
   rw[o4 F root];cases ay0 o<;>rfl)
  unfold J5 J3;rw[k,q];rfl
 have g2:J5 `aIx `aIy δ1=`bH:=by
  have k:ob `ahr δ1=`bH:=`cK (by rw[hδ1,o4 (x:=`gY) (y:=`gY) rfl rfl];exact `vt `_P);have q:ob `ahs δ1=`bH:=`cK (by
   rw[hδ1,o4 (x:=`gY) (y:=`gY) (by rw[o7 (ds:=`aLw) rfl];exact e2) rfl];exact `vt `_P)
  unfold J5;rw[k,q];rfl
 have tr:trees `jH=`c:=by
  unfold trees trees trees;rw[ga0 hp,ga0 hq];rfl
 have st:m8 `eN (oA `qN z20) (W9 wd0 `jH)=`a (.nx [`as,`ap,`JO,.un,.un]):=j6 (by rw[`_Q];exact e3);rw[hδ1] at g1 g2;have fin:∀kd:D,kd=`gY->o2 `aIz `cj W5 [`as,`ap,`JO,.un,.sh kd]=`jM:=λkd hk=>by
  subst hk;rw[o4 (x:=`gY) (y:=`gY) (by rw[`_Q];exact e1) rfl];exact `II `_P
 cases o with
 | non=>exact j4 rfl (u5 st (Wx0 (i:=3) (jk:=4) rfl tr `_R e1 g1 g2 `k8))
 | val w =>
  have fl:`na `k9=`c:=by
   unfold flats;rw[`jV];intro d hd;obtain⟨k,_,rfl⟩:=`d1;rfl
  have hw:`yE:=sm;refine j4 rfl (u5 st (j00 (i:=3) (jk:=4) (kd:=`ail) (dz:=`c5) rfl tr `_R e1 g1 g2 `k8 ?_ ?_ rfl rfl `aLJ))
  ·rw[o4 (x:=`m [`BA]) (y:=`m `oR) `_S (by
    rw[o7 (ds:=[`o `oR]) (`v (by
     unfold p80;rw[U3 (items:=`oR) (out:=`oR) rfl `f7 rfl,`j];show (if ([`gR `k9].all ja0)=`c then _ else _)=_;rw[`H (by show (`na `k9&&`c)=`c;rw[fl];rfl)]) rfl)]
    rfl)]
   exact `y? (by show 1+1<=`W;omega)
  ·show `G (`ags<sizeLine)=`c
   rw[`M];exact L3 `g
 | shr a b =>
  have fl:∀w:`e,`na `k9=`c:=λw=>by
   unfold flats;rw[`jV];intro d hd;obtain⟨k,_,rfl⟩:=`d1;rfl
  have hb:`PV:=sm.2;refine j4 rfl (u5 st (j00 (i:=3) (jk:=4) (kd:=`aim) (dz:=`c5) rfl tr `_R e1 g1 g2 `k8 ?_ ?_ rfl rfl `aLJ))
  ·rw[o4 (x:=`m [`uW]) (y:=`m `y!) `_S (by
    rw[o7 (ds:=[`o `y!]) (`v (by
     unfold p80;rw[U3 (items:=`y!) (out:=`y!) rfl `c9 rfl,`j];show (if ([`gR `C5,`gR `C6].all ja0)=`c then _ else _)=_;rw[`H (by show (`na `C5&&(`na `C6&&`c))=`c;rw[fl,fl];rfl)]) rfl)]
    rfl)]
   exact `y? (by show 1+2<=`W;omega)
  ·show `G ((`PN).length<sizeLine)=`c
   rw[`M];exact L3 `g
universe Wa
namespace Wa
open DL W K22
open Ta (pa Z6 J6)
open La (nI)
open Ea (lnk)
theorem d00{p:Pt}(h:`dz)(l:n<=m):Pw m p:=⟨`k?,λv hv=>(`yr).mono l⟩
theorem e60{ws:`Y}{k:Nat}(hk:k<ws.length)(h60:`n9<=60)(pw:Pw n ws[k]){vs:`n}(hvs:`cf=ws[k].vals.length)(s1 s4 s5 s6:Sl)(gi:ixD (wd ws) `u'=`a ws[k].d) :
  o2 `afu `afv d9 `JP=`a (wd (ws.set k (`aLK))):=by
 have zs:`kh:=`O
 generalize hp':`aLK=p';have q1:U5 `I V8 `N3 `JP=`a (`m (`aLL)):=by
  show `a (`fE (`hO (ws.map `dP) `b `ahW))=_;rw[`Ja,`sw]
 have q2:m7 `N4 `JP=`a (`m [p'.d]):=by
  refine b8 (`v ?_ rfl) `f7;rw[o7 (ds:=[ws[k].d,`hY]) (`v (by rw[o4 (x:=wd ws) (y:=`dL) rfl rfl];exact gi) rfl),← hp'];exact Gw.tm0 _ pw.f _ (`k hvs)
 have q3:U5 `I `N5 V8 `JP=`a (`aLM):=by
  show `a (`fE (`hO (ws.map `dP) (`a `u5) `b))=_;rw[show `u5=((k+1:Nat):Int) from rfl,Ta.g50,`aDF]
 rw[o4 (x:=`m (`aLL++[p'.d])) (y:=`aLM) (by
  rw[o4 q1 q2];exact `y? (by rw[`M,`b9];show _+1<=_;omega)) q3,`y? (by simp only[`ai,`M,`b9,`fC,`c'];omega)]
 unfold wd;rw[`aEs,`H hk,`aW,`Z,`eP];rfl
theorem Y10(h:`ad)(hj:j<qs.length)(δ:Ds)(h0:δ[0]?=`a (`ap))(h5:δ[5]?=`a (`jL)):∃L:`e,V5 1 `CV `Pw `bb `CW `I δ=`a (`Dv)/\(∀i∈L,`_T)/\`H'/\`h6<=60:=by
 have zs:`kh:=`O
 have hl:=`dt;have hd:R8 1 `CV δ=`Qt:=by
  unfold R8;rw[`Z,`Z,`fW,h0,h5];rfl
 have J:∀i,`_T->∃b,`aLN=`ed/\(i=j->`t3):=λi hi=>by
  obtain⟨a1,a2⟩:=Z6 h hi;obtain⟨b1,b2⟩:=Z6 h hj;have e:o2 `ag5 `ag6 W5 `ain=W5 (`_U) (`_V) :=
   o4 (x:=`_U) (y:=`_V) (by rw[o7 (ds:=[(pa qs i).d]) (`v (by rw[o4 (x:=`b') (y:=`dN) rfl rfl];exact a1) rfl)];exact `Jh a2) (by rw[o7 (ds:=[`Qs]) rfl];exact `Jh b2)
  by_cases q:`_U=`_V
  ·exact⟨`c,`cK (by rw[e,q];exact `II `agr),`rI⟩
  ·exact⟨`q,`cK (by rw[e];exact Pn.Yp0 `Cs `Cs q),λz=>`y (`aaV) q⟩
 have key:∀I:`e,(∀i∈I,`_T)->∃L:`e,`_W=`a (`h! nI)/\(∀i∈L,i∈I)/\(j∈I->j∈L)/\`h6<=I.length:=by
  intro I
  induction I with
  | nil=>exact λ_=>⟨[],rfl,λi hi=>hi,λhi=>hi,`hl⟩
  | cons i I ih =>
   intro hI;obtain⟨L,e,h1,h2,h3⟩:=ih λk hk=>hI k (A8 _ hk)
   obtain⟨b,eb,hb⟩:=J i (hI i B0);have un:V1 `bb `CW `I `Qt ((i::I).map nI)=(match `aLN with
     | `b=>`b
     | `bH=>`_W
     | `dv=>(`_W).map (λr=>nI i::r)):=by
    rw[`Z]
    conv=>lhs;unfold V1
    rfl
   rw[un,eb];cases b with
   | true =>
    refine⟨i::L,?_,`HS,λF=>?_,by rw[`bo,`bo];omega⟩
    ·dsimp only
     rw[e];rfl
    ·rcases `c_ hk with rfl|hk
     ·exact B0
     ·exact `aLO
    ·rcases `c_ F with rfl|F
     ·exact B0
     ·exact A8 _ (h2 F)
   | false =>
    refine⟨L,e,λk hk=>`aLO,λF=>?_,`ap_⟩;rcases `c_ F with rfl|F
    ·have:=hb rfl;cases `x
    ·exact h2 F
 obtain⟨L,e,h1,h2,h3⟩:=key (`aLP) λi hi=>by
  rw[`JQ] at hi;omega
 rw[`aLQ] at h3;refine⟨L,U3 (items:=(`aLP).map nI) ?_ (by rw[`M,`aLQ];omega) (by rw[hd];exact e),`sq,`Yg `dX,`p⟩
 ·rw[yb0 (n:=`Cl) (`v (`Qu qs _ (by unfold gv;rw[h0])) rfl) `g `g,Ta.i10]
  rfl
 ·have:=h1 i hi
  rw[`JQ] at this;omega
 ·have:=h2 (by rw[`JQ];omega)
  rw[z] at this;cases `x
theorem az0(h:`ad)(x:Int):∃rs,J1 `Ck=`agk/\Web rs:=by
 have zs:`kh:=`O
 have hl:=`dt;have nn:∀(y:Int) (n:Nat),0<n->0<=y%(n:Int)/\y%(n:Int)<n:=λy n h=>⟨`l4,`oz⟩
 obtain⟨k,ek,hk⟩:∃a:Nat,`vk=`fR/\a<qs.length:=⟨`aEc,`aLR,`aLR⟩;obtain⟨e1,_,pw⟩:=`qv hk;have few:=pw.few;have s1:m8 `eN `N_ `aLS=`a (.nx `aLT):=j6 (by
  rw[o4 (x:=`ek) (y:=`Id) rfl `_X,`oF,ek])
 have s2:T5 3 `N0 `aLT=`a (.nx `aLU):=by
  unfold T5;rw[o7 (ds:=[`yz]) (`v (by rw[`aEf];exact e1) rfl),show j5 [`yz]=`aEg from `vi _ pw.f];rfl
 obtain⟨m,hm⟩:∃m:Nat,m=max 1 `nx:=`aq;have Y:0<m:=`p
 obtain⟨a,ea,ha⟩:∃a:Nat,`aLV=`fR/\a<m:=⟨(`aLV).toNat,`aLW,`aLW⟩;have s3:m8 `fp `ag0 `aLU=`a (.nx `sZ):=j6 (by
  rw[o4 (x:=`aEn) (y:=`np) (by rw[`aEp];exact `sx) (by
   rw[o7 (ds:=[`eK,`aEo]) `no];show `a (`aQ (if (`nx:Int) > 1 then `agl else 1))=_;congr 2;split<;>omega),`oF,ea])
 have t6:yp0 `N2 `sZ=`aEi:=by
  show ob `N1 [`ap,`a6,`bk,`Yf,`ej,.un,.un]=_;exact `cK (by rw[`aEj];exact Ta.eq_nil `ny)
 by_cases h0:`OD
 ·refine`_Y
  rw[U4 (by unfold J5;rw[t6,`HU];rfl)];exact `lf
 ·have a2:`aEk:=`Yg h0
  have J:a<qs[k].vals.length:=`p
  have hv:=`ny _ (C0 J);have ev:∀s5 s6:Sl,xw0 `Pu [`ap,`a6,`bk,`nw,`ej,s5,s6]=`a `Qv:=λs5 s6=>by
   refine gy0 ?_ (Fa.gv0 hv);show o2 `aF `cj ixD [`ap,`a6,`bk,`Yf,`ej,_,_]=_;rw[o4 (x:=`vm) (y:=`k0) rfl rfl];exact wb0 (B6 J)
  have tt:∀b,`aLX=b->J5 `Pv `ag3 `sZ=`a (!b):=λb hb=>by
   have q:ob `ag2 `sZ=`ed:=by
    show `f6 (`oD _ (xw0 `Pu _)) _=_;rw[ev];show `a (`aLX)=_;rw[hb]
   unfold J5 J3;rw[t6,`HV,q];rfl
  rcases hv with hv|⟨z,hv⟩|⟨j,hv,hj⟩
  ·refine`_Y
   rw[`aLY];exact `lf
  ·refine`_Y
   rw[`aLY];exact `lf
  ·obtain⟨b1,b2⟩:=Z6 h hj
   obtain⟨L,eL,hL,Z,a0⟩:=Y10 h hj `aLZ rfl rfl;have s5:m8 `fi `ag4 `sZ=`a (.nx `aLZ):=j6 (by
    rw[o4 (x:=`b') (y:=`fZ) rfl (by rw[o4 (x:=`Qv) (y:=`eK) (ev _ _) rfl,hv];rfl)];exact b1)
   have pre:∀{R:`y8} {rest:GS},`a1 `JR=R->u6 `W4 (u6 `W5 (u6 `aIa
     (u6 (ifD `aIb (u6 `sn p7) p7) (u6 `aIc
     (u6 `aId `a1))))) `aLS=R:=λ{R rest} hr=>by
    refine u5 s1 (u5 s2 (u5 s3 (u5 (δ':=`sZ) ?_ (u5 s5 (u5 (j6 eL) hr)))));rw[Z3 (tt `c `aio)];rfl
   have tw:∃b,N6 `aIe `aIf `JR=`ed/\(`t3->`em<60):=by
    have q1:ob `ag9 `JR=`a `_Z:=`cK (by
     rw[o4 (x:=`d (x/240%2)) (y:=`eK) (by rw[o4 (x:=`aEq) (y:=`kZ) (by rw[`aEr];exact `sx) rfl];exact `JS) rfl];rfl)
    have q2:ob `ag' `JR=`a (`aL_):=`cK (by
     rw[o4 (x:=`Id) (y:=`jr) `_X rfl];rfl)
    refine⟨`_Z&&`aL_,?_,λhb=>?_⟩
    ·unfold N6
     rw[q1,q2,`j];cases `_Z<;>rfl
    ·rw[`bs,`o_] at hb
     omega
   obtain⟨b,eb,hb⟩:=tw;cases b with
   | true =>
    have a1:=hb rfl;have F:(`JT).length=`nx:=n9;have O:k<(`oS).length:=`aCF
    have M:(`oS)[k]=`Cn:=List.getElem_append_left hk;have hW:Web ((`oS).set k (`jy `Cn (`JT))):=by
     refine⟨by rw[`jD,`ai,`c'];omega,`lx⟩;rw[`jD,`ai,`c'];rcases L8 hp with z|rfl
     ·rcases `d' z with z|z
      ·exact d00 (`Yk) `kf
      ·rw[`ee z];exact d00 b2 `kf
     ·refine Ta.he0 (d00 pw `kf) F `sr
      rcases L8 hu with z|rfl
      ·exact(`Yh).mono `kf
      ·exact `h (`h ⟨`em,rfl,H0 _⟩)
    refine⟨_,j4 rfl (pre (u5 (δ':=[.sh (wd (`oS)),`a6,`bk,.ow (`o (`JT)),`ej,`jL,`wi]) ?_ `cz)),hW⟩
    ·rw[U4 eb]
     refine u5 (Ta.tf0 (ds:=`qB) (j:=a) (v:=lnk `em) rfl rfl J (b8 (`v rfl (`v `_X rfl)) `c9)) (u5 (j6 (d:=wd (`oS)) ?_) rfl);rw[o4 (x:=`b') (y:=`m [`Qs]) rfl `_S];unfold wd;rw[`y? (by rw[`M];show _+1<=_;omega),`aW];rfl
    ·have:=e60 (ws:=`oS) O (by rw[`ai];show _+1<=_;omega) (n:=`em) (by rw[M];exact pw) (vs:=`JT) (by rw[M];exact F) `Dw (`ej) (`jL) (`wi) (by
      show atI ((`oS).map `dP) `bq=_;rw[`yf,`aA,`bI,`a_,`c3 O];rfl)
     rw[M] at this;exact `x
   | false =>
    obtain⟨c,ec,hc⟩:∃c:Nat,`aL0=`BS/\c<L.length:=⟨(`aL0).toNat,`aL1,`aL1⟩;have F:(`__).length=`nx:=n9;have hW:Web (`qC k (`jy `Cn (`__))):=by
     refine⟨by rw[`jD];omega,`lx⟩;rw[`jD];rcases L8 hp with z|rfl
     ·exact `Yk
     ·refine Ta.he0 pw F `sr
      rcases L8 hu with z|rfl
      ·exact `Yh
      ·exact `h (`h ⟨L[c],rfl,hL _ (C0 hc)⟩)
    refine⟨_,j4 rfl (pre (u5 (δ':=[`ap,`a6,`bk,.ow (`o (`__)),`ej,`jL,`wi]) ?_ `cz)),hW⟩
    ·rw[Z3 eb]
     refine u5 (Ta.tf0 (ds:=`qB) (j:=a) (v:=`aip) rfl rfl J (b8 (`v rfl (`v ?_ rfl)) `c9)) rfl;rw[o4 (x:=`Dv) (y:=`Oc) rfl (by
      rw[o4 (x:=`d (x/480)) (y:=`H9) (by rw[o4 (x:=`ek) (y:=`d 480) rfl rfl];exact `sx) (by
       rw[o7 (ds:=[`Dv]) rfl];show `a (`aQ ((`h! nI).length:Int))=_;rw[`M]),`oF,ec])]
     exact wb0 (by rw[`a_,`c3 hc];rfl)
    ·exact e60 hk `g pw F `Dw (`ej) (`jL) (`wi) e1
universe Wa
namespace Wa
open DL W K22
open Ta (pa Z6 J6)
open La (nI)
theorem zm0(ns:`au)(k:Int)(h0:`f_):`Xa:=`aDt
theorem qc0(c k:Int)(hk:`aBC):`aBD:=Gw.qc0 c k hk
theorem rt0(ns:`au)(hl:`X1):`aDy:=K22.sb0 ns hl
theorem sp0(h:`ad)(x:Int):`aEb:=Ta.sp0 h x
theorem Uu0(h:`Q)(x:Int)(mo:Nat)(hl:`Y1):∃qs P,`aGm/\`ad:=by
 obtain⟨qs,P,e,w,_⟩:=Ua.md0 h x mo hl;exact⟨qs,P,e,w⟩
noncomputable def CB:GS:=(u6 `aIC
 (u6 (ifD `aID
 (u6 `aIE
 p7)
 (u6 `aIF
 p7))
 p7))
abbrev cS(ns:`au)(ps:`Y)(t:Int)(m:Sl)(qs:`Y)(p:Sl)(a b:Sl):Ds:=[`sp,`as,`eh,m,`ap,p,a,b]
theorem Qz0(ns:`au)(ps:`Y)(t:Int)(m p b:Sl)(h:`ad)(j:Nat)(hj:j<=3):∃qs' b',CB `aL2=`a (.nx (cS ns ps t m qs' p `wj b'))/\Web qs':=by
 obtain⟨c,hc⟩:=zm0 ns 6 `s;obtain⟨x,_,_,hx⟩:=qc0 (c+`cy*`cy) (`cy+9) `g;have s1:m8 `uY `aht `aL2=`a (.nx `aL3):=j6 (by
  rw[o7 (ds:=[`d (c+`cy*`cy),`d (`cy+9)]) (`v (by
   rw[o4 (x:=`hZ) (y:=`d (`cy*`cy)) (by rw[o7 (ds:=[`fg,`d 6]) rfl];exact hc) (by
    rw[o4 (x:=`fZ) (y:=`fZ) rfl rfl];exact Gw.W60 _ _ `w!)]
   rfl) `ei)]
  exact hx)
 have tt:ob `ahu `aL3=`a `aL4:=`cK (by
  rw[o4 (x:=`d (t/24%3)) (y:=`c5) (by rw[o4 (x:=`d (t/24)) (y:=`ne) (by rw[o4 (x:=`nk) (y:=`d 24) rfl rfl];exact `sx) rfl];exact `JS) rfl];rfl)
 cases hb:`aL4 with
 | true =>
  obtain⟨rs,e,w,_⟩:=sp0 h x;refine`aL5;rw[U4 `aL6];exact `aL7
 | false =>
  obtain⟨rs,e,w⟩:=az0 h x;refine`aL5;rw[Z3 `aL6];exact `aL7
theorem Xm0(ns:`au)(ps:`Y)(t:Int)(m p:Sl):∀(J:`e) (qs:`Y) (a b:Sl),`ad->(∀j∈J,j<=3)->∃qs' a' b',Y4 `hW CB (J.map nI) (cS ns ps t m qs p a b)=`a (.nx (cS ns ps t m qs' p a' b'))/\Web qs'
 | [],qs,a,b,h,_=>⟨qs,a,b,rfl,h⟩
 | j::J,qs,a,b,h,hJ=>by
  obtain⟨q1,b1,e,w⟩:=Qz0 ns ps t m p b h j (hJ j B0);obtain⟨q2,a2,b2,e2,w2⟩:=Xm0 ns ps t m p J q1 `wj b1 w λi hi=>hJ i (A8 _ hi)
  refine⟨q2,a2,b2,?_,w2⟩;rw[`Z];exact(Z70 (f:=gN 6) rfl e).trans e2
theorem Ys0(ns:`au)(hl:`X1):`aL8:=by
 have zs:`kh:=`O
 obtain⟨ps,M,wp⟩:=rt0 ns hl;have Y:=wp.len;obtain⟨t,ht⟩:=zm0 ns 4 `s;obtain⟨c5,h5⟩:=zm0 ns 5 `s;obtain⟨x5,_,_,O⟩:=qc0 c5 21 `s;obtain⟨mo,F⟩:∃mo:Nat,`Pe=`aL9:=⟨(`aL9).toNat,by
  have:=D2 t (show (6:Int)≠0 by decide);split<;>omega⟩
 have J:`Y1:=by split at F<;>omega
 obtain⟨qs,P,er,wq⟩:=Uu0 wp x5 mo J;obtain⟨n,hn⟩:∃n:Nat,t/6%4=`b7:=⟨(t/6%4).toNat,by have:=D2 (t/6) (show (4:Int)≠0 by decide);omega⟩;have Z:n<4:=by have:=D7 (t/6) (show `h2<4 by decide);omega
 obtain⟨rs,a,b,el,wr⟩:=Xm0 ns ps t (`wk) (`Dx) (`eQ 0 n) qs .un .un wq λj hj=>by rw[`JQ] at hj;omega
 have s4:V3 `aIA (Q7 4 5) [`sp,`as,`eh,`wk,.un,.un,.un,.un]=`a (.nx (`aL')):=by
  unfold V3 V7;rw[o7 (ds:=[`br,`d x5,`vI]) (`v rfl (`v (by
   rw[o7 (ds:=[`d c5,`d 21]) (`v (by rw[o7 (ds:=[`fg,`d 5]) rfl];exact h5) rfl)];exact O) rfl)),er]
  rfl
 refine j4 rfl (u5 (j6 (d:=`br) ?_) (u5 `aDH (u5 (j6 (d:=`vI) ?_) (u5 s4 (u5 (δ':=`aL') ?_ (u5 (T8 (items:=`aDW nI) ?_ el) `cz))))))
 ·rw[o7 (ds:=`agc) rfl];exact M
 ·rw[o7 (ds:=[`fg,`BB]) rfl];exact ht
 ·change oA _ _ [`sp,`as,`eh,.un,.un,.un,.un,.un]=_
  rw[o7 (ds:=[`d (t%6),`d (`Qw)]) (`v (by rw[`aL!];exact `JS) (`v (by
   rw[o4 (x:=`jr) (y:=`CJ) rfl (`Qu ps _ rfl)];rfl) rfl)),F]
  rfl
 ·rw[Z3 (by
   unfold J3;rw[`cK (b:=`c) (by rw[`_Q];exact ij0 wp wq)];rfl)]
  rfl
 ·rw[yb0 (n:=`b7) (`v (by rw[o4 (x:=`d (t/6)) (y:=`BB) (by rw[`aL!];exact `sx) rfl,`JS,hn]) rfl) `g `g,Ta.i10]
  rfl
 ·rw[o7 (ds:=[`br,wd rs]) rfl];exact ij0 wp wr
universe Wa
namespace Wa
open L2 DL W
noncomputable def top(i:Nat):`fI:=PySem.Challenge.pw_graphpack_k19_where_webs_part.main.body.getD i (.Pass ⟨0,0,0,0⟩)
theorem b_all:`d8 `xF=`a (`dB `xF):=`aY
theorem b_bool:`d8 `rX=`a (`bl `rX):=`aY
theorem b_int:`d8 `ge=`a (`bl `ge):=`aY
theorem b_list:`awt:=`aY
theorem b_max:`d8 `w3=`a (`dB `w3):=`aY
theorem b_min:`d8 `ph=`a `EY:=`aY
theorem b_str:`d8 `iv=`a (`bl `iv):=`aY
theorem b_tuple:`d8 `ev=`a `wu:=`aY
structure Txt(mg:`bX):Prop where
 b_all:mg `xF=`b
 b_bool:mg `rX=`b
 b_enumerate:mg `hw=`b
 b_int:mg `ge=`b
 b_isinstance:mg `rY=`b
 b_len:mg `pk=`b
 b_list:mg `ew=`b
 b_max:mg `w3=`b
 b_min:mg `ph=`b
 b_range:mg `kp=`b
 b_reversed:mg `jk=`b
 b_str:mg `iv=`b
 b_tuple:mg `ev=`b
 b_zip:mg `hx=`b
theorem fsc{P:`u}(a:`amq)(b:`amr)(c:`ams)(d:N.take `j3=P)(e:`Ez/\(∀x∈P,`Rx)/\∀y∈`E1,`amt):`aH N P sc:=⟨a,b,c,e.1,d,e.2.1,e.2.2⟩
theorem cok(a:scope.kind=`ks)(b:`aoR)(c:(∀y∈`e',`aoO)/\(∀y∈`e',`aoP)/\(∀y∈`e',`aoQ)/\N'.Nodup/\∀k∈`cx `t_,`aoS):`xK:=⟨a,c.1,c.2.1,c.2.2.1,c.2.2.2.1,b,c.2.2.2.2⟩
section
variable{P:`ag}{w:`N}
theorem lx0:`aH u40 `fr (o6 `JU):=`aR
theorem lv0(F:Fun K `JV `JV `JU fa fd)(T:`aO)  : `af P w K mg `t CX0 1 fa fd `fr (spN K zn0) :=
 okN (k:=0) (G:=qr0) F lx0 (λcdv A outer s H E hr=>(v5 (Z9 (`gm (va0 `fF (wp0 `fF)))
   (v5 (zg0 `hi)
   p6)
   p6)
   (v5 (zg0 (sv0 (sc:=o6 `JU) (N:=u40) (N':=[`ll]) (n:=1) (caps:=[]) `fG `s `JW `aL? `iN `aMa))
   p6))) `l?
theorem Wp0:`aH bx0 `fr (o6 `_0):=`aR
theorem Vn0(F:Fun K `DB `DB `_0 fa fd)(T:`aO)(C_pair_names:FnN P w K mg `t `JV 1 `fr zn0):`af P w K mg `t CX0 2 fa fd `fr (spD K z00) :=
 okD (k:=1) (G:=b70) F Wp0 (λcdv A outer s H E hr=>(v5 (Z9 `fF
   (v5 (d7 (Z1 (w6 Z5 `Qx)))
   p6)
   p6)
   (v5 (Z9 `fF
   (v5 `aMb
   p6)
   p6)
   (v5 (Z9 `fF
   (v5 (d7 (Z1 (w6 Z5 `aMc)))
   p6)
   p6)
   (v5 (d7 (Z1 (w6 Z5 (w6 `jN `aMc))))
   p6))))) `bJ
theorem c10:`aH pt0 `fr (o6 `JX):=`aR
theorem ap0(F:Fun K `JY `JY `JX fa fd)(T:`aO)  : `af P w K mg `t CX0 1 fa fd `fr (spN K `kX) :=
 okN (k:=0) (G:=jm0) F c10 (λcdv A outer s H E hr=>(v5 (Z9 `fF
   (v5 (zg0 `hi)
   p6)
   p6)
   (v5 (Z9 `fF
   (v5 `aMd
   p6)
   p6)
   (v5 (zg0 (sv0 (sc:=o6 `JX) (N:=pt0) (N':=[`ll]) (n:=1) (caps:=[]) `fG `s `JW `aL? `iN `aMa))
   p6)))) `l?
theorem N5:`aH xq0 `_1 (o6 `_2):=`aR
theorem mk0(F:Fun K `JZ `JZ `_2 fa fd)(T:`aO)(C_are_links:`aMe)(C_are_parting:FnD P w K mg `t `J_ 3 `_3 O2)(C_head:`aMf)(C_linked_pair:`aMg)(C_values:FnN P w K mg `t `JY 1 `fr `kX)(C_way_to:`aMh):`af P w K mg `t CX0 4 fa fd `_1 (spD K Y5) :=
 okD (k:=3) (G:=sz0) F N5 (λcdv A outer s H E hr=>(v5 (Q3 3 (cn0 (Bn0 (D6 _ 64) `wl) `cM J2) `s_)
   (v5 (Z9 (j7 `km yu0 (Z8 `J0 hr `s `aMi) (Z8 `J0 hr `s (w6 (p8 `aV `jO) v9)))
   (v5 (zt0 (Z1 (w6 `aU `aMj)))
   p6)
   p6)
   (v5 (Q3 4 (K3 `ft) `s_)
   (v5 (j9 u9 (o5 5 `s_))
   (v5 (vb0 100000 C4 (j7 um0 ve0 `fs `aMk)
   (v5 (j9 (nh0 (p8 `dT `fs)) (o5 6 `s_))
   (v5 (U30 5 `s_ u9)
   (v5 (O8 C4 rfl (bq0 `aMl T.b_zip (w6 (G8 C_values hr `s (w6 (p8 `al `DV) v9)) (w6 (G8 C_values hr `s (w6 (p8 `aV `DV) v9)) v9))) (uc0 7 8 `s_ `s)
   (v5 (Z9 (S8 (Z8 C_are_parting hr `s (w6 `al (w6 `aV `DG))))
   (v5 (zt0 (Z1 (w6 `aU (w6 (Y8 (G8 `ais hr `s (w6 `aU `aMm)) (J0 `QN)) v9))))
   p6)
   p6)
   (v5 (Z9 (`gm (t50 (S8 (Z8 `aMn hr `s `DG)) (u60 (pb0 (aq0 `oT `_4 `aU)))))
   (v5 (K8 (z60 (Z1 (w6 `g_ `QN))) (ax0 3 `oT `_4))
   (v5 (M5 (xm0 4 `_4))
   p6))
   p6)
   p6)))
   p6))))
   (v5 (zt0 (Z1 (w6 `aU (w6 J2 v9))))
   p6))))))) `bJ
theorem us0:`aH i60 `Qz (o6 `_5):=`aR
theorem by0(F:Fun K `DD `DD `_5 fa fd)(T:`aO)  : `af P w K mg `t CX0 1 fa fd `Qz (spN K zv0) :=
 okN (k:=0) (G:=g40) F us0 (λcdv A outer s H E hr=>(v5 (Q3 2 `hi us0.nd)
   (v5 (j9 (nm0 `oT `al `aV) (o5 3 us0.nd))
   (v5 (vb0 100000 C4 `_6
   (v5 (M5 (xm0 2 `lo))
   (v5 (j9 (nm0 `oT `al `lo) (o5 3 us0.nd))
   p6)))
   (v5 (b00 (Ze0 `q4 `aMo `cM))
   p6))))) `l?
theorem hf0:`aH t30 `ln (o6 `_7):=`aR
theorem jg0(F:Fun K `DA `DA `_7 fa fd)(T:`aO)  : `af P w K mg `t CX0 1 fa fd `ln (spD K R4) :=
 okD (k:=0) (G:=pn0) F hf0 (λcdv A outer s H E hr=>(v5 (d7 (Rb0 `aMp (T50 `aMp)))
   p6)) `bJ
theorem nv0:`aH rc0 `ln (o6 `_8):=`aR
theorem mu0(F:Fun K `DC `DC `_8 fa fd)(T:`aO)  : `af P w K mg `t CX0 1 fa fd `ln (spD K X6) :=
 okD (k:=0) (G:=re0) F nv0 (λcdv A outer s H E hr=>(v5 (d7 (Z1 (w6 `aMq (w6 `aMq v9))))
   p6)) `bJ
theorem tw0:`aH rf0 `_3 (o6 `_9):=`aR
theorem mt0(F:Fun K `J_ `J_ `_9 fa fd)(T:`aO)(C_are_links:`aMe)(C_head:`aMf)(C_linked_pair:`aMg):`af P w K mg `t CX0 3 fa fd `_3 (spD K O2) :=
 okD (k:=2) (G:=rd0) F tw0 (λcdv A outer s H E hr=>(v5 (Z9 (S8 (Z8 `aMn hr `s `ft))
   (v5 (j9 (Z8 `aiq hr `s `ft) (o5 3 tw0.nd))
   (v5 (d7 (xi0 `km yu0 (Z8 `J0 hr `s (w6 (p8 `al `lo) v9)) (Z8 `J0 hr `s `aMr)))
   p6))
   p6)
   (v5 (d7 (xi0 `km yu0 `jO `jO))
   p6))) `bJ
theorem ro0:`aH h00 `_' (o6 `_!):=`aR
theorem c70(F:Fun K `J1 `J1 `_! fa fd)(T:`aO)(C_first_crossing:FnD P w K mg `t `J2 1 [`sm] c7)(C_paired_walk:FnD P w K mg `t `JZ 4 `_1 Y5)(C_way_to:`aMh):`af P w K mg `t CX0 5 fa fd `_' (spD K W3) :=
 okD (k:=4) (G:=h40) F ro0 (λcdv A outer s H E hr=>(v5 (j9 (Z8 C_paired_walk hr `s (w6 `al (w6 `aV (w6 (Z1 `za) v9)))) (o5 2 ro0.nd))
   (v5 (j9 (Z8 C_first_crossing hr `s (w6 (Q4 (eq0 rfl) Yd0 `q4 `Dz `aMs) v9)) (o5 3 ro0.nd))
   (v5 (Z9 `_6
   (v5 (d7 (Z1 (w6 Z5 (w6 `aMt (w6 `aMt v9)))))
   p6)
   p6)
   (v5 (Z9 (j7 tp0 u00 `jO J2)
   (v5 (d7 (Z1 (w6 Z5 `aMs)))
   p6)
   p6)
   (v5 `J3
   p6)))))) `bJ
theorem xd0:`aH ui0 [`sm] (o6 `_?):=`aR
theorem pf0(F:Fun K `J2 `J2 `_? fa fd)(T:`aO)  : `af P w K mg `t CX0 1 fa fd [`sm] (spD K c7) :=
 okD (k:=0) (G:=uf0) F xd0 (λcdv A outer s H E hr=>(v5 (O8 C4 rfl (X00 `aMl `lm) (uc0 1 2 xd0.nd `s)
   (v5 (O8 C4 rfl (xy0 (S6 `al O9 (R9 `aV))) (o5 3 xd0.nd)
   (v5 (Z9 (`gm (va0 `aMu (wp0 `aMu)))
   (v5 (d7 (Z1 (w6 `aU `ft)))
   p6)
   p6)
   p6))
   p6))
   (v5 `J3
   p6))) `bJ
theorem n00:`aH tj0 `DR (o6 `aaa):=`aR
theorem ov0(F:Fun K `DQ `DQ `aaa fa fd)(T:`aO)  : `af P w K mg `t CX0 1 fa fd `DR (spD K Y0) :=
 okD (k:=0) (G:=ty0) F n00 (λcdv A outer s H E hr=>(v5 (Z9 (j7 um0 ve0 `aV `f9)
   (v5 (d7 (p8 `al `aV))
   p6)
   p6)
   (v5 (d7 u9)
   p6))) `bJ
theorem U9:`aH v20 `aab (`aac):=`aR
theorem g80(F:Fun K `J4 `J4 `QB fa fd)(T:`aO)  : `af P w K mg `t CX0 1 fa fd `aab (spN K xl0) :=
 okN (k:=0) (G:=pm0) F U9 (λcdv A outer s H E hr=>(v5 (j9 Z5 (o5 2 `jP))
   (v5 (j9 (Y8 u9 `zb) (o5 3 `jP))
   (v5 `aMv
   (v5 (Q3 4 `hi `jP)
   (v5 (O8 C4 rfl (Q9 `g1 `jS) `aMw
   (v5 (M5 (xm0 4 `zb))
   (v5 `aMv
   p6)))
   (v5 (j9 (yq0 (Wy0 Z5 (w6 (wy0 (sc:=`aac) (N:=v20) (N':=`aMx) (n:=1) (caps:=[2]) `fG `s (xy0 `dT) (λcl s H ex=>o5 0 (`aY:(`aMx:`u).Nodup)) `iN (λcl s H ex=>`QE)) v9))) (o5 6 `jP))
   (v5 (Z9 (j7 M3 R0 `aad u9)
   (v5 (zg0 (sv0 (sc:=`aac) (N:=v20) (N':=`aMy) (n:=1) (caps:=[6]) `fG `s (db0 `g1 `za) (λcl s H ex=>o5 0 (`aY:(`aMy:`u).Nodup)) `iN (λcl s H ex=>(S6 (Vw0 u9 `aV) O9 (R9 `al)))))
   p6)
   p6)
   (v5 (j9 (X4 `aV `aU) (o5 7 `jP))
   (v5 (Q3 8 `hi `jP)
   (v5 (O8 C4 rfl (Q9 `g1 `id) `aMw
   (v5 (j9 (p8 `cM (X4 (Y8 (yq0 (p8 `dT `nT)) (y90 u9 `fs)) u9)) (o5 9 `jP))
   (v5 (M5 (xm0 8 (Y8 (Y8 (S6 `g_ O9 (R9 `nT)) (v4 9)) (S6 `g_ (R9 (Y8 `nT u9)) O9))))
   p6)))
   (v5 (s20 8)
   p6)))))))))))) `l?
theorem gi0:`aH oy0 `DL (o6 `aae):=`aR
theorem gn0(F:Fun K `DK `DK `aae fa fd)(T:`aO)  : `af P w K mg `t CX0 1 fa fd `DL (spD K R6) :=
 okD (k:=0) (G:=og0) F gi0 (λcdv A outer s H E hr=>(v5 (d7 (X4 (y90 (Y8 `zb u9) (Y8 u9 (y90 u9 `aV))) u9))
   p6)) `bJ
theorem rb0:`aH qo0 `QD (o6 `aaf):=`aR
theorem lw0(F:Fun K `DJ `DJ `aaf fa fd)(T:`aO)  : `af P w K mg `t CX0 1 fa fd `QD (spD K M9) :=
 okD (k:=0) (G:=rl0) F rb0 (λcdv A outer s H E hr=>(v5 (j9 `zb (o5 2 rb0.nd))
   (v5 (Z9 `aMz
   (v5 (d7 (Z1 (w6 Z5 (w6 (X4 `wm `aV) v9))))
   p6)
   p6)
   (v5 (Z9 (j7 M3 R0 `cM u9)
   (v5 `J3
   p6)
   p6)
   (v5 (Z9 `aMz
   (v5 (d7 (j30 `zc u9))
   p6)
   p6)
   (v5 (d7 (y90 (X4 (bn0 `wm u9) (bn0 u9 u9)) (j30 u9 (y90 u9 `zc))))
   p6)))))) `bJ
theorem yz0:`aH rj0 `aag (o6 `aah):=`aR
theorem m10(F:Fun K `J5 `J5 `aah fa fd)(T:`aO)(C__law_value:`aMA):`af P w K mg `t CX0 2 fa fd `aag (spN K y60) :=
 okN (k:=1) (G:=sy0) F yz0 (λcdv A outer s H E hr=>(v5 (Q3 3 `hi yz0.nd)
   (v5 (O8 C4 rfl (Q9 `g1 `lp) (o5 4 yz0.nd)
   (v5 (j9 (X4 (y90 `al u9) u9) (o5 0 yz0.nd))
   (v5 (M5 (xm0 3 (Z8 `aMB hr `s (w6 `al `ft))))
   p6)))
   (v5 (s20 3)
   p6)))) `l?
theorem we0:`aH uv0 `aai (o6 `J6):=`aR
theorem js0(F:Fun K `J7 `J7 `J6 fa fd)(T:`aO)  : `af P w K mg `t CX0 1 fa fd `aai (spD K xh0) :=
 okD (k:=0) (G:=po0) F we0 (λcdv A outer s H E hr=>(v5 (j9 `zb (o5 3 we0.nd))
   (v5 (Z9 (j7 M3 R0 `aU u9)
   (v5 (d7 (Z1 (w6 Z5 (w6 (p8 (J0 (w6 Z5 (w6 Z5 (w6 Z5 (w6 (Y8 `jO Z5) v9))))) `zc) v9))))
   p6)
   p6)
   (v5 (Z9 `aMC
   (v5 `aMD
   p6)
   p6)
   (v5 (j9 (y90 `zc u9) (o5 4 we0.nd))
   (v5 (j9 (Q4 T3 ym0 `dR `dS (w6 (wy0 (sc:=o6 `J6) (N:=uv0) (N':=`aME) (n:=1) (caps:=[1,2,4]) `fG `s `aMF (λcl s H ex=>o5 0 (`aY:(`aME:`u).Nodup)) `iN (λcl s H ex=>(Z1 (w6 (p8 `cM (X4 (Y8 `aU `al) u9)) `aMG)))) v9)) (o5 5 we0.nd))
   (v5 (Z9 `aMC
   (v5 (d7 (Z1 (w6 Z5 `J8)))
   p6)
   p6)
   (v5 (d7 (Z1 (w6 Z5 (w6 (p8 `cM `zc) `J8))))
   p6)))))))) `bJ
theorem zf0:`aH oh0 `aaj (o6 `aak):=`aR
theorem gm0(F:Fun K `J9 `J9 `aak fa fd)(T:`aO)(C__law_mix:`aMH)(C__law_part:FnD P w K mg `t `J7 1 `aai xh0)(C__law_values:FnN P w K mg `t `J5 2 `aag y60):`af P w K mg `t CX0 3 fa fd `aaj (spD K wi0) :=
 okD (k:=2) (G:=ob0) F zf0 (λcdv A outer s H E hr=>(v5 (Q3 3 `hi `wn)
   (v5 (O8 C4 rfl (Q9 `g1 `lp) (o5 4 `wn)
   (v5 (j9 (Z8 `aal hr `s (w6 (Y8 (p8 `al (X4 `dT `f9)) (y90 `dT (V6 `dT `f9))) `DF)) (o5 5 `wn))
   (v5 (j9 (p8 (J0 (w6 u9 (w6 u9 (w6 u9 (w6 u9 (w6 u9 (w6 u9 `za))))))) (X4 `aam u9)) `aMI)
   (v5 (Z9 (j7 M3 R0 (X4 `aam u9) u9)
   (v5 (j9 (p8 (J0 `za) (Q4 ld0 bt0 `aan b_int (w6 (xi0 um0 ve0 (X4 `fs u9) u9) v9))) `aMI)
   p6)
   p6)
   (v5 (j9 (G8 C__law_values hr `s (w6 (Y8 `aam u9) (w6 `g_ `lp))) (o5 7 `wn))
   (v5 (M5 (xm0 3 (Z8 C__law_part hr `s (w6 `fs (w6 `nT `ft)))))
   p6))))))
   (v5 (zt0 (Q4 T3 ym0 `dR `dS `jS))
   p6)))) `bJ
theorem jw0:`aH uu0 `lq (o6 `J'):=`aR
theorem jp0(F:Fun K `DN `DN `J' fa fd)(T:`aO)  : `af P w K mg `t CX0 1 fa fd `lq (spN K j5) :=
 okN (k:=0) (G:=pl0) F jw0 (λcdv A outer s H E hr=>(v5 (Z9 `fF
   (v5 (zg0 `hi)
   p6)
   p6)
   (v5 (Z9 `fF
   (v5 `aMd
   p6)
   p6)
   (v5 (zg0 (sv0 (sc:=o6 `J') (N:=uu0) (N':=`QG) (n:=2) (caps:=[]) `fG `s `JW `aMJ `iN (λcl s H ex=>`aV)))
   p6)))) `l?
theorem kq0:`aH uw0 `lq (o6 `J!):=`aR
theorem kz0(F:Fun K `DU `DU `J! fa fd)(T:`aO)  : `af P w K mg `t CX0 1 fa fd `lq (spD K m5) :=
 okD (k:=0) (G:=pi0) F kq0 (λcdv A outer s H E hr=>(v5 (Z9 `fF
   (v5 `aMb
   p6)
   p6)
   (v5 (Z9 `fF
   (v5 `J?
   p6)
   p6)
   (v5 (d7 (Y8 `aMK (Z1 (w6 (Q4 T3 ym0 `dR `dS (w6 (wy0 (sc:=o6 `J!) (N:=uw0) (N':=`QG) (n:=2) (caps:=[]) `fG `s `JW `aMJ `iN `aao) v9)) v9))))
   p6)))) `bJ
theorem j70:`aH t40 `DP (o6 `Ka):=`aR
theorem kr0(F:Fun K `DO `DO `Ka fa fd)(T:`aO)  : `af P w K mg `t CX0 1 fa fd `DP (spD K V9) :=
 okD (k:=0) (G:=pj0) F j70 (λcdv A outer s H E hr=>(v5 (Z9 `fF
   (v5 `J?
   p6)
   p6)
   (v5 (Z9 `fF
   (v5 `aMD
   p6)
   p6)
   (v5 (d7 (Y8 `aMK (Z1 (w6 (Q4 T3 ym0 `dR `dS (w6 (wy0 (sc:=o6 `Ka) (N:=t40) (N':=`aML) (n:=1) (caps:=[0,1]) `fG `s `aMF (λcl s H ex=>o5 0 (`aY:(`aML:`u).Nodup)) `iN (λcl s H ex=>(Z1 (w6 (p8 (p8 (p8 `aV `Dy) `al) u9) (w6 (p8 `cM `al) v9))))) v9)) v9))))
   p6)))) `bJ
theorem v00:`aH n80 `QI (o6 `aap):=`aR
theorem ge0(F:Fun K `DS `DS `aap fa fd)(T:`aO)(C__law_vals:`zd)(C__law_with:`aaq):`af P w K mg `t CX0 2 fa fd `QI (spD K ze0) :=
 okD (k:=1) (G:=oz0) F v00 (λcdv A outer s H E hr=>(v5 (Q3 2 `hi v00.nd)
   (v5 (O8 C4 rfl (xy0 (G8 `wo hr `s `lm)) (o5 3 v00.nd)
   (v5 (Z9 `aMM
   (v5 (j9 (Z1 (w6 Z5 (w6 (Sr0 `air (nm0 `oT `aV `lo)) v9))) (o5 3 v00.nd))
   p6)
   p6)
   (v5 (M5 (xm0 2 `aU))
   p6)))
   (v5 (zt0 (Z8 `aiB hr `s (w6 `al `ft)))
   p6)))) `bJ
theorem zi0:`aH ud0 `aar (o6 `aas):=`aR
theorem pd0(F:Fun K `Kb `Kb `aas fa fd)(T:`aO)(C__law_cell_at:`aMN)(C__law_pool:FnN P w K mg `t `J4 1 `aab xl0)(C__law_web:FnD P w K mg `t `J9 3 `aaj wi0):`af P w K mg `t CX0 4 fa fd `aar (spD K G7) :=
 okD (k:=3) (G:=u70) F zi0 (λcdv A outer s H E hr=>(v5 (j9 (G8 C__law_pool hr `s (w6 `q8 `aMO)) (o5 2 zi0.nd))
   (v5 (j9 `q8 (o5 3 zi0.nd))
   (v5 (j9 (Y8 u9 (X4 `aU (p8 (J0 (w6 u9 (w6 u9 (w6 `aV `id)))) (X4 (V6 `aU u9) u9)))) (o5 4 zi0.nd))
   (v5 (d7 (Z8 C__law_web hr `s (w6 (Y8 (S6 `al `Kc `Kc) (J0 `aMO)) (w6 `dT `ft))))
   p6))))) `bJ
theorem yj0:`aH tr0 `s0 (o6 `aat):=`aR
theorem n90(F:Fun K `Kd `Kd `aat fa fd)(T:`aO)(C__law_vals:`zd)(C__law_value:`aMA)(C__law_with:`aaq):`af P w K mg `t CX0 2 fa fd `s0 (spD K G4) :=
 okD (k:=1) (G:=t60) F yj0 (λcdv A outer s H E hr=>(v5 (j9 (X4 `aV `f9) (o5 2 yj0.nd))
   (v5 (Q3 3 `aMP yj0.nd)
   (v5 (Z9 `aMQ
   (v5 `J?
   p6)
   p6)
   (v5 (j9 (X4 `DI `aMR) (o5 4 yj0.nd))
   (v5 (K8 (z60 (Z8 `aMB hr `s (w6 `aad `QJ))) `aau)
   (v5 `aMS
   p6))))))) `bJ
theorem y40:`aH q30 `s1 (o6 `aav):=`aR
theorem lr0(F:Fun K `Ke `Ke `aav fa fd)(T:`aO)(C__law_vals:`zd):`af P w K mg `t CX0 2 fa fd `s1 (spN K wa0) :=
 okN (k:=1) (G:=ql0) F y40 (λcdv A outer s H E hr=>(v5 (Q3 1 `hi `Kf)
   (v5 (Q3 2 (K3 `id) `Kf)
   (v5 (vb0 100000 C4 `aMT
   (v5 (K8 (Su0 2) (qa0 (o5 3 `Kf)))
   (v5 (Z9 (pb0 (j7 it0 (b90 `c) `aU `aV))
   (v5 (M5 (xm0 1 `aU))
   (v5 (O8 C4 rfl (Wq0 `aMo (w6 (G8 `wo hr `s (w6 (p8 `al `aU) v9)) v9)) (o5 4 `Kf)
   (v5 (Z9 `aMU
   (v5 (M5 (xm0 2 `Kg))
   p6)
   p6)
   p6))
   p6))
   p6)
   p6)))
   (v5 (s20 1)
   p6))))) `l?
theorem zj0:`aH xt0 `s1 (o6 `Kh):=`aR
theorem ph0(F:Fun K `Ki `Ki `Kh fa fd)(T:`aO)(C__law_led:`aMV)(C__law_order:FnN P w K mg `t `Ke 2 `s1 wa0):`af P w K mg `t CX0 3 fa fd `s1 (spD K V0) :=
 okD (k:=2) (G:=u90) F zj0 (λcdv A outer s H E hr=>(v5 (j9 (G8 C__law_order hr `s `lm) (o5 1 zj0.nd))
   (v5 (Q3 2 c80 zj0.nd)
   (v5 (O8 C4 rfl (xy0 `aV) (o5 3 zj0.nd)
   (v5 (K8 (z60 (yq0 (wv0 c60 Uk0 `f8 `asq `ft))) (V60 2 `oT `aU))
   p6))
   (v5 (zt0 (Q4 T3 ym0 `dR `dS (w6 (wy0 (sc:=o6 `Kh) (N:=xt0) (N':=`aMW) (n:=1) (caps:=[0,2]) `fG `s (xy0 `aV) (λcl s H ex=>o5 0 (`aY:(`aMW:`u).Nodup)) `iN (λcl s H ex=>(Z8 `aMX hr `s (w6 `QE `ft)))) v9)))
   p6))))) `bJ
theorem xa0:`aH ri0 `aaw (o6 `aax):=`aR
theorem mp0(F:Fun K `Kj `Kj `aax fa fd)(T:`aO)  : `af P w K mg `t CX0 1 fa fd `aaw (spN K xp0) :=
 okN (k:=0) (G:=r00) F xa0 (λcdv A outer s H E hr=>(v5 (Q3 2 (gp0 `q4 `g1 (w6 u9 `lp)) xa0.nd)
   (v5 (Q3 3 (K3 `id) xa0.nd)
   (v5 (vb0 100000 C4 `aMT
   (v5 (M5 (U80 3 (Zk0 2 (X4 `al `QH))))
   (v5 (j9 (Y8 `wm (y90 u9 `QH)) (o5 0 xa0.nd))
   p6)))
   (v5 (s20 3)
   p6))))) `l?
theorem M7:`aH vm0 `aay (o6 `aaz):=`aR
theorem q90(F:Fun K `Kk `Kk `aaz fa fd)(T:`aO)(C__law_led:`aMV)(C__law_places:FnN P w K mg `t `Kj 1 `aaw xp0):`af P w K mg `t CX0 3 fa fd `aay (spD K O1) :=
 okD (k:=2) (G:=vl0) F M7 (λcdv A outer s H E hr=>(v5 (j9 (G8 C__law_places hr `s (w6 `aV (w6 (Y8 `f9 `cM) v9))) (o5 3 M7.nd))
   (v5 (Q3 4 (Ym0 (J0 (w6 (Z1 (w6 Z5 (w6 Z5 v9))) v9)) (Y8 `f9 `cM)) M7.nd)
   (v5 (O8 C4 rfl `aMY (o5 5 M7.nd)
   (v5 (K8 (z60 (Z8 `aMX hr `s (w6 (p8 `al `fs) `jS))) (tv0 4 (p8 `aU `fs)))
   p6))
   (v5 (O8 C4 rfl (Q9 `g1 `ft) (o5 5 M7.nd)
   (v5 (K8 (z60 (Z1 (w6 Z5 (w6 (Z1 (w6 (Z1 (w6 Z5 (w6 (X4 (V6 `aV (Y8 `fs u9)) `aMk) v9))) (w6 J2 (w6 (Z1 (w6 Z5 `id)) v9)))) v9)))) (tv0 4 (p8 `aU (Y8 `f9 `fs))))
   p6))
   (v5 (zt0 (Z1 (w6 (Q4 T3 ym0 `dR `dS `DF) (w6 (S6 `aU O9 (R9 `f9)) v9))))
   p6)))))) `bJ
theorem T7:`aH K9 `s0 (o6 `Kl):=`aR
theorem qw0(F:Fun K `Km `Km `Kl fa fd)(T:`aO)(C__law_head:`aaA)(C__law_vals:`zd)(C__law_with:`aaq):`af P w K mg `t CX0 2 fa fd `s0 (spD K J1) :=
 okD (k:=1) (G:=vn0) F T7 (λcdv A outer s H E hr=>(v5 (j9 (X4 `aV `f9) (o5 2 `s2))
   (v5 (Q3 3 `aMP `s2)
   (v5 (j9 (X4 `DI (wv0 (a90 rfl) Ra0 T.b_max b_max (w6 u9 (w6 `aMR v9)))) (o5 4 `s2))
   (v5 (Z9 (`gm (va0 `aMQ (wp0 (w00 (S8 (z80 J9 `dS `g0 `dR `aMZ))))))
   (v5 `J?
   p6)
   p6)
   (v5 (j9 (p8 `al (p8 `aMZ u9)) (o5 5 `s2))
   (v5 (Z20 6 `s2 (sc:=o6 `Kl) (N:=K9) (N':=`aM_) (n:=1) (caps:=`CV) `fG `s `aMY (λcl s H ex=>o5 0 (`aY:(`aM_:`u).Nodup)) (λcl s H ex=>(ff0 (j7 `jR yd0 (Z8 `s3 hr `s `aMG) (Z8 `s3 hr `s `ft)))) `aao)
   (v5 (Z9 (`gm (t50 (j7 `jR yd0 `aad u9) (u60 (j7 um0 ve0 `f9 u9))))
   (v5 (K8 (z60 (Z1 (w6 Z5 `QJ))) `aau)
   (v5 (j9 (Y8 `al (Z1 `J8)) (o5 0 `s2))
   p6))
   (v5 (K8 (z60 (Z1 (w6 Z5 (w6 (p8 `g_ (X4 `DI (X8 `f8 `aMm))) v9)))) `aau)
   p6))
   (v5 `aMS
   p6))))))))) `bJ
theorem nq0:`aH rh0 `I7 (o6 `aaB):=`aR
theorem mr0(F:Fun K `Kn `Kn `aaB fa fd)(T:`aO)(C__law_head:`aaA):`af P w K mg `t CX0 2 fa fd `I7 (spD K xr0) :=
 okD (k:=1) (G:=rg0) F nq0 (λcdv A outer s H E hr=>(v5 (Z9 (`gm (t50 (S8 (z80 J9 `dS `g0 `dR `cM)) (u60 `aMM)))
   (v5 (d7 (xi0 `km yu0 (Z8 `s3 hr `s `aMi) (Z8 `s3 hr `s `aMr)))
   p6)
   p6)
   (v5 (d7 (xi0 `km yu0 `cM `aU))
   p6))) `bJ
theorem yh0:`aH td0 `ze (o6 `aaC):=`aR
theorem ox0(F:Fun K `zf `zf `aaC fa fd)(T:`aO)(C__law_unlike:FnD P w K mg `t `Kn 2 `I7 xr0):`af P w K mg `t CX0 3 fa fd `ze (spB K 2 W2) :=
 okB (k:=2) (G:=wn0) F yh0 (λcdv A outer s H E hr=>(J8 (ko0 (S8 (Z8 C__law_unlike hr `s (w6 `al (w6 `aV (w6 `dT `J8)))))
   (J8 (qz0 (z60 (Z1 (w6 Z5 `jS))))
   xx0)
   xx0)
   (J8 (ko0 (w00 `aMU)
   (J8 (qz0 (z60 J2))
   xx0)
   xx0)
   (J8 (h50 (K8 (fh0 `aaD `Kg (Z1 (w6 `aU (w6 `aaE v9)))) (qa0 (o5 6 yh0.nd))))
   (J8 (h50 (K8 (fh0 `aaD `aaE (Z1 (w6 `aU (w6 `Kg v9)))) (qa0 (o5 7 yh0.nd))))
   (J8 (ko0 (`gm (t50 (j7 `jR yd0 `DV `aaE) (u60 (j7 `jR yd0 `aaF `Kg))))
   (J8 (qz0 (z60 J2))
   xx0)
   xx0)
   (J8 (h50 (j9 (wv0 (dh0 rfl `wl) Z30 T.b_min b_min (w6 (Z1 (w6 (X8 `f8 `aM0) `aM0)) (w6 (Z1 (w6 (X8 `f8 (w6 `aaF v9)) (w6 `aaF v9))) v9))) (o5 8 yh0.nd)))
   (J8 (qz0 (z60 (Z1 (w6 Z5 (w6 (p8 `QA u9) `jS)))))
   xx0)))))))) (λb ds r b' h=>bc0 h)
theorem T4:`aH M6 `s4 (o6 `aaG):=`aR
theorem ls0(F:Fun K `Ko `Ko `aaG fa fd)(T:`aO)(C__law_head:`aaA)(C__law_told_at:FnB P w K mg `t `zf 3 `ze 2 W2)(C__law_vals:`zd):`af P w K mg `t CX0 4 fa fd `s4 (spD K z20) :=
 okD (k:=3) (G:=qp0) F T4 (λcdv A outer s H E hr=>(v5 (Z9 (j7 `km yu0 (Z8 `s3 hr `s `Qx) (Z8 `s3 hr `s (w6 (p8 `aV u9) v9)))
   (v5 (d7 (Z1 (w6 Z5 `aMj)))
   p6)
   p6)
   (v5 (h80 2 `jT `aM1 `aM1)
   (v5 (j9 (J0 (w6 (Z1 (w6 `DE `za)) v9)) `aM2)
   (v5 (vb0 100000 C4 (j7 dm0 kl0 `aiA u9)
   (v5 (Q3 4 `hi `jT)
   (v5 (O8 C4 rfl (xy0 `aU) (Zu0 5 6 7 `jT `s)
   (v5 (j9 (G8 `wo hr `s (w6 (p8 `al `g_) v9)) (o5 8 `jT))
   (v5 (j9 (G8 `wo hr `s (w6 (p8 `aV `nT) v9)) (o5 9 `jT))
   (v5 (O8 C4 rfl (Q9 `g1 (w6 (X8 `f8 `DG) v9)) (o5 10 `jT)
   (v5 (j9 (Y8 `fs (J0 (w6 `DW v9))) (o5 11 `jT))
   (v5 (K8 (Z60 2 C__law_told_at (λb ds q h=>Tp0 `s h) hr `s (jj0 `al (jj0 `aV (pab 2 (w6 `aaH (w6 `QM (w6 (p8 (v4 9) `DW) v9))))))) (qa0 (o5 12 `jT)))
   (v5 (Z9 (j7 tp0 u00 (v4 12) J2)
   (v5 (d7 (v4 12))
   p6)
   p6)
   (v5 (Z9 (`gm (t50 (S8 (z80 J9 `dS `g0 `dR `QM)) (u60 (j7 `jR yd0 (Qp0 (ka0 (Sd0 `oT `aaD `aM3) u9) fun δ d h=>Sg0 h) `aaH))))
   (v5 (M5 (xm0 4 (Z1 (w6 `aaH (w6 `aM3 (w6 (p8 (p8 (v4 9) `DW) u9) v9))))))
   p6)
   p6)
   p6)))))
   p6))))
   (v5 (X20 4 (j9 `dT `aM2))
   p6))))
   (v5 `J3
   p6)))))) `bJ
theorem mh0:`aH vi0 `l9 (o6 `Kp):=`aR
theorem ms0(F:Fun K `Kq `Kq `Kp fa fd)(T:`aO)  : `af P w K mg `t CX0 1 fa fd `l9 (spD K xo0) :=
 okD (k:=0) (G:=sx0) F mh0 (λcdv A outer s H E hr=>(v5 (Z9 (w00 (S8 (z80 Za0 `Dz `g0 `q4 `al)))
   (v5 `Kr
   p6)
   p6)
   (v5 (d7 (xi0 M3 R0 (X8 `f8 (w6 (wy0 (sc:=o6 `Kp) (N:=vi0) (N':=[`c8]) (n:=1) (caps:=[]) `fG `s (xy0 `al) (λcl s H ex=>o5 0 (`aY:([`c8]:`u).Nodup)) (λcl s H ex=>(ff0 (`gm (va0 (w00 (S8 (z80 Wo0 b_int `g0 `aan `al))) (wp0 (S8 (z80 ar0 b_bool `g0 T.b_bool `al))))))) `aao) v9)) u9))
   p6))) `bJ
theorem o90:`aH wo0 `l9 (o6 `Ks):=`aR
theorem or0(F:Fun K `Kt `Kt `Ks fa fd)(T:`aO)(C__law_is_way:FnD P w K mg `t `Kq 1 `l9 xo0):`af P w K mg `t CX0 2 fa fd `l9 (spD K G3) :=
 okD (k:=1) (G:=tq0) F o90 (λcdv A outer s H E hr=>(v5 (Z9 (j7 bo0 fm0 `al J2)
   (v5 `Kr
   p6)
   p6)
   (v5 (Z9 (`gm (va0 (w00 (S8 (z80 J9 `dS `g0 `dR `al))) (va0 (w00 (S8 (z80 Vu0 b_str `g0 T.b_str `jN))) (wp0 (j7 Rm0 Se0 `f9 (Y8 u9 (Q4 ld0 bt0 `aan b_int (w6 (xi0 M3 R0 `jN Z5) v9))))))))
   (v5 `Kr
   p6)
   p6)
   (v5 (d7 (wv0 (Zf0 rfl) Ta0 T.b_all b_all (w6 (wy0 (sc:=o6 `Ks) (N:=wo0) (N':=[`q9]) (n:=1) (caps:=[]) `fG `s (vu0 (S6 `al `Kc O9)) `aM4 `iN (λcl s H ex=>(Z8 C__law_is_way hr `s `lm))) v9)))
   p6)))) `bJ
theorem vj0:`aH wd0 `s4 (o6 `Ku):=`aR
theorem lz0(F:Fun K `Kv `Kv `Ku fa fd)(T:`aO)(C__law_first:FnD P w K mg `t `Ko 4 `s4 z20)(C__law_from_root:FnD P w K mg `t `Ki 3 `s1 V0)(C__law_is_kind:FnD P w K mg `t `Kt 2 `l9 G3)(C_parted:FnD P w K mg `t `J1 5 `_' W3):`af P w K mg `t CX0 6 fa fd `s4 (spD K yr0) :=
 okD (k:=5) (G:=qe0) F vj0 (λcdv A outer s H E hr=>(v5 (j9 (Z8 C__law_first hr `s `aaI) (o5 2 vj0.nd))
   (Yc0 3 4 vj0.nd `s `aaJ hr `s `aaI
   (`gm (va0 (w00 (S8 (Z8 C__law_is_kind hr `s `jS))) (wp0 (j7 `km yu0 (xi0 bo0 fm0 `aU J2) (xi0 `jR yd0 (Z8 `aM5 hr `s `lm) (Z8 `aM5 hr `s `lp))))))
   (`gm (va0 (j7 `km yu0 `aU `cM) (wp0 (j7 `km yu0 (Z8 `aaJ hr `s (w6 `aV `lm)) `aU))))
   `_6
   (V70 (Zr0 (Zi0 `lo)) (dc0 T3 ym0 `dR `dS (Z50 (sc:=o6 `Ku) (N:=wd0) (N':=[`q9]) (n:=1) (caps:=[]) `fG `s (vu0 (S6 `aU `Kc O9)) `aM4 (λcl s H ex=>(o00 `q4 `Dz `al)))))
   `Dy u9 (xi0 `jR yd0 (Z8 `aaJ hr `s `aaI) `dT) ss0 ss0 ss0))) `bJ
theorem w80:`aH W10 [`kY] (o6 `wq):=`aR
theorem Uy0(F:Fun K `nX `nX `wq fa fd)(T:`aO)(C__law_asked:FnD P w K mg `t `Kv 6 `s4 yr0)(C__law_cell_at:`aMN)(C__law_changed:FnD P w K mg `t `Kd 2 `s0 G4)(C__law_drawn_web:FnD P w K mg `t `Kb 4 `aar G7)(C__law_mix:`aMH)(C__law_other_link:FnD P w K mg `t `Km 2 `s0 J1)(C__law_renumbered:FnD P w K mg `t `Kk 3 `aay O1):`af P w K mg `t CX0 7 fa fd [`kY] `aM6 :=
 okD (k:=6) (G:=Xs0) F w80 (λcdv A outer s H E hr=>(v5 (j9 (Z8 C__law_drawn_web hr `s (w6 `al `id)) (o5 1 `nV))
   (v5 (j9 `q8 (o5 2 `nV))
   (v5 (j9 (wv0 (ag0 rfl) T20 T.b_min b_min (w6 (X4 `cM u9) (w6 (j30 u9 `aiw) v9))) (o5 3 `nV))
   (v5 (K8 (z60 (Z8 C__law_renumbered hr `s (w6 `aV (w6 (Z8 `aal hr `s (w6 `q8 `id)) `jS)))) (qa0 (uc0 4 5 `nV `s)))
   (v5 (Z9 (w00 (S8 `aM7))
   (v5 `Kr
   p6)
   p6)
   (v5 (O8 C4 rfl (Q9 `g1 (w6 `aM8 v9)) (o5 6 `nV)
   (v5 (j9 (Z8 `aal hr `s (w6 (Y8 `q8 (y90 `g_ `g_)) (w6 (Y8 `g_ u9) v9))) (o5 7 `nV))
   (v5 (Z9 (j7 `jR yd0 `aM8 u9)
   (v5 (j9 (Z8 C__law_changed hr `s `aM9) `aM')
   p6)
   (v5 (j9 (Z8 C__law_other_link hr `s `aM9) `aM')
   p6))
   p6)))
   (v5 (d7 `aM7)
   p6)))))))) `bJ
universe zz
theorem us1:∀{us:`a5},`fv=1->∃a,us=[a]
 | [a],_=>⟨a,rfl⟩
theorem us2:∀{us:`a5},`fv=2->∃a b,us=`hy
 | `hy,_=>⟨a,b,rfl⟩
theorem us3:∀{us:`a5},`fv=3->∃a b c,us=`Wv
 | `Wv,_=>⟨a,b,c,rfl⟩
theorem us4:∀{us:`a5},`fv=4->∃a b c d,us=[a,b,c,d]
 | [a,b,c,d],_=>⟨a,b,c,d,rfl⟩
theorem us6:∀{us:`a5},`fv=6->∃a b c d e f,us=`aM!
 | `aM!,_=>⟨a,b,c,d,e,f,rfl⟩
noncomputable def Hd(K:`D)(x:Str)(st:`fI):Prop:=∃f fd,`aM?/\`aaK
theorem V4{f:`f}{osl:`g9}{kV:`A}(a:`aaK)(l:`E8=`a ⟨oc,od,`n8 `wp,osl⟩)(c:`Ln K cdv x=`c)(k:`Tv):Hd K x st:=⟨f,_,bg0 l c k,a⟩
section
variable(P9:`ag)(w9:`N)(b9:`R){h:`R}{f:`f}{ps:`u}{m:`J}(X9:`mk h)(G9:`FB)(F9:`aM?)(a9:`aaK)
include X9 G9 F9 a9
theorem cD1(o:`Kw)(hl:`am=1)(b:`aNa):`Kx:=`aNb
theorem cD2(o:`Kw)(hl:`am=2)(b:`aNc):`Kx:=`aNd
theorem cD3(o:`Kw)(hl:`am=3)(b:`aNe):`Kx:=`aNf
theorem cD4(o:`Kw)(hl:`am=4)(b:∀(kV doc pm:`A) (an:`cT) (cdv ct u v w y:`A),`nW `wp ⟨[u,v,w,y],[]⟩=`bg (`mG [u,v,w,y])):`Kx:=⟨f,fd,o,`DX,`DY,`DZ λ_ _ _ _ _ _ us h=>by obtain⟨u,v,w,y,rfl⟩:=us4 `D_;exact b _ _ _ _ _ _ _ _ _ _⟩
theorem cN1(o:`aaL)(hl:`am=1)(b:`aNa):`aaM:=`aNb
theorem cN2(o:`aaL)(hl:`am=2)(b:`aNc):`aaM:=`aNd
theorem cN3(o:`aaL)(hl:`am=3)(b:`aNe):`aaM:=`aNf
universe zz
theorem all_mk{l:`Tt}{w:`N}{h:`R}(X:`mk h)(G:`FB)(hfa:mg `nX=`z!)
  {f34:`f}
  {od34 an34:`cT} {sl34:`g9} {oc34 kV34 dc34 pm34 cd34 ct34:`A}
  (h0:Hd K `JV `JU)
  (h1:Hd K `DB `_0)
  (h2:Hd K `JY `JX)
  (h3:Hd K `JZ `_2)
  (h4:Hd K `DD `_5)
  (h5:Hd K `DA `_7)
  (h6:Hd K `DC `_8)
  (h7:Hd K `J_ `_9)
  (h8:Hd K `J1 `_!)
  (h9:Hd K `J2 `_?)
  (h10:Hd K `DQ `aaa)
  (h11:Hd K `J4 `QB)
  (h12:Hd K `DK `aae)
  (h13:Hd K `DJ `aaf)
  (h14:Hd K `J5 `aah)
  (h15:Hd K `J7 `J6)
  (h16:Hd K `J9 `aak)
  (h17:Hd K `DN `J')
  (h18:Hd K `DU `J!)
  (h19:Hd K `DO `Ka)
  (h20:Hd K `DS `aap)
  (h21:Hd K `Kb `aas)
  (h22:Hd K `Kd `aat)
  (h23:Hd K `Ke `aav)
  (h24:Hd K `Ki `Kh)
  (h25:Hd K `Kj `aax)
  (h26:Hd K `Kk `aaz)
  (h27:Hd K `Km `Kl)
  (h28:Hd K `Kn `aaB)
  (h29:Hd K `zf `aaC)
  (h30:Hd K `Ko `aaG)
  (h31:Hd K `Kq `Kp)
  (h32:Hd K `Kt `Ks)
  (h33:Hd K `Kv `Ku)
  (a34:`dp K `b4 `nX=`a (`a `aNg)) (l34:`pb f34=`a ⟨oc34,od34,`n8 (`aNh),sl34⟩) (c34:`Ln K cd34 `nX=`c) (k34:`tZ K `aNg=`c)
  (z_all:`dp K `b4 `xF=`dw)
  (z_bool:`dp K `b4 `rX=`dw)
  (z_enumerate:`dp K `b4 `hw=`dw)
  (z_int:`dp K `b4 `ge=`dw)
  (z_isinstance:`dp K `b4 `rY=`dw)
  (z_len:`dp K `b4 `pk=`dw)
  (z_list:`dp K `b4 `ew=`dw)
  (z_max:`dp K `b4 `w3=`dw)
  (z_min:`dp K `b4 `ph=`dw)
  (z_range:`dp K `b4 `kp=`dw)
  (z_reversed:`dp K `b4 `jk=`dw)
  (z_str:`dp K `b4 `iv=`dw)
  (z_tuple:`dp K `b4 `ev=`dw)
  (z_zip:`dp K `b4 `hx=`dw)
  : ∃fd:`f',(∀(s:`r) (v:`A),`Aa s fd ⟨[v],[]⟩ [(`kY,v)])/\∀base:`R,`Rv->`wD->`af `aI w K mg `t CX0 7 fa fd [`kY] `aM6:=by
 have e:=hfa.symm.trans (K2 X G a34);cases e;have T:`aO:=⟨D3 X G z_all,D3 X G z_bool,D3 X G z_enumerate,D3 X G z_int,D3 X G z_isinstance,D3 X G z_len,D3 X G z_list,D3 X G z_max,D3 X G z_min,D3 X G z_range,D3 X G z_reversed,D3 X G z_str,D3 X G z_tuple,D3 X G z_zip⟩;obtain⟨f0,g0,F0,a0⟩:=h0;obtain⟨f1,g1,F1,a1⟩:=h1;obtain⟨f2,g2,F2,a2⟩:=h2;obtain⟨f3,g3,F3,a3⟩:=h3;obtain⟨f4,g4,F4,a4⟩:=h4;obtain⟨f5,g5,F5,a5⟩:=h5;obtain⟨f6,g6,F6,a6⟩:=h6;obtain⟨f7,g7,F7,a7⟩:=h7;obtain⟨f8,g8,F8,a8⟩:=h8;obtain⟨f9,g9,F9,a9⟩:=h9;obtain⟨y2,g10,n3,v6⟩:=h10;obtain⟨z1,g11,s0,u1⟩:=h11;obtain⟨B2,H5,p3,s6⟩:=h12;obtain⟨H8,y8,o0,s9⟩:=h13;obtain⟨I9,z2,p1,v1⟩:=h14;obtain⟨P1,g15,m3,v3⟩:=h15;obtain⟨w5,z7,o1,t9⟩:=h16;obtain⟨L1,I2,m6,u0⟩:=h17;obtain⟨w7,x3,r3,u3⟩:=h18;obtain⟨z4,w8,s1,s2⟩:=h19;obtain⟨f20,I6,m0,w0⟩:=h20;obtain⟨z5,x4,m2,t5⟩:=h21;obtain⟨x7,z3,k3,s4⟩:=h22;obtain⟨H7,I3,p4,s5⟩:=h23;obtain⟨z6,I8,n7,v2⟩:=h24;obtain⟨I7,S1,r4,t6⟩:=h25;obtain⟨x5,H3,n4,w1⟩:=h26;obtain⟨H6,H4,r7,v8⟩:=h27;obtain⟨H9,z8,r8,s7⟩:=h28;obtain⟨t8,w2,k0,t0⟩:=h29;obtain⟨I1,y7,r6,s8⟩:=h30;obtain⟨y5,y1,m1,v0⟩:=h31;obtain⟨I5,w3,n2,t7⟩:=h32;obtain⟨I4,y9,q9,u2⟩:=h33;have s3:=bg0 (st:=top 38) l34 c34 k34;refine⟨`aNh,λs v=>.of_eq rfl,λbase _ _=>?_⟩;have e4:=cN1 `aI w `t X G F0 a0 (lv0 F0 T) rfl `a0;have j1:=cN1 `aI w `t X G F2 a2 (ap0 F2 T) rfl `a0;have e7:=cN2 `aI w `t X G F4 a4 (by0 F4 T) rfl `a0;have b2:=cD1 `aI w `t X G F5 a5 (jg0 F5 T) rfl `a0;have Y:=cD1 `aI w `t X G F6 a6 (mu0 F6 T) rfl `a0;have b4:=cD1 `aI w `t X G F9 a9 (pf0 F9 T) rfl `a0;have O:=cD2 `aI w `t X G n3 v6 (ov0 n3 T) rfl `a0;have e8:=cN2 `aI w `t X G s0 u1 (g80 s0 T) rfl `a0;have c0:=cD2 `aI w `t X G p3 s6 (gn0 p3 T) rfl `a0;have Z:=cD2 `aI w `t X G o0 s9 (lw0 o0 T) rfl `a0;have e9:=cD3 `aI w `t X G m3 v3 (js0 m3 T) rfl `a0;have F:=cN1 `aI w `t X G m6 u0 (jp0 m6 T) rfl `a0;have J:=cD1 `aI w `t X G r3 u3 (kz0 r3 T) rfl `a0;have M:=cD2 `aI w `t X G s1 s2 (kr0 s1 T) rfl `a0;have e1:=cN2 `aI w `t X G r4 t6 (mp0 r4 T) rfl `a0;have d2:=cD1 `aI w `t X G m1 v0 (ms0 m1 T) rfl `a0;have j0:=cD1 `aI w `t X G F1 a1 (Vn0 F1 T e4) rfl `a0;have d1:=cN3 `aI w `t X G p1 v1 (m10 p1 T Z) rfl `a0;have b6:=cD2 `aI w `t X G m0 w0 (ge0 m0 T F M) rfl `a0;have c1:=cD2 `aI w `t X G k3 s4 (n90 k3 T F Z M) rfl `a0;have e6:=cN1 `aI w `t X G p4 s5 (lr0 p4 T F) rfl `a0;have b0:=cD2 `aI w `t X G r7 v8 (qw0 r7 T J F M) rfl `a0;have c4:=cD4 `aI w `t X G r8 s7 (mr0 r8 T J) rfl `a0;have c3:=cD1 `aI w `t X G n2 t7 (or0 n2 T d2) rfl `a0;have c5:=cD3 `aI w `t X G F7 a7 (mt0 F7 T b2 j0 Y) rfl `a0;have i0:=cD3 `aI w `t X G o1 t9 (gm0 o1 T c0 e9 d1) rfl `a0;have b3:=cD1 `aI w `t X G n7 v2 (ph0 n7 T b6 e6) rfl `a0;have b1:=cD3 `aI w `t X G n4 w1 (q90 n4 T b6 e1) rfl `a0;have c2:FnB `aI w K mg `t `zf 3 `ze 2 W2:=⟨t8,_,ox0 k0 T c4,K2 X G t0,k0.kp,k0.binds (ps:=`ze) λ_ _ _ _ _ _ us hl=>by obtain⟨_,_,_,_,_,_,rfl⟩:=us6 hl;rfl⟩;have e2:=cD3 `aI w `t X G F3 a3 (mk0 F3 T b2 c5 j0 Y j1 e7) rfl `a0;have b5:=cD2 `aI w `t X G m2 t5 (pd0 m2 T O e8 i0) rfl `a0;have e3:=cD2 `aI w `t X G r6 s8 (ls0 r6 T J c2 F) rfl `a0;have j2:=cD2 `aI w `t X G F8 a8 (c70 F8 T b4 e2 e7) rfl `a0;have e5:=cD2 `aI w `t X G q9 u2 (lz0 q9 T e3 b3 c3 j2) rfl `a0;exact Uy0 s3 T e5 O c1 b5 c0 b0 b1
theorem wr0:∀ns:`au,Rps K H B `HB `pt
 | []=>`ay1
 | n::ns=>by
  rw[`Z,`Z,o9];exact⟨_,_,rfl,`uf,wr0 ns⟩
theorem ca0{ns:`au}(hK:`WG)(hS:`Tr)(hm:`aL8):spD K p00 `i6 H `Fz `jZ:=by
 refine⟨`azh,[`fg],`i7,λ_ z=>`gI,?_,hm,λv H' _ r=>`ac3⟩;rw[o9];refine⟨_,[],rfl,?_,`jg⟩;rw[X7];exact⟨a,`Lt,rfl,script_at hK hS,wr0 ns⟩
universe Wa
open PySem.W PyProof.Rows
namespace PySem.W.Fast
def tw10290086224534849210:=0
def tw3868018549012868767:=0
def tw1327517588334351007:=0
def tw5078423571832820969:=0
def tw8873839165963807237:=0
def tw11169429500196506124:=0
def tw13375082047906063229:=0
def tw15583906880759354228:=0
def tw85811338271653283:=0
def tw7145216023025406075:=0
def tw10326967902187976032:=0
def tw14197172952458095908:=0
def tw10221405765009172870:=0
def tw4274788190775950142:=0
def tw824291198388388490:=0
def tw3323523534405542919:=0
def tw16849206165429368612:=0
def tw16793741807252664237:=0
def tw2530963228163239064:=0
def tw7753922957540056647:=0
def tw5868288921686087126:=0
def tw2752684929024561385:=0
def tw7647797380043715576:=0
def tw6497142245596465302:=0
def tw7321187947798589846:=0
def tw9791201028274673173:=0
def tw10007326530301456942:=0
def tw9985950114981847764:=0
def tw16651017732028616384:=0
def tw7912280457111497904:=0
def tw128683657277122038:=0
def tw4003879156819661900:=0
def tw17334922133936280780:=0
def tw14932114963460353342:=0
def tw7399049955415196592:=0
def tw10424489100007150018:=0
def tw4877224132556079565:=0
def tw10095331903769180657:=0
def tw13371329994339743087:=0
def tw9831855785414604051:=0
def tw7197161020953124754:=0
def tw14178271257642113405:=0
def tw3626575442287320410:=0
def tw10889238273605448996:=0
def tw4307665451101734150:=0
def tw8245752513893624381:=0
def tw4602994619631842001:=0
def tw394220076421437318:=0
def tw13263283597718995535:=0
def tw16904424581067282494:=0
def tw10512537712007433624:=0
def tw17655355474132022565:=0
def tw13422946362613384671:=0
def tw17623272398265693683:=0
def tw14134396785494726063:=0
def tw11886540058857212409:=0
def tw6842388040367286281:=0
def tw8303957457343153977:=0
def tw17382889576953777823:=0
def tw12171688795864069627:=0
def tw12647316446957074134:=0
def tw6803343431446686547:=0
def tw7221435382888069563:=0
def tw17798339371120852957:=0
def tw13725228410029759058:=0
def tw4646445245075064543:=0
def tw7553814964075849603:=0
def tw17727326467819903325:=0
def tw17739352769447813102:=0
def tw4951972053332858601:=0
def tw15055807323867129954:=0
def tw5851679136095510818:=0
def tw12839961602347088699:=0
def tw13323469492993113182:=0
def tw18334626134691381792:=0
def tw14177582485644130446:=0
def tw2137170351353934297:=0
def tw1547305866758877199:=0
def tw12535849837004169380:=0
def tw15911822093823154621:=0
def tw1897818676991085807:=0
def tw15678052213136013390:=0
def tw4890231726633767559:=0
def tw12854992874123840474:=0
def tw8897463168411432422:=0
def tw10052757826760833577:=0
def tw6472819614863260426:=0
def tw13688341679668545600:=0
def tw5836970032064994435:=0
def tw6768106323994554966:=0
def tw3134069151563551026:=0
def tw10417521529565973493:=0
def tw8606622431191551086:=0
def tw1374524822606636108:=0
def tw2954539972306473141:=0
def tw18094666903767203536:=0
def tw11634137415765433994:=0
def tw7836573460903365540:=0
def tw7461276222058717905:=0
def tw11168569176854147652:=0
def tw1580733685366153827:=0
def tw1367810323622243959:=0
def tw1777181663756615748:=0
def tw11136583025057244879:=0
def tw8025550568755477959:=0
def tw14374883628525520934:=0
def tw4477423704373699900:=0
def tw1456756185509498360:=0
def tw11886580732931222265:=0
def tw5173039603255294876:=0
def tw18267864685958817367:=0
def tw13924464353374311047:=0
def tw3426855494838827852:=0
def tw6723398167868269493:=0
def tw11710837302267806499:=0
def tw7093317237898083805:=0
def tw10106298843079584687:=0
def tw11238466724052809833:=0
def tw13597595987166726831:=0
def tw16035717348651521449:=0
def tw6574144273443417484:=0
def tw5751112022656381942:=0
def tw12040929559175231343:=0
def tw16761702495501960985:=0
def tw12838214528043618932:=0
def tw16848016854497542113:=0
def tw4918642967028431610:=0
def tw5056115357713747523:=0
def tw18324831251115277450:=0
def tw11558151269804781239:=0
universe PySem.W.Fast
end
set_option maxRecDepth 100000 in
theorem PySem.Challenge.cw_graphpack_k19_where_webs_part_holds : PySem.Challenge.rw_graphpack_k19_where_webs_part.Holds := by
 w_on;o_law;k_head;(case hw=>w_witness2)
 k_fill
 refine DL.Yw0 (l:=PySem.Challenge.rw_graphpack_k19_where_webs_part) (n:=63) (k:=7) (x := "_law_script") (CX:=L2.CX0) (sp:=λK=>DL.spD K Wa.p00) rfl (by decide) rfl ⟨rfl,by decide,by decide⟩ (λw h Y=>W.kIn_of Y) ?F ?S ?C
 case F =>
  intro w mg fa h KX G hmg;refine' Wa.all_mk KX G hmg ?h0 ?h1 ?h2 ?h3 ?h4 ?h5 ?h6 ?h7 ?h8 ?h9 ?h10 ?h11 ?h12 ?h13 ?h14 ?h15 ?h16 ?h17 ?h18 ?h19 ?h20 ?h21 ?h22 ?h23 ?h24 ?h25 ?h26 ?h27 ?h28 ?h29 ?h30 ?h31 ?h32 ?h33 ?a34 ?l34 ?c34 ?k34 ?z_all ?z_bool ?z_enumerate ?z_int ?z_isinstance ?z_len ?z_list ?z_max ?z_min ?z_range ?z_reversed ?z_str ?z_tuple ?z_zip
  (case h0=>exact Wa.V4 (by k_is) (by k_is) (by k_is) (by k_is))
  (case h1=>exact Wa.V4 (by k_is) (by k_is) (by k_is) (by k_is))
  (case h2=>exact Wa.V4 (by k_is) (by k_is) (by k_is) (by k_is))
  (case h3=>exact Wa.V4 (by k_is) (by k_is) (by k_is) (by k_is))
  (case h4=>exact Wa.V4 (by k_is) (by k_is) (by k_is) (by k_is))
  (case h5=>exact Wa.V4 (by k_is) (by k_is) (by k_is) (by k_is))
  (case h6=>exact Wa.V4 (by k_is) (by k_is) (by k_is) (by k_is))
  (case h7=>exact Wa.V4 (by k_is) (by k_is) (by k_is) (by k_is))
  (case h8=>exact Wa.V4 (by k_is) (by k_is) (by k_is) (by k_is))
  (case h9=>exact Wa.V4 (by k_is) (by k_is) (by k_is) (by k_is))
  (case h10=>exact Wa.V4 (by k_is) (by k_is) (by k_is) (by k_is))
  (case h11=>exact Wa.V4 (by k_is) (by k_is) (by k_is) (by k_is))
  (case h12=>exact Wa.V4 (by k_is) (by k_is) (by k_is) (by k_is))
  (case h13=>exact Wa.V4 (by k_is) (by k_is) (by k_is) (by k_is))
  (case h14=>exact Wa.V4 (by k_is) (by k_is) (by k_is) (by k_is))
  (case h15=>exact Wa.V4 (by k_is) (by k_is) (by k_is) (by k_is))
  (case h16=>exact Wa.V4 (by k_is) (by k_is) (by k_is) (by k_is))
  (case h17=>exact Wa.V4 (by k_is) (by k_is) (by k_is) (by k_is))
  (case h18=>exact Wa.V4 (by k_is) (by k_is) (by k_is) (by k_is))
  (case h19=>exact Wa.V4 (by k_is) (by k_is) (by k_is) (by k_is))
  (case h20=>exact Wa.V4 (by k_is) (by k_is) (by k_is) (by k_is))
  (case h21=>exact Wa.V4 (by k_is) (by k_is) (by k_is) (by k_is))
  (case h22=>exact Wa.V4 (by k_is) (by k_is) (by k_is) (by k_is))
  (case h23=>exact Wa.V4 (by k_is) (by k_is) (by k_is) (by k_is))
  (case h24=>exact Wa.V4 (by k_is) (by k_is) (by k_is) (by k_is))
  (case h25=>exact Wa.V4 (by k_is) (by k_is) (by k_is) (by k_is))
  (case h26=>exact Wa.V4 (by k_is) (by k_is) (by k_is) (by k_is))
  (case h27=>exact Wa.V4 (by k_is) (by k_is) (by k_is) (by k_is))
  (case h28=>exact Wa.V4 (by k_is) (by k_is) (by k_is) (by k_is))
  (case h29=>exact Wa.V4 (by k_is) (by k_is) (by k_is) (by k_is))
  (case h30=>exact Wa.V4 (by k_is) (by k_is) (by k_is) (by k_is))
  (case h31=>exact Wa.V4 (by k_is) (by k_is) (by k_is) (by k_is))
  (case h32=>exact Wa.V4 (by k_is) (by k_is) (by k_is) (by k_is))
  (case h33=>exact Wa.V4 (by k_is) (by k_is) (by k_is) (by k_is))
  (case a34=>k_is)
  (case l34=>k_is)
  (case c34=>k_is)
  (case k34=>k_is)
  (case z_all=>k_is)
  (case z_bool=>k_is)
  (case z_enumerate=>k_is)
  (case z_int=>k_is)
  (case z_isinstance=>k_is)
  (case z_len=>k_is)
  (case z_list=>k_is)
  (case z_max=>k_is)
  (case z_min=>k_is)
  (case z_range=>k_is)
  (case z_reversed=>k_is)
  (case z_str=>k_is)
  (case z_tuple=>k_is)
  (case z_zip=>k_is)
 case S=>exact λw H a ns hl hS=>Wa.ca0 (by kernel_rfl) hS (Wa.Ys0 ns hl)
 case C=>exact λ_ _ _ _ z=>z
#print axioms PySem.Challenge.cw_graphpack_k19_where_webs_part_holds
